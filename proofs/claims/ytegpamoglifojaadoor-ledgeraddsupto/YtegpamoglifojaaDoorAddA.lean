/-
  LAYER 12, LedgerAdds: lists of jobs in rows; what a cut of accounts does.
-/
import Derived.Test.YtegpamoglifojaaDoorLwA
import Derived.Test.YtegpamoglifojaaDoorRwb
namespace Go.Proofs.YtegpamoglifojaaDoor
open Go.RowKit Wd Ld Cg Lg

def jb8 (j : Jb) : List Value := [.int .i64 j.ac, .int .i64 j.nd, .int .i64 j.lm, .int .i64 j.sb, .int .i64 j.st, .int .i64 j.sr, .int .i64 j.en, .slice j.sa j.sl j.sc]
/-- Jobs, cell for cell. -/
def flatJ : List Jb → List Value
  | [] => []
  | j :: l => .int .i64 j.ac :: .int .i64 j.nd :: .int .i64 j.lm :: .int .i64 j.sb :: .int .i64 j.st :: .int .i64 j.sr :: .int .i64 j.en :: .slice j.sa j.sl j.sc :: flatJ l
theorem flatJ_len : ∀ l : List Jb, (flatJ l).length = l.length * 8
  | [] => rfl
  | j :: l => by simp only [flatJ, List.length_cons, flatJ_len l]; omega
theorem flatJ_app : ∀ a b : List Jb, flatJ a ++ flatJ b = flatJ (a ++ b)
  | [], b => rfl
  | j :: a, b => by simp only [flatJ, List.cons_append, flatJ_app a b]
theorem flatJ_one : ∀ (l : List Jb) (u : Value), u ∈ flatJ l → u.oneCell' = true
  | [], u, h => by cases h
  | j :: l, u, h => by
    simp only [flatJ, List.mem_cons] at h
    rcases h with rfl | rfl | rfl | rfl | rfl | rfl | rfl | rfl | h
    · rfl
    · rfl
    · rfl
    · rfl
    · rfl
    · rfl
    · rfl
    · rfl
    · exact flatJ_one l u h
theorem flatJ_at : ∀ (l : List Jb) (n : Nat) (j : Jb), l[n]? = some j → ∀ i, i < 8 → (flatJ l)[n * 8 + i]? = (jb8 j)[i]?
  | [], n, j, h, i, hi => by simp at h
  | b :: l, 0, j, h, i, hi => by
    simp at h
    subst h
    rw [Nat.zero_mul, Nat.zero_add]
    have hc : i = 0 ∨ i = 1 ∨ i = 2 ∨ i = 3 ∨ i = 4 ∨ i = 5 ∨ i = 6 ∨ i = 7 := by omega
    rcases hc with rfl | rfl | rfl | rfl | rfl | rfl | rfl | rfl <;> rfl
  | b :: l, n + 1, j, h, i, hi => by
    have := flatJ_at l n j (by simpa using h) i hi
    rw [show (n + 1) * 8 + i = n * 8 + i + 1 + 1 + 1 + 1 + 1 + 1 + 1 + 1 by omega]
    simp only [flatJ, List.getElem?_cons_succ, this]
theorem JobsAt.cells {W : World} {ao : Option Addr} {l : List Jb} (h : JobsAt W ao l) : ∀ ad, ao = some ad → ∀ j u, (flatJ l)[j]? = some u → W.cell? (ad.add j) = some u := by
  obtain ⟨g, o, h1, h2⟩ := h
  intro ad had j u hu
  have hj : j < l.length * 8 := by have := (List.getElem?_eq_some_iff.1 hu).1; rwa [flatJ_len] at this
  rw [h1 (by omega)] at had
  cases had
  rw [add_off]
  obtain ⟨x, hx⟩ : ∃ x, l[j / 8]? = some x := ⟨_, List.getElem?_eq_getElem (by omega)⟩
  have hf := flatJ_at l _ x hx (j % 8) (by omega)
  rw [show j / 8 * 8 + j % 8 = j by omega, hu] at hf
  obtain ⟨a0, a1, a2, a3, a4, a5, a6, a7⟩ := h2 _ x hx
  have e : o + j = o + j / 8 * 8 + j % 8 := by omega
  rw [e]
  have hc : j % 8 = 0 ∨ j % 8 = 1 ∨ j % 8 = 2 ∨ j % 8 = 3 ∨ j % 8 = 4 ∨ j % 8 = 5 ∨ j % 8 = 6 ∨ j % 8 = 7 := by omega
  rcases hc with r | r | r | r | r | r | r | r <;> rw [r] at hf ⊢ <;> simp only [jb8, List.getElem?_cons_zero, List.getElem?_cons_succ, Option.some.injEq] at hf <;> subst hf <;> assumption
theorem JobsAt.of_row {W : World} {B : Nat} {v : Value} {l : List Jb} (h : W.ownsRow B 57 8 v l.length (flatJ l)) : ∃ ao c, v = .slice ao l.length c ∧ JobsAt W ao l := by
  rcases h.2 with ⟨rfl, h0⟩ | ⟨g, cap, cur, rfl, r⟩
  · exact ⟨none, 0, by rw [h0], ⟨0, 0, fun h => by omega, fun k n hn => by have := (List.getElem?_eq_some_iff.1 hn).1; omega⟩⟩
  · refine ⟨_, cap, rfl, ⟨g, 0, fun _ => rfl, fun k j hj => ?_⟩⟩
    have hk := (List.getElem?_eq_some_iff.1 hj).1
    have hc : ∀ i, i < 8 → W.cell? ⟨g, k * 8 + i, none⟩ = (jb8 j)[i]? := fun i hi => by rw [h.cellAt _ (by omega)]; exact flatJ_at l k j hj i hi
    rw [Nat.zero_add]
    exact ⟨hc 0 (by omega), hc 1 (by omega), hc 2 (by omega), hc 3 (by omega), hc 4 (by omega), hc 5 (by omega), hc 6 (by omega), hc 7 (by omega)⟩
theorem Tryd.inf57 : (Tryd.prog.info? 57).map (fun i => (i.zero, i.size, i.bytes)) = some (some (.agg #[.int .i64 0, .int .i64 0, .int .i64 0, .int .i64 0, .int .i64 0, .int .i64 0, .int .i64 0, .slice none 0 0]), 8, 80) := by kernel_rfl
theorem Tryd.inf3 : (Tryd.prog.info? 3).map (fun i => (i.zero, i.size, i.bytes)) = some (some (.int .i64 0), 1, 8) := by kernel_rfl
/-- Numbers as cells. -/
def i64s (l : List Int) : List Value := l.map (Value.int .i64)
theorem IntsAt.of_row {W : World} {B : Nat} {v : Value} {l : List Int} (h : W.ownsRow B 3 1 v l.length (i64s l)) : ∃ ao c, v = .slice ao l.length c ∧ IntsAt W ao l := by
  rcases h.2 with ⟨rfl, h0⟩ | ⟨g, cap, cur, rfl, r⟩
  · exact ⟨none, 0, by rw [h0], ⟨0, 0, fun h => by omega, fun k n hn => by have := (List.getElem?_eq_some_iff.1 hn).1; omega⟩⟩
  · refine ⟨_, cap, rfl, ⟨g, 0, fun _ => rfl, fun k n hn => ?_⟩⟩
    have hk := (List.getElem?_eq_some_iff.1 hn).1
    rw [Nat.zero_add, h.cellAt k (by omega)]
    simp [i64s, hn]
theorem IntsAt.take {W : World} {ao : Option Addr} {l : List Int} (h : IntsAt W ao l) (K : Nat) : IntsAt W ao (l.take K) := by
  obtain ⟨g, o, h1, h2⟩ := h
  refine ⟨g, o, fun hl => h1 (by simp at hl; omega), fun k n hn => h2 k n ?_⟩
  rw [List.getElem?_take] at hn
  split at hn
  · exact hn
  · cases hn
/-- Those behind the cut that are not ahead of it. -/
def otherL (xs : List Int) (K j : Nat) : List Int := ((xs.drop K).take j).filter fun n => !decide (n ∈ xs.take K)
theorem other_succ {xs : List Int} {K j : Nat} {n : Int} (h : xs[K + j]? = some n) : otherL xs K (j + 1) = otherL xs K j ++ (if n ∈ xs.take K then [] else [n]) := by
  have hd : (xs.drop K)[j]? = some n := by rw [List.getElem?_drop]; exact h
  obtain ⟨hj, e⟩ := List.getElem?_eq_some_iff.1 hd
  unfold otherL
  rw [List.take_succ_eq_append_getElem hj, List.filter_append, e]
  by_cases hm : n ∈ xs.take K <;> simp [hm]
theorem other_len (xs : List Int) (K j : Nat) : (otherL xs K j).length ≤ j := by
  unfold otherL
  have := List.length_filter_le (fun n => !decide (n ∈ xs.take K)) ((xs.drop K).take j)
  have := List.length_take_le j (xs.drop K)
  omega
theorem other_all {xs : List Int} {K : Nat} (x : Int) : (x ∈ xs ↔ (x ∈ xs.take K ∨ x ∈ otherL xs K (xs.length - K))) ∧ (x ∈ xs.take K → ¬ x ∈ otherL xs K (xs.length - K)) := by
  have e : (xs.drop K).take (xs.length - K) = xs.drop K := List.take_of_length_le (by simp)
  unfold otherL
  rw [e]
  simp only [List.mem_filter, Bool.not_eq_true', decide_eq_false_iff_not]
  refine ⟨?_, fun h1 h2 => h2.2 h1⟩
  have hx : x ∈ xs ↔ x ∈ xs.take K ∨ x ∈ xs.drop K := by rw [← List.mem_append, List.take_append_drop]
  rw [hx]
  constructor
  · rintro (h | h)
    · exact .inl h
    · by_cases hm : x ∈ xs.take K
      · exact .inl hm
      · exact .inr ⟨h, hm⟩
  · rintro (h | h)
    · exact .inl h
    · exact .inr h.1
theorem raw_sum (xs : List Int) (now : Int) (a b : List Jb) : wrap64 (rawV xs now a + rawV xs now b) = rawV xs now (a ++ b) := by
  unfold rawV
  rw [wrap_add, raw_app]
theorem raw_cut (xs : List Int) (K : Nat) (now : Int) (js : List Jb) : wrap64 (rawV (xs.take K) now js + rawV (otherL xs K (xs.length - K)) now js) = rawV xs now js := by
  unfold rawV
  rw [wrap_add, ← raw_split now (fun x => (other_all (K := K) x).1) (fun x => (other_all (K := K) x).2)]
def runsV (acc : List Int) (js : List Jb) : Int := wrap64 (runsZ acc js)
theorem runs_zero (acc : List Int) (js : List Jb) : runsV acc (js.take 0) = 0 := by simp [runsV, runsZ, wrap64]
theorem runs_in {acc : List Int} {js : List Jb} {i : Nat} {j : Jb} (h : js[i]? = some j) (h2 : j.st = 2) (hm : j.ac ∈ acc) : wrap64 (runsV acc (js.take i) + j.nd) = runsV acc (js.take (i + 1)) := by
  unfold runsV
  rw [runs_take h, show runZ acc j = j.nd by unfold runZ; rw [if_pos ⟨h2, hm⟩]]
  exact wrap_of ((wrap_cgr _).add (Cgr.refl _))
theorem runs_out {acc : List Int} {js : List Jb} {i : Nat} {j : Jb} (h : js[i]? = some j) (hm : ¬ (j.st = 2 ∧ j.ac ∈ acc)) : runsV acc (js.take i) = runsV acc (js.take (i + 1)) := by
  unfold runsV
  rw [runs_take h, show runZ acc j = 0 by unfold runZ; rw [if_neg hm], Int.add_zero]
theorem raw_tick (xs : List Int) (now : Int) (js : List Jb) : wrap64 (rawV xs now js + runsV xs js) = rawV xs (wrap64 (now + 1)) js := by
  unfold rawV runsV
  rw [wrap_add]
  exact wrap_of (raw_next xs (wrap_cgr (now + 1)) js).symm
end Go.Proofs.YtegpamoglifojaaDoor
