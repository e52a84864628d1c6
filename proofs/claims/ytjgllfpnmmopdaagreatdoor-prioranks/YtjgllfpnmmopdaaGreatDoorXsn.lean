/-
  The layer's mathematics: sorting by halves, whatever is asked; by keys: sorted and stable, so that two ways of it answer the same list.
  Sorting: rows of pairs, rows of numbers, known whole; what is asked of a function that is before another.
  Rows of int: known whole; make, copy; copyOf.
  Merging rows of int: what stands between two rounds.
  Sorting rows of int by backfilllaw14.shown$1: merge, sort, Sort walked.
  Sorting rows of int by backfilllaw14.shown$1: sort, Sort walked.
  What is before what: the functions that are handed in.
-/
import Derived.Test.YtjgllfpnmmopdaaGreatDoorProg
import Derived.Test.YtjgllfpnmmopdaaGreatDoorRfX
import Derived.Laws.CopyOwn
import Derived.Laws.MakeOwn
import Derived.Deep.RegionHeld3
import Derived.Deep.QuietTactic
import Derived.WalkSmall
namespace Go.Proofs.YtjgllfpnmmopdaaGreatDoor

def mergeV {α : Type} (lt : α → α → Bool) : List α → List α → List α
  | [], ys => ys
  | x :: xs, [] => x :: xs
  | x :: xs, y :: ys => if lt y x = true then y :: mergeV lt (x :: xs) ys else x :: mergeV lt xs (y :: ys)
termination_by xs ys => xs.length + ys.length

theorem mergeV_nil {α : Type} (lt : α → α → Bool) (ys : List α) : mergeV lt [] ys = ys := by
  unfold mergeV; rfl
theorem mergeV_nil_right {α : Type} (lt : α → α → Bool) (xs : List α) : mergeV lt xs [] = xs := by
  cases xs <;> (unfold mergeV; rfl)
theorem mergeV_second {α : Type} (lt : α → α → Bool) (x y : α) (xs ys : List α) (h : lt y x = true) : mergeV lt (x :: xs) (y :: ys) = y :: mergeV lt (x :: xs) ys := by
  rw [mergeV, if_pos h]
theorem mergeV_first {α : Type} (lt : α → α → Bool) (x y : α) (xs ys : List α) (h : lt y x = false) : mergeV lt (x :: xs) (y :: ys) = x :: mergeV lt xs (y :: ys) := by
  rw [mergeV, if_neg (by simp [h])]
theorem mergeV_perm {α : Type} (lt : α → α → Bool) : ∀ xs ys : List α, (mergeV lt xs ys).Perm (xs ++ ys)
  | [], ys => by rw [mergeV_nil]; exact List.Perm.refl _
  | x :: xs, [] => by rw [mergeV_nil_right, List.append_nil]
  | x :: xs, y :: ys => by
    by_cases h : lt y x = true
    · rw [mergeV_second lt x y xs ys h]
      exact ((mergeV_perm lt (x :: xs) ys).cons y).trans List.perm_middle.symm
    · rw [mergeV_first lt x y xs ys (by simpa using h)]
      exact (mergeV_perm lt xs (y :: ys)).cons x
termination_by xs ys => xs.length + ys.length
theorem mergeV_length {α : Type} (lt : α → α → Bool) (xs ys : List α) : (mergeV lt xs ys).length = xs.length + ys.length := by
  rw [(mergeV_perm lt xs ys).length_eq, List.length_append]

def sortV {α : Type} (lt : α → α → Bool) (l : List α) : List α :=
  if l.length < 2 then l else mergeV lt (sortV lt (l.take (l.length / 2))) (sortV lt (l.drop (l.length / 2)))
termination_by l.length
decreasing_by
  · simp only [List.length_take]; omega
  · simp only [List.length_drop]; omega
theorem sortV_short {α : Type} (lt : α → α → Bool) {l : List α} (h : l.length < 2) : sortV lt l = l := by
  rw [sortV, if_pos h]
theorem sortV_long {α : Type} (lt : α → α → Bool) {l : List α} (h : ¬ l.length < 2) : sortV lt l = mergeV lt (sortV lt (l.take (l.length / 2))) (sortV lt (l.drop (l.length / 2))) := by
  rw [sortV, if_neg h]
theorem sortV_perm {α : Type} (lt : α → α → Bool) : ∀ (n : Nat) (l : List α), l.length ≤ n → (sortV lt l).Perm l
  | 0, l, h => by rw [sortV_short lt (by omega)]
  | n + 1, l, h => by
    by_cases h2 : l.length < 2
    · rw [sortV_short lt h2]
    · rw [sortV_long lt h2]
      have h3 := sortV_perm lt n (l.take (l.length / 2)) (by simp only [List.length_take]; omega)
      have h4 := sortV_perm lt n (l.drop (l.length / 2)) (by simp only [List.length_drop]; omega)
      have h5 := (mergeV_perm lt (sortV lt (l.take (l.length / 2))) (sortV lt (l.drop (l.length / 2)))).trans (h3.append h4)
      rwa [List.take_append_drop] at h5
theorem sort_perm {α : Type} (lt : α → α → Bool) (l : List α) : (sortV lt l).Perm l := sortV_perm lt l.length l (Nat.le_refl _)
theorem sort_length {α : Type} (lt : α → α → Bool) (l : List α) : (sortV lt l).length = l.length := (sort_perm lt l).length_eq

/-- One is ahead of another: a smaller key, or the same key and a smaller number. -/
def Ahd {α : Type} (key num : α → Int) (a b : α) : Prop := key a < key b ∨ (key a = key b ∧ num a < num b)
theorem mergeV_sorted {α : Type} (key num : α → Int) : ∀ xs ys : List α, xs.Pairwise (Ahd key num) → ys.Pairwise (Ahd key num) → (∀ x ∈ xs, ∀ y ∈ ys, num x < num y) →
    (mergeV (fun a b => decide (key a < key b)) xs ys).Pairwise (Ahd key num)
  | [], ys, _, h, _ => by rw [mergeV_nil]; exact h
  | x :: xs, [], h, _, _ => by rw [mergeV_nil_right]; exact h
  | x :: xs, y :: ys, hx, hy, hn => by
    have hx' := List.pairwise_cons.1 hx
    have hy' := List.pairwise_cons.1 hy
    by_cases h : key y < key x
    · rw [mergeV_second _ x y xs ys (by simpa using h)]
      refine List.pairwise_cons.2 ⟨fun z hz => ?_, mergeV_sorted key num (x :: xs) ys hx hy'.2 (fun a ha b hb => hn a ha b (List.mem_cons_of_mem _ hb))⟩
      rcases List.mem_append.1 ((mergeV_perm _ _ _).mem_iff.1 hz) with h1 | h1
      · rcases List.mem_cons.1 h1 with h2 | h2
        · subst h2; exact Or.inl h
        · rcases hx'.1 z h2 with h3 | h3
          · exact Or.inl (by omega)
          · exact Or.inl (by omega)
      · exact hy'.1 z h1
    · rw [mergeV_first _ x y xs ys (by simpa using h)]
      refine List.pairwise_cons.2 ⟨fun z hz => ?_, mergeV_sorted key num xs (y :: ys) hx'.2 hy (fun a ha b hb => hn a (List.mem_cons_of_mem _ ha) b hb)⟩
      rcases List.mem_append.1 ((mergeV_perm _ _ _).mem_iff.1 hz) with h1 | h1
      · exact hx'.1 z h1
      · have h4 := hn x (List.mem_cons_self ..) z h1
        have h5 : key y ≤ key z := by
          rcases List.mem_cons.1 h1 with h2 | h2
          · subst h2; omega
          · rcases hy'.1 z h2 with h3 | h3 <;> omega
        unfold Ahd
        omega
termination_by xs ys => xs.length + ys.length
theorem sortV_sorted {α : Type} (key num : α → Int) : ∀ (n : Nat) (l : List α), l.length ≤ n → l.Pairwise (fun a b => num a < num b) → (sortV (fun a b => decide (key a < key b)) l).Pairwise (Ahd key num)
  | 0, l, h, _ => by
    have h1 : l = [] := List.eq_nil_of_length_eq_zero (by omega)
    subst h1; rw [sortV_short _ (by simp)]; exact List.Pairwise.nil
  | n + 1, l, h, hp => by
    by_cases h2 : l.length < 2
    · rw [sortV_short _ h2]
      match l, h2 with
      | [], _ => exact List.Pairwise.nil
      | [x], _ => exact List.pairwise_singleton _ _
    · rw [sortV_long _ h2]
      have hs : (l.take (l.length / 2) ++ l.drop (l.length / 2)).Pairwise (fun a b => num a < num b) := by rw [List.take_append_drop]; exact hp
      have hs' := List.pairwise_append.1 hs
      refine mergeV_sorted key num _ _ (sortV_sorted key num n _ (by simp only [List.length_take]; omega) hs'.1) (sortV_sorted key num n _ (by simp only [List.length_drop]; omega) hs'.2.1) (fun x hx y hy => hs'.2.2 x ((sort_perm _ _).mem_iff.1 hx) y ((sort_perm _ _).mem_iff.1 hy))
theorem sort_sorted {α : Type} (key num : α → Int) {l : List α} (hp : l.Pairwise (fun a b => num a < num b)) : (sortV (fun a b => decide (key a < key b)) l).Pairwise (Ahd key num) := sortV_sorted key num l.length l (Nat.le_refl _) hp
/-- Sorted in this way, there is one list alone. -/
theorem one_sorted {α : Type} (key num : α → Int) : ∀ (l m : List α), l.Perm m → l.Pairwise (Ahd key num) → m.Pairwise (Ahd key num) → l = m
  | [], m, h, _, _ => (List.nil_perm.1 h).symm
  | x :: l, [], h, _, _ => absurd h.length_eq (by simp)
  | x :: l, y :: m, h, hl, hm => by
    have hl' := List.pairwise_cons.1 hl
    have hm' := List.pairwise_cons.1 hm
    have e : x = y := by
      rcases List.mem_cons.1 (h.mem_iff.1 (List.mem_cons_self ..)) with h1 | h1
      · exact h1
      · rcases List.mem_cons.1 (h.mem_iff.2 (List.mem_cons_self ..)) with h2 | h2
        · exact h2.symm
        · have h3 := hl'.1 y h2
          have h4 := hm'.1 x h1
          unfold Ahd at h3 h4
          omega
    subst e
    rw [one_sorted key num l m (List.Perm.cons_inv h) hl'.2 hm'.2]

/-- The reference's way: put in behind all that are not behind it. -/
theorem put_sorted {α : Type} (key num : α → Int) {l : List α} {r : α} {k : Nat} (hk : k ≤ l.length) (hl : l.Pairwise (Ahd key num)) (hn : ∀ x ∈ l, num x < num r)
    (h1 : ∀ x ∈ l.drop k, key r < key x) (h2 : ∀ h : 0 < k, key (l[k - 1]'(by omega)) ≤ key r) : (l.take k ++ r :: l.drop k).Pairwise (Ahd key num) := by
  have hs : (l.take k ++ l.drop k).Pairwise (Ahd key num) := by rw [List.take_append_drop]; exact hl
  have hs' := List.pairwise_append.1 hs
  have h3 : ∀ x ∈ l.take k, key x ≤ key r := by
    intro x hx
    obtain ⟨i, hi, e⟩ := List.mem_iff_getElem.1 hx
    have hi' : i < k := by simp only [List.length_take] at hi; omega
    have e1 : l[i]'(by omega) = x := by rw [← e, List.getElem_take]
    have h4 := h2 (by omega)
    by_cases h5 : i = k - 1
    · subst h5; rw [← e1]; exact h4
    · have h6 := (List.pairwise_iff_getElem.1 hl) i (k - 1) (by omega) (by omega) (by omega)
      rw [e1] at h6
      rcases h6 with h7 | h7 <;> omega
  refine List.pairwise_append.2 ⟨hs'.1, List.pairwise_cons.2 ⟨fun z hz => Or.inl (h1 z hz), hs'.2.1⟩, fun a ha b hb => ?_⟩
  have h7 := h3 a ha
  have h8 := hn a (List.mem_of_mem_take ha)
  rcases List.mem_cons.1 hb with h9 | h9
  · subst h9; unfold Ahd; omega
  · exact hs'.2.2 a ha b h9
theorem put_perm {α : Type} {l : List α} {r : α} {k : Nat} : (l.take k ++ r :: l.drop k).Perm (l ++ [r]) := by
  have h : (l.take k ++ r :: l.drop k).Perm (r :: (l.take k ++ l.drop k)) := List.perm_middle
  rw [List.take_append_drop] at h
  exact h.trans (List.perm_append_comm (l₁ := [r]) (l₂ := l))

end Go.Proofs.YtjgllfpnmmopdaaGreatDoor
namespace Go.Proofs.YtjgllfpnmmopdaaGreatDoor
open Go.RowKit Tr

structure Pr where
  a : Int
  b : Int
def prV (p : Pr) : Value := .agg #[.int .i64 p.a, .int .i64 p.b]
def flatP : List Pr → List Value
  | [] => []
  | p :: l => .int .i64 p.a :: .int .i64 p.b :: flatP l
theorem flatP_len : ∀ l : List Pr, (flatP l).length = l.length * 2
  | [] => rfl
  | p :: l => by simp only [flatP, List.length_cons, flatP_len l]; omega
theorem flatP_app : ∀ l m : List Pr, flatP (l ++ m) = flatP l ++ flatP m
  | [], m => rfl
  | p :: l, m => by simp only [List.cons_append, flatP, flatP_app l m]
theorem flatP_at : ∀ (l : List Pr) (k : Nat) (p : Pr), l[k]? = some p → (flatP l)[k * 2]? = some (.int .i64 p.a) ∧ (flatP l)[k * 2 + 1]? = some (.int .i64 p.b)
  | [], k, p, h => by simp at h
  | q :: l, 0, p, h => by simp at h; subst h; exact ⟨rfl, rfl⟩
  | q :: l, k + 1, p, h => by
    have h1 := flatP_at l k p (by simpa using h)
    rw [show (k + 1) * 2 = k * 2 + 1 + 1 by omega]
    simpa only [flatP, List.getElem?_cons_succ] using h1
theorem flatP_set : ∀ (l : List Pr) (k : Nat) (p : Pr), ((flatP l).set (k * 2) (.int .i64 p.a)).set (k * 2 + 1) (.int .i64 p.b) = flatP (l.set k p)
  | [], k, p => rfl
  | q :: l, 0, p => rfl
  | q :: l, k + 1, p => by
    have h1 := flatP_set l k p
    rw [show (k + 1) * 2 = k * 2 + 1 + 1 by omega]
    simp only [flatP, List.set_cons_succ, h1]
theorem flatP_one : ∀ (l : List Pr), ∀ v ∈ flatP l, v.oneCell' = true
  | [], v, h => by simp [flatP] at h
  | p :: l, v, h => by
    simp only [flatP, List.mem_cons] at h
    rcases h with h | h | h
    · subst h; rfl
    · subst h; rfl
    · exact flatP_one l v h
def zPr : Pr := ⟨0, 0⟩
theorem madeP_flat (n : Nat) : madeCells #[.int .i64 0, .int .i64 0] (n * 2) = (flatP (List.replicate n zPr)).toArray := by
  apply Array.ext
  · simp [madeCells, flatP_len]
  · intro j h1 h2
    have hj : j < n * 2 := by simpa [madeCells] using h1
    obtain ⟨e0, e1⟩ := flatP_at (List.replicate n zPr) (j / 2) zPr (by rw [List.getElem?_replicate, if_pos (by omega)])
    have key : (flatP (List.replicate n zPr))[j]? = some (.int .i64 0) := by
      rcases (by omega : j % 2 = 0 ∨ j % 2 = 1) with h | h
      · rw [show j = j / 2 * 2 by omega]; exact e0
      · rw [show j = j / 2 * 2 + 1 by omega]; exact e1
    have e := (List.getElem?_eq_some_iff.1 key).2
    simp only [madeCells, Array.getElem_map, Array.getElem_range, List.getElem_toArray]
    rcases (by omega : j % 2 = 0 ∨ j % 2 = 1) with h | h
    · rw [e]; simp [h]
    · rw [e]; simp [h]
def flatN : List Int → List Value
  | [] => []
  | p :: l => .int .i64 p :: flatN l
theorem flatN_len : ∀ l : List Int, (flatN l).length = l.length * 1
  | [] => rfl
  | p :: l => by simp only [flatN, List.length_cons, flatN_len l]; omega
theorem flatN_app : ∀ l m : List Int, flatN (l ++ m) = flatN l ++ flatN m
  | [], m => rfl
  | p :: l, m => by simp only [List.cons_append, flatN, flatN_app l m]
theorem flatN_at : ∀ (l : List Int) (k : Nat) (p : Int), l[k]? = some p → (flatN l)[k]? = some (.int .i64 p)
  | [], k, p, h => by simp at h
  | q :: l, 0, p, h => by simp at h; subst h; rfl
  | q :: l, k + 1, p, h => by
    have h1 := flatN_at l k p (by simpa using h)
    simpa only [flatN, List.getElem?_cons_succ] using h1
theorem flatN_set : ∀ (l : List Int) (k : Nat) (p : Int), (flatN l).set k (.int .i64 p) = flatN (l.set k p)
  | [], k, p => rfl
  | q :: l, 0, p => rfl
  | q :: l, k + 1, p => by
    have h1 := flatN_set l k p
    simp only [flatN, List.set_cons_succ, h1]
theorem flatN_one : ∀ (l : List Int), ∀ v ∈ flatN l, v.oneCell' = true
  | [], v, h => by simp [flatN] at h
  | p :: l, v, h => by
    simp only [flatN, List.mem_cons] at h
    rcases h with h | h
    · subst h; rfl
    · exact flatN_one l v h
theorem madeN_flat (n : Nat) : madeCells #[.int .i64 0] (n * 1) = (flatN (List.replicate n 0)).toArray := by
  apply Array.ext
  · simp [madeCells, flatN_len]
  · intro j h1 h2
    have hj : j < n := by simpa [madeCells] using h1
    have key := flatN_at (List.replicate n 0) j 0 (by rw [List.getElem?_replicate, if_pos (by omega)])
    have e := (List.getElem?_eq_some_iff.1 key).2
    simp only [madeCells, Array.getElem_map, Array.getElem_range, List.getElem_toArray]
    rw [e]; simp [Nat.mod_one]
section
variable {P : Program}
theorem copy_rowN (w : World) (dT sT ty elem : TypeId) (g o dLen dCap : Nat) (a : Addr) (sLen sCap size : Nat) (cur : Array Value) (t : TypeId) (cs : List Value)
    (hu : P.underlying dT = some (.slice elem)) (hs : (P.info? elem).map (·.size) = some size)
    (hg : w.heap[g]? = some (.cells cur t (0, 0))) (hn : cs.length = Nat.min sLen dLen * size)
    (hsrc : ∀ j v, cs[j]? = some v → w.cell? (a.add j) = some v) (hfit : o + cs.length ≤ cur.size) (h1 : ∀ v ∈ cs, v.oneCell' = true) :
    (Builtin.copy_ #[dT, sT] ty #[.slice (some ⟨g, o, none⟩) dLen dCap, .slice (some a) sLen sCap]).run P w =
      .ok (goInt (Nat.min sLen dLen : Nat)) (w.setRow g (cur.toList.take o ++ cs ++ cur.toList.drop (o + cs.length)).toArray) := by
  have hl := run_loadCells_list (P := P) w a cs hsrc
  have hst := run_storeCells_at P g o t cs 0 cur w hg (by simpa using hfit) h1
  cases hq : P.info? elem with
  | none => simp [hq] at hs
  | some i =>
    have hi : i.size = size := by simpa [hq] using hs
    simp [Builtin.copy_, run_underlying hu, Builtin.lenOf, Builtin.firstCells, sizeOf, typeInfo, hq, hi, ← hn, hl, hst]
theorem copy_noneN (w : World) (dT sT ty elem : TypeId) (d a : Option Addr) (dLen dCap sLen sCap size : Nat) (hu : P.underlying dT = some (.slice elem)) (hs : (P.info? elem).map (·.size) = some size) (hn : Nat.min sLen dLen = 0) :
    (Builtin.copy_ #[dT, sT] ty #[.slice d dLen dCap, .slice a sLen sCap]).run P w = .ok (goInt 0) w := by
  cases hq : P.info? elem with
  | none => simp [hq] at hs
  | some i =>
    have hl : ∀ (x : Addr), (loadCells x 0).run P w = .ok #[] w := fun x => by simpa using run_loadCells_list (P := P) w x [] (by simp)
    cases d <;> cases a <;> simp [Builtin.copy_, run_underlying hu, Builtin.lenOf, Builtin.firstCells, sizeOf, typeInfo, hq, hn, storeCells, hl]
end
theorem set_mid {α : Type} (P out G R : List α) (g v : α) : (P ++ (out ++ (g :: G ++ R))).set (P.length + out.length) v = P ++ (out ++ (v :: G ++ R)) := by
  rw [List.set_append_right _ _ (by omega), List.set_append_right _ _ (by omega), show P.length + out.length - P.length - out.length = 0 by omega]
  rfl
theorem wrap64_nat {h : Nat} (hh : h ≤ 140737488355328) : wrap64 (h : Int) = (h : Int) := by unfold wrap64; omega
section
variable {P : Program} (w : World)
theorem eqIn_nilFunc (d : Nat) (t : TypeId) (ps rs : Array TypeId) (v : Bool) (f : Fn) (x y : Array Value) (h : P.underlying t = some (.func ps rs v)) : (Op.equalIn (d + 1) t (.func f x y) .nilFunc).run P w = .ok false w := by
  simp [Op.equalIn, run_underlying h]
theorem neq_nilFunc (t : TypeId) (ps rs : Array TypeId) (v : Bool) (f : Fn) (x y : Array Value) (h : P.underlying t = some (.func ps rs v)) : (binOp .neq t (.func f x y) .nilFunc).run P w = .ok (.bool true) w := by
  have h1 : (Op.equal t (.func f x y) .nilFunc).run P w = .ok false w := eqIn_nilFunc w 9999 t ps rs v f x y h
  simp only [binOp]
  simp [h1]
end
/-- A function that tells what is before what: what it wants to stand (I), which blocks it may turn (D). -/
structure Clo {α : Type} (enc : α → Value) (k : Nat) (caps : List Value) (lt : α → α → Bool) (I : World → Prop) (D : Nat → Prop) : Prop where
  call : ∀ x p q, I x → Calls Tryz.prog k ([enc p, enc q] ++ caps).toArray x fun e x' => e = .returned (.bool (lt p q)) ∧ I x' ∧ Chg D x x'
  keep : ∀ x x' (K : Nat → Prop), I x → Chg K x x' → (∀ j, D j → ¬ K j) → I x'
  low : ∀ x, I x → ∀ j, D j → j < x.heap.size
end Go.Proofs.YtjgllfpnmmopdaaGreatDoor
namespace Go.Proofs.YtjgllfpnmmopdaaGreatDoor
open Go.RowKit Tr
/-- A block known whole. -/
def RwN (W : World) (b : Nat) (M : List Int) : Prop := W.heap[b]? = some (.cells (flatN M).toArray 3 (0, 0))
section
variable {W W' : World} {b : Nat} {M : List Int}
theorem RwN.lt (h : RwN W b M) : b < W.heap.size := (Array.getElem?_eq_some_iff.1 (show W.heap[b]? = _ from h)).1
theorem RwN.free (h : RwN W b M) (k : Nat) : W.frozen? ⟨b, k, none⟩ = false := frozen_at (show W.heap[b]? = _ from h)
theorem RwN.at (h : RwN W b M) {k : Nat} {p : Int} (ha : M[k]? = some p) : W.cell? ⟨b, k, none⟩ = some (.int .i64 p) := by
  have hb : W.heap[b]? = _ := h
  exact cells_at hb (by simpa using flatN_at M k p ha)
theorem RwN.chg {K : Nat → Prop} (c : Chg K W W') (h : RwN W b M) (hK : ¬ K b) : RwN W' b M := (c.block b h.lt hK).trans h
theorem RwN.below (c : Below W.heap.size W W') (h : RwN W b M) : RwN W' b M := (c.block b h.lt).trans h
theorem RwN.set (h : RwN W b M) (k : Nat) (p : Int) : RwN (W.setCell ⟨b, k, none⟩ (.int .i64 p)) b (M.set k p) := by
  have h1 := heap_setCell_same W b k _ 3 (.int .i64 p) h
  unfold RwN
  rw [h1]
  have e := flatN_set M k p
  simp [← e]
theorem RwN.src (h : RwN W b M) {A B C : List Int} (e : M = A ++ (B ++ C)) (o : Nat) (ho : o = A.length * 1) : ∀ j u, (flatN B)[j]? = some u → W.cell? ((⟨b, o, none⟩ : Addr).add j) = some u := by
  intro j u hj
  have hb : W.heap[b]? = _ := h
  rw [Addr.add_lit]
  refine cells_at hb ?_
  subst ho
  rw [e, flatN_app, flatN_app]
  have h1 := (List.getElem?_eq_some_iff.1 hj).1
  simp only [List.getElem?_toArray]
  rw [List.getElem?_append_right (by rw [flatN_len]; omega), List.getElem?_append_left (by rw [flatN_len]; omega), flatN_len, show A.length * 1 + j - A.length * 1 = j by omega]
  exact hj
end
theorem Tryz.soNa : (Tryz.prog.info? 3).map (fun i => (i.zero, i.size, i.bytes)) = some (some (.int .i64 0), 1, 8) := by kernel_rfl
theorem Tryz.soNb : (Tryz.prog.info? 3).map (·.size) = some 1 := by kernel_rfl
theorem make_N (w : World) {n : Nat} (hn : n * 8 ≤ 140737488355328) : ∃ w', (Instr.makeSlice 32 (.int .i64 (n : Int)) (.int .i64 (n : Int))).run Tryz.prog w = .ok (.slice (some ⟨w.heap.size, 0, none⟩) n n) w' ∧ RwN w' w.heap.size (List.replicate n 0) ∧ Below w.heap.size w w' ∧ w'.heap.size = w.heap.size + 1 := by
  obtain ⟨i0, hi0, hz0, hz1, hz2⟩ := info_parts Tryz.soNa
  have hmk := run_make (P := Tryz.prog) w 32 3 i0 _ Tryz.underlying32 hi0 hz0 .i64 .i64 (n : Int) (n : Int) (by omega) (Int.le_refl _) (by rw [hz2]; omega) (by omega)
  rw [show ((n : Int)).toNat = n by omega, hz1] at hmk
  refine ⟨_, hmk, ?_, (Below.refl _ _).alloc (Nat.le_refl _) _, by simp⟩
  unfold RwN
  rw [← madeN_flat n]
  exact heap_alloc_new w _
theorem copy_N {w : World} {g n c : Nat} {ao : Option Addr} {l : List Int} (hA : RwN w g (List.replicate n 0)) (hL : l.length = n) (hnil : ao = none → n = 0) (hsrc : ∀ ad, ao = some ad → ∀ j u, (flatN l)[j]? = some u → w.cell? (ad.add j) = some u) :
    ∃ w', (Builtin.copy_ #[32, 32] 3 #[.slice (some ⟨g, 0, none⟩) n n, .slice ao n c]).run Tryz.prog w = .ok (goInt (n : Nat)) w' ∧ RwN w' g l ∧ Below g w w' := by
  cases ao with
  | none =>
    have h0 := hnil rfl
    subst h0
    have hl : l = [] := List.eq_nil_of_length_eq_zero hL
    subst hl
    exact ⟨w, copy_noneN (P := Tryz.prog) w _ _ _ 3 _ _ _ _ _ _ 1 Tryz.underlying32 Tryz.soNb (Nat.min_self 0), hA, Below.refl _ _⟩
  | some ad =>
    have hf := flatN_len l
    have hm : Nat.min n n = n := Nat.min_self n
    have hrun := copy_rowN (P := Tryz.prog) w 32 32 3 3 g 0 n n ad n c 1 _ 3 (flatN l) Tryz.underlying32 Tryz.soNb hA (by rw [hm, hf, hL]) (hsrc ad rfl) (by simp [flatN_len, hL]) (flatN_one l)
    rw [hm] at hrun
    refine ⟨_, hrun, ?_, below_setRow (Below.refl _ _) (Nat.le_refl _) _⟩
    have := setRow_heap w g (flatN (List.replicate n 0)).toArray (flatN l).toArray 3 _ hA
    unfold RwN
    rw [← this]
    have e : (flatN (List.replicate n 0)).drop (flatN l).length = [] := by
      apply List.drop_eq_nil_of_le
      simp [flatN_len, hL]
    simp [e]
theorem copyOf_N {w : World} {n c : Nat} {ao : Option Addr} {l : List Int} (hn : n * 8 ≤ 140737488355328) (hL : l.length = n) (hnil : ao = none → n = 0) (hsrc : ∀ ad, ao = some ad → ∀ j u, (flatN l)[j]? = some u → w.cell? (ad.add j) = some u) :
    Calls Tryz.prog 33 #[.slice ao n c] w fun e w' => e = .returned (.slice (some ⟨w.heap.size, 0, none⟩) n n) ∧ RwN w' w.heap.size l ∧ Below w.heap.size w w' ∧ w.heap.size < w'.heap.size := by
  obtain ⟨w1, hmk, hA, hb, hz⟩ := make_N w hn
  obtain ⟨w2, hcp, hA2, hb2⟩ := copy_N (c := c) hA hL hnil (fun ad e j u hj => (Chg.of_below hb (fun _ => False)).cell (hsrc ad e j u hj) (fun h => h))
  have HE : Hid (RwN w2 w.heap.size l ∧ Below w.heap.size w w2 ∧ w.heap.size < w2.heap.size) := ⟨hA2, hb.trans hb2, hA2.lt⟩
  clear hA hA2 hb hb2 hz hsrc hnil hL hn
  go_enter Tryz.func33, Tryz.ntmps33
  go_wp2
  go_ret
  exact ⟨rfl, HE.out⟩
end Go.Proofs.YtjgllfpnmmopdaaGreatDoor
namespace Go.Proofs.YtjgllfpnmmopdaaGreatDoor
open Go.RowKit Tr
structure MgN (lt : Int → Int → Bool) (I : World → Prop) (D : Nat → Prop) (w : World) (b sb fb : Nat) (fv : Value) (P Q F S F2 S2 : List Int) (i : Nat) (x : World) : Prop where
  row : ∃ out G : List Int, out.length = i ∧ G.length = F2.length ∧ RwN x b (P ++ (out ++ (G ++ (S2 ++ Q)))) ∧ mergeV lt F S = out ++ mergeV lt F2 S2
  first : RwN x fb F
  tail : ∃ F1, F = F1 ++ F2
  box : x.cell? ⟨sb, 0, none⟩ = some fv
  inv : I x
  chg : Chg (fun j => j = b ∨ D j) w x
  db : ¬ D b
  df : ¬ D fb
  ds : ¬ D sb
  fb1 : fb ≠ b
  sb1 : sb ≠ b
  kp : ∀ x x' (K : Nat → Prop), I x → Chg K x x' → (∀ j, D j → ¬ K j) → I x'
section
variable {lt : Int → Int → Bool} {I : World → Prop} {D : Nat → Prop} {w x x' : World} {b sb fb i : Nat} {fv : Value} {P Q F S F2 S2 F3 S3 : List Int} {p q : Int}
theorem MgN.sum (h : MgN lt I D w b sb fb fv P Q F S F2 S2 i x) : i + F2.length + S2.length = F.length + S.length := by
  obtain ⟨out, G, h1, h2, h3, h4⟩ := h.row
  have e := congrArg List.length h4
  rw [List.length_append, mergeV_length, mergeV_length, h1] at e
  omega
theorem MgN.call (h : MgN lt I D w b sb fb fv P Q F S F2 S2 i x) (c : Chg D x x') (hi : I x') : MgN lt I D w b sb fb fv P Q F S F2 S2 i x' := by
  obtain ⟨out, G, h1, h2, h3, h4⟩ := h.row
  exact ⟨⟨out, G, h1, h2, h3.chg c h.db, h4⟩, h.first.chg c h.df, h.tail, c.cell h.box h.ds, hi, h.chg.trans c (fun _ _ e => .inr e), h.db, h.df, h.ds, h.fb1, h.sb1, h.kp⟩
theorem MgN.drew (h : MgN lt I D w b sb fb fv P Q F S F2 S2 i x) : MgN lt I D w b sb fb fv P Q F S F2 S2 i x.drew :=
  h.call (Chg.refl _ _).drew (h.kp x x.drew (fun _ => False) h.inv (Chg.refl _ _).drew (fun _ _ e => e))
theorem MgN.drewN (h : MgN lt I D w b sb fb fv P Q F S F2 S2 i x) (n : Nat) : MgN lt I D w b sb fb fv P Q F S F2 S2 i (x.drewN n) := by
  have hb : Below x.heap.size x (x.drewN n) := ⟨rfl, rfl, rfl, Nat.le_refl _, fun _ _ => rfl⟩
  exact h.call (Chg.of_below hb _) (h.kp x (x.drewN n) (fun _ => False) h.inv (Chg.of_below hb _) (fun _ _ e => e))
theorem MgN.rdF (h : MgN lt I D w b sb fb fv P Q F S (p :: F3) S2 i x) : x.cell? ⟨fb, F.length - (F3.length + 1), none⟩ = some (.int .i64 p) := by
  obtain ⟨F1, e⟩ := h.tail
  refine h.first.at ?_
  rw [e, List.getElem?_append_right (by simp)]
  simp
theorem MgN.rdS (h : MgN lt I D w b sb fb fv P Q F S F2 (q :: S3) i x) : x.cell? ⟨b, P.length + i + F2.length, none⟩ = some (.int .i64 q) := by
  obtain ⟨out, G, h1, h2, h3, h4⟩ := h.row
  refine h3.at ?_
  rw [← h1, ← h2, List.getElem?_append_right (by omega), List.getElem?_append_right (by omega), List.getElem?_append_right (by omega)]
  simp only [show P.length + out.length + G.length - P.length - out.length - G.length = 0 by omega]
  rfl
theorem MgN.free (h : MgN lt I D w b sb fb fv P Q F S F2 S2 i x) (k : Nat) : x.frozen? ⟨b, k, none⟩ = false := by
  obtain ⟨out, G, h1, h2, h3, h4⟩ := h.row
  exact h3.free k
/-- The cell that is written. -/
theorem MgN.rdG (h : MgN lt I D w b sb fb fv P Q F S (p :: F3) S2 i x) : ∃ g : Int, x.cell? ⟨b, P.length + i, none⟩ = some (.int .i64 g) := by
  obtain ⟨out, G, h1, h2, h3, h4⟩ := h.row
  cases G with
  | nil => simp at h2
  | cons g G =>
    refine ⟨g, h3.at ?_⟩
    rw [← h1, List.getElem?_append_right (by omega), List.getElem?_append_right (by omega)]
    simp only [show P.length + out.length - P.length - out.length = 0 by omega]
    rfl
theorem MgN.put (h : MgN lt I D w b sb fb fv P Q F S (p :: F3) S2 i x) (v : Int) : ∃ out G : List Int, out.length = i ∧ G.length = F3.length ∧ RwN (x.setCell ⟨b, P.length + i, none⟩ (.int .i64 v)) b (P ++ (out ++ (v :: G ++ (S2 ++ Q)))) ∧ mergeV lt F S = out ++ mergeV lt (p :: F3) S2 := by
  obtain ⟨out, G, h1, h2, h3, h4⟩ := h.row
  cases G with
  | nil => simp at h2
  | cons g G =>
    have h5 := h3.set (P.length + i) v
    rw [← h1, set_mid, h1] at h5
    exact ⟨out, G, h1, by simpa using h2, h5, h4⟩
theorem MgN.rest (h : MgN lt I D w b sb fb fv P Q F S F2 S2 i x) (k : Chg (fun j => j = b) x x') : RwN x' fb F ∧ x'.cell? ⟨sb, 0, none⟩ = some fv ∧ I x' ∧ Chg (fun j => j = b ∨ D j) w x' :=
  ⟨h.first.chg k h.fb1, k.cell h.box h.sb1, h.kp x x' (fun j => j = b) h.inv k (fun _ hj e => h.db (e ▸ hj)), h.chg.trans k (fun _ _ e => .inl e)⟩
theorem MgN.takeF (h : MgN lt I D w b sb fb fv P Q F S (p :: F3) S2 i x) (hl : S2 = [] ∨ ∃ q S3, S2 = q :: S3 ∧ lt q p = false) : MgN lt I D w b sb fb fv P Q F S F3 S2 (i + 1) (x.setCell ⟨b, P.length + i, none⟩ (.int .i64 p)) := by
  obtain ⟨out, G, h1, h2, h3, h4⟩ := h.put p
  obtain ⟨r1, r2, r3, r4⟩ := h.rest (x' := (x.setCell ⟨b, P.length + i, none⟩ (.int .i64 p))) ((Chg.refl (fun j => j = b) x).setCell ⟨b, _, none⟩ _ (.inl rfl))
  refine ⟨⟨out ++ [p], G, by simp [h1], h2, ?_, ?_⟩, r1, ?_, r2, r3, r4, h.db, h.df, h.ds, h.fb1, h.sb1, h.kp⟩
  · have e : P ++ (out ++ (p :: G ++ (S2 ++ Q))) = P ++ (out ++ [p] ++ (G ++ (S2 ++ Q))) := by simp
    rw [← e]; exact h3
  · rw [h4]
    rcases hl with e | ⟨q, S3, e, hq⟩
    · subst e; rw [mergeV_nil_right, mergeV_nil_right]; simp
    · subst e; rw [mergeV_first lt p q F3 S3 hq]; simp
  · obtain ⟨F1, e⟩ := h.tail
    exact ⟨F1 ++ [p], by rw [e]; simp⟩
theorem MgN.takeS (h : MgN lt I D w b sb fb fv P Q F S (p :: F3) (q :: S3) i x) (hq : lt q p = true) : MgN lt I D w b sb fb fv P Q F S (p :: F3) S3 (i + 1) (x.setCell ⟨b, P.length + i, none⟩ (.int .i64 q)) := by
  obtain ⟨out, G, h1, h2, h3, h4⟩ := h.put q
  obtain ⟨r1, r2, r3, r4⟩ := h.rest (x' := (x.setCell ⟨b, P.length + i, none⟩ (.int .i64 q))) ((Chg.refl (fun j => j = b) x).setCell ⟨b, _, none⟩ _ (.inl rfl))
  refine ⟨⟨out ++ [q], G ++ [q], by simp [h1], by simp [h2], ?_, ?_⟩, r1, h.tail, r2, r3, r4, h.db, h.df, h.ds, h.fb1, h.sb1, h.kp⟩
  · have e : P ++ (out ++ (q :: G ++ (q :: S3 ++ Q))) = P ++ (out ++ [q] ++ (G ++ [q] ++ (S3 ++ Q))) := by simp
    rw [← e]; exact h3
  · rw [h4, mergeV_second lt p q F3 S3 hq]; simp
theorem MgN.done (h : MgN lt I D w b sb fb fv P Q F S [] S2 i x) : RwN x b (P ++ (mergeV lt F S ++ Q)) := by
  obtain ⟨out, G, h1, h2, h3, h4⟩ := h.row
  have e : G = [] := List.eq_nil_of_length_eq_zero h2
  subst e
  rw [h4, mergeV_nil]
  simpa using h3
end
end Go.Proofs.YtjgllfpnmmopdaaGreatDoor
namespace Go.Proofs.YtjgllfpnmmopdaaGreatDoor
open Go.RowKit Tr
set_option maxHeartbeats 1000000 in
set_option maxRecDepth 20000 in
theorem merge_Na {lt : Int → Int → Bool} {I : World → Prop} {D : Nat → Prop} (C : Clo (Value.int .i64) 14 [] lt I D) {w : World} {b o2 n c h : Nat} {P Q F S : List Int}
    (hM : RwN w b (P ++ (F ++ (S ++ Q)))) (ho : o2 = P.length) (hF : F.length = h) (hn : h + S.length = n) (hs : 0 < S.length) (hc : n ≤ c) (hb : n * 8 ≤ 140737488355328) (hI : I w) (hDb : ¬ D b) :
    Calls Tryz.prog 66 #[.agg #[(.func (.func 14) #[] #[])], .slice (some ⟨b, o2, none⟩) n c, .int .i64 h] w fun e w' => e = .returned (.tuple #[]) ∧ RwN w' b (P ++ (mergeV lt F S ++ Q)) ∧ Chg (fun j => j = b ∨ D j) w w' ∧ I w' := by
  obtain ⟨w1, hw1⟩ : ∃ w1, w.alloc (.cells #[(.func (.func 14) #[] #[])] 70) = w1 := ⟨_, rfl⟩
  have hb1 : Below w.heap.size w w1 := by rw [← hw1]; exact (Below.refl _ _).alloc (Nat.le_refl _) _
  have zw1 : w1.heap.size = w.heap.size + 1 := by rw [← hw1]; simp
  have cb1 : w1.cell? ⟨w.heap.size, 0, none⟩ = some (.func (.func 14) #[] #[]) := by rw [← hw1]; exact cells_at (heap_alloc_new w _) rfl
  have hM1 := hM.below hb1
  have hcp := copyOf_N (w := w1.drew) (n := h) (c := c) (ao := some ⟨b, o2, none⟩) (l := F) (by omega) hF (fun e => by cases e) (fun ad e => by cases e; exact RwN.src (RwN.below ((Below.refl _ w1).drew) hM1) rfl o2 (by omega))
  have hbl := hM.lt
  have HI1 : Hid (I w1) := C.keep w w1 (fun _ => False) hI (Chg.of_below hb1 _) (fun _ _ e => e)
  have hh : h ≤ n := by omega
  have hhc : h ≤ c := by omega
  have HX : Hid (RwN w1 b (P ++ (F ++ (S ++ Q)))) := hM1
  have HO : Hid (o2 = P.length ∧ F.length = h ∧ h + S.length = n ∧ n ≤ c ∧ n * 8 ≤ 140737488355328) := ⟨ho, hF, hn, hc, hb⟩
  have HB1 : Hid (Below w.heap.size w w1 ∧ w1.heap.size = w.heap.size + 1) := ⟨hb1, zw1⟩
  have HC : Hid (Clo (Value.int .i64) 14 [] lt I D) := C
  have HLW : Hid (∀ j, D j → j < w.heap.size) := C.low w hI
  have hhn : (h : Int) ≤ n := by omega
  have hhc' : (h : Int) ≤ c := by omega
  have hcne : ¬ c = h := by omega
  clear ho hF hn hc hb hs hM hM1 C hI hb1 zw1
  go_enter Tryz.func66, Tryz.ntmps66
  go_upto_region 1 with fail
  go_region_with (go_at_call 33; refine hcp.mono ?_; rintro e w2 ⟨rfl, hF2, hb2, hz2⟩)
  have HMG : Hid (MgN lt I D w b w.heap.size w1.heap.size (.func (.func 14) #[] #[]) P Q F S F S 0 w2) := by
    have z1 := HB1.out.2
    have k2 : Chg (fun _ => False) w1 w2 := Chg.of_below (by have := hb2; exact ((Below.refl _ w1).drew).trans hb2) _
    have hi2 : I w2 := HC.out.keep w1 w2 _ HI1.out k2 (fun _ _ e => e)
    have lw := fun j (hj : D j) => HLW.out j hj
    exact ⟨⟨[], F, rfl, rfl, HX.out.chg k2 (fun e => e), rfl⟩, hF2, ⟨[], rfl⟩, k2.cell cb1 (fun e => e), hi2, (Chg.of_below HB1.out.1 _).trans (k2.mono (fun _ _ e => e.elim)) (fun _ _ e => e), hDb, (fun e => by have := lw _ e; omega), (fun e => by have := lw _ e; omega), (by omega), (by omega), HC.out.keep⟩
  go_wp2
  have hcall : Hid (∀ x p q, I x → Calls Tryz.prog 14 #[.int .i64 p, .int .i64 q] x fun e x' => e = .returned (.bool (lt p q)) ∧ I x' ∧ Chg D x x') := fun x p q h => HC.out.call x p q h
  clear hcp HX hF2 hb2 hz2 cb1 hhn hhc' hcne hh hhc HB1 HI1 HLW HC hw1
  generalize w.heap.size = sb at *
  generalize w1.heap.size = fb at *
  clear w1
  go_loopg [6, 7, 8] (F.length + S.length) (fun gk v6 v7 v8 wr => ∃ (F2 S2 : List Int) (a6 a7 : Addr) (c7 i : Nat), F2.length + S2.length = gk ∧ v6 = .slice (some a6) F2.length F2.length ∧ v7 = .slice (some a7) S2.length c7 ∧ v8 = .int .i64 i ∧ S2.length ≤ c7 ∧ (0 < F2.length → a6 = ⟨fb, F.length - F2.length, none⟩) ∧ (0 < S2.length → a7 = ⟨b, P.length + i + F2.length, none⟩) ∧ MgN lt I D w b sb fb (.func (.func 14) #[] #[]) P Q F S F2 S2 i wr)
  case atStart =>
    obtain ⟨e1, e2, e3, e4, e5⟩ := HO.out
    refine ⟨F, S, ⟨fb, 0, none⟩, ⟨b, o2 + h, none⟩, c - h, 0, rfl, by rw [e2], by rw [show n - h = S.length by omega], rfl, by omega, (fun _ => by simp), (fun _ => ?_), HMG.out⟩
    rw [e1, ← e2, Nat.add_zero]
  case round =>
    obtain ⟨F2, S2, a6, a7, c7, i, hgk, rfl, rfl, rfl, hc7, ha6, ha7, hmg⟩ := hrel
    have HM : Hid (MgN lt I D w b sb fb (.func (.func 14) #[] #[]) P Q F S F2 S2 i wr) := hmg
    clear hmg HMG
    cases F2 with
    | nil =>
      simp only [List.length_nil]
      go_wp2
      go_end0
      exact ⟨rfl, HM.out.done, HM.out.chg, HM.out.inv⟩
    | cons p F3 =>
      obtain rfl := ha6 (by simp)
      obtain ⟨f, hf⟩ : ∃ f, F3.length = f := ⟨_, rfl⟩
      have HSUM := HM.out.sum
      have HF : Hid (F3.length = f) := hf
      have HGK : Hid ((p :: F3).length + S2.length = gk) := hgk
      have HA7 : Hid (0 < S2.length → a7 = ⟨b, P.length + i + (F3.length + 1), none⟩) := ha7
      have HFL : Hid (F3.length + 1 ≤ F.length) := by
        obtain ⟨F1, e⟩ := HM.out.tail
        show F3.length + 1 ≤ F.length
        rw [e]; simp
      rw [hf] at HFL
      have hc7' := hc7
      simp only [List.length_cons, hf] at ha7 HSUM ⊢
      obtain ⟨f2, hf2⟩ : ∃ f2, F.length - (f + 1) = f2 := ⟨_, rfl⟩
      have HF2 : Hid (F.length - (f + 1) = f2) := hf2
      simp only [hf2]
      have hin : (i : Int) < n := by have := HO.out; omega
      have hin' : i < n := by omega
      have HAD : Hid (P.length + i = o2 + i) := by show P.length + i = o2 + i; have := HO.out.1; omega
      clear hf hf2 hgk ha6
      cases S2 with
      | nil =>
        simp only [List.length_nil]
        go_upto_region 5 with fail
        go_quiet (fail)
        have HMX : Hid (MgN lt I D w b sb fb (.func (.func 14) #[] #[]) P Q F S (p :: F3) [] i (wr.drewN nq)) := HM.out.drewN nq
        clear HM
        generalize wr.drewN nq = X at *
        obtain ⟨g, g1⟩ := HMX.out.rdG
        have g3 := HMX.out.free (o2 + i)
        rw [HAD.out] at g1
        have r1 := HMX.out.rdF
        simp only [HF.out, HF2.out] at r1
        skip
        have HN : Hid (∀ x', x' = (X.setCell ⟨b, o2 + i, none⟩ (.int .i64 p)).drew → MgN lt I D w b sb fb (.func (.func 14) #[] #[]) P Q F S F3 [] (i + 1) x') := fun x' e => by
          have h := (HMX.out.takeF (.inl rfl)).drew
          rw [HAD.out] at h
          rw [e]; exact h
        have h1f : (1 : Int) ≤ (f : Int) + 1 := by omega
        have HW : Hid (wrap64 ((i : Int) + 1) = ((i + 1 : Nat) : Int)) := by
          show wrap64 ((i : Int) + 1) = ((i + 1 : Nat) : Int)
          have := HO.out
          unfold wrap64; omega
        by_cases hf1 : f = 0
        · subst hf1
          go_upto_region 7 with fail
          go_region_with fail
          all_goals (go_wp2; (go_roundg (0 + 0)); (case measure => have := HGK.out; simp only [List.length_cons, List.length_nil, HF.out] at this; omega); (case rel => exact ⟨F3, [], ⟨fb, f2, none⟩, a7, c7, i + 1, by rw [HF.out, List.length_nil], by rw [HF.out], rfl, by rw [HW.out], hc7', (fun h => by rw [HF.out] at h; omega), (fun h => by simp at h), HN.out _ rfl⟩))
        · go_upto_region 7 with fail
          go_region_with fail
          all_goals (go_wp2; (go_roundg (f + 0)); (case measure => have := HGK.out; simp only [List.length_cons, List.length_nil, HF.out] at this; omega); (case rel => exact ⟨F3, [], ⟨fb, f2 + 1, none⟩, a7, c7, i + 1, by rw [HF.out, List.length_nil], by rw [HF.out], rfl, by rw [HW.out], hc7', (fun _ => by rw [HF.out]; congr 1; have := HF2.out; have := HFL.out; omega), (fun h => by simp at h), HN.out _ rfl⟩))
      | cons q S3 =>
        obtain rfl := ha7 (by simp)
        obtain ⟨s, hs⟩ : ∃ s, S3.length = s := ⟨_, rfl⟩
        have HS : Hid (S3.length = s) := hs
        simp only [List.length_cons, hs] at hc7 HSUM ⊢
        obtain ⟨q2, hq2⟩ : ∃ q2, P.length + i + (f + 1) = q2 := ⟨_, rfl⟩
        have HQ2 : Hid (P.length + i + (f + 1) = q2) := hq2
        have HD : Hid (MgN lt I D w b sb fb (.func (.func 14) #[] #[]) P Q F S (p :: F3) (q :: S3) i wr.drew) := HM.out.drew
        simp only [hq2]
        have d1 := HD.out.rdS
        have d2 := HD.out.rdF
        have d3 := HD.out.box
        simp only [List.length_cons, HF.out, hq2, HF2.out] at d1 d2
        have HDD : Hid (wr.drew.cell? ⟨b, q2, none⟩ = some (.int .i64 q) ∧ wr.drew.cell? ⟨fb, f2, none⟩ = some (.int .i64 p) ∧ wr.drew.cell? ⟨sb, 0, none⟩ = some (.func (.func 14) #[] #[])) := ⟨d1, d2, d3⟩
        have hca := hcall.out wr.drew q p HD.out.inv
        clear hs hq2 ha7 d1 d2 d3
        go_upto_region 5 with fail
        go_region_held3 (fun x => x.cell? ⟨b, q2, none⟩ = some (.int .i64 q) ∧ x.cell? ⟨fb, f2, none⟩ = some (.int .i64 p) ∧ x.cell? ⟨sb, 0, none⟩ = some (.func (.func 14) #[] #[])) (first | exact HDD.out | exact HX5.out) (first | (go_at_call 14; refine hca.mono ?_; rintro e x5 ⟨rfl, hi5, hk5⟩; have HM5 : Hid (MgN lt I D w b sb fb (.func (.func 14) #[] #[]) P Q F S (p :: F3) (q :: S3) i x5) := HD.out.call hk5 hi5; have HX5 : Hid (x5.cell? ⟨b, q2, none⟩ = some (.int .i64 q) ∧ x5.cell? ⟨fb, f2, none⟩ = some (.int .i64 p) ∧ x5.cell? ⟨sb, 0, none⟩ = some (.func (.func 14) #[] #[])) := (by have d1 := HM5.out.rdS; have d2 := HM5.out.rdF; have d3 := HM5.out.box; simp only [List.length_cons, HF.out, HQ2.out, HF2.out] at d1 d2; exact ⟨d1, d2, d3⟩)))
        have HM6 : Hid (MgN lt I D w b sb fb (.func (.func 14) #[] #[]) P Q F S (p :: F3) (q :: S3) i x5) := HM5.out
        clear HX5 HM5 HDD HD hca hi5 hk5 HM
        obtain ⟨t, ht⟩ : ∃ t, lt q p = t := ⟨_, rfl⟩
        have HT : Hid (lt q p = t) := ht
        rw [ht]
        clear ht
        obtain ⟨g, g1⟩ := HM6.out.rdG
        have g3 := HM6.out.free (o2 + i)
        rw [HAD.out] at g1
        cases t with
        | true =>
          have r1 := HM6.out.rdS
          simp only [List.length_cons, HF.out, HQ2.out] at r1
          skip
          have HN : Hid (∀ x', x' = (x5.setCell ⟨b, o2 + i, none⟩ (.int .i64 q)).drew → MgN lt I D w b sb fb (.func (.func 14) #[] #[]) P Q F S (p :: F3) S3 (i + 1) x') := fun x' e => by
            have h := (HM6.out.takeS HT.out).drew
            rw [HAD.out] at h
            rw [e]; exact h
          have HW : Hid (wrap64 ((i : Int) + 1) = ((i + 1 : Nat) : Int)) := by
            show wrap64 ((i : Int) + 1) = ((i + 1 : Nat) : Int)
            have := HO.out
            unfold wrap64; omega
          have h1s : (1 : Int) ≤ (s : Int) + 1 := by omega
          by_cases hc1 : c7 = 1
          · have hs0 : s = 0 := by omega
            subst hs0
            go_upto_region 6 with fail
            go_region_with fail
            all_goals (go_wp2; (go_roundg (f + 1)); (case measure => have := HGK.out; simp only [List.length_cons, HF.out, HS.out] at this; omega); (case rel => exact ⟨p :: F3, S3, ⟨fb, f2, none⟩, ⟨b, q2, none⟩, 0, i + 1, by rw [List.length_cons, HF.out, HS.out], by rw [List.length_cons, HF.out], by rw [HS.out], by rw [HW.out], by rw [HS.out]; omega, (fun _ => by rw [List.length_cons, HF.out, HF2.out]), (fun h => by rw [HS.out] at h; omega), HN.out _ rfl⟩))
          · go_upto_region 6 with fail
            go_region_with fail
            all_goals (go_wp2; (go_roundg (f + 1 + s)); (case measure => have := HGK.out; simp only [List.length_cons, HF.out, HS.out] at this; omega); (case rel => exact ⟨p :: F3, S3, ⟨fb, f2, none⟩, ⟨b, q2 + 1, none⟩, c7 - 1, i + 1, by rw [List.length_cons, HF.out, HS.out], by rw [List.length_cons, HF.out], by rw [HS.out], by rw [HW.out], by rw [HS.out]; omega, (fun _ => by rw [List.length_cons, HF.out, HF2.out]), (fun _ => by rw [List.length_cons, HF.out]; congr 1; have := HQ2.out; omega), HN.out _ rfl⟩))
        | false =>
          have r1 := HM6.out.rdF
          simp only [HF.out, HF2.out] at r1
          skip
          have HN : Hid (∀ x', x' = (x5.setCell ⟨b, o2 + i, none⟩ (.int .i64 p)).drew → MgN lt I D w b sb fb (.func (.func 14) #[] #[]) P Q F S F3 (q :: S3) (i + 1) x') := fun x' e => by
            have h := (HM6.out.takeF (.inr ⟨q, S3, rfl, HT.out⟩)).drew
            rw [HAD.out] at h
            rw [e]; exact h
          have h1f : (1 : Int) ≤ (f : Int) + 1 := by omega
          have HW : Hid (wrap64 ((i : Int) + 1) = ((i + 1 : Nat) : Int)) := by
            show wrap64 ((i : Int) + 1) = ((i + 1 : Nat) : Int)
            have := HO.out
            unfold wrap64; omega
          by_cases hf1 : f = 0
          · subst hf1
            go_upto_region 7 with fail
            go_region_with fail
            all_goals (go_wp2; (go_roundg (0 + (s + 1))); (case measure => have := HGK.out; simp only [List.length_cons, HF.out, HS.out] at this; omega); (case rel => exact ⟨F3, (q :: S3), ⟨fb, f2, none⟩, ⟨b, q2, none⟩, c7, i + 1, by rw [HF.out, List.length_cons, HS.out], by rw [HF.out], by rw [List.length_cons, HS.out], by rw [HW.out], by rw [List.length_cons, HS.out]; omega, (fun h => by rw [HF.out] at h; omega), (fun _ => by rw [HF.out]; congr 1; have := HQ2.out; omega), HN.out _ rfl⟩))
          · go_upto_region 7 with fail
            go_region_with fail
            all_goals (go_wp2; (go_roundg (f + (s + 1))); (case measure => have := HGK.out; simp only [List.length_cons, HF.out, HS.out] at this; omega); (case rel => exact ⟨F3, (q :: S3), ⟨fb, f2 + 1, none⟩, ⟨b, q2, none⟩, c7, i + 1, by rw [HF.out, List.length_cons, HS.out], by rw [HF.out], by rw [List.length_cons, HS.out], by rw [HW.out], by rw [List.length_cons, HS.out]; omega, (fun _ => by rw [HF.out]; congr 1; have := HF2.out; have := HFL.out; omega), (fun _ => by rw [HF.out]; congr 1; have := HQ2.out; omega), HN.out _ rfl⟩))
end Go.Proofs.YtjgllfpnmmopdaaGreatDoor
namespace Go.Proofs.YtjgllfpnmmopdaaGreatDoor
open Go.RowKit Tr
set_option maxHeartbeats 1000000 in
set_option maxRecDepth 20000 in
theorem sort_Na {lt : Int → Int → Bool} {I : World → Prop} {D : Nat → Prop} (C : Clo (Value.int .i64) 14 [] lt I D) : ∀ (N : Nat) {w : World} {b o2 n c : Nat} {P Q L : List Int}, n ≤ N → RwN w b (P ++ (L ++ Q)) → o2 = P.length → L.length = n → n ≤ c → n * 8 ≤ 140737488355328 → I w → ¬ D b →
    Calls Tryz.prog 34 #[.agg #[(.func (.func 14) #[] #[])], .slice (some ⟨b, o2, none⟩) n c] w fun e w' => e = .returned (.tuple #[]) ∧ RwN w' b (P ++ (sortV lt L ++ Q)) ∧ Chg (fun j => j = b ∨ D j) w w' ∧ I w' := by
  intro N
  induction N with
  | zero =>
    intro w b o2 n c P Q L hN hM ho hL hc hb hI hDb
    obtain rfl : n = 0 := by omega
    have e : sortV lt L = L := sortV_short lt (by omega)
    have HE : Hid (∀ x, Below w.heap.size w x → RwN x b (P ++ (sortV lt L ++ Q)) ∧ Chg (fun j => j = b ∨ D j) w x ∧ I x) := fun x hx => ⟨by rw [e]; exact hM.below hx, Chg.of_below hx _, C.keep w x (fun _ => False) hI (Chg.of_below hx _) (fun _ _ e => e)⟩
    clear hM ho hL hc hb hI hDb hN e C
    go_enter Tryz.func34, Tryz.ntmps34
    go_wp2
    refine bodyPost_ret (results_none rfl _ _ _) rfl ?_
    exact ⟨rfl, HE.out _ ((Below.refl _ _).alloc (Nat.le_refl _) _)⟩
  | succ N ih =>
    intro w b o2 n c P Q L hN hM ho hL hc hb hI hDb
    obtain ⟨w1, hw1⟩ : ∃ w1, w.alloc (.cells #[(.func (.func 14) #[] #[])] 70) = w1 := ⟨_, rfl⟩
    have hb1 : Below w.heap.size w w1 := by rw [← hw1]; exact (Below.refl _ _).alloc (Nat.le_refl _) _
    have zw1 : w1.heap.size = w.heap.size + 1 := by rw [← hw1]; simp
    have cb1 : w1.cell? ⟨w.heap.size, 0, none⟩ = some (.func (.func 14) #[] #[]) := by rw [← hw1]; exact cells_at (heap_alloc_new w _) rfl
    by_cases h2 : n < 2
    · have e : sortV lt L = L := sortV_short lt (by omega)
      have HE : Hid (RwN w1 b (P ++ (sortV lt L ++ Q)) ∧ Chg (fun j => j = b ∨ D j) w w1 ∧ I w1) := ⟨by rw [e]; exact hM.below hb1, Chg.of_below hb1 _, C.keep w w1 (fun _ => False) hI (Chg.of_below hb1 _) (fun _ _ e => e)⟩
      have h2' : (n : Int) < 2 := by omega
      clear hM ho hL hc hb hI hDb hN e C ih cb1
      go_enter Tryz.func34, Tryz.ntmps34
      go_wp2
      refine bodyPost_ret (results_none rfl _ _ _) rfl ?_
      exact ⟨rfl, HE.out⟩
    · obtain ⟨h, hh⟩ : ∃ h, n / 2 = h := ⟨_, rfl⟩
      have HQ : Hid ((n : Int).tdiv 2 = (h : Int)) := by show (n : Int).tdiv 2 = (h : Int); rw [← hh]; rw [Int.tdiv_eq_ediv_of_nonneg (by omega)]; rfl
      have h2' : ¬ (n : Int) < 2 := by omega
      have HWH : Hid (wrap64 (h : Int) = (h : Int)) := wrap64_nat (by omega)
      have HH : Hid (L.take (L.length / 2) = L.take h ∧ L.drop (L.length / 2) = L.drop h) := by rw [hL, hh]; exact ⟨rfl, rfl⟩
      obtain ⟨F, hF⟩ : ∃ F, L.take h = F := ⟨_, rfl⟩
      obtain ⟨S, hS⟩ : ∃ S, L.drop h = S := ⟨_, rfl⟩
      have hFS : L = F ++ S := by rw [← hF, ← hS, List.take_append_drop]
      have hFl : F.length = h := by rw [← hF, List.length_take]; omega
      have hSl : S.length = n - h := by rw [← hS, List.length_drop]; omega
      have HSO : Hid (sortV lt L = mergeV lt (sortV lt F) (sortV lt S)) := by
        show sortV lt L = _
        rw [sortV_long lt (by omega), HH.out.1, HH.out.2, hF, hS]
      have low := C.low w hI
      have hbl := hM.lt
      have hI1 := C.keep w w1 (fun _ => False) hI (Chg.of_below hb1 _) (fun _ _ e => e)
      have kd := fun x (hx : I x) => C.keep x x.drew (fun _ => False) hx (Chg.refl _ _).drew (fun _ _ e => e)
      have hM1 : RwN w1.drew b (P ++ (F ++ (S ++ Q))) := by
        have h5 := hM.below hb1
        rw [hFS, List.append_assoc] at h5
        exact RwN.below ((Below.refl _ w1).drew) h5
      have c1 := ih (w := w1.drew) (b := b) (o2 := o2) (n := h) (c := c) (P := P) (Q := S ++ Q) (L := F) (by omega) hM1 ho hFl (by omega) (by omega) (kd _ hI1) hDb
      have HI2 : Hid (∀ x, RwN x b (P ++ (sortV lt F ++ (S ++ Q))) → I x → Calls Tryz.prog 34 #[.agg #[(.func (.func 14) #[] #[])], .slice (some ⟨b, o2 + h, none⟩) (n - h) (c - h)] x.drew fun e w' => e = .returned (.tuple #[]) ∧ RwN w' b ((P ++ sortV lt F) ++ (sortV lt S ++ Q)) ∧ Chg (fun j => j = b ∨ D j) x.drew w' ∧ I w') := fun x hx hi =>
        ih (w := x.drew) (b := b) (o2 := o2 + h) (n := n - h) (c := c - h) (P := P ++ sortV lt F) (Q := Q) (L := S) (by omega) (RwN.below ((Below.refl _ x).drew) (by rw [List.append_assoc]; exact hx)) (by rw [List.length_append, sort_length, hFl]; omega) hSl (by omega) (by omega) (kd _ hi) hDb
      have HI3 : Hid (∀ x, RwN x b ((P ++ sortV lt F) ++ (sortV lt S ++ Q)) → I x → Calls Tryz.prog 66 #[.agg #[(.func (.func 14) #[] #[])], .slice (some ⟨b, o2, none⟩) n c, .int .i64 h] x fun e w' => e = .returned (.tuple #[]) ∧ RwN w' b (P ++ (mergeV lt (sortV lt F) (sortV lt S) ++ Q)) ∧ Chg (fun j => j = b ∨ D j) x w' ∧ I w') := fun x hx hi =>
        merge_Na C (by rw [List.append_assoc] at hx; exact hx) ho (by rw [sort_length, hFl]) (by rw [sort_length, hSl]; omega) (by rw [sort_length, hSl]; omega) hc hb hi hDb
      have HB1 : Hid (Below w.heap.size w w1) := hb1
      have HKS : Hid (∀ x y, Chg (fun j => j = b ∨ D j) x y → x.cell? ⟨w.heap.size, 0, none⟩ = some (.func (.func 14) #[] #[]) → y.cell? ⟨w.heap.size, 0, none⟩ = some (.func (.func 14) #[] #[])) := fun x y k hx => k.cell hx (fun e => by rcases e with e | e; (have e' : w.heap.size = b := e; omega); (have := low _ e; exact Nat.lt_irrefl _ this))
      have hhn : (h : Int) ≤ n := by omega
      have hhc : (h : Int) ≤ c := by omega
      have hcne : ¬ c = h := by omega
      have d1 : w1.drew.cell? ⟨w.heap.size, 0, none⟩ = some (.func (.func 14) #[] #[]) := cb1
      clear hM ho hL hc hb hI hDb hN C ih hM1 HH hF hS hFS hFl hSl low hI1 kd hh zw1 h2 hbl hb1
      have hwh := HWH.out
      have hq := HQ.out
      go_enter Tryz.func34, Tryz.ntmps34
      go_upto_region 3 with fail
      go_region_with (go_at_call 34; refine c1.mono ?_; rintro e w3 ⟨rfl, r3, k3, i3⟩)
      have b3 := HKS.out _ _ k3 d1
      have c2 := HI2.out w3 r3 i3
      have d3 : w3.drew.cell? ⟨w.heap.size, 0, none⟩ = some (.func (.func 14) #[] #[]) := b3
      have HK3 : Hid (Chg (fun j => j = b ∨ D j) w w3) := ((Chg.of_below HB1.out _).drew).trans k3 (fun _ _ e => e)
      clear r3 i3 k3 c1 d1
      go_upto_region 4 with fail
      go_region_with (go_at_call 34; refine c2.mono ?_; rintro e w5 ⟨rfl, r5, k5, i5⟩)
      have b5 := HKS.out _ _ k5 d3
      have c3 := HI3.out w5 r5 i5
      have HK5 : Hid (Chg (fun j => j = b ∨ D j) w w5) := (HK3.out.drew).trans k5 (fun _ _ e => e)
      clear r5 i5 k5 c2 d3 b3
      go_wp2_with fail
      refine c3.mono ?_
      rintro e w6 ⟨rfl, r6, k6, i6⟩
      go_wp2
      go_end0
      exact ⟨rfl, by rw [HSO.out]; exact r6, HK5.out.trans k6 (fun _ _ e => e), i6⟩
set_option maxHeartbeats 1000000 in
set_option maxRecDepth 20000 in
theorem Sort_Na {lt : Int → Int → Bool} {I : World → Prop} {D : Nat → Prop} (C : Clo (Value.int .i64) 14 [] lt I D) {w : World} {n c : Nat} {ao : Option Addr} {l : List Int} (hn : n * 8 ≤ 140737488355328) (hL : l.length = n) (hnil : ao = none → n = 0) (hsrc : ∀ ad, ao = some ad → ∀ j u, (flatN l)[j]? = some u → w.cell? (ad.add j) = some u) (hI : I w) :
    Calls Tryz.prog 13 #[.slice ao n c, (.func (.func 14) #[] #[])] w fun e w' => e = .returned (.slice (some ⟨w.heap.size, 0, none⟩) n n) ∧ RwN w' w.heap.size (sortV lt l) ∧ Chg D w w' ∧ I w' := by
  have c1 := copyOf_N (c := c) hn hL hnil hsrc
  have low := C.low w hI
  have HI2 : Hid (∀ x, RwN x w.heap.size l → Below w.heap.size w x → Calls Tryz.prog 34 #[.agg #[(.func (.func 14) #[] #[])], .slice (some ⟨w.heap.size, 0, none⟩) n n] x fun e w' => e = .returned (.tuple #[]) ∧ RwN w' w.heap.size (sortV lt l) ∧ Chg (fun j => j = w.heap.size ∨ D j) x w' ∧ I w') := fun x hx hb => by
    have h1 := sort_Na C n (w := x) (b := w.heap.size) (o2 := 0) (n := n) (c := n) (P := []) (Q := []) (L := l) (Nat.le_refl _) (by simpa using hx) rfl hL (Nat.le_refl _) hn (C.keep w x (fun _ => False) hI (Chg.of_below hb _) (fun _ _ e => e)) (fun e => Nat.lt_irrefl _ (low _ e))
    simpa using h1
  have hne : ∀ (y : Array Value) (x : World), (binOp .neq 49 (.func (.func 14) #[] y) .nilFunc).run Tryz.prog x = .ok (.bool true) x := fun y x => neq_nilFunc x 49 _ _ _ _ _ _ Tryz.underlying49
  clear hn hL hnil hsrc hI C low
  go_enter Tryz.func13, Tryz.ntmps13
  go_wp2_with fail
  refine c1.mono ?_
  rintro e w1 ⟨rfl, r1, hb1, hz1⟩
  have c2 := HI2.out w1 r1 hb1
  clear c1
  go_wp2_with fail
  refine c2.mono ?_
  rintro e w2 ⟨rfl, r2, k2, i2⟩
  go_wp2
  go_ret
  exact ⟨rfl, r2, (Chg.of_below hb1 D).trans k2 (fun j hj e => by rcases e with e | e; (exact absurd hj (by omega)); (exact e)), i2⟩
end Go.Proofs.YtjgllfpnmmopdaaGreatDoor
namespace Go.Proofs.YtjgllfpnmmopdaaGreatDoor
open Go.RowKit Tr
theorem clo_Na : Clo (Value.int .i64) 14 [] (fun a b => decide (a < b)) (fun _ => True) (fun _ => False) where
  call := fun x p q _ => by
    show Calls Tryz.prog 14 #[.int .i64 p, .int .i64 q] x _
    go_enter Tryz.func14, Tryz.ntmps14
    go_wp2
    go_ret
    exact ⟨rfl, trivial, Chg.refl _ _⟩
  keep := fun _ _ _ _ _ _ => trivial
  low := fun _ _ _ h => h.elim
theorem clo_Ra : Clo prV 18 [] (fun a b => decide (b.b < a.b)) (fun _ => True) (fun _ => False) where
  call := fun x p q _ => by
    show Calls Tryz.prog 18 #[.agg #[.int .i64 p.a, .int .i64 p.b], .agg #[.int .i64 q.a, .int .i64 q.b]] x _
    go_enter Tryz.func18, Tryz.ntmps18
    go_wp2
    go_ret
    exact ⟨rfl, trivial, ((Chg.refl _ _).alloc _).alloc _⟩
  keep := fun _ _ _ _ _ _ => trivial
  low := fun _ _ _ h => h.elim
/-- A block of one number. -/
def One1 (x : World) (g : Nat) (v : Int) : Prop := x.heap[g]? = some (.cells #[.int .i64 v] 3 (0, 0))
theorem One1.chg {K : Nat → Prop} {x y : World} {g : Nat} {v : Int} (h : One1 x g v) (c : Chg K x y) (hK : ¬ K g) : One1 y g v := (c.block g (Array.getElem?_eq_some_iff.1 (show x.heap[g]? = _ from h)).1 hK).trans h
theorem One1.lt {x : World} {g : Nat} {v : Int} (h : One1 x g v) : g < x.heap.size := (Array.getElem?_eq_some_iff.1 (show x.heap[g]? = _ from h)).1
theorem One1.cell {x : World} {g : Nat} {v : Int} (h : One1 x g v) : x.cell? ⟨g, 0, none⟩ = some (.int .i64 v) := cells_at (show x.heap[g]? = _ from h) rfl
theorem One1.free {x : World} {g : Nat} {v : Int} (h : One1 x g v) : x.frozen? ⟨g, 0, none⟩ = false := frozen_at (show x.heap[g]? = _ from h)
theorem One1.set {x : World} {g : Nat} {v : Int} (h : One1 x g v) (u : Int) : One1 (x.setCell ⟨g, 0, none⟩ (.int .i64 u)) g u := by
  have := heap_setCell_same x g 0 _ 3 (.int .i64 u) h
  unfold One1
  rw [this]
  rfl
/-- The order that is none. -/
def oddB (odd : Int) (p q : Pr) : Bool := (wrap64 (wrap64 (wrap64 (p.a * 31) + wrap64 (q.b * 17)) + odd)).tmod 3 == 0
end Go.Proofs.YtjgllfpnmmopdaaGreatDoor
