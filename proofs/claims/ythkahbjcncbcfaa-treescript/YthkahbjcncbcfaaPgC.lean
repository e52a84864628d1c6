/-
  Package tree: Kids and Below of any number; slices.Contains; Shares, Close, Add.
-/
import Derived.Test.YthkahbjcncbcfaaPgW
namespace Go.Proofs.Ythkahbjcncbcfaa
open Go.RowKit Tr

set_option maxHeartbeats 1000000 in
set_option maxRecDepth 20000 in
theorem index_any {w : World} {B : Nat} {v : Value} {xs : List Nat} (h : w.ownsRow B 3 1 v xs.length (ints xs)) (hl : xs.length ≤ 64) (p : Nat) :
    Calls Try.prog 68 #[v, .int .i64 p] w fun e w' => (∃ i : Int, e = .returned (.int .i64 i) ∧ decide (0 ≤ i) = decide (p ∈ xs)) ∧ w = w' := by
  obtain ⟨ao, c, rfl, hn, hs⟩ := ints_src h
  obtain ⟨q, hq⟩ : ∃ q, xs.length = q := ⟨_, rfl⟩
  have hcell : ∀ k x : Nat, xs[k]? = some x → ∃ g, ao = some ⟨g, 0, none⟩ ∧ w.cell? ⟨g, k, none⟩ = some (.int .i64 (x : Int)) := by
    intro k x hx
    rcases h.2 with ⟨_, h0⟩ | ⟨g, cap, cur, hv, r⟩
    · have := (List.getElem?_eq_some_iff.1 hx).1
      omega
    · simp at hv
      obtain ⟨rfl, _⟩ := hv
      have := hs _ rfl k (.int .i64 (x : Int)) (by simp [ints, hx])
      have ha : (⟨g, 0, none⟩ : Addr).add k = ⟨g, k, none⟩ := by unfold Addr.add; split <;> simp_all
      rw [ha] at this
      exact ⟨g, rfl, this⟩
  clear h hn hs
  rw [hq] at hl ⊢
  go_enter Try.func68, Try.ntmps68
  go_wp2
  go_loopg [8] q (fun gk pv wr => ∃ j : Nat, j + gk = q ∧ pv = .int .i64 j ∧ w = wr ∧ ∀ i x, i < j → xs[i]? = some x → x ≠ p)
  case atStart => exact ⟨0, by omega, rfl, rfl, fun i x hi => by omega⟩
  case round =>
    obtain ⟨j, hj, rfl, rfl, hinv⟩ := hrel
    by_cases hlt : j < q
    · have hlt' : (j : Int) < q := by omega
      obtain ⟨x, hx⟩ : ∃ x, xs[j]? = some x := ⟨_, List.getElem?_eq_getElem (by omega)⟩
      obtain ⟨g, rfl, hc⟩ := hcell j x hx
      have HINV : Hid _ := hinv
      clear hcell hinv
      by_cases e : x = p
      · subst e
        have hmem := List.mem_of_getElem? hx
        go_wp2
        go_ret
        exact ⟨⟨j, rfl, by simp [hmem]⟩, rfl⟩
      · have e' : ((p : Int) == (x : Int)) = false := by simp; omega
        go_wp2
        go_roundg (q - (j + 1))
        case measure => omega
        case rel =>
          refine ⟨j + 1, by omega, rfl, rfl, fun i y hi hy => ?_⟩
          by_cases hij : i = j
          · subst hij
            rw [hx] at hy
            cases hy
            exact e
          · exact HINV.out i y (by omega) hy
    · obtain rfl : j = q := by omega
      have hno : p ∉ xs := fun hm => by
        obtain ⟨i, hi⟩ := List.getElem?_of_mem hm
        exact hinv i p (by have := (List.getElem?_eq_some_iff.1 hi).1; omega) hi rfl
      clear hinv
      go_wp2
      go_ret
      exact ⟨⟨-1, rfl, by simp [hno]⟩, rfl⟩
theorem contains_any {w : World} {B : Nat} {v : Value} {xs : List Nat} (h : w.ownsRow B 3 1 v xs.length (ints xs)) (hl : xs.length ≤ 64) (p : Nat) :
    Calls Try.prog 58 #[v, .int .i64 p] w fun e w' => e = .returned (.bool (decide (p ∈ xs))) ∧ w = w' := by
  have hi := index_any h hl p
  obtain ⟨ao, c, rfl⟩ := sl_shape h
  clear h
  go_enter Try.func58, Try.ntmps58
  go_wp2_with fail
  refine hi.mono ?_
  rintro e w1 ⟨⟨i, rfl, hd⟩, rfl⟩
  have HD : Hid _ := hd
  clear hd
  go_wp2
  go_ret
  exact ⟨by rw [← HD.out]; rfl, rfl⟩
set_option maxHeartbeats 1000000 in
theorem pkids_any {W : World} {t : Nat} {v : Value} {m : Nat} {kv : Value} {ks : List Nat} {l : List Ac} (h : PT W t v m kv ks l (kidB l)) (hw : Wf l) (n : Int) :
    Calls Try.prog 23 #[.pointer (some ⟨t, 0, none⟩), .int .i64 n] W fun e w' => ∃ v, e = .returned v ∧ w'.ownsRow W.heap.size 3 1 v (kidsZ l n).length (ints (kidsZ l n)) ∧ Below W.heap.size W w' := by
  unfold kidsZ
  cases hb : thereB l n with
  | true =>
    obtain ⟨h0, h1⟩ : 0 ≤ n ∧ n < l.length := by simpa [thereB] using hb
    obtain ⟨k, rfl⟩ : ∃ k : Nat, n = k := ⟨n.toNat, by omega⟩
    simp only [if_true, Int.toNat_natCast]
    exact pkids_core h (by omega) (fun j => kidB_iff.symm) (kids_sorted l k) (fun j hj => Nat.lt_of_lt_of_le (kidB_lt (kidB_iff.2 hj)) hw.len)
  | false =>
    have hh := phas_any h n
    rw [hb] at hh
    clear h
    go_enter Try.func23, Try.ntmps23
    go_wp2_with fail
    refine hh.mono ?_
    rintro e w1 ⟨rfl, rfl⟩
    go_wp2
    go_ret
    exact ⟨_, rfl, World.ownsRow_nil _ _ _ _, Below.refl _ _⟩
set_option maxHeartbeats 1000000 in
theorem pbelow_any {W : World} {t : Nat} {v : Value} {m : Nat} {kv : Value} {ks : List Nat} {l : List Ac} (h : PT W t v m kv ks l (kidB l)) (hw : Wf l) (n : Int) :
    Calls Try.prog 22 #[.pointer (some ⟨t, 0, none⟩), .int .i64 n] W fun e w' => ∃ v, e = .returned v ∧ w'.ownsRow W.heap.size 3 1 v (belowZ l n).length (ints (belowZ l n)) ∧ Below W.heap.size W w' := by
  unfold belowZ
  cases hb : thereB l n with
  | true =>
    obtain ⟨h0, h1⟩ : 0 ≤ n ∧ n < l.length := by simpa [thereB] using hb
    obtain ⟨k, rfl⟩ : ∃ k : Nat, n = k := ⟨n.toNat, by omega⟩
    simp only [if_true, Int.toNat_natCast]
    obtain ⟨d, _, hd⟩ := hw.deep k (by omega)
    exact pbelow hw 5 h hd (by omega) (by omega)
  | false =>
    have hh := phas_any h n
    rw [hb] at hh
    clear h
    go_enter Try.func22, Try.ntmps22
    go_wp2_with fail
    refine hh.mono ?_
    rintro e w1 ⟨rfl, rfl⟩
    go_wp2
    go_ret
    exact ⟨_, rfl, World.ownsRow_nil _ _ _ _, Below.refl _ _⟩
namespace Tr
theorem kidB_set {l : List Ac} {n : Nat} {a a' : Ac} (ha : l[n]? = some a) (hp : a'.pa = a.pa) : kidB (l.set n a') = kidB l := by
  funext i j
  unfold kidB
  by_cases e : j = n
  · subst e
    rw [List.getElem?_set_self (List.getElem?_eq_some_iff.1 ha).1, ha]
    simp [hp]
  · rw [List.getElem?_set_ne (fun h => e h.symm)]
theorem kidB_last {l : List Ac} (h : Wf l) (j : Nat) : kidB l l.length j = false := by
  cases hk : kidB l l.length j with
  | false => rfl
  | true =>
    obtain ⟨a, ha, hp⟩ := mem_kids.1 (kidB_iff.1 hk)
    by_cases h0 : 0 < j
    · have := (h.row j a ha h0).2.2.1
      omega
    · obtain rfl : j = 0 := by omega
      rw [h.root] at ha
      cases ha
      simp [rootAc] at hp
theorem kidB_add {l : List Ac} {a : Ac} {p : Nat} (hp : a.pa = p) : hangK (kidB l) l.length p = kidB (l ++ [a]) := by
  funext i j
  unfold hangK kidB
  by_cases hj : j < l.length
  · rw [List.getElem?_append_left hj]
    have : (j == l.length) = false := by simp; omega
    rw [this]
    simp only [Bool.or_false]
    split
    · rename_i e
      rw [e]
    · rfl
  · by_cases e : j = l.length
    · subst e
      simp only [List.getElem?_append_right (Nat.le_refl _), Nat.sub_self, List.getElem?_cons_zero, Option.map_some, hp, beq_self_eq_true, Bool.or_true]
      by_cases hi : i = p
      · simp [hi]
      · simp [hi]
        omega
    · have h1 : (l ++ [a])[j]? = none := List.getElem?_eq_none (by simp; omega)
      have h2 : l[j]? = none := List.getElem?_eq_none (by omega)
      have : (j == l.length) = false := by simp; omega
      rw [h1, h2]
      simp [this]
theorem mv_last {l : List Ac} {a : Ac} (p : Int) : mvV (l ++ [a]) l.length p = l ++ [{ a with pa := p }] := by
  unfold mvV
  rw [List.getElem?_append_right (Nat.le_refl _)]
  simp
end Tr
end Go.Proofs.Ythkahbjcncbcfaa
