/-
  The statements' head: the document's examples; the statement of the numbers.
-/
import Derived.Test.YtmfecocbadekhaaDoorTake
namespace Go.Proofs.YtmfecocbadekhaaDoor
open Go.RowKit Nd

namespace Nd
theorem ex1 : lst 31 = [0, 1, 2, 3, 4] := by decide +kernel
theorem ex2 : takeF 31 2 = 28 := by decide +kernel
theorem ex3 : turnE 5 28 (nthI [0]) 1 false = 0 ∧ turnF 5 28 (nthI [0]) 1 false = 29 := by decide +kernel
theorem ex4 : lst 29 = [0, 2, 3, 4] := by decide +kernel
theorem ex5 : takeF 29 2 = 24 := by decide +kernel
theorem ex6 : lst 24 = [3, 4] := by decide +kernel
theorem ex7 : turnE 5 24 (nthI [4, 3]) 2 true = 22 := by decide +kernel
theorem ex8 : sameB 2 2 (nth [0, 1]) (nthI [0, 1]) = true := by decide +kernel
theorem ex9 : sameB 2 2 (nth [0, 2]) (nthI [0, 2]) = true := by decide +kernel
theorem ex10 : sameB 2 2 (nth [3, 4]) (nthI [3, 4]) = true := by decide +kernel
end Nd

set_option maxHeartbeats 2000000 in
theorem shown_any (w : World) (hT : Tab w) : Calls Tryd.prog 6 #[] w fun e w' => e = .returned (.bool true) ∧ Below w.heap.size w w' := by
  go_enter Tryd.func6, Tryd.ntmps6
  go_wp2_with fail
  refine (new_yes 5 _ (by decide) (by decide) hT).mono ?_
  rintro e w1 ⟨rfl, hs1', hb1⟩
  have hs1 : SetIn w1 w.heap.size 5 31 := hs1'
  clear hs1'
  go_wp2_with fail
  refine (new_no 0 _ (by decide)).mono ?_
  rintro e w1' ⟨rfl, rfl⟩
  go_wp2_with fail
  refine (take_ok w.heap.size 5 31 2 _ hs1 (by decide) (by rw [ex1]; decide)).mono ?_
  rintro e w2 ⟨rfl, ho2, hs2, hg2⟩
  rw [ex1] at ho2
  rw [ex2] at hs2
  have hz1 := hs1.lt
  have hz2 := hs2.lt
  have b2 : Below w.heap.size w w2 := hb1.grown hg2 hb1.size (fun k hk => by simp at hk; omega)
  clear hs1 hb1
  go_wp2_with fail
  refine (give_any w.heap.size 5 28 _ 0 1 _ _ (nthI [0]) _ (hs2.below ((Below.refl _ _).alloc (Nat.le_refl _) _)) (fun _ => rfl) (by omega) (by decide) (fun j hj => lit_cells _ [0] j hj)).mono ?_
  rintro e w3 ⟨rfl, hs3, hg3⟩
  rw [ex3.1]
  rw [ex3.2] at hs3
  have hz3 := hs3.lt
  have b3 : Below w.heap.size w w3 := (b2.alloc b2.size _).grown hg3 (by simp; omega) (fun k hk => by simp at hk; omega)
  have ho3 := own_gr (ho2.alloc _) hg3 (by omega)
  clear hs2 ho2 b2
  go_wp2_with fail
  refine (take_ok w.heap.size 5 29 2 _ hs3 (by decide) (by rw [ex4]; decide)).mono ?_
  rintro e w4 ⟨rfl, ho4, hs4, hg4⟩
  rw [ex4] at ho4
  rw [ex5] at hs4
  have hz4 := hs4.lt
  have b4 : Below w.heap.size w w4 := b3.grown hg4 (by omega) (fun k hk => by simp at hk; omega)
  have ho3' := own_gr ho3 hg4 (by omega)
  clear hs3 ho3 b3
  go_wp2_with fail
  refine (same_b _ 0 2 _ _ 0 2 _ _ _ (nth [0, 1]) (nthI [0, 1]) _ (fun _ => rfl) (fun _ => rfl) (by decide) (by decide) (fun j hj => own_cells (ho3'.alloc _) j hj) (fun j hj => lit_cells _ [0, 1] j hj)).mono ?_
  rintro e w5 ⟨rfl, hb5⟩
  rw [ex8]
  have b45 := below_on (Below.alloc1 _ _) hb5 (by simp)
  have b5 := below_on b4 b45 (by omega)
  have hs5 := hs4.below b45
  have ho5 := own_below ho4 b45
  have hz5 := hs5.lt
  clear hb5 b45 b4 hs4 ho4 ho3'
  go_wp2_with fail
  refine (same_b _ 0 2 _ _ 0 2 _ _ _ (nth [0, 2]) (nthI [0, 2]) _ (fun _ => rfl) (fun _ => rfl) (by decide) (by decide) (fun j hj => own_cells (ho5.alloc _) j hj) (fun j hj => lit_cells _ [0, 2] j hj)).mono ?_
  rintro e w6 ⟨rfl, hb6⟩
  rw [ex9]
  have b56 := below_on (Below.alloc1 _ _) hb6 (by simp)
  have b6 := below_on b5 b56 (by omega)
  have hs6 := hs5.below b56
  have hz6 := hs6.lt
  clear hb6 b56 b5 hs5 ho5
  go_wp2_with fail
  refine (list_any w.heap.size 5 24 _ hs6).mono ?_
  rintro e w7 ⟨rfl, ho7, hb7⟩
  rw [ex6] at ho7 ⊢
  have b7 := below_on b6 hb7 (by omega)
  have hs7 := hs6.below hb7
  have hz7 := hs7.lt
  clear hb7 b6 hs6
  go_wp2_with fail
  refine (same_b _ 0 2 _ _ 0 2 _ _ _ (nth [3, 4]) (nthI [3, 4]) _ (fun _ => rfl) (fun _ => rfl) (by decide) (by decide) (fun j hj => own_cells (ho7.alloc _) j hj) (fun j hj => lit_cells _ [3, 4] j hj)).mono ?_
  rintro e w8 ⟨rfl, hb8⟩
  rw [ex10]
  have b78 := below_on (Below.alloc1 _ _) hb8 (by simp)
  have b8 := below_on b7 b78 (by omega)
  have hs8 := hs7.below b78
  have hz8 := hs8.lt
  clear hb8 b78 b7 hs7 ho7
  go_wp2_with fail
  refine (free_any w.heap.size 5 24 _ hs8).mono ?_
  rintro e w8' ⟨rfl, rfl⟩
  rw [ex6]
  go_wp2_with fail
  refine (claim_any w.heap.size 5 24 _ 0 2 _ _ (nthI [4, 3]) _ (hs8.below (Below.alloc1 _ _)) (fun _ => rfl) (by omega) (by decide) (fun j hj => lit_cells _ [4, 3] j hj)).mono ?_
  rintro e w9 ⟨rfl, hs9, hg9⟩
  rw [ex7]
  have b9 : Below w.heap.size w w9 := (b8.alloc (by omega) _).grown hg9 (by simp; omega) (fun k hk => by simp at hk; omega)
  go_wp2_with fail
  go_ret
  exact ⟨rfl, b9⟩

theorem names_any (w : World) (hT : Tab w) : Calls Tryd.prog 5 #[] w fun e w' => e = .returned (.bool true) ∧ Below w.heap.size w w' := by
  go_enter Tryd.func5, Tryd.ntmps5
  go_wp2_with (go_at_call 6; refine (shown_any _ hT).mono ?_; rintro e w1 ⟨rfl, hb1⟩)
  go_ret
  exact ⟨rfl, hb1⟩
end Go.Proofs.YtmfecocbadekhaaDoor
