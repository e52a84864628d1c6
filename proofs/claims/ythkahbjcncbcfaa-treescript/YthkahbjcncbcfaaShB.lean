/-
  shown.
-/
import Derived.Test.YthkahbjcncbcfaaShA
namespace Go.Proofs.Ythkahbjcncbcfaa
open Go.RowKit Tr

set_option maxHeartbeats 4000000 in
set_option maxRecDepth 20000 in
theorem shown_any (w : World) : Calls Try.prog 8 #[] w fun e w' => e = .returned (.bool true) ∧ Below w.heap.size w w' := by
  go_enter Try.func8, Try.ntmps8
  go_wp2_with fail
  refine (tnew w).mono ?_
  rintro e w1 ⟨t, rfl, t1, b1⟩
  have hA1 := tadd t1 wf_new (nm := sA) (pn := rootName) (by decide) (by decide) 3
  rw [sh1] at hA1
  have s1 := b1.size
  clear t1
  go_wp2_with fail
  refine hA1.mono ?_
  rintro e w2 ⟨rfl, t2, c2⟩
  have b2 := b1.trans (c2.lo s1)
  have t2' := t2.ext s1
  have s2 := b2.size
  have hA2 := tadd t2' shW1 (nm := sB) (pn := sA) (by decide) (by decide) 1
  rw [sh2] at hA2
  clear t2 t2' c2 hA1
  go_wp2_with fail
  refine hA2.mono ?_
  rintro e w3 ⟨rfl, t3, c3⟩
  have b3 := b2.trans (c3.lo s2)
  have t3' := t3.ext s2
  have s3 := b3.size
  have hA3 := tadd t3' shW2 (nm := sA) (pn := rootName) (by decide) (by decide) 1
  rw [sh3] at hA3
  clear t3 t3' c3 hA2
  go_wp2_with fail
  refine hA3.mono ?_
  rintro e w4 ⟨rfl, t4, c4⟩
  have b4 := b3.trans (c4.lo s3)
  have t4' := t4.ext s3
  have s4 := b4.size
  have hL := tlen t4'
  have hD := tdepth t4' shW2 2
  have hB := tbelow t4' shW2 1
  rw [sh6] at hD
  rw [sh4] at hB
  clear t4 c4 hA3
  have T4 : Hid (Tree (fun j => w.heap.size ≤ j) w4 t shL2 (kidB shL2)) := t4'
  clear t4'
  simp only [shL2, List.length_cons, List.length_nil] at hL
  go_wp2_with fail
  refine hL.mono ?_
  rintro e w5 ⟨rfl, rfl⟩
  go_wp2_with fail
  refine hD.mono ?_
  rintro e w5 ⟨rfl, rfl⟩
  go_wp2_with fail
  refine hB.mono ?_
  rintro e w5 ⟨v5, rfl, r5, b5⟩
  have i5 := row_ints r5
  obtain ⟨ao, c, rfl⟩ := sl_shape r5
  clear hL hD hB
  obtain ⟨w6, hw6⟩ : ∃ w6, w5.alloc (.cells #[.int .i64 1, .int .i64 2] 3) = w6 := ⟨_, rfl⟩
  have b6 : Below w5.heap.size w5 w6 := by rw [← hw6]; exact (Below.refl _ w5).alloc (Nat.le_refl _) _
  have i6 : IntsAt w6 (.slice (some ⟨w5.heap.size, 0, none⟩) 2 2) [1, 2] := by
    refine ⟨_, 2, w5.heap.size, rfl, fun _ => rfl, fun k x hx => ?_⟩
    rw [← hw6]
    refine cells_at (heap_alloc_new w5 _) ?_
    match k, hx with
    | 0, hx => simp at hx; subst hx; rfl
    | 1, hx => simp at hx; subst hx; rfl
    | k + 2, hx => simp at hx
  have hN := numbers_yes (i5.below b6) i6 (by decide)
  clear i5 i6 r5
  go_wp2_with fail
  refine hN.mono ?_
  rintro e w7 ⟨rfl, b7⟩
  have b57 := (b5.trans ((b6.trans (b7.mono b6.size)).mono b5.size))
  have hM := tmove (Tree.below T4.out b57) shW2 (nm := sA) (pn := sB) (by decide) (by decide)
  rw [sh5] at hM
  have s7 := Nat.le_trans s4 b57.size
  clear hN
  go_wp2_with fail
  refine hM.mono ?_
  rintro e w8 ⟨rfl, t8, c8⟩
  have hC := tclone (t8.ext s7) shW2
  have b8 := (b4.trans (b57.mono s4)).trans (c8.lo s7)
  clear hM t8 c8
  go_wp2_with fail
  refine hC.mono ?_
  rintro e w9 ⟨t9, rfl, _, b9⟩
  go_wp2
  go_ret
  exact ⟨rfl, b8.trans (b9.mono b8.size)⟩
end Go.Proofs.Ythkahbjcncbcfaa
