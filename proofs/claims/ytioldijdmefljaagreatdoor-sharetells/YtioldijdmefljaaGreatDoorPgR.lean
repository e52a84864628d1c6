/-
  Package tree: the root.
-/
import Derived.Test.YtioldijdmefljaaGreatDoorPgA
namespace Go.Proofs.YtioldijdmefljaaGreatDoor
open Go.RowKit Tr

set_option maxRecDepth 20000 in
set_option maxHeartbeats 1000000 in
theorem root_any (w : World) : Calls Tryz.prog 96 #[] w fun e w' => e = .returned (acV rootAc) ∧ Below w.heap.size w w' := by
  go_enter Tryz.func96, Tryz.ntmps96
  go_wp2
  exact bodyPost_ret (v := acV rootAc) (by simp [results, Tryz.results96, go_sem, acV, rootAc, rootName]) rfl ⟨rfl, (Below.refl _ w).alloc (Nat.le_refl _) _⟩

set_option maxRecDepth 20000 in
set_option maxHeartbeats 1000000 in
theorem isRoot_any (a : Ac) (w : World) : Calls Tryz.prog 68 #[acV a] w fun e w' => e = .returned (.bool (isRoot a)) ∧ Below w.heap.size w w' := by
  have hr := fun w1 => root_any w1
  obtain ⟨nm, pa, sh, cl, us⟩ := a
  unfold acV at hr ⊢
  simp only [rootAc] at hr
  unfold isRoot
  simp only
  obtain ⟨wb, hwb⟩ : ∃ wb, w.alloc (.cells #[.string nm, .int .i64 pa, .int .i64 sh, .bool cl, .int .u64 0] 32) = wb := ⟨_, rfl⟩
  have y := heap_alloc_new w (.cells #[.string nm, .int .i64 pa, .int .i64 sh, .bool cl, .int .u64 0] 32)
  have bb : Below w.heap.size w wb := by rw [← hwb]; exact (Below.refl _ w).alloc (Nat.le_refl _) _
  rw [hwb] at y
  obtain ⟨⟨z0, z1, z2, z3, z4⟩, _⟩ := cells5 y
  have hlt : w.heap.size < wb.heap.size := (Array.getElem?_eq_some_iff.1 y).1
  have HY : Hid _ := y
  clear y
  have fin : ∀ w1, Below wb.drew.heap.size wb.drew w1 → Below w.heap.size w w1 := fun w1 b => bb.trans (⟨b.os, b.tape, b.output, b.size, fun k hk => b.block k (Nat.lt_of_lt_of_le hk bb.size)⟩ : Below w.heap.size wb w1)
  have kp : ∀ w1, Below wb.drew.heap.size wb.drew w1 → (w1.cell? ⟨w.heap.size, 0, none⟩ = some (.string nm) ∧ w1.cell? ⟨w.heap.size, 1, none⟩ = some (.int .i64 pa) ∧ w1.cell? ⟨w.heap.size, 2, none⟩ = some (.int .i64 sh) ∧ w1.cell? ⟨w.heap.size, 3, none⟩ = some (.bool cl) ∧ w1.cell? ⟨w.heap.size, 4, none⟩ = some (.int .u64 0)) := fun w1 b => (cells5 ((b.block _ hlt).trans HY.out)).1
  have FIN : Hid _ := fin
  have KP : Hid _ := kp
  clear fin kp
  by_cases h1 : nm = rootName
  · have f1 : (nm.toList == rootName.toList) = true := ba_eq h1
    by_cases h2 : pa = -1
    · by_cases h3 : sh = 1
      · rw [decide_eq_true h1, decide_eq_true h2, decide_eq_true h3]
        have f2 : (pa == -1) = true := by simp [h2]
        have f3 : (sh == 1) = true := by simp [h3]
        clear h1 h2 h3
        cases cl with
        | true =>
          go_enter Tryz.func68, Tryz.ntmps68
          go_wp2_with fail
          go_region_with (first | (go_at_call 96; refine (hr _).mono ?_; rintro e w1 ⟨rfl, b1⟩; obtain ⟨x0, x1, x2, x3, x4⟩ := KP.out _ b1))
          all_goals (go_wp2; go_ret)
          all_goals exact ⟨rfl, FIN.out _ b1⟩
        | false =>
          go_enter Tryz.func68, Tryz.ntmps68
          go_wp2_with fail
          go_region_with (first | (go_at_call 96; refine (hr _).mono ?_; rintro e w1 ⟨rfl, b1⟩; obtain ⟨x0, x1, x2, x3, x4⟩ := KP.out _ b1))
          all_goals (go_wp2; go_ret)
          all_goals exact ⟨rfl, FIN.out _ b1⟩
      · have f2 : (pa == -1) = true := by simp [h2]
        have f3 : (sh == 1) = false := by simp [h3]
        rw [decide_eq_true h1, decide_eq_true h2, decide_eq_false h3]
        clear h1 h2 h3
        go_enter Tryz.func68, Tryz.ntmps68
        go_wp2_with fail
        go_region_with (first | (go_at_call 96; refine (hr _).mono ?_; rintro e w1 ⟨rfl, b1⟩; obtain ⟨x0, x1, x2, x3, x4⟩ := KP.out _ b1))
        all_goals (go_wp2; go_ret)
        all_goals exact ⟨rfl, FIN.out _ b1⟩
    · have f2 : (pa == -1) = false := by simp [h2]
      rw [decide_eq_true h1, decide_eq_false h2]
      clear h1 h2
      go_enter Tryz.func68, Tryz.ntmps68
      go_wp2_with fail
      go_region_with (first | (go_at_call 96; refine (hr _).mono ?_; rintro e w1 ⟨rfl, b1⟩; obtain ⟨x0, x1, x2, x3, x4⟩ := KP.out _ b1))
      all_goals (go_wp2; go_ret)
      all_goals exact ⟨rfl, FIN.out _ b1⟩
  · have f1 : (nm.toList == rootName.toList) = false := ba_ne h1
    rw [decide_eq_false h1]
    clear h1
    go_enter Tryz.func68, Tryz.ntmps68
    go_wp2_with fail
    go_region_with (first | (go_at_call 96; refine (hr _).mono ?_; rintro e w1 ⟨rfl, b1⟩; obtain ⟨x0, x1, x2, x3, x4⟩ := KP.out _ b1))
    all_goals (go_wp2; go_ret)
    all_goals exact ⟨rfl, FIN.out _ b1⟩
end Go.Proofs.YtioldijdmefljaaGreatDoor
