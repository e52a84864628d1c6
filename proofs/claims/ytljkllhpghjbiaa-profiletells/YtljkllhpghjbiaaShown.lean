/-
  Layer 5's statements' head: shown.
-/
import Derived.Test.YtljkllhpghjbiaaPfQ
namespace Go.Proofs.Ytljkllhpghjbiaa
open Go.RowKit Pr

def runs3 : List Rn := [⟨3, 6⟩, ⟨1, 9⟩, ⟨2, 6⟩]
theorem runs_any (w : World) : Calls Try.prog 18 #[] w fun e w' => e = .returned (.slice (some ⟨w.heap.size, 0, none⟩) 3 3) ∧ RunsAt w' (some ⟨w.heap.size, 0, none⟩) runs3 ∧ Below w.heap.size w w' := by
  go_enter Try.func18, Try.ntmps18
  go_wp2
  go_ret
  refine ⟨rfl, ⟨w.heap.size, 0, fun _ => rfl, fun k r hr => ?_⟩, (Below.refl _ _).alloc (Nat.le_refl _) _⟩
  match k, hr with
  | 0, hr => simp [runs3] at hr; subst hr; simp
  | 1, hr => simp [runs3] at hr; subst hr; simp
  | 2, hr => simp [runs3] at hr; subst hr; simp
  | k + 3, hr => simp [runs3] at hr

theorem ex_steps : stepsV 1 2 runs3 = [⟨1, 2⟩, ⟨6, 7⟩, ⟨9, 8⟩] := by rfl
theorem ex_sh3 : shA 3 (shadowV 1 2 runs3 3) = .tuple #[.int .i64 6, .int .i64 4, .bool true] := by rfl
theorem ex_sh9 : shA 9 (shadowV 1 2 runs3 9) = .tuple #[.int .i64 0, .int .i64 0, .bool false] := by rfl
theorem ex_at : AtV 1 2 runs3 100 = 8 := by decide +kernel

theorem func_nil (fn : Nat) (cs : Array Value) (w : World) : (binOp .eql 38 (.func (.func fn) #[] cs) .nilFunc).run Try.prog w = .ok (.bool false) w := rfl
attribute [local go_sem] func_nil

set_option maxHeartbeats 2000000 in
theorem shown_any (w : World) : Calls Try.prog 7 #[] w fun e w' => e = .returned (.bool true) ∧ Below w.heap.size w w' := by
  go_enter Try.func7, Try.ntmps7
  have HB : Below w.heap.size w w := Below.refl _ _
  go_wp2_with fail
  refine (runs_any _).mono ?_
  rintro e w1 ⟨rfl, r1, b1⟩
  replace HB := HB.trans (b1.mono HB.size)
  clear b1
  go_wp2_with fail
  refine (all_any (l := runs3) r1 (by decide) 1 2).mono ?_
  rintro e w2 ⟨v2, rfl, ⟨fn, cs, D, rfl, heg, hS2, hD⟩, b2⟩
  clear heg hS2 hD
  replace HB := HB.trans (b2.mono HB.size)
  clear b2 r1
  go_wp2_with fail
  refine (runs_any _).mono ?_
  rintro e w3 ⟨rfl, r3, b3⟩
  replace HB := HB.trans (b3.mono HB.size)
  clear b3
  go_wp2_with fail
  refine (psteps_any (l := runs3) r3 (by decide) 1 2).mono ?_
  rw [ex_steps]
  rintro e w4 ⟨v, rfl, hrow, b4⟩
  replace HB := HB.trans (b4.mono HB.size)
  clear b4 r3
  have hst := stepsAt_row (l := [⟨1, 2⟩, ⟨6, 7⟩, ⟨9, 8⟩]) hrow
  clear hrow
  obtain ⟨ao, cap, g, rfl, hg, hc⟩ := hst
  obtain rfl := hg (by decide)
  obtain ⟨c1, c2⟩ := hc 1 ⟨6, 7⟩ rfl
  simp only [List.length_cons, List.length_nil] at *
  clear hc hg
  go_wp2_with fail
  refine (runs_any _).mono ?_
  rintro e w5 ⟨rfl, r5, b5⟩
  replace HB := HB.trans (b5.mono HB.size)
  replace c1 := (b5.cell (World.block_lt_of_cell? _ _ c1)).trans c1
  replace c2 := (b5.cell (World.block_lt_of_cell? _ _ c2)).trans c2
  clear b5
  go_wp2_with fail
  refine (pshadow_any (l := runs3) r5 (by decide) 1 2 3).mono ?_
  rw [ex_sh3]
  rintro e w6 ⟨rfl, b6⟩
  replace HB := HB.trans (b6.mono HB.size)
  replace c1 := (b6.cell (World.block_lt_of_cell? _ _ c1)).trans c1
  replace c2 := (b6.cell (World.block_lt_of_cell? _ _ c2)).trans c2
  clear b6 r5
  go_wp2_with fail
  refine (runs_any _).mono ?_
  rintro e w7 ⟨rfl, r7, b7⟩
  replace HB := HB.trans (b7.mono HB.size)
  replace c1 := (b7.cell (World.block_lt_of_cell? _ _ c1)).trans c1
  replace c2 := (b7.cell (World.block_lt_of_cell? _ _ c2)).trans c2
  clear b7
  go_wp2_with fail
  refine (pshadow_any (l := runs3) r7 (by decide) 1 2 9).mono ?_
  rw [ex_sh9]
  rintro e w8 ⟨rfl, b8⟩
  replace HB := HB.trans (b8.mono HB.size)
  replace c1 := (b8.cell (World.block_lt_of_cell? _ _ c1)).trans c1
  replace c2 := (b8.cell (World.block_lt_of_cell? _ _ c2)).trans c2
  clear b8 r7
  go_wp2_with fail
  refine (runs_any _).mono ?_
  rintro e w9 ⟨rfl, r9, b9⟩
  replace HB := HB.trans (b9.mono HB.size)
  replace c1 := (b9.cell (World.block_lt_of_cell? _ _ c1)).trans c1
  replace c2 := (b9.cell (World.block_lt_of_cell? _ _ c2)).trans c2
  clear b9
  go_wp2_with fail
  refine (pat_any (l := runs3) r9 (by decide) 1 2 100).mono ?_
  rw [ex_at]
  rintro e wz ⟨rfl, bz⟩
  replace HB := HB.trans (bz.mono HB.size)
  go_wp2
  go_ret
  exact ⟨rfl, HB⟩
end Go.Proofs.Ytljkllhpghjbiaa
