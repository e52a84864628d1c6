/-
  THE STATEMENTS' HEAD: the document's examples.
-/
import Derived.Test.YtbnokceagaodkaaDoorLadH
namespace Go.Proofs.YtbnokceagaodkaaDoor
open Go.RowKit Wd Ld
namespace Ld
theorem half_a : halfN 0 = 9223372036854775808 := by decide
theorem half_b : halfN 2147483648 = 6521908912666391106 := by decide
theorem half_c : halfN 266287972352 = 2 := by decide
theorem half_d : halfN 18446744073709551615 = 0 := by decide
theorem upp_d : uppN 18446744073709551615 = 81 := by decide
end Ld
theorem half_lit (e v : Nat) (he : e < 18446744073709551616) (hv : halfN e = v) (w : World) (hT : Tab w) : Calls Tryd.prog 14 #[.int .u64 (Int.ofNat e)] w fun r w' => r = .returned (.int .u64 (Int.ofNat v)) ∧ Below w.heap.size w w' := by
  subst hv; exact half_any e he w hT

set_option maxHeartbeats 1000000 in
theorem shown_any (w : World) (hT : Tab w) : Calls Tryd.prog 7 #[] w fun r w' => r = .returned (.bool true) ∧ Below w.heap.size w w' := by
  have c1 : Calls Tryd.prog 12 #[.int .u64 18446744073709551615] w fun r w' => r = .returned (.tuple #[.int .u64 0, .int .u64 81]) ∧ Below w.heap.size w w' := by
    have h := bounds_any 18446744073709551615 (by decide) w hT
    rw [half_d, upp_d] at h
    exact h
  go_enter Tryd.func7, Tryd.ntmps7
  go_wp2_with fail
  refine c1.mono ?_
  rintro e w1 ⟨rfl, hb1⟩
  have hT1 := hT.below hb1
  go_wp2_with fail
  refine (rung_any 1 w1 hT1).mono ?_
  rintro e w2 ⟨rfl, rfl⟩
  have r1 : rungV 1 = 13043817825332782212 := by decide
  rw [r1]
  go_wp2_with fail
  refine (rung_any 33 w2 hT1).mono ?_
  rintro e w3 ⟨rfl, rfl⟩
  have r2 : rungV 33 = 0 := by decide
  rw [r2]
  go_wp2_with fail
  refine (half_lit 0 _ (by decide) half_a w3 hT1).mono ?_
  rintro e w4 ⟨rfl, hb4⟩
  have hT4 := hT1.below hb4
  go_wp2_with fail
  refine (half_lit 2147483648 _ (by decide) half_b w4 hT4).mono ?_
  rintro e w5 ⟨rfl, hb5⟩
  have hT5 := hT4.below hb5
  go_wp2_with fail
  refine (half_lit 266287972352 _ (by decide) half_c w5 hT5).mono ?_
  rintro e w6 ⟨rfl, hb6⟩
  go_wp2
  go_ret
  exact ⟨rfl, ((hb1.trans (hb4.mono hb1.size)).trans (hb5.mono (Nat.le_trans hb1.size hb4.size))).trans (hb6.mono (Nat.le_trans (Nat.le_trans hb1.size hb4.size) hb5.size))⟩
end Go.Proofs.YtbnokceagaodkaaDoor
