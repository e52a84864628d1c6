/-
  THE STATEMENT LadderTells, walked.
-/
import Derived.Test.YtbnokceagaodkaaDoorShown
import Derived.Test.YtbnokceagaodkaaDoorRefH
namespace Go.Proofs.YtbnokceagaodkaaDoor
open Go.RowKit Wd Ld

set_option maxHeartbeats 1000000 in
theorem tells_walk (e : Nat) (he : e < 18446744073709551616) (w : World) (hT : Tab w) : Calls Tryd.prog 4 #[.int .u64 e] w fun r w' => r = .returned (.bool true) ∧ Below w.heap.size w w' := by
  go_enter Tryd.func4, Tryd.ntmps4
  go_wp2_with fail
  refine (shown_any w hT).mono ?_
  rintro r w1 ⟨rfl, hb1⟩
  have hT1 := hT.below hb1
  go_wp2_with fail
  refine (bounds_any e he w1 hT1).mono ?_
  rintro r w2 ⟨rfl, hb2⟩
  have hT2 := hT1.below hb2
  go_wp2_with fail
  refine (rbounds_any e he w2).mono ?_
  rintro r w3 ⟨rfl, hb3⟩
  have hT3 := hT2.below hb3
  go_wp2_with fail
  refine (half_any e he w3 hT3).mono ?_
  rintro r w4 ⟨rfl, hb4⟩
  go_wp2_with fail
  refine (rhalf_any e he w4).mono ?_
  rintro r w5 ⟨rfl, hb5⟩
  go_wp2
  go_ret
  have z1 := hb1.size
  have z2 := hb2.size
  have z3 := hb3.size
  have z4 := hb4.size
  exact ⟨rfl, (((hb1.trans (hb2.mono z1)).trans (hb3.mono (by omega))).trans (hb4.mono (by omega))).trans (hb5.mono (by omega))⟩
theorem tells_int (x : Int) (hx : Word x) (w : World) (hT : Tab w) : Calls Tryd.prog 4 #[.int .u64 x] w fun r w' => r = .returned (.bool true) ∧ Below w.heap.size w w' := by
  obtain ⟨h0, h1⟩ := hx
  obtain ⟨e, rfl⟩ := Int.eq_ofNat_of_zero_le h0
  exact tells_walk e (by omega) w hT
end Go.Proofs.YtbnokceagaodkaaDoor
