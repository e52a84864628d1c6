/-
 LAYER 7: Bounds, the package's and the reference's (ported from stage 7).
-/
import Derived.Test.YtdkbmligaodpmaaGreatDoorLdrqz
namespace Go.Proofs.YtdkbmligaodpmaaGreatDoor
open Go.RowKit Wd Ld

set_option maxHeartbeats 1000000 in
theorem bounds_any (e : Nat) (he : e < 18446744073709551616) (w : World) (hT : Tab w) : Calls Tryz.prog 39 #[.int .u64 e] w fun r w' => r = .returned (.tuple #[.int .u64 (halfN e : Nat), .int .u64 (uppN e : Nat)]) ∧ Below w.heap.size w w' := by
 have ht := half_top e
 by_cases hc : halfN e + 81 ≤ 9223372036854775808
 ·have eu : ((uppN e : Nat) : Int) = ((halfN e : Nat) : Int) + 81 := by unfold uppN; omega
  rw [eu]
  clear eu
  go_enter Tryz.func39, Tryz.ntmps39
  go_wp2_with (go_at_call 82; refine (half_any e he _ hT).mono ?_; rintro e w1 ⟨rfl, hb1⟩)
  all_goals go_ret2
  all_goals exact ⟨rfl, hb1⟩
 ·have eu : ((uppN e : Nat) : Int) = 9223372036854775808 := by unfold uppN; omega
  rw [eu]
  clear eu
  go_enter Tryz.func39, Tryz.ntmps39
  go_wp2_with (go_at_call 82; refine (half_any e he _ hT).mono ?_; rintro e w1 ⟨rfl, hb1⟩)
  all_goals go_ret2
  all_goals exact ⟨rfl, hb1⟩
set_option maxHeartbeats 1000000 in
theorem rbounds_any (e : Nat) (he : e < 18446744073709551616) (w : World) : Calls Tryz.prog 44 #[.int .u64 e] w fun r w' => r = .returned (.tuple #[.int .u64 (halfN e : Nat), .int .u64 (uppN e : Nat)]) ∧ Below w.heap.size w w' := by
 have ht := half_top e
 by_cases hc : 9223372036854775727 < halfN e
 ·have eu : ((uppN e : Nat) : Int) = 9223372036854775808 := by unfold uppN; omega
  rw [eu]
  clear eu
  go_enter Tryz.func44, Tryz.ntmps44
  go_wp2_with (go_at_call 71; refine (rhalf_any e he _).mono ?_; rintro e w1 ⟨rfl, hb1⟩)
  all_goals go_ret2
  all_goals exact ⟨rfl, hb1⟩
 ·have eu : ((uppN e : Nat) : Int) = ((halfN e : Nat) : Int) + 81 := by unfold uppN; omega
  rw [eu]
  clear eu
  go_enter Tryz.func44, Tryz.ntmps44
  go_wp2_with (go_at_call 71; refine (rhalf_any e he _).mono ?_; rintro e w1 ⟨rfl, hb1⟩)
  all_goals go_ret2
  all_goals exact ⟨rfl, hb1⟩
end Go.Proofs.YtdkbmligaodpmaaGreatDoor
