/-
  THE CONTRACTS OF PACKAGE ladder: Half, Bounds.
-/
import Derived.Test.YtpiceckolcakaaaDoorLadS
namespace Go.Proofs.YtpiceckolcakaaaDoor
open Go.RowKit Wd Ld

namespace Ld
theorem half_zero {e : Nat} (h : 63 ≤ e / 4294967296) : halfN e = 0 := by unfold halfN; rw [if_pos h]
theorem half_some {e : Nat} (h : ¬ 63 ≤ e / 4294967296) : ((halfN e : Nat) : Int) = ((steps (e % 4294967296) 32 : Nat) : Int) / 2 ^ (e / 4294967296) := by
  unfold halfN; rw [if_neg h, Int.natCast_ediv, Int.natCast_pow]; rfl
end Ld

set_option maxHeartbeats 1000000 in
theorem half_any (e : Nat) (he : e < 18446744073709551616) (w : World) (hT : Tab w) : Calls Tryd.prog 18 #[.int .u64 e] w fun r w' => r = .returned (.int .u64 (halfN e : Nat)) ∧ Below w.heap.size w w' := by
  have hq : (e : Int) / 4294967296 = ((e / 4294967296 : Nat) : Int) := by omega
  have hm : (e : Int) % 4294967296 = ((e % 4294967296 : Nat) : Int) := by omega
  have hn : e / 4294967296 < 4294967296 := by omega
  have hf : e % 4294967296 < 4294967296 := Nat.mod_lt _ (by decide)
  by_cases h : 63 ≤ e / 4294967296
  · rw [half_zero h]
    clear hf hm
    generalize e / 4294967296 = n at *
    go_enter Tryd.func18, Tryd.ntmps18
    go_wp2
    go_ret
    exact ⟨rfl, Below.refl _ _⟩
  · rw [half_some h]
    generalize e / 4294967296 = n at *
    generalize e % 4294967296 = f at *
    go_enter Tryd.func18, Tryd.ntmps18
    go_wp2_with (go_at_call 29; refine (stepped_any f hf _ hT).mono ?_; rintro e w1 ⟨rfl, hb1⟩)
    go_ret
    exact ⟨rfl, hb1⟩

end Go.Proofs.YtpiceckolcakaaaDoor
