/-
  TEXTS: CfF.
-/
import Derived.Test.YtceoibfliggalaaGreatDoorKv12
namespace Go.Proofs.YtceoibfliggalaaGreatDoor
open Go.RowKit Wd Cg
theorem chk_ok {c : Cf} (h : chkZ c = 0) : Rng c ∧ mZ c ≤ 2147483648 ∧ offN c * 1000 ≤ offD c * topZ c := by
 unfold chkZ at h
 by_cases r : Rng c
 ·rw [if_neg (fun h => h r)] at h
  by_cases hm : 2147483648 < mZ c
  ·rw [if_pos hm] at h; omega
  ·rw [if_neg hm] at h
   by_cases ho : offD c * topZ c < offN c * 1000
   ·rw [if_pos ho] at h; omega
   ·exact ⟨r, by omega, by omega⟩
 ·rw [if_pos r] at h; omega
end Go.Proofs.YtceoibfliggalaaGreatDoor
