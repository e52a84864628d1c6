/-
  LAYER 11: the reference's Lead, Bound, Most, Floor, Off (backfillref11).
-/
import Derived.Test.YtjgllfpnmmopdaaCfE
namespace Go.Proofs.Ytjgllfpnmmopdaa
open Go.RowKit Wd Cg

theorem chk_ok {c : Cf} (h : chkZ c = 0) : Rng c ∧ mZ c ≤ 2147483648 ∧ offN c * 1000 ≤ offD c * topZ c := by
  unfold chkZ at h
  by_cases r : Rng c
  · rw [if_neg (fun h => h r)] at h
    by_cases hm : 2147483648 < mZ c
    · rw [if_pos hm] at h; omega
    · rw [if_neg hm] at h
      by_cases ho : offD c * topZ c < offN c * 1000
      · rw [if_pos ho] at h; omega
      · exact ⟨r, by omega, by omega⟩
  · rw [if_pos r] at h; omega
theorem rLead_no {c : Cf} (h : ¬ chkZ c = 0) (w : World) : Calls Try.prog 15 #[cfV c] w fun e w' => e = .returned (.int .i64 0) ∧ Below w.heap.size w w' := by
  have c1 := rcheck_any c
  generalize chkZ c = q at *
  unfold cfV at *
  have hS := St.new w c
  go_enter Try.func15, Try.ntmps15
  go_wp2_with fail
  refine (c1 _).mono ?_
  rintro e w1 ⟨rfl, b1⟩
  replace hS := keepW hS b1
  clear b1
  go_wp2
  go_ret
  exact ⟨rfl, hS.bel⟩
theorem rLead_yes {c : Cf} (h : chkZ c = 0) (w : World) : Calls Try.prog 15 #[cfV c] w fun e w' => e = .returned (.int .i64 (leadZ c)) ∧ Below w.heap.size w w' := by
  have c1 := rcheck_any c
  obtain ⟨r, hm, _⟩ := chk_ok h
  rw [h] at c1
  have c2 := rlead_any r
  generalize leadZ c = L0 at *
  unfold cfV at *
  have hS := St.new w c
  go_enter Try.func15, Try.ntmps15
  go_wp2_with fail
  refine (c1 _).mono ?_
  rintro e w1 ⟨rfl, b1⟩
  replace hS := keepW hS b1
  clear b1
  obtain ⟨s0, s1, s2, s3, s4, s5, s6, s7, _, _⟩ := id hS
  go_wp2_with fail
  refine (c2 _).mono ?_
  rintro e w2 ⟨rfl, b2⟩
  replace hS := keepW hS b2
  clear b2 s0 s1 s2 s3 s4 s5 s6 s7
  go_wp2
  go_ret
  exact ⟨rfl, hS.bel⟩
end Go.Proofs.Ytjgllfpnmmopdaa
