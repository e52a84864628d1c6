/-
  LAYER 11: the reference's Lead, Bound, Most, Floor, Off (backfillref11).
  LAYER 11: package config: Lead, Bound, Most, Floor, Off; what the statements ask.
-/
import Derived.Test.YtjgllfpnmmopdaaGreatDoorCfEq
import Derived.Test.YtjgllfpnmmopdaaGreatDoorCpEq
namespace Go.Proofs.YtjgllfpnmmopdaaGreatDoor
open Go.RowKit Wd Cg

theorem chk_ok {c : Cf} (h : chkZ c = 0) : Rng c ∧ mZ c ≤ 2147483648 ∧ offN c * 1000 ≤ offD c * topZ c := by
  unfold chkZ at h
  by_cases r : Rng c
  · rw [if_neg (fun h => h r)] at h
    by_cases hm : 2147483648 < mZ c
    · rw [if_pos hm] at h; omega
    · rw [if_neg hm] at h
      by_cases ho : offD c * topZ c < offN c * 1000
      · rw [if_pos ho] at h; omega
      · exact ⟨r, by omega, by omega⟩
  · rw [if_pos r] at h; omega
theorem rFloor_no {c : Cf} (h : ¬ chkZ c = 0) (w : World) : Calls Tryz.prog 46 #[cfV c] w fun e w' => e = .returned (.int .u64 0) ∧ Below w.heap.size w w' := by
  have c1 := rcheck_any c
  generalize chkZ c = q at *
  unfold cfV at *
  have hS := St.new w c
  go_enter Tryz.func46, Tryz.ntmps46
  go_wp2_with fail
  refine (c1 _).mono ?_
  rintro e w1 ⟨rfl, b1⟩
  replace hS := keepW hS b1
  clear b1
  go_wp2
  go_ret
  exact ⟨rfl, hS.bel⟩
theorem rFloor_yes {c : Cf} (h : chkZ c = 0) (w : World) : Calls Tryz.prog 46 #[cfV c] w fun e w' => e = .returned (.int .u64 (cZ c * 4294967296)) ∧ Below w.heap.size w w' := by
  have c1 := rcheck_any c
  obtain ⟨r, hm, _⟩ := chk_ok h
  rw [h] at c1
  have c2 := rC_any r
  have hc := c_box r
  have hb := m_box r
  have e1 : IntKind.u64.wrap (cZ c) = cZ c := by rw [IntKind.wrap_u64]; omega
  have e2 : IntKind.u64.wrap (cZ c * 4294967296) = cZ c * 4294967296 := by rw [IntKind.wrap_u64]; omega
  clear hc hb hm
  generalize cZ c = L0 at *
  unfold cfV at *
  have hS := St.new w c
  go_enter Tryz.func46, Tryz.ntmps46
  go_wp2_with fail
  refine (c1 _).mono ?_
  rintro e w1 ⟨rfl, b1⟩
  replace hS := keepW hS b1
  clear b1
  obtain ⟨s0, s1, s2, s3, s4, s5, s6, s7, _, _⟩ := id hS
  go_wp2_with fail
  refine (c2 _).mono ?_
  rintro e w2 ⟨rfl, b2⟩
  replace hS := keepW hS b2
  clear b2 s0 s1 s2 s3 s4 s5 s6 s7
  go_wp2
  go_ret
  exact ⟨rfl, hS.bel⟩
end Go.Proofs.YtjgllfpnmmopdaaGreatDoor
namespace Go.Proofs.YtjgllfpnmmopdaaGreatDoor
open Go.RowKit Wd Cg

theorem pFloor_no {c : Cf} (h : ¬ chkZ c = 0) (w : World) : Calls Tryz.prog 72 #[cfV c] w fun e w' => e = .returned (.int .u64 0) ∧ Below w.heap.size w w' := by
  have c1 := pcheck_any c
  generalize chkZ c = q at *
  unfold cfV at *
  have hS := St.new w c
  go_enter Tryz.func72, Tryz.ntmps72
  go_wp2_with fail
  refine (c1 _).mono ?_
  rintro e w1 ⟨rfl, b1⟩
  replace hS := keepW hS b1
  clear b1
  go_wp2
  go_ret
  exact ⟨rfl, hS.bel⟩
theorem pFloor_yes {c : Cf} (h : chkZ c = 0) (w : World) : Calls Tryz.prog 72 #[cfV c] w fun e w' => e = .returned (.int .u64 (cZ c * 4294967296)) ∧ Below w.heap.size w w' := by
  have c1 := pcheck_any c
  obtain ⟨r, hm, _⟩ := chk_ok h
  rw [h] at c1
  have hc := c_box r
  have hb := m_box r
  have c2 := pcharge_any r
  have c3 := pusage_any (n := cZ c) (by omega) (by omega)
  clear hc hb hm
  generalize cZ c * 4294967296 = V0 at *
  generalize cZ c = L0 at *
  unfold cfV at *
  have hS := St.new w c
  go_enter Tryz.func72, Tryz.ntmps72
  go_wp2_with fail
  refine (c1 _).mono ?_
  rintro e w1 ⟨rfl, b1⟩
  replace hS := keepW hS b1
  clear b1
  obtain ⟨s0, s1, s2, s3, s4, s5, s6, s7, _, _⟩ := id hS
  go_wp2_with fail
  refine (c2 _).mono ?_
  rintro e w2 ⟨rfl, b2⟩
  replace hS := keepW hS b2
  clear b2 s0 s1 s2 s3 s4 s5 s6 s7
  obtain ⟨s0, s1, s2, s3, s4, s5, s6, s7, _, _⟩ := id hS
  go_wp2_with fail
  refine (c3 _).mono ?_
  rintro e w3 ⟨rfl, b3⟩
  replace hS := keepW hS b3
  clear b3 s0 s1 s2 s3 s4 s5 s6 s7
  go_wp2
  go_ret
  exact ⟨rfl, hS.bel⟩
theorem pFloor_any (c : Cf) (w : World) : Calls Tryz.prog 72 #[cfV c] w fun e w' => e = .returned (.int .u64 (if chkZ c = 0 then cZ c * 4294967296 else 0)) ∧ Below w.heap.size w w' := by
  by_cases h : chkZ c = 0
  · rw [if_pos h]
    exact pFloor_yes h w
  · rw [if_neg h]
    exact pFloor_no h w
end Go.Proofs.YtjgllfpnmmopdaaGreatDoor
