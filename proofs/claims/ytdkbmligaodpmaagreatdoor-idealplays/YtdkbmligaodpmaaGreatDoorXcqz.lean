/-
 LAYER 11: the reference's Lead, Bound, Most, Floor, Off (backfillref11).
 LAYER 11: package config: Lead, Bound, Most, Floor, Off; what the statements ask.
-/
import Derived.Test.YtdkbmligaodpmaaGreatDoorCfEqz
import Derived.Test.YtdkbmligaodpmaaGreatDoorXcpz
namespace Go.Proofs.YtdkbmligaodpmaaGreatDoor
open Go.RowKit Wd Cg

theorem chk_ok {c : Cf} (h : chkZ c = 0) : Rng c ∧ mZ c ≤ 2147483648 ∧ offN c * 1000 ≤ offD c * topZ c := by
 unfold chkZ at h
 by_cases r : Rng c
 ·rw [if_neg (fun h => h r)] at h
  by_cases hm : 2147483648 < mZ c
  ·rw [if_pos hm] at h; omega
  ·rw [if_neg hm] at h
   by_cases ho : offD c * topZ c < offN c * 1000
   ·rw [if_pos ho] at h; omega
   ·exact ⟨r, by omega, by omega⟩
 ·rw [if_pos r] at h; omega
theorem rFloor_yes {c : Cf} (h : chkZ c = 0) (w : World) : Calls Tryz.prog 92 #[cfV c] w fun e w' => e = .returned (.int .u64 (cZ c * 4294967296)) ∧ Below w.heap.size w w' := by
 have c1 := rcheck_any c
 obtain ⟨r, hm, _⟩ := chk_ok h
 rw [h] at c1
 have c2 := rC_any r
 have hc := c_box r
 have hb := m_box r
 have e1 : IntKind.u64.wrap (cZ c) = cZ c := by rw [IntKind.wrap_u64]; omega
 have e2 : IntKind.u64.wrap (cZ c * 4294967296) = cZ c * 4294967296 := by rw [IntKind.wrap_u64]; omega
 clear hc hb hm
 generalize cZ c = L0 at *
 unfold cfV at *
 have hS := St.new w c
 go_enter Tryz.func92, Tryz.ntmps92
 go_wp2_with fail
 refine (c1 _).mono ?_
 rintro e w1 ⟨rfl, b1⟩
 replace hS := keepW hS b1
 clear b1
 obtain ⟨s0, s1, s2, s3, s4, s5, s6, s7, _, _⟩ := id hS
 go_wp2_with fail
 refine (c2 _).mono ?_
 rintro e w2 ⟨rfl, b2⟩
 replace hS := keepW hS b2
 clear b2 s0 s1 s2 s3 s4 s5 s6 s7
 go_wp2
 go_ret
 exact ⟨rfl, hS.bel⟩
theorem rOff_yes {c : Cf} (h : chkZ c = 0) (w : World) : Calls Tryz.prog 26 #[cfV c] w fun e w' => e = .returned (.tuple #[nu (offN c), nu (offD c)]) ∧ Below w.heap.size w w' := by
 have c1 := rcheck_any c
 obtain ⟨r, hm, _⟩ := chk_ok h
 rw [h] at c1
 have c2 := roff_any r hm
 clear hm
 generalize offN c = N0 at *
 generalize offD c = D0 at *
 unfold cfV at *
 go_enter Tryz.func26, Tryz.ntmps26
 go_wp2_with fail
 obtain ⟨v0, hv0⟩ : ∃ v0 : World, v0 = ((w.alloc (.cells #[.int .i64 c.nodes, .int .i64 c.queue, .int .i64 c.limit, .int .i64 c.age, .int .i64 c.fair, .int .i64 c.size, .int .i64 c.period, .int .i64 c.half] 23)).alloc (.cells #[.int .u64 0, .int .u64 0] 68)).alloc (.cells #[.int .u64 0, .int .u64 0] 68) := ⟨_, rfl⟩
 have hS : St w w.heap.size c v0 := by rw [hv0]; exact keepW (keepW (St.new w c) ((Below.refl _ _).alloc (Nat.le_refl _) _)) ((Below.refl _ _).alloc (Nat.le_refl _) _)
 have t2 : Two v0 (w.heap.size + 1) 0 := by rw [hv0]; exact ⟨by simp [go_sem]; rfl, by simp [go_sem]; rfl, by simp [go_sem], by simp [go_sem]⟩
 have t3 : Two v0 (w.heap.size + 1 + 1) 0 := by rw [hv0]; exact ⟨by simp [go_sem]; rfl, by simp [go_sem]; rfl, by simp [go_sem], by simp [go_sem]⟩
 rw [← hv0]
 clear hv0
 refine (c1 _).mono ?_
 rintro e w1 ⟨rfl, b1⟩
 replace hS := keepW hS b1
 replace t2 := t2.keep b1
 replace t3 := t3.keep b1
 clear b1
 obtain ⟨s0, s1, s2, s3, s4, s5, s6, s7, _, _⟩ := id hS
 go_wp2_with fail
 refine (c2 _).mono ?_
 rintro e w2 ⟨rfl, b2⟩
 replace hS := keepW hS b2
 replace t2 := t2.keep b2
 replace t3 := t3.keep b2
 clear b2 s0 s1 s2 s3 s4 s5 s6 s7
 obtain ⟨p0, p1, p2, p3⟩ := id t2
 obtain ⟨u0, u1, u2, u3⟩ := id t3
 have B1 := hS.bel
 clear hS t2 t3
 go_wp2
 refine bodyPost_ret (v := .tuple #[nu N0, nu D0]) (by simp [results, Tryz.results26, go_sem, p0, p1, u0, u1]) rfl ⟨rfl, ?_⟩
 exact (((B1.setCell (by simp) _).setCell (by simp) _).setCell (by simp; omega) _).setCell (by simp; omega) _
end Go.Proofs.YtdkbmligaodpmaaGreatDoor
namespace Go.Proofs.YtdkbmligaodpmaaGreatDoor
open Go.RowKit Wd Cg

theorem pFloor_yes {c : Cf} (h : chkZ c = 0) (w : World) : Calls Tryz.prog 40 #[cfV c] w fun e w' => e = .returned (.int .u64 (cZ c * 4294967296)) ∧ Below w.heap.size w w' := by
 have c1 := pcheck_any c
 obtain ⟨r, hm, _⟩ := chk_ok h
 rw [h] at c1
 have hc := c_box r
 have hb := m_box r
 have c2 := pcharge_any r
 have c3 := pusage_any (n := cZ c) (by omega) (by omega)
 clear hc hb hm
 generalize cZ c * 4294967296 = V0 at *
 generalize cZ c = L0 at *
 unfold cfV at *
 have hS := St.new w c
 go_enter Tryz.func40, Tryz.ntmps40
 go_wp2_with fail
 refine (c1 _).mono ?_
 rintro e w1 ⟨rfl, b1⟩
 replace hS := keepW hS b1
 clear b1
 obtain ⟨s0, s1, s2, s3, s4, s5, s6, s7, _, _⟩ := id hS
 go_wp2_with fail
 refine (c2 _).mono ?_
 rintro e w2 ⟨rfl, b2⟩
 replace hS := keepW hS b2
 clear b2 s0 s1 s2 s3 s4 s5 s6 s7
 obtain ⟨s0, s1, s2, s3, s4, s5, s6, s7, _, _⟩ := id hS
 go_wp2_with fail
 refine (c3 _).mono ?_
 rintro e w3 ⟨rfl, b3⟩
 replace hS := keepW hS b3
 clear b3 s0 s1 s2 s3 s4 s5 s6 s7
 go_wp2
 go_ret
 exact ⟨rfl, hS.bel⟩
end Go.Proofs.YtdkbmligaodpmaaGreatDoor
