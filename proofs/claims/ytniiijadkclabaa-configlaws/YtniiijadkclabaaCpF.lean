/-
  LAYER 11: package config: Lead, Bound, Most, Floor, Off; what the statements ask.
-/
import Derived.Test.YtniiijadkclabaaCpE
import Derived.Test.YtniiijadkclabaaClA
namespace Go.Proofs.Ytniiijadkclabaa
open Go.RowKit Wd Cg

theorem pLead_no {c : Cf} (h : ¬ chkZ c = 0) (w : World) : Calls Try.prog 11 #[cfV c] w fun e w' => e = .returned (.int .i64 0) ∧ Below w.heap.size w w' := by
  have c1 := pcheck_any c
  generalize chkZ c = q at *
  unfold cfV at *
  have hS := St.new w c
  go_enter Try.func11, Try.ntmps11
  go_wp2_with fail
  refine (c1 _).mono ?_
  rintro e w1 ⟨rfl, b1⟩
  replace hS := keepW hS b1
  clear b1
  go_wp2
  go_ret
  exact ⟨rfl, hS.bel⟩
theorem pLead_yes {c : Cf} (h : chkZ c = 0) (w : World) : Calls Try.prog 11 #[cfV c] w fun e w' => e = .returned (.int .i64 (leadZ c)) ∧ Below w.heap.size w w' := by
  have c1 := pcheck_any c
  obtain ⟨r, hm, _⟩ := chk_ok h
  rw [h] at c1
  have c2 := plead_any r
  generalize leadZ c = L0 at *
  unfold cfV at *
  have hS := St.new w c
  go_enter Try.func11, Try.ntmps11
  go_wp2_with fail
  refine (c1 _).mono ?_
  rintro e w1 ⟨rfl, b1⟩
  replace hS := keepW hS b1
  clear b1
  obtain ⟨s0, s1, s2, s3, s4, s5, s6, s7, _, _⟩ := id hS
  go_wp2_with fail
  refine (c2 _).mono ?_
  rintro e w2 ⟨rfl, b2⟩
  replace hS := keepW hS b2
  clear b2 s0 s1 s2 s3 s4 s5 s6 s7
  go_wp2
  go_ret
  exact ⟨rfl, hS.bel⟩
theorem pLead_any (c : Cf) (w : World) : Calls Try.prog 11 #[cfV c] w fun e w' => e = .returned (.int .i64 (if chkZ c = 0 then leadZ c else 0)) ∧ Below w.heap.size w w' := by
  by_cases h : chkZ c = 0
  · rw [if_pos h]
    exact pLead_yes h w
  · rw [if_neg h]
    exact pLead_no h w
theorem pBound_no {c : Cf} (h : ¬ chkZ c = 0) (w : World) : Calls Try.prog 13 #[cfV c] w fun e w' => e = .returned (.int .i64 0) ∧ Below w.heap.size w w' := by
  have c1 := pcheck_any c
  generalize chkZ c = q at *
  unfold cfV at *
  have hS := St.new w c
  go_enter Try.func13, Try.ntmps13
  go_wp2_with fail
  refine (c1 _).mono ?_
  rintro e w1 ⟨rfl, b1⟩
  replace hS := keepW hS b1
  clear b1
  go_wp2
  go_ret
  exact ⟨rfl, hS.bel⟩
theorem pBound_yes {c : Cf} (h : chkZ c = 0) (w : World) : Calls Try.prog 13 #[cfV c] w fun e w' => e = .returned (.int .i64 (boundZ c)) ∧ Below w.heap.size w w' := by
  have c1 := pcheck_any c
  obtain ⟨r, hm, _⟩ := chk_ok h
  rw [h] at c1
  have c2 := pbound_any r
  generalize boundZ c = L0 at *
  unfold cfV at *
  have hS := St.new w c
  go_enter Try.func13, Try.ntmps13
  go_wp2_with fail
  refine (c1 _).mono ?_
  rintro e w1 ⟨rfl, b1⟩
  replace hS := keepW hS b1
  clear b1
  obtain ⟨s0, s1, s2, s3, s4, s5, s6, s7, _, _⟩ := id hS
  go_wp2_with fail
  refine (c2 _).mono ?_
  rintro e w2 ⟨rfl, b2⟩
  replace hS := keepW hS b2
  clear b2 s0 s1 s2 s3 s4 s5 s6 s7
  go_wp2
  go_ret
  exact ⟨rfl, hS.bel⟩
theorem pBound_any (c : Cf) (w : World) : Calls Try.prog 13 #[cfV c] w fun e w' => e = .returned (.int .i64 (if chkZ c = 0 then boundZ c else 0)) ∧ Below w.heap.size w w' := by
  by_cases h : chkZ c = 0
  · rw [if_pos h]
    exact pBound_yes h w
  · rw [if_neg h]
    exact pBound_no h w
theorem pMost_no {c : Cf} (h : ¬ chkZ c = 0) (w : World) : Calls Try.prog 15 #[cfV c] w fun e w' => e = .returned (.int .u64 0) ∧ Below w.heap.size w w' := by
  have c1 := pcheck_any c
  generalize chkZ c = q at *
  unfold cfV at *
  have hS := St.new w c
  go_enter Try.func15, Try.ntmps15
  go_wp2_with fail
  refine (c1 _).mono ?_
  rintro e w1 ⟨rfl, b1⟩
  replace hS := keepW hS b1
  clear b1
  go_wp2
  go_ret
  exact ⟨rfl, hS.bel⟩
theorem pMost_yes {c : Cf} (h : chkZ c = 0) (w : World) : Calls Try.prog 15 #[cfV c] w fun e w' => e = .returned (.int .u64 (mZ c * 4294967296)) ∧ Below w.heap.size w w' := by
  have c1 := pcheck_any c
  obtain ⟨r, hm, _⟩ := chk_ok h
  rw [h] at c1
  have hc := c_box r
  have hb := m_box r
  have c2 := pmost_any r
  have c3 := pusage_any (n := mZ c) (by omega) (by omega)
  clear hc hb hm
  generalize mZ c * 4294967296 = V0 at *
  generalize mZ c = L0 at *
  unfold cfV at *
  have hS := St.new w c
  go_enter Try.func15, Try.ntmps15
  go_wp2_with fail
  refine (c1 _).mono ?_
  rintro e w1 ⟨rfl, b1⟩
  replace hS := keepW hS b1
  clear b1
  obtain ⟨s0, s1, s2, s3, s4, s5, s6, s7, _, _⟩ := id hS
  go_wp2_with fail
  refine (c2 _).mono ?_
  rintro e w2 ⟨rfl, b2⟩
  replace hS := keepW hS b2
  clear b2 s0 s1 s2 s3 s4 s5 s6 s7
  obtain ⟨s0, s1, s2, s3, s4, s5, s6, s7, _, _⟩ := id hS
  go_wp2_with fail
  refine (c3 _).mono ?_
  rintro e w3 ⟨rfl, b3⟩
  replace hS := keepW hS b3
  clear b3 s0 s1 s2 s3 s4 s5 s6 s7
  go_wp2
  go_ret
  exact ⟨rfl, hS.bel⟩
theorem pMost_any (c : Cf) (w : World) : Calls Try.prog 15 #[cfV c] w fun e w' => e = .returned (.int .u64 (if chkZ c = 0 then mZ c * 4294967296 else 0)) ∧ Below w.heap.size w w' := by
  by_cases h : chkZ c = 0
  · rw [if_pos h]
    exact pMost_yes h w
  · rw [if_neg h]
    exact pMost_no h w
theorem pFloor_no {c : Cf} (h : ¬ chkZ c = 0) (w : World) : Calls Try.prog 17 #[cfV c] w fun e w' => e = .returned (.int .u64 0) ∧ Below w.heap.size w w' := by
  have c1 := pcheck_any c
  generalize chkZ c = q at *
  unfold cfV at *
  have hS := St.new w c
  go_enter Try.func17, Try.ntmps17
  go_wp2_with fail
  refine (c1 _).mono ?_
  rintro e w1 ⟨rfl, b1⟩
  replace hS := keepW hS b1
  clear b1
  go_wp2
  go_ret
  exact ⟨rfl, hS.bel⟩
theorem pFloor_yes {c : Cf} (h : chkZ c = 0) (w : World) : Calls Try.prog 17 #[cfV c] w fun e w' => e = .returned (.int .u64 (cZ c * 4294967296)) ∧ Below w.heap.size w w' := by
  have c1 := pcheck_any c
  obtain ⟨r, hm, _⟩ := chk_ok h
  rw [h] at c1
  have hc := c_box r
  have hb := m_box r
  have c2 := pcharge_any r
  have c3 := pusage_any (n := cZ c) (by omega) (by omega)
  clear hc hb hm
  generalize cZ c * 4294967296 = V0 at *
  generalize cZ c = L0 at *
  unfold cfV at *
  have hS := St.new w c
  go_enter Try.func17, Try.ntmps17
  go_wp2_with fail
  refine (c1 _).mono ?_
  rintro e w1 ⟨rfl, b1⟩
  replace hS := keepW hS b1
  clear b1
  obtain ⟨s0, s1, s2, s3, s4, s5, s6, s7, _, _⟩ := id hS
  go_wp2_with fail
  refine (c2 _).mono ?_
  rintro e w2 ⟨rfl, b2⟩
  replace hS := keepW hS b2
  clear b2 s0 s1 s2 s3 s4 s5 s6 s7
  obtain ⟨s0, s1, s2, s3, s4, s5, s6, s7, _, _⟩ := id hS
  go_wp2_with fail
  refine (c3 _).mono ?_
  rintro e w3 ⟨rfl, b3⟩
  replace hS := keepW hS b3
  clear b3 s0 s1 s2 s3 s4 s5 s6 s7
  go_wp2
  go_ret
  exact ⟨rfl, hS.bel⟩
theorem pFloor_any (c : Cf) (w : World) : Calls Try.prog 17 #[cfV c] w fun e w' => e = .returned (.int .u64 (if chkZ c = 0 then cZ c * 4294967296 else 0)) ∧ Below w.heap.size w w' := by
  by_cases h : chkZ c = 0
  · rw [if_pos h]
    exact pFloor_yes h w
  · rw [if_neg h]
    exact pFloor_no h w
theorem pOff_no {c : Cf} (h : ¬ chkZ c = 0) (w : World) : Calls Try.prog 7 #[cfV c] w fun e w' => e = .returned (.tuple #[.agg #[.int .u64 0, .int .u64 0], .agg #[.int .u64 0, .int .u64 0]]) ∧ Below w.heap.size w w' := by
  have c1 := pcheck_any c
  generalize chkZ c = q at *
  unfold cfV at *
  go_enter Try.func7, Try.ntmps7
  go_wp2_with fail
  obtain ⟨v0, hv0⟩ : ∃ v0 : World, v0 = ((w.alloc (.cells #[.int .i64 c.nodes, .int .i64 c.queue, .int .i64 c.limit, .int .i64 c.age, .int .i64 c.fair, .int .i64 c.size, .int .i64 c.period, .int .i64 c.half] 23)).alloc (.cells #[.int .u64 0, .int .u64 0] 27)).alloc (.cells #[.int .u64 0, .int .u64 0] 27) := ⟨_, rfl⟩
  have hS : St w w.heap.size c v0 := by rw [hv0]; exact keepW (keepW (St.new w c) ((Below.refl _ _).alloc (Nat.le_refl _) _)) ((Below.refl _ _).alloc (Nat.le_refl _) _)
  have t2 : Two v0 (w.heap.size + 1) 0 := by rw [hv0]; exact ⟨by simp [go_sem]; rfl, by simp [go_sem]; rfl, by simp [go_sem], by simp [go_sem]⟩
  have t3 : Two v0 (w.heap.size + 1 + 1) 0 := by rw [hv0]; exact ⟨by simp [go_sem]; rfl, by simp [go_sem]; rfl, by simp [go_sem], by simp [go_sem]⟩
  rw [← hv0]
  clear hv0
  refine (c1 _).mono ?_
  rintro e w1 ⟨rfl, b1⟩
  replace hS := keepW hS b1
  replace t2 := t2.keep b1
  replace t3 := t3.keep b1
  clear b1
  obtain ⟨p0, p1, p2, p3⟩ := id t2
  obtain ⟨u0, u1, u2, u3⟩ := id t3
  have B1 := hS.bel
  clear hS t2 t3
  go_wp2
  refine bodyPost_ret (v := .tuple #[.agg #[.int .u64 0, .int .u64 0], .agg #[.int .u64 0, .int .u64 0]]) (by simp [results, Try.results7, go_sem, p0, p1, u0, u1]) rfl ⟨rfl, ?_⟩
  exact (((B1.setCell (by simp) _).setCell (by simp) _).setCell (by simp; omega) _).setCell (by simp; omega) _
theorem pOff_yes {c : Cf} (h : chkZ c = 0) (w : World) : Calls Try.prog 7 #[cfV c] w fun e w' => e = .returned (.tuple #[nu (offN c), nu (offD c)]) ∧ Below w.heap.size w w' := by
  have c1 := pcheck_any c
  obtain ⟨r, hm, _⟩ := chk_ok h
  rw [h] at c1
  have c2 := poff_any r hm
  clear hm
  generalize offN c = N0 at *
  generalize offD c = D0 at *
  unfold cfV at *
  go_enter Try.func7, Try.ntmps7
  go_wp2_with fail
  obtain ⟨v0, hv0⟩ : ∃ v0 : World, v0 = ((w.alloc (.cells #[.int .i64 c.nodes, .int .i64 c.queue, .int .i64 c.limit, .int .i64 c.age, .int .i64 c.fair, .int .i64 c.size, .int .i64 c.period, .int .i64 c.half] 23)).alloc (.cells #[.int .u64 0, .int .u64 0] 27)).alloc (.cells #[.int .u64 0, .int .u64 0] 27) := ⟨_, rfl⟩
  have hS : St w w.heap.size c v0 := by rw [hv0]; exact keepW (keepW (St.new w c) ((Below.refl _ _).alloc (Nat.le_refl _) _)) ((Below.refl _ _).alloc (Nat.le_refl _) _)
  have t2 : Two v0 (w.heap.size + 1) 0 := by rw [hv0]; exact ⟨by simp [go_sem]; rfl, by simp [go_sem]; rfl, by simp [go_sem], by simp [go_sem]⟩
  have t3 : Two v0 (w.heap.size + 1 + 1) 0 := by rw [hv0]; exact ⟨by simp [go_sem]; rfl, by simp [go_sem]; rfl, by simp [go_sem], by simp [go_sem]⟩
  rw [← hv0]
  clear hv0
  refine (c1 _).mono ?_
  rintro e w1 ⟨rfl, b1⟩
  replace hS := keepW hS b1
  replace t2 := t2.keep b1
  replace t3 := t3.keep b1
  clear b1
  obtain ⟨s0, s1, s2, s3, s4, s5, s6, s7, _, _⟩ := id hS
  go_wp2_with fail
  refine (c2 _).mono ?_
  rintro e w2 ⟨rfl, b2⟩
  replace hS := keepW hS b2
  replace t2 := t2.keep b2
  replace t3 := t3.keep b2
  clear b2 s0 s1 s2 s3 s4 s5 s6 s7
  obtain ⟨p0, p1, p2, p3⟩ := id t2
  obtain ⟨u0, u1, u2, u3⟩ := id t3
  have B1 := hS.bel
  clear hS t2 t3
  go_wp2
  refine bodyPost_ret (v := .tuple #[nu N0, nu D0]) (by simp [results, Try.results7, go_sem, p0, p1, u0, u1]) rfl ⟨rfl, ?_⟩
  exact (((B1.setCell (by simp) _).setCell (by simp) _).setCell (by simp; omega) _).setCell (by simp; omega) _
theorem asks : Asks where
  check := fun _ w => pcheck_any _ w
  lead := fun _ w => pLead_any _ w
  bound := fun _ w => pBound_any _ w
  most := fun _ w => pMost_any _ w
  floor := fun _ w => pFloor_any _ w
  off := fun {c} _ w => by
    by_cases h : chkZ c = 0
    · rw [if_pos h, if_pos h]
      exact pOff_yes h w
    · rw [if_neg h, if_neg h]
      exact pOff_no h w
end Go.Proofs.Ytniiijadkclabaa
