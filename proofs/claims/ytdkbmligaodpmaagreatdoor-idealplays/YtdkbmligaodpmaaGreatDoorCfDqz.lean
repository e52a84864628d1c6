/-
 LAYER 11: the reference's off, where Fair is not 0 (backfillref11).
-/
import Derived.Test.YtdkbmligaodpmaaGreatDoorXcfz
import Derived.Deep.CutBlock
import Derived.Deep.DeepCutAuto
namespace Go.Proofs.YtdkbmligaodpmaaGreatDoor
open Go.RowKit Wd Cg

set_option maxHeartbeats 2000000 in
theorem roff_some {c : Cf} (r : Rng c) (hm : mZ c ≤ 2147483648) (h0 : ¬ c.fair = 0) (w : World) : Calls Tryz.prog 55 #[cfV c] w fun e w' => e = .returned (.tuple #[nu (offN c), nu (offD c)]) ∧ Below w.heap.size w w' := by
 have e1 : offN c = (258048 * gZ c + 2 * cZ c) * c.fair + cZ c * 4294967296 := by unfold offN; rw [if_neg h0]
 have e2 : offD c = cZ c * 4294967296 := by unfold offD; rw [if_neg h0]
 rw [e1, e2]
 have hc := c_box r
 have hg := g_box r hm
 have ho := off_box r hm
 have hf0 := r.f0
 have hf1 := r.f1
 have tp : top = 340282366920938463463374607431768211455 := rfl
 have cC := rC_any r
 have cG := rG_any r hm
 have cD := rmul_nu (x := cZ c) (y := 4294967296) ⟨by omega, by omega⟩ ⟨by omega, by omega⟩
 have cX := rmul_nu (x := 258048) (y := gZ c) ⟨by omega, by omega⟩ ⟨by omega, by omega⟩
 have cO := rof_nu (n := 2 * cZ c) ⟨by omega, by omega⟩
 have cA := radd_fit (u := 258048 * gZ c) (v := 2 * cZ c) (by omega) (by omega) (by omega)
 have cT := rtimes_fit (u := 258048 * gZ c + 2 * cZ c) (b := c.fair) ⟨by omega, by omega⟩ ⟨by omega, by omega⟩ (by omega)
 have cB := radd_fit (u := (258048 * gZ c + 2 * cZ c) * c.fair) (v := cZ c * 4294967296) (by omega) (by omega) (by omega)
 have m1 : IntKind.u64.wrap (cZ c) = cZ c := by rw [IntKind.wrap_u64]; omega
 have m2 : IntKind.u64.wrap (gZ c) = gZ c := by rw [IntKind.wrap_u64]; omega
 have m3 : IntKind.i64.wrap (2 * cZ c) = 2 * cZ c := by rw [IntKind.wrap_i64]; omega
 have m4 : IntKind.u64.wrap (2 * cZ c) = 2 * cZ c := by rw [IntKind.wrap_u64]; omega
 have m5 : IntKind.u64.wrap c.fair = c.fair := by rw [IntKind.wrap_u64]; omega
 clear e1 e2 hc hg ho hf0 hf1 tp hm
 generalize hX0 : 258048 * gZ c = X0 at *
 generalize hV0 : X0 + 2 * cZ c = V0 at *
 generalize hT0 : V0 * c.fair = T0 at *
 generalize hD0 : cZ c * 4294967296 = D0 at *
 generalize hE0 : 2 * cZ c = E0 at *
 generalize gZ c = G0 at *
 generalize cZ c = C0 at *
 clear hX0 hV0 hT0 hD0
 have HE : Hid _ := hE0
 generalize T0 + D0 = R0 at *
 unfold cfV at *
 go_enter Tryz.func55, Tryz.ntmps55
 go_wp2_with fail
 obtain ⟨v0, hv0⟩ : ∃ v0 : World, v0 = ((w.alloc (.cells #[.int .i64 c.nodes, .int .i64 c.queue, .int .i64 c.limit, .int .i64 c.age, .int .i64 c.fair, .int .i64 c.size, .int .i64 c.period, .int .i64 c.half] 23)).alloc (.cells #[.int .u64 0, .int .u64 0] 68)).alloc (.cells #[.int .u64 0, .int .u64 0] 68) := ⟨_, rfl⟩
 have hS : St w w.heap.size c v0 := by rw [hv0]; exact keepW (keepW (St.new w c) ((Below.refl _ _).alloc (Nat.le_refl _) _)) ((Below.refl _ _).alloc (Nat.le_refl _) _)
 have t2 : Two v0 (w.heap.size + 1) 0 := by rw [hv0]; exact ⟨by simp [go_sem]; rfl, by simp [go_sem]; rfl, by simp [go_sem], by simp [go_sem]⟩
 have t3 : Two v0 (w.heap.size + 1 + 1) 0 := by rw [hv0]; exact ⟨by simp [go_sem]; rfl, by simp [go_sem]; rfl, by simp [go_sem], by simp [go_sem]⟩
 rw [← hv0]
 clear hv0
 refine (cC _).mono ?_
 rintro e w1 ⟨rfl, b1⟩
 replace hS := keepW hS b1
 replace t2 := t2.keep b1
 replace t3 := t3.keep b1
 clear b1
 go_wp2_with fail
 refine (cD _).mono ?_
 rintro e w2 ⟨rfl, b2⟩
 replace hS := keepW hS b2
 replace t2 := t2.keep b2
 replace t3 := t3.keep b2
 clear b2
 have hp : Two (w2.alloc (.cells #[.int .u64 (hiW D0), .int .u64 (loW D0)] 68)) w2.heap.size D0 ∧ Below w2.heap.size w2 (w2.alloc (.cells #[.int .u64 (hiW D0), .int .u64 (loW D0)] 68)) := ⟨Two.new w2 D0, (Below.refl _ _).alloc (Nat.le_refl _) _⟩
 have hlta : w.heap.size + 1 + 1 < w2.heap.size := by have := World.block_lt_of_cell? w2 _ t3.c0; simpa using this
 have hlt : w.heap.size < w2.heap.size := by have := World.block_lt_of_cell? w2 _ hS.1; simpa using this
 go_upto_region 4 with fail
 generalize w2.alloc (.cells #[.int .u64 (hiW D0), .int .u64 (loW D0)] 68) = v1 at *
 obtain ⟨t4, b2⟩ := hp
 replace hS := keepW hS b2
 replace t2 := t2.keep b2
 replace t3 := t3.keep b2
 generalize w2.heap.size = k4 at *
 clear b2
 obtain ⟨s0, s1, s2, s3, s4, s5, s6, s7, _, _⟩ := id hS
 go_wp2_with fail
 refine (cG _).mono ?_
 rintro e w3 ⟨rfl, b3⟩
 clear s0 s1 s2 s3 s4 s5 s6 s7
 replace hS := keepW hS b3
 replace t2 := t2.keep b3
 replace t3 := t3.keep b3
 replace t4 := t4.keep b3
 clear b3
 go_wp2_with fail
 refine (cX _).mono ?_
 rintro e w4 ⟨rfl, b4⟩
 replace hS := keepW hS b4
 replace t2 := t2.keep b4
 replace t3 := t3.keep b4
 replace t4 := t4.keep b4
 clear b4
 have hp : Two (w4.alloc (.cells #[.int .u64 (hiW X0), .int .u64 (loW X0)] 68)) w4.heap.size X0 ∧ Below w4.heap.size w4 (w4.alloc (.cells #[.int .u64 (hiW X0), .int .u64 (loW X0)] 68)) := ⟨Two.new w4 X0, (Below.refl _ _).alloc (Nat.le_refl _) _⟩
 have hlt4 : k4 < w4.heap.size := by have := World.block_lt_of_cell? w4 _ t4.c0; simpa using this
 have hlt2 : w.heap.size + 1 < w4.heap.size := by have := World.block_lt_of_cell? w4 _ t2.c0; simpa using this
 have hlt3 : w.heap.size + 1 + 1 < w4.heap.size := by have := World.block_lt_of_cell? w4 _ t3.c0; simpa using this
 go_upto_region 5 with fail
 generalize w4.alloc (.cells #[.int .u64 (hiW X0), .int .u64 (loW X0)] 68) = v2 at *
 obtain ⟨t5, b2⟩ := hp
 replace hS := keepW hS b2
 replace t2 := t2.keep b2
 replace t3 := t3.keep b2
 replace t4 := t4.keep b2
 generalize w4.heap.size = k5 at *
 clear b2
 have cE : ∀ w, Calls Tryz.prog 30 #[.int .u64 E0] w fun e w' => e = .returned (nu E0) ∧ Below w.heap.size w w' := cO
 have HS : Hid (St w w.heap.size c v2.drew) := keepW hS ((Below.refl _ _).drew)
 have td : Two v2.drew k5 X0 := t5.keep ((Below.refl _ _).drew)
 have td2 : Two v2.drew (w.heap.size + 1) 0 := t2.keep ((Below.refl _ _).drew)
 have td3 : Two v2.drew (w.heap.size + 1 + 1) 0 := t3.keep ((Below.refl _ _).drew)
 have td4 : Two v2.drew k4 D0 := t4.keep ((Below.refl _ _).drew)
 obtain ⟨g0, g1, g2, g3⟩ := id td
 have n5 : w.heap.size ≠ k5 := by omega
 have z5 : w.heap.size ≤ k5 := by omega
 clear hS t2 t3 t4 t5
 have sd := HS.out
 clear HS
 obtain ⟨s0, s1, s2, s3, s4, s5, s6, s7, _, _⟩ := id sd
 go_region_with (first
   | (go_at_call 98; refine (cC _).mono ?_; rintro e x ⟨rfl, hx⟩; have hx' := hx; replace td := Two.keep td hx'; replace td2 := Two.keep td2 hx'; replace td3 := Two.keep td3 hx'; replace td4 := Two.keep td4 hx'; replace sd := keepW sd hx'; clear hx'; obtain ⟨g0, g1, g2, g3⟩ := id td; obtain ⟨s0, s1, s2, s3, s4, s5, s6, s7, _, _⟩ := id sd)
   | (go_at_call 30; refine (cE _).mono ?_; rintro e x ⟨rfl, hx⟩; have hx' := hx; replace td := Two.keep td hx'; replace td2 := Two.keep td2 hx'; replace td3 := Two.keep td3 hx'; replace td4 := Two.keep td4 hx'; replace sd := keepW sd hx'; clear hx'; obtain ⟨g0, g1, g2, g3⟩ := id td; obtain ⟨s0, s1, s2, s3, s4, s5, s6, s7, _, _⟩ := id sd)
   | (go_at_call 28; refine (cA _).mono ?_; rintro e x ⟨rfl, hx⟩; have hx' := hx; replace td := Two.keep td hx'; replace td2 := Two.keep td2 hx'; replace td3 := Two.keep td3 hx'; replace td4 := Two.keep td4 hx'; replace sd := keepW sd hx'; clear hx'; obtain ⟨g0, g1, g2, g3⟩ := id td; obtain ⟨s0, s1, s2, s3, s4, s5, s6, s7, _, _⟩ := id sd))
 all_goals
  have n4 : k4 ≠ k5 := by omega
  have n2 : w.heap.size + 1 ≠ k5 := by omega
  have n3 : w.heap.size + 1 + 1 ≠ k5 := by omega
  replace td2 := td2.far n2 V0
  replace td3 := td3.far n3 V0
  replace td4 := td4.far n4 V0
  replace sd := sd.far n5 z5 V0
  replace td := td.put V0
  clear s0 s1 s2 s3 s4 s5 s6 s7 g0 g1 g2 g3
  change Exit.then _ _ _ _ (put x k5 V0)
  generalize put x k5 V0 = v3 at *
  obtain ⟨g0, g1, g2, g3⟩ := id td
  obtain ⟨s0, s1, s2, s3, s4, s5, s6, s7, _, _⟩ := id sd
  go_wp2_with fail
  refine (cT _).mono ?_
  rintro e w6 ⟨rfl, b6⟩
  replace td := td.keep b6
  replace td2 := td2.keep b6
  replace td3 := td3.keep b6
  replace td4 := td4.keep b6
  replace sd := keepW sd b6
  clear b6 s0 s1 s2 s3 s4 s5 s6 s7 g0 g1 g2 g3
  obtain ⟨g0, g1, g2, g3⟩ := id td
  go_upto_region 7 with fail
  replace td2 := td2.far n2 T0
  replace td3 := td3.far n3 T0
  replace td4 := td4.far n4 T0
  replace sd := sd.far n5 z5 T0
  replace td := td.put T0
  clear g0 g1 g2 g3
  change Code.wp _ _ _ _ (put w6 k5 T0)
  generalize put w6 k5 T0 = v4 at *
  obtain ⟨g0, g1, g2, g3⟩ := id td
  obtain ⟨q0, q1, q2, q3⟩ := id td4
  go_wp2_with fail
  refine (cB _).mono ?_
  rintro e w7 ⟨rfl, b7⟩
  replace td := td.keep b7
  replace td2 := td2.keep b7
  replace td3 := td3.keep b7
  replace td4 := td4.keep b7
  replace sd := keepW sd b7
  clear b7 g0 g1 g2 g3 q0 q1 q2 q3
  obtain ⟨g0, g1, g2, g3⟩ := id td
  go_upto_region 8 with fail
  replace td2 := td2.far n2 R0
  replace td3 := td3.far n3 R0
  replace td4 := td4.far n4 R0
  replace sd := sd.far n5 z5 R0
  replace td := td.put R0
  clear g0 g1 g2 g3
  change Code.wp _ _ _ _ (put w7 k5 R0)
  generalize put w7 k5 R0 = v5 at *
  obtain ⟨g0, g1, g2, g3⟩ := id td
  obtain ⟨q0, q1, q2, q3⟩ := id td4
  obtain ⟨p0, p1, p2, p3⟩ := id td2
  obtain ⟨u0, u1, u2, u3⟩ := id td3
  have B5 := sd.bel
  have y1 : ¬ k4 = w.heap.size + 1 := by omega
  have y2 : ¬ k4 = w.heap.size + 1 + 1 := by omega
  have y3 : ¬ k5 = w.heap.size + 1 := by omega
  have y4 : ¬ k5 = w.heap.size + 1 + 1 := by omega
  have y5 : ¬ w.heap.size + 1 = k4 := by omega
  have y6 : ¬ w.heap.size + 1 + 1 = k4 := by omega
  have y7 : ¬ w.heap.size + 1 = k5 := by omega
  have y8 : ¬ w.heap.size + 1 + 1 = k5 := by omega
  go_region
  all_goals go_wp2
  all_goals refine bodyPost_ret (v := .tuple #[nu R0, nu D0]) (by simp [results, Tryz.results55, go_sem, p0, p1, u0, u1]) rfl ⟨rfl, ?_⟩
  all_goals repeat first | exact B5 | refine Below.drew ?_ | refine Below.setCell ?_ (by first | (simp; done) | (simp; omega) | omega) _
end Go.Proofs.YtdkbmligaodpmaaGreatDoor
