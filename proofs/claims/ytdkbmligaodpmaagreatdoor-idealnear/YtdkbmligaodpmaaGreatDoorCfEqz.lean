/-
 LAYER 11: the reference's Check (backfillref11).
-/
import Derived.Test.YtdkbmligaodpmaaGreatDoorCfDqz
import Derived.Deep.CutBlock
import Derived.Deep.DeepCutAuto
namespace Go.Proofs.YtdkbmligaodpmaaGreatDoor
open Go.RowKit Wd Cg

theorem roff_any {c : Cf} (r : Rng c) (hm : mZ c ≤ 2147483648) (w : World) : Calls Tryz.prog 55 #[cfV c] w fun e w' => e = .returned (.tuple #[nu (offN c), nu (offD c)]) ∧ Below w.heap.size w w' := by
 by_cases h0 : c.fair = 0
 ·exact roff_none h0 w
 ·exact roff_some r hm h0 w
noncomputable def chkZ (c : Cf) : Int := @ite Int (¬ Rng c) (Classical.propDecidable _) 110 (if 2147483648 < mZ c then 111 else if offD c * topZ c < offN c * 1000 then 113 else 0)
theorem rcheck_range {c : Cf} (r : ¬ Rng c) (w : World) : Calls Tryz.prog 21 #[cfV c] w fun e w' => e = .returned (.int .i64 110) ∧ Below w.heap.size w w' := by
 have c1 := rranges_any c
 rw [show rngB c = false from Bool.eq_false_iff.2 fun h => r ((rng_iff c).1 h)] at c1
 unfold cfV at *
 have hS := St.new w c
 go_enter Tryz.func21, Tryz.ntmps21
 go_wp2_with fail
 refine (c1 _).mono ?_
 rintro e w1 ⟨rfl, b1⟩
 replace hS := keepW hS b1
 clear b1
 go_wp2
 go_ret
 exact ⟨rfl, hS.bel⟩
theorem rcheck_usage {c : Cf} (r : Rng c) (hm : 2147483648 < mZ c) (w : World) : Calls Tryz.prog 21 #[cfV c] w fun e w' => e = .returned (.int .i64 111) ∧ Below w.heap.size w w' := by
 have c1 := rranges_any c
 rw [(rng_iff c).2 r] at c1
 have c2 := rM_any r
 generalize mZ c = M0 at *
 unfold cfV at *
 have hS := St.new w c
 go_enter Tryz.func21, Tryz.ntmps21
 go_wp2_with fail
 refine (c1 _).mono ?_
 rintro e w1 ⟨rfl, b1⟩
 replace hS := keepW hS b1
 clear b1
 obtain ⟨s0, s1, s2, s3, s4, s5, s6, s7, _, _⟩ := id hS
 go_wp2_with fail
 refine (c2 _).mono ?_
 rintro e w2 ⟨rfl, b2⟩
 replace hS := keepW hS b2
 clear b2
 clear s0 s1 s2 s3 s4 s5 s6 s7
 go_wp2
 go_ret
 exact ⟨rfl, hS.bel⟩
theorem trans_keep {P w1 w2 : World} (h1 : ∀ a, (P.cell? a).isSome = true → w1.cell? a = P.cell? a) (h2 : ∀ a, (w1.cell? a).isSome = true → w2.cell? a = w1.cell? a) : ∀ a, (P.cell? a).isSome = true → w2.cell? a = P.cell? a :=
 fun a h => (h2 a (by rw [h1 a h]; exact h)).trans (h1 a h)
theorem trans_keepF {P w1 w2 : World} (h1 : ∀ a, (P.cell? a).isSome = true → w1.cell? a = P.cell? a) (f1 : ∀ a, (P.cell? a).isSome = true → w1.frozen? a = P.frozen? a) (f2 : ∀ a, (w1.cell? a).isSome = true → w2.frozen? a = w1.frozen? a) : ∀ a, (P.cell? a).isSome = true → w2.frozen? a = P.frozen? a :=
 fun a h => (f2 a (by rw [h1 a h]; exact h)).trans (f1 a h)
def St6 (w : World) (kd kl : Nat) (D0 L0 : Int) (c : Cf) (x : World) : Prop := St w w.heap.size c x ∧ x.cell? ⟨kd, 0, none⟩ = some (.int .u64 (hiW D0)) ∧ x.cell? ⟨kd, 1, none⟩ = some (.int .u64 (loW D0)) ∧ x.cell? ⟨kl, 0, none⟩ = some (.int .u64 (hiW L0)) ∧ x.cell? ⟨kl, 1, none⟩ = some (.int .u64 (loW L0))
theorem keep6 {w x y : World} {kd kl : Nat} {D0 L0 : Int} {c : Cf} (h : St6 w kd kl D0 L0 c x) (b : Below x.heap.size x y) : St6 w kd kl D0 L0 c y :=
 ⟨keepW h.1 b, keepC b h.2.1, keepC b h.2.2.1, keepC b h.2.2.2.1, keepC b h.2.2.2.2⟩
theorem far6 {w x u : World} {kd kl : Nat} {D0 L0 : Int} {c : Cf} {a b : Value} (h : St6 w kd kl D0 L0 c x) (hu : St6 w kd kl D0 L0 c u) : St6 w kd kl D0 L0 c ((x.setCell ⟨u.heap.size, 0, none⟩ a).setCell ⟨u.heap.size, 1, none⟩ b) := by
 have n1 := World.block_lt_of_cell? u _ hu.1.1
 have n2 := World.block_lt_of_cell? u _ hu.2.1
 have n3 := World.block_lt_of_cell? u _ hu.2.2.2.1
 simp only at n1 n2 n3
 have y1 : w.heap.size ≠ u.heap.size := by omega
 have y2 : kd ≠ u.heap.size := by omega
 have y3 : kl ≠ u.heap.size := by omega
 have z := hu.1.2.2.2.2.2.2.2.2.2
 obtain ⟨⟨a0, a1, a2, a3, a4, a5, a6, a7, bb, zz⟩, d0, d1, l0, l1⟩ := h
 refine ⟨⟨by simp [go_sem, *], by simp [go_sem, *], by simp [go_sem, *], by simp [go_sem, *], by simp [go_sem, *], by simp [go_sem, *], by simp [go_sem, *], by simp [go_sem, *], ?_, by simp; omega⟩, by simp [go_sem, *], by simp [go_sem, *], by simp [go_sem, *], by simp [go_sem, *]⟩
 exact (bb.setCell z _).setCell z _
set_option maxHeartbeats 2000000 in
theorem rcheck_rest {c : Cf} (r : Rng c) (hm : mZ c ≤ 2147483648) (w : World) : Calls Tryz.prog 21 #[cfV c] w fun e w' => e = .returned (.int .i64 (if offD c * topZ c < offN c * 1000 then 113 else 0)) ∧ Below w.heap.size w w' := by
 have c1 := rranges_any c
 rw [(rng_iff c).2 r] at c1
 have c2 := rM_any r
 have c3 := roff_any r hm
 have c4 := rbound_any r
 have ho := off_box r hm
 have hb := bound_box r
 have ht := top_box r
 have ha := ahead_box r
 have tp : top = 340282366920938463463374607431768211455 := rfl
 have hq : topZ c = c.age * boundZ c + c.fair + c.size * c.nodes := by unfold topZ aheadZ; omega
 have hprod := mul_box (a := offD c) (b := topZ c) (A := 1152921504606846976) (B := 562949953421312) (by omega) (by omega) (by omega) (by omega)
 have c5 := rtimes_fit (u := offN c) (b := 1000) ⟨by omega, by omega⟩ ⟨by omega, by omega⟩ (by omega)
 have c6 := rtimes_fit (u := offD c) (b := topZ c) ⟨by omega, by omega⟩ ⟨by omega, by omega⟩ (by omega)
 have c7 := rcmp_num (offN c * 1000) (offD c * topZ c)
 have a0 := r.a0
 have a1 := r.a1
 have f0 := r.f0
 have f1 := r.f1
 have e1 : IntKind.i64.wrap (c.age * 1099511627776) = c.age * 1099511627776 := by rw [IntKind.wrap_i64]; omega
 have e2 : IntKind.i64.wrap (c.age * 1099511627776 + c.fair) = c.age * 1099511627776 + c.fair := by rw [IntKind.wrap_i64]; omega
 have e3 : IntKind.i64.wrap (c.size * c.nodes) = c.size * c.nodes := by rw [IntKind.wrap_i64]; omega
 have e4 : IntKind.i64.wrap (c.age * 1099511627776 + c.fair + c.size * c.nodes) = c.age * 1099511627776 + c.fair + c.size * c.nodes := by rw [IntKind.wrap_i64]; omega
 have e5 : ¬ 4611686018427387904 ≤ c.age * 1099511627776 + c.fair + c.size * c.nodes := by omega
 have e6 : IntKind.i64.wrap (c.age * boundZ c) = c.age * boundZ c := by rw [IntKind.wrap_i64]; omega
 have e7 : IntKind.i64.wrap (c.age * boundZ c + c.fair) = c.age * boundZ c + c.fair := by rw [IntKind.wrap_i64]; omega
 have e8 : IntKind.i64.wrap (c.age * boundZ c + c.fair + c.size * c.nodes) = topZ c := by rw [← hq, IntKind.wrap_i64]; omega
 have e9 : IntKind.u64.wrap (topZ c) = topZ c := by rw [IntKind.wrap_u64]; omega
 have hm' : ¬ 2147483648 < mZ c := by omega
 clear ho hb ht ha tp hprod a0 a1 f0 f1 hm hq
 generalize hL : offN c * 1000 = L0 at *
 generalize hR : offD c * topZ c = P0 at *
 clear hL hR
 generalize boundZ c = B0 at *
 generalize topZ c = T0 at *
 generalize mZ c = M0 at *
 generalize offN c = N0 at *
 generalize offD c = D0 at *
 unfold cfV at *
 have hS := St.new w c
 go_enter Tryz.func21, Tryz.ntmps21
 go_wp2_with fail
 refine (c1 _).mono ?_
 rintro e w1 ⟨rfl, b1⟩
 replace hS := keepW hS b1
 clear b1
 obtain ⟨s0, s1, s2, s3, s4, s5, s6, s7, _, _⟩ := id hS
 go_wp2_with fail
 refine (c2 _).mono ?_
 rintro e w2 ⟨rfl, b2⟩
 replace hS := keepW hS b2
 clear b2
 clear s0 s1 s2 s3 s4 s5 s6 s7
 obtain ⟨s0, s1, s2, s3, s4, s5, s6, s7, _, _⟩ := id hS
 go_wp2_with fail
 refine (c3 _).mono ?_
 rintro e w3 ⟨rfl, b3⟩
 replace hS := keepW hS b3
 clear b3
 clear s0 s1 s2 s3 s4 s5 s6 s7
 have bN : Below w3.heap.size w3 (w3.alloc (.cells #[.int .u64 (hiW N0), .int .u64 (loW N0)] 68)) := (Below.refl _ _).alloc (Nat.le_refl _) _
 have bD : Below (w3.alloc (.cells #[.int .u64 (hiW N0), .int .u64 (loW N0)] 68)).heap.size (w3.alloc (.cells #[.int .u64 (hiW N0), .int .u64 (loW N0)] 68)) ((w3.alloc (.cells #[.int .u64 (hiW N0), .int .u64 (loW N0)] 68)).alloc (.cells #[.int .u64 (hiW D0), .int .u64 (loW D0)] 68)) := (Below.refl _ _).alloc (Nat.le_refl _) _
 have tn := (Two.new w3 N0).keep bD
 have td := Two.new (w3.alloc (.cells #[.int .u64 (hiW N0), .int .u64 (loW N0)] 68)) D0
 rw [World.size_alloc] at td
 replace hS := keepW (keepW hS bN) bD
 go_upto_region 8 with fail
 generalize (w3.alloc (.cells #[.int .u64 (hiW N0), .int .u64 (loW N0)] 68)).alloc (.cells #[.int .u64 (hiW D0), .int .u64 (loW D0)] 68) = v3 at *
 clear bN bD
 generalize w3.heap.size = k3 at *
 obtain ⟨p0, p1, _, _⟩ := id tn
 go_wp2_with fail
 refine (c5 _).mono ?_
 rintro e w4 ⟨rfl, b4⟩
 replace hS := keepW hS b4
 replace td := td.keep b4
 clear b4 p0 p1 tn
 have bL : Below w4.heap.size w4 (w4.alloc (.cells #[.int .u64 (hiW L0), .int .u64 (loW L0)] 68)) := (Below.refl _ _).alloc (Nat.le_refl _) _
 have tl := Two.new w4 L0
 replace hS := keepW hS bL
 replace td := td.keep bL
 go_upto_region 9 with fail
 generalize w4.alloc (.cells #[.int .u64 (hiW L0), .int .u64 (loW L0)] 68) = v4 at *
 clear bL
 generalize w4.heap.size = k6 at *
 have HV : Hid (St6 w (k3 + 1) k6 D0 L0 c v4) := ⟨hS, td.c0, td.c1, tl.c0, tl.c1⟩
 have HS : Hid (St6 w (k3 + 1) k6 D0 L0 c v4.drew) := keep6 ⟨hS, td.c0, td.c1, tl.c0, tl.c1⟩ ((Below.refl _ _).drew)
 clear hS td tl
 go_region_held3 (fun x => (x.cell? ⟨w.heap.size, 0, none⟩ = some (.int .i64 c.nodes) ∧ x.cell? ⟨w.heap.size, 1, none⟩ = some (.int .i64 c.queue) ∧ x.cell? ⟨w.heap.size, 2, none⟩ = some (.int .i64 c.limit) ∧ x.cell? ⟨w.heap.size, 3, none⟩ = some (.int .i64 c.age) ∧ x.cell? ⟨w.heap.size, 4, none⟩ = some (.int .i64 c.fair) ∧ x.cell? ⟨w.heap.size, 5, none⟩ = some (.int .i64 c.size) ∧ x.cell? ⟨w.heap.size, 6, none⟩ = some (.int .i64 c.period) ∧ x.cell? ⟨w.heap.size, 7, none⟩ = some (.int .i64 c.half) ∧ Below w.heap.size w x ∧ w.heap.size ≤ x.heap.size) ∧ x.cell? ⟨k3 + 1, 0, none⟩ = some (.int .u64 (hiW D0)) ∧ x.cell? ⟨k3 + 1, 1, none⟩ = some (.int .u64 (loW D0)) ∧ x.cell? ⟨k6, 0, none⟩ = some (.int .u64 (hiW L0)) ∧ x.cell? ⟨k6, 1, none⟩ = some (.int .u64 (loW L0))) (first | exact HS.out | exact HY.out | exact HX.out | exact far6 HY.out HX.out | exact far6 HY.out HV.out | exact far6 HY.out HS.out | exact keep6 HY.out ((Below.refl _ _).alloc (Nat.le_refl _) _) | exact keep6 (by assumption) (by assumption) | exact keep6 (by assumption) ((Below.refl _ _).alloc (Nat.le_refl _) _) | exact keep6 HS.out ((Below.refl _ _).alloc (Nat.le_refl _) _) | exact far6 (by assumption) (by assumption) | exact far6 (by assumption) HS.out | exact keep6 HX.out ((Below.refl _ _).alloc (Nat.le_refl _) _))
  (first
   | (go_at_call 57; refine (c4 _).mono ?_; rintro e x ⟨rfl, hx⟩; have HX : Hid (St6 w (k3 + 1) k6 D0 L0 c x) := keep6 (by first | exact HS.out | assumption) hx; obtain ⟨hc1, hf1⟩ := bkeep hx)
   | (go_at_call 56; refine (c6 _).mono ?_; rintro e x ⟨rfl, hx⟩; have HY : Hid (St6 w (k3 + 1) k6 D0 L0 c x) := keep6 (by first | exact HX.out | assumption) hx; obtain ⟨hc3, hf3⟩ := bkeep hx; (first | (have g3 := trans_keep hc1 hc3; have j3 := trans_keepF hc1 hf1 hf3) | skip)))
 all_goals
  rename_i h6x
  have h6 : St6 w (k3 + 1) k6 D0 L0 c _ := h6x
  clear h6x
  obtain ⟨sd, d0, d1, l0, l1⟩ := id h6
  have B6 := sd.bel
  clear h6 sd HS HX HY HV
  go_wp2_with fail
  refine (c7 _).mono ?_
  rintro e w9 ⟨rfl, b9⟩
  have B9 := B6.trans (b9.mono B6.size)
  clear b9 B6 d0 d1 l0 l1
  by_cases hq : P0 < L0
  ·have ec : cmpV L0 P0 = 1 := by unfold cmpV; rw [if_neg (by omega), if_neg (by omega)]
   rw [ec]
   go_wp2
   go_ret
   exact ⟨by first | rfl | (rw [if_pos (by omega)]; rfl), B9⟩
  ·have ec : ¬ 0 < cmpV L0 P0 := by unfold cmpV; split <;> (try split) <;> omega
   generalize cmpV L0 P0 = q at ec ⊢
   go_wp2
   go_ret
   exact ⟨by first | rfl | (rw [if_neg (by omega)]; rfl), B9⟩
theorem rcheck_any (c : Cf) (w : World) : Calls Tryz.prog 21 #[cfV c] w fun e w' => e = .returned (.int .i64 (chkZ c)) ∧ Below w.heap.size w w' := by
 unfold chkZ
 by_cases r : Rng c
 ·rw [if_neg (fun h => h r)]
  by_cases hm : 2147483648 < mZ c
  ·rw [if_pos hm]
   exact rcheck_usage r hm w
  ·rw [if_neg hm]
   exact rcheck_rest r (by omega) w
 ·rw [if_pos r]
  exact rcheck_range r w
end Go.Proofs.YtdkbmligaodpmaaGreatDoor
