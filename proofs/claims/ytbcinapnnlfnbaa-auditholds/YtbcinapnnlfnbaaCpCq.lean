/-
  LAYER 11: package config: what it refuses behind the ranges: usage, scale, rounding.
-/
import Derived.Test.YtbcinapnnlfnbaaCpBq
namespace Go.Proofs.Ytbcinapnnlfnbaa
open Go.RowKit Wd Cg

theorem prefuse_usage {c : Cf} (r : Rng c) (w : World) : Calls Try.prog 25 #[cfV c] w fun e w' => e = .returned (.int .i64 (if 2147483648 < mZ c then 111 else 0)) ∧ Below w.heap.size w w' := by
  have c1 := pmost_any r
  generalize mZ c = M0 at *
  have hS := St.new4 w c
  unfold cfV at *
  by_cases h : 2147483648 < M0
  · rw [if_pos h]
    go_enter Try.func25, Try.ntmps25
    go_wp2_with fail
    refine (c1 _).mono ?_
    rintro e w1 ⟨rfl, b1⟩
    have hB := (keepW hS b1).bel
    clear hS b1
    go_wp2
    go_ret
    exact ⟨rfl, hB⟩
  · rw [if_neg h]
    go_enter Try.func25, Try.ntmps25
    go_wp2_with fail
    refine (c1 _).mono ?_
    rintro e w1 ⟨rfl, b1⟩
    have hB := (keepW hS b1).bel
    clear hS b1
    go_wp2
    go_ret
    exact ⟨rfl, hB⟩
set_option maxHeartbeats 1000000 in
theorem prefuse_scale {c : Cf} (r : Rng c) (w : World) : Calls Try.prog 26 #[cfV c] w fun e w' => e = .returned (.int .i64 0) ∧ Below w.heap.size w w' := by
  have cW := pweight_any r
  have ha := ahead_box r
  have a0 := r.a0
  have a1 := r.a1
  have e1 : IntKind.i64.wrap (c.age * 1099511627776) = c.age * 1099511627776 := by rw [IntKind.wrap_i64]; omega
  have e2 : IntKind.i64.wrap (c.age * 1099511627776 + aheadZ c) = c.age * 1099511627776 + aheadZ c := by rw [IntKind.wrap_i64]; omega
  have e5 : ¬ 4611686018427387904 ≤ c.age * 1099511627776 + aheadZ c := by omega
  clear ha a0 a1
  generalize aheadZ c = A0 at *
  unfold cfV at *
  have HS : Hid (St w w.heap.size c (w.alloc (.cells #[.int .i64 c.nodes, .int .i64 c.queue, .int .i64 c.limit, .int .i64 c.age, .int .i64 c.fair, .int .i64 c.size, .int .i64 c.period, .int .i64 c.half] 48)).drew) := keepW (St.new4 w c) ((Below.refl _ _).drew)
  go_enter Try.func26, Try.ntmps26
  go_upto_region 1 with fail
  go_region_held3 (fun x => x.cell? ⟨w.heap.size, 0, none⟩ = some (.int .i64 c.nodes) ∧ x.cell? ⟨w.heap.size, 1, none⟩ = some (.int .i64 c.queue) ∧ x.cell? ⟨w.heap.size, 2, none⟩ = some (.int .i64 c.limit) ∧ x.cell? ⟨w.heap.size, 3, none⟩ = some (.int .i64 c.age) ∧ x.cell? ⟨w.heap.size, 4, none⟩ = some (.int .i64 c.fair) ∧ x.cell? ⟨w.heap.size, 5, none⟩ = some (.int .i64 c.size) ∧ x.cell? ⟨w.heap.size, 6, none⟩ = some (.int .i64 c.period) ∧ x.cell? ⟨w.heap.size, 7, none⟩ = some (.int .i64 c.half) ∧ Below w.heap.size w x ∧ w.heap.size ≤ x.heap.size) (first | exact HS.out | exact keepW (by assumption) (by assumption))
    (first
      | (go_at_call 48; refine (cW _).mono ?_; rintro e x ⟨rfl, hx⟩))
  all_goals
    have hS : St w w.heap.size c x := by assumption
    have hB := hS.bel
    clear hS HS
    go_wp2
    go_ret
    exact ⟨rfl, hB⟩
set_option maxHeartbeats 2000000 in
theorem prefuse_rounding {c : Cf} (r : Rng c) (hm : mZ c ≤ 2147483648) (w : World) : Calls Try.prog 27 #[cfV c] w fun e w' => e = .returned (.int .i64 (if offD c * topZ c < offN c * 1000 then 113 else 0)) ∧ Below w.heap.size w w' := by
  have c3 := poff_any r hm
  have c4 := preach_any r
  have ho := off_box r hm
  have ht := top_box r
  have tp : top = 340282366920938463463374607431768211455 := rfl
  have hprod := mul_box (a := offD c) (b := topZ c) (A := 1152921504606846976) (B := 562949953421312) (by omega) (by omega) (by omega) (by omega)
  have c5 := ptimes_fit (u := offN c) (b := 1000) ⟨by omega, by omega⟩ ⟨by omega, by omega⟩ (by omega)
  have c6 := ptimes_fit (u := offD c) (b := topZ c) ⟨by omega, by omega⟩ ⟨by omega, by omega⟩ (by omega)
  have c7 := pcmp_nu (offN c * 1000) (offD c * topZ c)
  have e9 : IntKind.u64.wrap (topZ c) = topZ c := by rw [IntKind.wrap_u64]; omega
  clear ho ht tp hprod hm
  generalize hL : offN c * 1000 = L0 at *
  generalize hR : offD c * topZ c = P0 at *
  clear hL hR
  generalize topZ c = T0 at *
  generalize offN c = N0 at *
  generalize offD c = D0 at *
  unfold cfV at *
  have hS := St.new4 w c
  go_enter Try.func27, Try.ntmps27
  go_wp2_with fail
  refine (c3 _).mono ?_
  rintro e w3 ⟨rfl, b3⟩
  replace hS := keepW hS b3
  clear b3
  have bN : Below w3.heap.size w3 (w3.alloc (.cells #[.int .u64 (hiW N0), .int .u64 (loW N0)] 78)) := (Below.refl _ _).alloc (Nat.le_refl _) _
  have bD : Below (w3.alloc (.cells #[.int .u64 (hiW N0), .int .u64 (loW N0)] 78)).heap.size (w3.alloc (.cells #[.int .u64 (hiW N0), .int .u64 (loW N0)] 78)) ((w3.alloc (.cells #[.int .u64 (hiW N0), .int .u64 (loW N0)] 78)).alloc (.cells #[.int .u64 (hiW D0), .int .u64 (loW D0)] 78)) := (Below.refl _ _).alloc (Nat.le_refl _) _
  have tn := (Two.new7 w3 N0).keep bD
  have td := Two.new7 (w3.alloc (.cells #[.int .u64 (hiW N0), .int .u64 (loW N0)] 78)) D0
  rw [World.size_alloc] at td
  replace hS := keepW (keepW hS bN) bD
  go_upto_region 2 with fail
  generalize (w3.alloc (.cells #[.int .u64 (hiW N0), .int .u64 (loW N0)] 78)).alloc (.cells #[.int .u64 (hiW D0), .int .u64 (loW D0)] 78) = v3 at *
  clear bN bD
  generalize w3.heap.size = k3 at *
  obtain ⟨p0, p1, _, _⟩ := id tn
  go_wp2_with fail
  refine (c5 _).mono ?_
  rintro e w4 ⟨rfl, b4⟩
  replace hS := keepW hS b4
  replace td := td.keep b4
  clear b4 p0 p1 tn
  have bL : Below w4.heap.size w4 (w4.alloc (.cells #[.int .u64 (hiW L0), .int .u64 (loW L0)] 78)) := (Below.refl _ _).alloc (Nat.le_refl _) _
  have tl := Two.new7 w4 L0
  replace hS := keepW hS bL
  replace td := td.keep bL
  go_upto_region 3 with fail
  generalize w4.alloc (.cells #[.int .u64 (hiW L0), .int .u64 (loW L0)] 78) = v4 at *
  clear bL
  generalize w4.heap.size = k6 at *
  have HV : Hid (St6 w (k3 + 1) k6 D0 L0 c v4) := ⟨hS, td.c0, td.c1, tl.c0, tl.c1⟩
  have HS : Hid (St6 w (k3 + 1) k6 D0 L0 c v4.drew) := keep6 ⟨hS, td.c0, td.c1, tl.c0, tl.c1⟩ ((Below.refl _ _).drew)
  clear hS td tl
  go_region_held3 (fun x => (x.cell? ⟨w.heap.size, 0, none⟩ = some (.int .i64 c.nodes) ∧ x.cell? ⟨w.heap.size, 1, none⟩ = some (.int .i64 c.queue) ∧ x.cell? ⟨w.heap.size, 2, none⟩ = some (.int .i64 c.limit) ∧ x.cell? ⟨w.heap.size, 3, none⟩ = some (.int .i64 c.age) ∧ x.cell? ⟨w.heap.size, 4, none⟩ = some (.int .i64 c.fair) ∧ x.cell? ⟨w.heap.size, 5, none⟩ = some (.int .i64 c.size) ∧ x.cell? ⟨w.heap.size, 6, none⟩ = some (.int .i64 c.period) ∧ x.cell? ⟨w.heap.size, 7, none⟩ = some (.int .i64 c.half) ∧ Below w.heap.size w x ∧ w.heap.size ≤ x.heap.size) ∧ x.cell? ⟨k3 + 1, 0, none⟩ = some (.int .u64 (hiW D0)) ∧ x.cell? ⟨k3 + 1, 1, none⟩ = some (.int .u64 (loW D0)) ∧ x.cell? ⟨k6, 0, none⟩ = some (.int .u64 (hiW L0)) ∧ x.cell? ⟨k6, 1, none⟩ = some (.int .u64 (loW L0))) (first | exact HS.out | exact HY.out | exact HX.out | exact far6 HY.out HX.out | exact far6 HY.out HV.out | exact far6 HY.out HS.out | exact keep6 HY.out ((Below.refl _ _).alloc (Nat.le_refl _) _) | exact keep6 (by assumption) (by assumption) | exact keep6 (by assumption) ((Below.refl _ _).alloc (Nat.le_refl _) _) | exact keep6 HS.out ((Below.refl _ _).alloc (Nat.le_refl _) _) | exact far6 (by assumption) (by assumption) | exact far6 (by assumption) HS.out | exact keep6 HX.out ((Below.refl _ _).alloc (Nat.le_refl _) _))
    (first
      | (go_at_call 51; refine (c4 _).mono ?_; rintro e x ⟨rfl, hx⟩; have HX : Hid (St6 w (k3 + 1) k6 D0 L0 c x) := keep6 (by first | exact HS.out | assumption) hx; obtain ⟨hc1, hf1⟩ := bkeep hx)
      | (go_at_call 50; refine (c6 _).mono ?_; rintro e x ⟨rfl, hx⟩; have HY : Hid (St6 w (k3 + 1) k6 D0 L0 c x) := keep6 (by first | exact HX.out | assumption) hx; obtain ⟨hc3, hf3⟩ := bkeep hx; (first | (have g3 := trans_keep hc1 hc3; have j3 := trans_keepF hc1 hf1 hf3) | skip)))
  all_goals
    rename_i h6x
    have h6 : St6 w (k3 + 1) k6 D0 L0 c _ := h6x
    clear h6x
    obtain ⟨sd, d0, d1, l0, l1⟩ := id h6
    have B6 := sd.bel
    clear h6 sd HS HX HY HV
    go_wp2_with fail
    refine (c7 _).mono ?_
    rintro e w9 ⟨rfl, b9⟩
    have B9 := B6.trans (b9.mono B6.size)
    clear b9 B6 d0 d1 l0 l1
    by_cases hq : P0 < L0
    · have ec : cmpV L0 P0 = 1 := by unfold cmpV; rw [if_neg (by omega), if_neg (by omega)]
      rw [ec]
      go_wp2
      go_ret
      exact ⟨by first | rfl | (rw [if_pos (by omega)]; rfl), B9⟩
    · have ec : ¬ 0 < cmpV L0 P0 := by unfold cmpV; split <;> (try split) <;> omega
      generalize cmpV L0 P0 = q at ec ⊢
      go_wp2
      go_ret
      exact ⟨by first | rfl | (rw [if_neg (by omega)]; rfl), B9⟩
end Go.Proofs.Ytbcinapnnlfnbaa
