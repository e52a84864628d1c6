/-
  LAYER 11: package config: what is reckoned of a config within its ranges (charge, weight, lead, bound, reach, kept, most, lost), and usageOf.
-/
import Derived.Test.YtbcinapnnlfnbaaXcf
import Derived.Test.YtbcinapnnlfnbaaXfx
import Derived.Deep.CutBlock
import Derived.Deep.DeepCutAuto
namespace Go.Proofs.Ytbcinapnnlfnbaa
open Go.RowKit Wd Cg

theorem St.new4 (w : World) (c : Cf) : St w w.heap.size c (w.alloc (.cells #[.int .i64 c.nodes, .int .i64 c.queue, .int .i64 c.limit, .int .i64 c.age, .int .i64 c.fair, .int .i64 c.size, .int .i64 c.period, .int .i64 c.half] 48)) :=
  ⟨by simp, by simp, by simp, by simp, by simp, by simp, by simp, by simp, (Below.refl _ _).alloc (Nat.le_refl _) _, by simp⟩
set_option maxHeartbeats 1000000 in
theorem pcharge_any {c : Cf} (r : Rng c) (w : World) : Calls Try.prog 67 #[cfV c] w fun e w' => e = .returned (.int .i64 (cZ c)) ∧ Below w.heap.size w w' := by
  have hb := c_box r
  have e1 : wrap64 (c.nodes * c.period) = cZ c := by
    have h : cZ c = c.nodes * c.period := rfl
    rw [← h]
    unfold wrap64
    omega
  unfold cfV
  go_enter Try.func67, Try.ntmps67
  go_wp2
  go_ret
  exact ⟨by simp [e1], (Below.refl _ _).alloc (Nat.le_refl _) _⟩
set_option maxHeartbeats 1000000 in
theorem pweight_any {c : Cf} (r : Rng c) (w : World) : Calls Try.prog 48 #[cfV c] w fun e w' => e = .returned (.int .i64 (aheadZ c)) ∧ Below w.heap.size w w' := by
  have hb := ahead_box r
  have hf := r.f0
  have hf1 := r.f1
  have e1 : wrap64 (c.size * c.nodes) = c.size * c.nodes := by unfold wrap64; omega
  have e2 : wrap64 (c.fair + c.size * c.nodes) = aheadZ c := by
    have h : aheadZ c = c.fair + c.size * c.nodes := rfl
    rw [← h]
    unfold wrap64
    omega
  unfold cfV
  go_enter Try.func48, Try.ntmps48
  go_wp2
  go_ret
  exact ⟨rfl, (Below.refl _ _).alloc (Nat.le_refl _) _⟩
set_option maxHeartbeats 1000000 in
theorem plead_any {c : Cf} (r : Rng c) (w : World) : Calls Try.prog 76 #[cfV c] w fun e w' => e = .returned (.int .i64 (leadZ c)) ∧ Below w.heap.size w w' := by
  have hb := ahead_box r
  have hl := lead_box r
  have ha := r.a0
  have e3 : IntKind.i64.wrap (Int.tdiv (aheadZ c) c.age) = leadZ c := by
    rw [show Int.tdiv (aheadZ c) c.age = leadZ c from Int.tdiv_eq_ediv_of_nonneg (by omega), IntKind.wrap_i64]
    omega
  have nz : ¬ c.age = 0 := by omega
  have cW := pweight_any r
  clear hb hl ha
  generalize aheadZ c = A0 at *
  generalize leadZ c = L0 at *
  unfold cfV at *
  have HS : Hid (St w w.heap.size c (w.alloc (.cells #[.int .i64 c.nodes, .int .i64 c.queue, .int .i64 c.limit, .int .i64 c.age, .int .i64 c.fair, .int .i64 c.size, .int .i64 c.period, .int .i64 c.half] 48)).drew) := keepW (St.new4 w c) ((Below.refl _ _).drew)
  go_enter Try.func76, Try.ntmps76
  go_upto_region 1 with fail
  go_region_held3 (fun x => x.cell? ⟨w.heap.size, 0, none⟩ = some (.int .i64 c.nodes) ∧ x.cell? ⟨w.heap.size, 1, none⟩ = some (.int .i64 c.queue) ∧ x.cell? ⟨w.heap.size, 2, none⟩ = some (.int .i64 c.limit) ∧ x.cell? ⟨w.heap.size, 3, none⟩ = some (.int .i64 c.age) ∧ x.cell? ⟨w.heap.size, 4, none⟩ = some (.int .i64 c.fair) ∧ x.cell? ⟨w.heap.size, 5, none⟩ = some (.int .i64 c.size) ∧ x.cell? ⟨w.heap.size, 6, none⟩ = some (.int .i64 c.period) ∧ x.cell? ⟨w.heap.size, 7, none⟩ = some (.int .i64 c.half) ∧ Below w.heap.size w x ∧ w.heap.size ≤ x.heap.size) (first | exact HS.out | exact keepW (by assumption) (by assumption))
    (first
      | (go_at_call 48; refine (cW _).mono ?_; rintro e x ⟨rfl, hx⟩))
  all_goals
    have hS : St w w.heap.size c x := by assumption
    have hB := hS.bel
    clear hS HS
    go_wp2
    go_ret
    exact ⟨rfl, hB⟩
set_option maxHeartbeats 1000000 in
theorem pbound_any {c : Cf} (r : Rng c) (w : World) : Calls Try.prog 58 #[cfV c] w fun e w' => e = .returned (.int .i64 (boundZ c)) ∧ Below w.heap.size w w' := by
  have hb := bound_box r
  have hl := lead_box r
  have e0 : IntKind.i64.wrap (leadZ c + 1) = leadZ c + 1 := by rw [IntKind.wrap_i64]; omega
  have e1 : IntKind.i64.wrap (c.queue * c.limit) = c.queue * c.limit := by rw [IntKind.wrap_i64]; omega
  have e2 : IntKind.i64.wrap (leadZ c + 1 + c.queue * c.limit) = boundZ c := by
    have h : boundZ c = leadZ c + 1 + c.queue * c.limit := rfl
    rw [← h, IntKind.wrap_i64]
    omega
  have cL := plead_any r
  clear hb hl
  generalize leadZ c = L0 at *
  generalize boundZ c = B0 at *
  unfold cfV at *
  have HS : Hid (St w w.heap.size c (w.alloc (.cells #[.int .i64 c.nodes, .int .i64 c.queue, .int .i64 c.limit, .int .i64 c.age, .int .i64 c.fair, .int .i64 c.size, .int .i64 c.period, .int .i64 c.half] 48)).drew) := keepW (St.new4 w c) ((Below.refl _ _).drew)
  go_enter Try.func58, Try.ntmps58
  go_upto_region 1 with fail
  go_region_held3 (fun x => x.cell? ⟨w.heap.size, 0, none⟩ = some (.int .i64 c.nodes) ∧ x.cell? ⟨w.heap.size, 1, none⟩ = some (.int .i64 c.queue) ∧ x.cell? ⟨w.heap.size, 2, none⟩ = some (.int .i64 c.limit) ∧ x.cell? ⟨w.heap.size, 3, none⟩ = some (.int .i64 c.age) ∧ x.cell? ⟨w.heap.size, 4, none⟩ = some (.int .i64 c.fair) ∧ x.cell? ⟨w.heap.size, 5, none⟩ = some (.int .i64 c.size) ∧ x.cell? ⟨w.heap.size, 6, none⟩ = some (.int .i64 c.period) ∧ x.cell? ⟨w.heap.size, 7, none⟩ = some (.int .i64 c.half) ∧ Below w.heap.size w x ∧ w.heap.size ≤ x.heap.size) (first | exact HS.out | exact keepW (by assumption) (by assumption))
    (first
      | (go_at_call 76; refine (cL _).mono ?_; rintro e x ⟨rfl, hx⟩))
  all_goals
    have hS : St w w.heap.size c x := by assumption
    have hB := hS.bel
    clear hS HS
    go_wp2
    go_ret
    exact ⟨rfl, hB⟩
set_option maxHeartbeats 1000000 in
theorem preach_any {c : Cf} (r : Rng c) (w : World) : Calls Try.prog 51 #[cfV c] w fun e w' => e = .returned (.int .i64 (topZ c)) ∧ Below w.heap.size w w' := by
  have hb := top_box r
  have hl := ahead_box r
  have e1 : IntKind.i64.wrap (c.age * boundZ c) = c.age * boundZ c := by rw [IntKind.wrap_i64]; omega
  have e2 : IntKind.i64.wrap (c.age * boundZ c + aheadZ c) = topZ c := by
    have h : topZ c = c.age * boundZ c + aheadZ c := rfl
    rw [← h, IntKind.wrap_i64]
    omega
  have cB := pbound_any r
  have cW := pweight_any r
  clear hb hl
  generalize aheadZ c = A0 at *
  generalize boundZ c = B0 at *
  generalize topZ c = T0 at *
  unfold cfV at *
  have HS : Hid (St w w.heap.size c (w.alloc (.cells #[.int .i64 c.nodes, .int .i64 c.queue, .int .i64 c.limit, .int .i64 c.age, .int .i64 c.fair, .int .i64 c.size, .int .i64 c.period, .int .i64 c.half] 48)).drew) := keepW (St.new4 w c) ((Below.refl _ _).drew)
  go_enter Try.func51, Try.ntmps51
  go_upto_region 1 with fail
  go_region_held3 (fun x => x.cell? ⟨w.heap.size, 0, none⟩ = some (.int .i64 c.nodes) ∧ x.cell? ⟨w.heap.size, 1, none⟩ = some (.int .i64 c.queue) ∧ x.cell? ⟨w.heap.size, 2, none⟩ = some (.int .i64 c.limit) ∧ x.cell? ⟨w.heap.size, 3, none⟩ = some (.int .i64 c.age) ∧ x.cell? ⟨w.heap.size, 4, none⟩ = some (.int .i64 c.fair) ∧ x.cell? ⟨w.heap.size, 5, none⟩ = some (.int .i64 c.size) ∧ x.cell? ⟨w.heap.size, 6, none⟩ = some (.int .i64 c.period) ∧ x.cell? ⟨w.heap.size, 7, none⟩ = some (.int .i64 c.half) ∧ Below w.heap.size w x ∧ w.heap.size ≤ x.heap.size) (first | exact HS.out | exact keepW (by assumption) (by assumption))
    (first
      | (go_at_call 58; refine (cB _).mono ?_; rintro e x ⟨rfl, hx⟩)
      | (go_at_call 48; refine (cW _).mono ?_; rintro e x ⟨rfl, hx⟩))
  all_goals
    have hS : St w w.heap.size c x := by assumption
    have hB := hS.bel
    clear hS HS
    go_wp2
    go_ret
    exact ⟨rfl, hB⟩
theorem ceil_up {u b : Int} (hb : 0 < b) : ceilV u b = upZ u b := by
  have e := Int.mul_ediv_add_emod u b
  have m0 := Int.emod_nonneg u (show b ≠ 0 by omega)
  have m1 := Int.emod_lt_of_pos u hb
  unfold ceilV upZ
  split
  · rename_i h
    have z : (b - 1) / b = 0 := Int.ediv_eq_zero_of_lt (by omega) (by omega)
    rw [show u + b - 1 = (b - 1) + b * (u / b) by omega, Int.add_mul_ediv_left _ _ (show b ≠ 0 by omega), z]
    omega
  · rename_i h
    have z : (u % b - 1) / b = 0 := Int.ediv_eq_zero_of_lt (by omega) (by omega)
    rw [show u + b - 1 = (u % b - 1) + b * (u / b + 1) by rw [Int.mul_add]; omega, Int.add_mul_ediv_left _ _ (show b ≠ 0 by omega), z]
    omega
set_option maxHeartbeats 1000000 in
theorem pkept_any {c : Cf} (r : Rng c) (w : World) : Calls Try.prog 68 #[cfV c] w fun e w' => e = .returned (.int .i64 (kZ c)) ∧ Below w.heap.size w w' := by
  have he := e_box r
  have hu := up_box he.1
  have p0 := r.p0
  have p1 := r.p1
  have h0 := r.h0
  have h1 := r.h1
  have d1 : dnV (c.period * 4294967296) c.half = eZ c := by
    unfold dnV narV
    rw [if_neg (by omega), show c.period * 4294967296 / c.half = eZ c from rfl, if_pos (by omega)]
  have d2 : upV (2 * 4294967296) (eZ c) = upZ 8589934592 (eZ c) := by
    unfold upV narV
    rw [if_neg (by omega), show (2 : Int) * 4294967296 = 8589934592 from rfl, ceil_up (by omega), if_pos (by omega)]
  have cD := divDown_any c.period c.half ⟨by omega, by omega⟩ ⟨by omega, by omega⟩
  have cU := divUp_any 2 (eZ c) ⟨by omega, by omega⟩ ⟨by omega, by omega⟩
  rw [d1] at cD
  rw [d2] at cU
  have e1 : IntKind.u64.wrap c.period = c.period := by rw [IntKind.wrap_u64]; omega
  have e2 : IntKind.u64.wrap c.half = c.half := by rw [IntKind.wrap_u64]; omega
  have e3 : IntKind.i64.wrap (upZ 8589934592 (eZ c)) = upZ 8589934592 (eZ c) := by rw [IntKind.wrap_i64]; omega
  have hk : kZ c = if upZ 8589934592 (eZ c) < 2 then 2 else upZ 8589934592 (eZ c) := rfl
  rw [hk]
  clear hk d1 d2 he p0 p1 h0 h1
  generalize dnB (c.period * 4294967296) c.half = b1 at *
  generalize upB (2 * 4294967296) (eZ c) = b2 at *
  generalize upZ 8589934592 (eZ c) = k at *
  generalize eZ c = ee at *
  unfold cfV
  have hS := St.new4 w c
  by_cases h2 : k < 2
  · rw [if_pos h2]
    go_enter Try.func68, Try.ntmps68
    go_wp2_with fail
    refine (cD _).mono ?_
    rintro e w1 ⟨rfl, bb1⟩
    go_wp2_with fail
    refine (cU _).mono ?_
    rintro e w2 ⟨rfl, bb2⟩
    have hB := (keepW (keepW hS bb1) bb2).bel
    clear hS bb1 bb2 cD cU
    go_wp2
    go_ret
    exact ⟨rfl, hB⟩
  · rw [if_neg h2]
    go_enter Try.func68, Try.ntmps68
    go_wp2_with fail
    refine (cD _).mono ?_
    rintro e w1 ⟨rfl, bb1⟩
    go_wp2_with fail
    refine (cU _).mono ?_
    rintro e w2 ⟨rfl, bb2⟩
    have hB := (keepW (keepW hS bb1) bb2).bel
    clear hS bb1 bb2 cD cU
    go_wp2
    all_goals
      go_ret
      exact ⟨by first | rfl | (rw [show k = 2 by omega]; rfl), hB⟩
set_option maxHeartbeats 1000000 in
theorem pmost_any {c : Cf} (r : Rng c) (w : World) : Calls Try.prog 47 #[cfV c] w fun e w' => e = .returned (.int .i64 (mZ c)) ∧ Below w.heap.size w w' := by
  have hb := m_box r
  have hc := c_box r
  have e1 : IntKind.i64.wrap (cZ c * kZ c) = mZ c := by
    have h : mZ c = cZ c * kZ c := rfl
    rw [← h, IntKind.wrap_i64]
    omega
  have cC := pcharge_any r
  have cK := pkept_any r
  clear hb hc
  generalize cZ c = C0 at *
  generalize kZ c = K0 at *
  generalize mZ c = M0 at *
  unfold cfV at *
  have HS : Hid (St w w.heap.size c (w.alloc (.cells #[.int .i64 c.nodes, .int .i64 c.queue, .int .i64 c.limit, .int .i64 c.age, .int .i64 c.fair, .int .i64 c.size, .int .i64 c.period, .int .i64 c.half] 48)).drew) := keepW (St.new4 w c) ((Below.refl _ _).drew)
  go_enter Try.func47, Try.ntmps47
  go_upto_region 1 with fail
  go_region_held3 (fun x => x.cell? ⟨w.heap.size, 0, none⟩ = some (.int .i64 c.nodes) ∧ x.cell? ⟨w.heap.size, 1, none⟩ = some (.int .i64 c.queue) ∧ x.cell? ⟨w.heap.size, 2, none⟩ = some (.int .i64 c.limit) ∧ x.cell? ⟨w.heap.size, 3, none⟩ = some (.int .i64 c.age) ∧ x.cell? ⟨w.heap.size, 4, none⟩ = some (.int .i64 c.fair) ∧ x.cell? ⟨w.heap.size, 5, none⟩ = some (.int .i64 c.size) ∧ x.cell? ⟨w.heap.size, 6, none⟩ = some (.int .i64 c.period) ∧ x.cell? ⟨w.heap.size, 7, none⟩ = some (.int .i64 c.half) ∧ Below w.heap.size w x ∧ w.heap.size ≤ x.heap.size) (first | exact HS.out | exact keepW (by assumption) (by assumption))
    (first
      | (go_at_call 67; refine (cC _).mono ?_; rintro e x ⟨rfl, hx⟩)
      | (go_at_call 68; refine (cK _).mono ?_; rintro e x ⟨rfl, hx⟩))
  all_goals
    have hS : St w w.heap.size c x := by assumption
    have hB := hS.bel
    clear hS HS
    go_wp2
    go_ret
    exact ⟨rfl, hB⟩
set_option maxHeartbeats 1000000 in
theorem plost_any {c : Cf} (r : Rng c) (hm : mZ c ≤ 2147483648) (w : World) : Calls Try.prog 71 #[cfV c] w fun e w' => e = .returned (.int .i64 (gZ c)) ∧ Below w.heap.size w w' := by
  have hb := m_box r
  have hc := c_box r
  have hg := g_box r hm
  have e0 : IntKind.i64.wrap (mZ c * 81) = mZ c * 81 := by rw [IntKind.wrap_i64]; omega
  have e3 : IntKind.i64.wrap (mZ c * 81 + 2147483648) = mZ c * 81 + 2147483648 := by rw [IntKind.wrap_i64]; omega
  have e4 : IntKind.i64.wrap (mZ c * 81 + 2147483648 - 1) = mZ c * 81 + 2147483648 - 1 := by rw [IntKind.wrap_i64]; omega
  have e5 : IntKind.i64.wrap (Int.tdiv (mZ c * 81 + 2147483648 - 1) 2147483648) = upZ (mZ c * 81) 2147483648 := by
    rw [show Int.tdiv (mZ c * 81 + 2147483648 - 1) 2147483648 = upZ (mZ c * 81) 2147483648 from Int.tdiv_eq_ediv_of_nonneg (by omega), IntKind.wrap_i64]
    omega
  have e1 : IntKind.i64.wrap (1 + upZ (mZ c * 81) 2147483648) = 1 + upZ (mZ c * 81) 2147483648 := by rw [IntKind.wrap_i64]; omega
  have e2 : IntKind.i64.wrap (kZ c * (1 + upZ (mZ c * 81) 2147483648)) = gZ c := by
    have h : gZ c = kZ c * (1 + upZ (mZ c * 81) 2147483648) := rfl
    rw [← h, IntKind.wrap_i64]
    omega
  have cK := pkept_any r
  have cM := pmost_any r
  clear hb hc hg hm
  generalize mZ c = M0 at *
  generalize upZ (M0 * 81) 2147483648 = U0 at *
  generalize kZ c = K0 at *
  generalize gZ c = G0 at *
  unfold cfV at *
  have HS : Hid (St w w.heap.size c (w.alloc (.cells #[.int .i64 c.nodes, .int .i64 c.queue, .int .i64 c.limit, .int .i64 c.age, .int .i64 c.fair, .int .i64 c.size, .int .i64 c.period, .int .i64 c.half] 48)).drew) := keepW (St.new4 w c) ((Below.refl _ _).drew)
  go_enter Try.func71, Try.ntmps71
  go_upto_region 1 with fail
  go_region_held3 (fun x => x.cell? ⟨w.heap.size, 0, none⟩ = some (.int .i64 c.nodes) ∧ x.cell? ⟨w.heap.size, 1, none⟩ = some (.int .i64 c.queue) ∧ x.cell? ⟨w.heap.size, 2, none⟩ = some (.int .i64 c.limit) ∧ x.cell? ⟨w.heap.size, 3, none⟩ = some (.int .i64 c.age) ∧ x.cell? ⟨w.heap.size, 4, none⟩ = some (.int .i64 c.fair) ∧ x.cell? ⟨w.heap.size, 5, none⟩ = some (.int .i64 c.size) ∧ x.cell? ⟨w.heap.size, 6, none⟩ = some (.int .i64 c.period) ∧ x.cell? ⟨w.heap.size, 7, none⟩ = some (.int .i64 c.half) ∧ Below w.heap.size w x ∧ w.heap.size ≤ x.heap.size) (first | exact HS.out | exact keepW (by assumption) (by assumption))
    (first
      | (go_at_call 68; refine (cK _).mono ?_; rintro e x ⟨rfl, hx⟩)
      | (go_at_call 47; refine (cM _).mono ?_; rintro e x ⟨rfl, hx⟩))
  all_goals
    have hS : St w w.heap.size c x := by assumption
    have hB := hS.bel
    clear hS HS
    go_wp2
    go_ret
    exact ⟨rfl, hB⟩
end Go.Proofs.Ytbcinapnnlfnbaa
