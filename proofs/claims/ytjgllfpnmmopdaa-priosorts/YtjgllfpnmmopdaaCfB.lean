/-
  LAYER 11: the reference's K, C, M, G, lead, bound (backfillref11).
-/
import Derived.Test.YtjgllfpnmmopdaaCfA
import Derived.Deep.CutBlock
import Derived.Deep.DeepCutAuto
namespace Go.Proofs.Ytjgllfpnmmopdaa
open Go.RowKit Wd Cg

/-- What stands while a config that came by value is read. -/
def St (w : World) (g : Nat) (c : Cf) (x : World) : Prop := x.cell? ⟨g, 0, none⟩ = some (.int .i64 c.nodes) ∧ x.cell? ⟨g, 1, none⟩ = some (.int .i64 c.queue) ∧ x.cell? ⟨g, 2, none⟩ = some (.int .i64 c.limit) ∧ x.cell? ⟨g, 3, none⟩ = some (.int .i64 c.age) ∧ x.cell? ⟨g, 4, none⟩ = some (.int .i64 c.fair) ∧ x.cell? ⟨g, 5, none⟩ = some (.int .i64 c.size) ∧ x.cell? ⟨g, 6, none⟩ = some (.int .i64 c.period) ∧ x.cell? ⟨g, 7, none⟩ = some (.int .i64 c.half) ∧ Below w.heap.size w x ∧ w.heap.size ≤ x.heap.size
theorem St.new (w : World) (c : Cf) : St w w.heap.size c (w.alloc (.cells #[.int .i64 c.nodes, .int .i64 c.queue, .int .i64 c.limit, .int .i64 c.age, .int .i64 c.fair, .int .i64 c.size, .int .i64 c.period, .int .i64 c.half] 31)) :=
  ⟨by simp, by simp, by simp, by simp, by simp, by simp, by simp, by simp, (Below.refl _ _).alloc (Nat.le_refl _) _, by simp⟩
theorem keepW {w x y : World} {g : Nat} {c : Cf} (h : St w g c x) (b : Below x.heap.size x y) : St w g c y := by
  obtain ⟨h0, h1, h2, h3, h4, h5, h6, h7, h8, h9⟩ := h
  exact ⟨keepC b h0, keepC b h1, keepC b h2, keepC b h3, keepC b h4, keepC b h5, keepC b h6, keepC b h7, h8.trans (b.mono h9), Nat.le_trans h9 b.size⟩
theorem St.bel {w x : World} {g : Nat} {c : Cf} (h : St w g c x) : Below w.heap.size w x := h.2.2.2.2.2.2.2.2.1

theorem rC_any {c : Cf} (r : Rng c) (w : World) : Calls Try.prog 43 #[cfV c] w fun e w' => e = .returned (.int .i64 (cZ c)) ∧ Below w.heap.size w w' := by
  have hb := c_box r
  have e1 : wrap64 (c.nodes * c.period) = cZ c := by
    have h : cZ c = c.nodes * c.period := rfl
    rw [← h]
    unfold wrap64
    omega
  unfold cfV
  go_enter Try.func43, Try.ntmps43
  go_wp2
  go_ret
  exact ⟨by simp [e1], (Below.refl _ _).alloc (Nat.le_refl _) _⟩
theorem rK_any {c : Cf} (r : Rng c) (w : World) : Calls Try.prog 44 #[cfV c] w fun e w' => e = .returned (.int .i64 (kZ c)) ∧ Below w.heap.size w w' := by
  have he := e_box r
  have hu := up_box he.1
  have cE := rexp_any r.p0 r.p1 r.h0 r.h1
  rw [show c.period * 4294967296 / c.half = eZ c from rfl] at cE
  have cU := rup_any (a := 8589934592) (b := eZ c) (by omega) (by omega) (by omega)
  have hk : kZ c = if upZ 8589934592 (eZ c) < 2 then 2 else upZ 8589934592 (eZ c) := rfl
  rw [hk]
  clear hk
  have ec : wrap64 (eZ c) = eZ c := by unfold wrap64; omega
  generalize upZ 8589934592 (eZ c) = k at *
  generalize eZ c = ee at *
  unfold cfV
  by_cases h2 : k < 2
  · rw [if_pos h2]
    go_enter Try.func44, Try.ntmps44
    go_wp2_with fail
    refine (cE _).mono ?_
    rintro e w1 ⟨rfl, rfl⟩
    go_wp2_with fail
    refine (cU _).mono ?_
    rintro e w1 ⟨rfl, rfl⟩
    go_wp2
    go_ret
    exact ⟨rfl, (Below.refl _ _).alloc (Nat.le_refl _) _⟩
  · rw [if_neg h2]
    go_enter Try.func44, Try.ntmps44
    go_wp2_with fail
    refine (cE _).mono ?_
    rintro e w1 ⟨rfl, rfl⟩
    go_wp2_with fail
    refine (cU _).mono ?_
    rintro e w1 ⟨rfl, rfl⟩
    go_wp2
    go_ret
    exact ⟨rfl, (Below.refl _ _).alloc (Nat.le_refl _) _⟩
theorem rlead_any {c : Cf} (r : Rng c) (w : World) : Calls Try.prog 32 #[cfV c] w fun e w' => e = .returned (.int .i64 (leadZ c)) ∧ Below w.heap.size w w' := by
  have hb := ahead_box r
  have hl := lead_box r
  have ha := r.a0
  have hf := r.f0
  have hf1 := r.f1
  have e1 : wrap64 (c.size * c.nodes) = c.size * c.nodes := by unfold wrap64; omega
  have e2 : wrap64 (c.fair + c.size * c.nodes) = aheadZ c := by
    have h : aheadZ c = c.fair + c.size * c.nodes := rfl
    rw [← h]
    unfold wrap64
    omega
  have e3 : Int.tdiv (aheadZ c) c.age = leadZ c := Int.tdiv_eq_ediv_of_nonneg (by omega)
  have e4 : wrap64 (leadZ c) = leadZ c := by unfold wrap64; omega
  have nz : ¬ c.age = 0 := by omega
  unfold cfV
  go_enter Try.func32, Try.ntmps32
  go_wp2
  go_ret
  exact ⟨rfl, (Below.refl _ _).alloc (Nat.le_refl _) _⟩
set_option maxHeartbeats 1000000 in
theorem rM_any {c : Cf} (r : Rng c) (w : World) : Calls Try.prog 27 #[cfV c] w fun e w' => e = .returned (.int .i64 (mZ c)) ∧ Below w.heap.size w w' := by
  have hb := m_box r
  have hc := c_box r
  have e1 : IntKind.i64.wrap (cZ c * kZ c) = mZ c := by
    have h : mZ c = cZ c * kZ c := rfl
    rw [← h, IntKind.wrap_i64]
    omega
  have cC := rC_any r
  have cK := rK_any r
  generalize cZ c = C0 at *
  generalize kZ c = K0 at *
  generalize mZ c = M0 at *
  unfold cfV at *
  have HS : Hid (St w w.heap.size c (w.alloc (.cells #[.int .i64 c.nodes, .int .i64 c.queue, .int .i64 c.limit, .int .i64 c.age, .int .i64 c.fair, .int .i64 c.size, .int .i64 c.period, .int .i64 c.half] 31)).drew) := keepW (St.new w c) ((Below.refl _ _).drew)
  clear hb hc
  go_enter Try.func27, Try.ntmps27
  go_upto_region 1 with fail
  go_region_held3 (fun x => x.cell? ⟨w.heap.size, 0, none⟩ = some (.int .i64 c.nodes) ∧ x.cell? ⟨w.heap.size, 1, none⟩ = some (.int .i64 c.queue) ∧ x.cell? ⟨w.heap.size, 2, none⟩ = some (.int .i64 c.limit) ∧ x.cell? ⟨w.heap.size, 3, none⟩ = some (.int .i64 c.age) ∧ x.cell? ⟨w.heap.size, 4, none⟩ = some (.int .i64 c.fair) ∧ x.cell? ⟨w.heap.size, 5, none⟩ = some (.int .i64 c.size) ∧ x.cell? ⟨w.heap.size, 6, none⟩ = some (.int .i64 c.period) ∧ x.cell? ⟨w.heap.size, 7, none⟩ = some (.int .i64 c.half) ∧ Below w.heap.size w x ∧ w.heap.size ≤ x.heap.size) (first | exact HS.out | exact keepW (by assumption) (by assumption))
    (first
      | (go_at_call 43; refine (cC _).mono ?_; rintro e x ⟨rfl, hx⟩)
      | (go_at_call 44; refine (cK _).mono ?_; rintro e x ⟨rfl, hx⟩))
  have hS : St w w.heap.size c x := by assumption
  have hB := hS.bel
  clear hS HS
  go_wp2
  go_ret
  exact ⟨rfl, hB⟩
set_option maxHeartbeats 1000000 in
theorem rG_any {c : Cf} (r : Rng c) (hm : mZ c ≤ 2147483648) (w : World) : Calls Try.prog 47 #[cfV c] w fun e w' => e = .returned (.int .i64 (gZ c)) ∧ Below w.heap.size w w' := by
  have hb := m_box r
  have hc := c_box r
  have hg := g_box r hm
  have e0 : IntKind.i64.wrap (mZ c * 81) = mZ c * 81 := by rw [IntKind.wrap_i64]; omega
  have e1 : IntKind.i64.wrap (1 + upZ (mZ c * 81) 2147483648) = 1 + upZ (mZ c * 81) 2147483648 := by rw [IntKind.wrap_i64]; omega
  have e2 : IntKind.i64.wrap (kZ c * (1 + upZ (mZ c * 81) 2147483648)) = gZ c := by
    have h : gZ c = kZ c * (1 + upZ (mZ c * 81) 2147483648) := rfl
    rw [← h, IntKind.wrap_i64]
    omega
  have cK := rK_any r
  have cM := rM_any r
  have cU : ∀ w, Calls Try.prog 59 #[.int .i64 (mZ c * 81), .int .i64 2147483648] w fun e w' => e = .returned (.int .i64 (upZ (mZ c * 81) 2147483648)) ∧ Below w.heap.size w w' := fun w => (rup_any (a := mZ c * 81) (b := 2147483648) (by omega) (by omega) (by omega) w).mono fun e w' h => ⟨h.1, by rw [h.2]; exact Below.refl _ _⟩
  clear hb hc hg hm
  generalize mZ c = M0 at *
  generalize upZ (M0 * 81) 2147483648 = U0 at *
  generalize kZ c = K0 at *
  generalize gZ c = G0 at *
  unfold cfV at *
  have HS : Hid (St w w.heap.size c (w.alloc (.cells #[.int .i64 c.nodes, .int .i64 c.queue, .int .i64 c.limit, .int .i64 c.age, .int .i64 c.fair, .int .i64 c.size, .int .i64 c.period, .int .i64 c.half] 31)).drew) := keepW (St.new w c) ((Below.refl _ _).drew)
  go_enter Try.func47, Try.ntmps47
  go_upto_region 1 with fail
  go_region_held3 (fun x => x.cell? ⟨w.heap.size, 0, none⟩ = some (.int .i64 c.nodes) ∧ x.cell? ⟨w.heap.size, 1, none⟩ = some (.int .i64 c.queue) ∧ x.cell? ⟨w.heap.size, 2, none⟩ = some (.int .i64 c.limit) ∧ x.cell? ⟨w.heap.size, 3, none⟩ = some (.int .i64 c.age) ∧ x.cell? ⟨w.heap.size, 4, none⟩ = some (.int .i64 c.fair) ∧ x.cell? ⟨w.heap.size, 5, none⟩ = some (.int .i64 c.size) ∧ x.cell? ⟨w.heap.size, 6, none⟩ = some (.int .i64 c.period) ∧ x.cell? ⟨w.heap.size, 7, none⟩ = some (.int .i64 c.half) ∧ Below w.heap.size w x ∧ w.heap.size ≤ x.heap.size) (first | exact HS.out | exact keepW (by assumption) (by assumption))
    (first
      | (go_at_call 44; refine (cK _).mono ?_; rintro e x ⟨rfl, hx⟩)
      | (go_at_call 27; refine (cM _).mono ?_; rintro e x ⟨rfl, hx⟩)
      | (go_at_call 59; refine (cU _).mono ?_; rintro e x ⟨rfl, hx⟩))
  all_goals
    have hS : St w w.heap.size c x := by assumption
    have hB := hS.bel
    clear hS HS
    go_wp2
    go_ret
    exact ⟨rfl, hB⟩
set_option maxHeartbeats 1000000 in
theorem rbound_any {c : Cf} (r : Rng c) (w : World) : Calls Try.prog 30 #[cfV c] w fun e w' => e = .returned (.int .i64 (boundZ c)) ∧ Below w.heap.size w w' := by
  have hb := bound_box r
  have hl := lead_box r
  have e0 : IntKind.i64.wrap (leadZ c + 1) = leadZ c + 1 := by rw [IntKind.wrap_i64]; omega
  have e1 : IntKind.i64.wrap (c.queue * c.limit) = c.queue * c.limit := by rw [IntKind.wrap_i64]; omega
  have e2 : IntKind.i64.wrap (leadZ c + 1 + c.queue * c.limit) = boundZ c := by
    have h : boundZ c = leadZ c + 1 + c.queue * c.limit := rfl
    rw [← h, IntKind.wrap_i64]
    omega
  have cL := rlead_any r
  clear hb hl
  generalize leadZ c = L0 at *
  generalize boundZ c = B0 at *
  unfold cfV at *
  have HS : Hid (St w w.heap.size c (w.alloc (.cells #[.int .i64 c.nodes, .int .i64 c.queue, .int .i64 c.limit, .int .i64 c.age, .int .i64 c.fair, .int .i64 c.size, .int .i64 c.period, .int .i64 c.half] 31)).drew) := keepW (St.new w c) ((Below.refl _ _).drew)
  go_enter Try.func30, Try.ntmps30
  go_upto_region 1 with fail
  go_region_held3 (fun x => x.cell? ⟨w.heap.size, 0, none⟩ = some (.int .i64 c.nodes) ∧ x.cell? ⟨w.heap.size, 1, none⟩ = some (.int .i64 c.queue) ∧ x.cell? ⟨w.heap.size, 2, none⟩ = some (.int .i64 c.limit) ∧ x.cell? ⟨w.heap.size, 3, none⟩ = some (.int .i64 c.age) ∧ x.cell? ⟨w.heap.size, 4, none⟩ = some (.int .i64 c.fair) ∧ x.cell? ⟨w.heap.size, 5, none⟩ = some (.int .i64 c.size) ∧ x.cell? ⟨w.heap.size, 6, none⟩ = some (.int .i64 c.period) ∧ x.cell? ⟨w.heap.size, 7, none⟩ = some (.int .i64 c.half) ∧ Below w.heap.size w x ∧ w.heap.size ≤ x.heap.size) (first | exact HS.out | exact keepW (by assumption) (by assumption))
    (first | (go_at_call 32; refine (cL _).mono ?_; rintro e x ⟨rfl, hx⟩))
  all_goals
    have hS : St w w.heap.size c x := by assumption
    have hB := hS.bel
    clear hS HS
    go_wp2
    go_ret
    exact ⟨rfl, hB⟩
end Go.Proofs.Ytjgllfpnmmopdaa
