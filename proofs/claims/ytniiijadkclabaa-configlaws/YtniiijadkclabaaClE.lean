/-
  LAYER 11: ConfigLaws walked, where the config may be.
-/
import Derived.Test.YtniiijadkclabaaClD
namespace Go.Proofs.Ytniiijadkclabaa
open Go.RowKit Wd Cg

def St8 (w : World) (k2 : Nat) (N0 D0 : Int) (c : Cf) (x : World) : Prop := St w w.heap.size c x ∧ x.cell? ⟨k2, 0, none⟩ = some (.int .u64 (hiW N0)) ∧ x.cell? ⟨k2, 1, none⟩ = some (.int .u64 (loW N0)) ∧ x.cell? ⟨k2 + 1, 0, none⟩ = some (.int .u64 (hiW D0)) ∧ x.cell? ⟨k2 + 1, 1, none⟩ = some (.int .u64 (loW D0))
theorem keep8 {w x y : World} {k2 : Nat} {N0 D0 : Int} {c : Cf} (h : St8 w k2 N0 D0 c x) (b : Below x.heap.size x y) : St8 w k2 N0 D0 c y := by
  obtain ⟨h0, a, b1, c1, d⟩ := h
  exact ⟨keepW h0 b, keepC b a, keepC b b1, keepC b c1, keepC b d⟩
def St9 (w : World) (k2 k11 k13 : Nat) (N0 D0 X0 Y0 : Int) (c : Cf) (x : World) : Prop := St8 w k2 N0 D0 c x ∧ x.cell? ⟨k11, 0, none⟩ = some (.int .u64 (hiW X0)) ∧ x.cell? ⟨k11, 1, none⟩ = some (.int .u64 (loW X0)) ∧ x.cell? ⟨k13, 0, none⟩ = some (.int .u64 (hiW Y0)) ∧ x.cell? ⟨k13, 1, none⟩ = some (.int .u64 (loW Y0))
theorem keep9 {w x y : World} {k2 k11 k13 : Nat} {N0 D0 X0 Y0 : Int} {c : Cf} (h : St9 w k2 k11 k13 N0 D0 X0 Y0 c x) (b : Below x.heap.size x y) : St9 w k2 k11 k13 N0 D0 X0 Y0 c y := by
  obtain ⟨h0, a, b1, c1, d⟩ := h
  exact ⟨keep8 h0 b, keepC b a, keepC b b1, keepC b c1, keepC b d⟩
theorem lead_facts {c : Cf} (r : Rng c) : c.age * leadZ c ≤ aheadZ c ∧ aheadZ c < c.age * (leadZ c + 1) := by
  have h := Int.mul_ediv_add_emod (aheadZ c) c.age
  have h1 := Int.emod_nonneg (aheadZ c) (show c.age ≠ 0 by have := r.a0; omega)
  have h2 := Int.emod_lt_of_pos (aheadZ c) (show 0 < c.age by have := r.a0; omega)
  have e : leadZ c = aheadZ c / c.age := rfl
  rw [← e] at h
  rw [Int.mul_add, Int.mul_one]
  omega
set_option maxHeartbeats 8000000 in
set_option maxRecDepth 100000 in
theorem laws_yes (A : Asks) {c : Cf} (hf : FitC c) (h : chkZ c = 0) (w : World) : Calls Try.prog 4 #[cfV c] w fun e w' => e = .returned (.bool true) ∧ Below w.heap.size w w' := by
  obtain ⟨r, hm, hoff⟩ := chk_ok h
  have p1 := A.check hf
  have p2 := A.lead hf
  have p3 := A.bound hf
  have p4 := A.most hf
  have p5 := A.floor hf
  have p6 := A.off hf
  rw [h] at p1
  rw [if_pos h] at p2 p3 p4 p5
  rw [if_pos h, if_pos h] at p6
  have hA := ahead_box r
  have hL := lead_box r
  have hB0 := bound_box r
  have hC := c_box r
  have hM := m_box r
  have hT := top_box r
  have hO := off_box r hm
  have hl := lead_facts r
  have ra0 := r.a0
  have ra1 := r.a1
  have rf0 := r.f0
  have rf1 := r.f1
  have tp : top = 340282366920938463463374607431768211455 := rfl
  have hpr := mul_box (a := offD c) (b := topZ c) (A := 1152921504606846976) (B := 562949953421312) (by omega) (by omega) (by omega) (by omega)
  have c5 := rtimes_fit (u := offN c) (b := 1000) ⟨by omega, by omega⟩ ⟨by omega, by omega⟩ (by omega)
  have c6 := rtimes_fit (u := offD c) (b := topZ c) ⟨by omega, by omega⟩ ⟨by omega, by omega⟩ (by omega)
  have c7 := rcmp_num (offN c * 1000) (offD c * topZ c)
  have hcm : cmpV (offN c * 1000) (offD c * topZ c) ≤ 0 := by unfold cmpV; split <;> (try split) <;> omega
  have hbd : boundZ c = leadZ c + 1 + c.queue * c.limit := rfl
  have htp : topZ c = c.age * boundZ c + aheadZ c := rfl
  have hah : aheadZ c = c.fair + c.size * c.nodes := rfl
  have hcz : cZ c = c.nodes * c.period := rfl
  have hag : c.age * (leadZ c + 1) = c.age * leadZ c + c.age := by rw [Int.mul_add, Int.mul_one]
  have nn : 0 ≤ c.age * leadZ c := Int.mul_nonneg (by omega) (by omega)
  have a1 : IntKind.i64.wrap (c.size * c.nodes) = c.size * c.nodes := by rw [IntKind.wrap_i64]; omega
  have a2 : IntKind.i64.wrap (c.fair + c.size * c.nodes) = aheadZ c := by rw [← hah, IntKind.wrap_i64]; omega
  have b1 : IntKind.i64.wrap (leadZ c + 1) = leadZ c + 1 := by rw [IntKind.wrap_i64]; omega
  have b2 : IntKind.i64.wrap (c.age * (leadZ c + 1)) = c.age * (leadZ c + 1) := by rw [IntKind.wrap_i64]; omega
  have b3 : ¬ c.age * (leadZ c + 1) ≤ aheadZ c := by omega
  have b4 : IntKind.i64.wrap (c.age * leadZ c) = c.age * leadZ c := by rw [IntKind.wrap_i64]; omega
  have b5 : ¬ aheadZ c < c.age * leadZ c := by omega
  have b6 : IntKind.i64.wrap (c.queue * c.limit) = c.queue * c.limit := by rw [IntKind.wrap_i64]; omega
  have b7 : IntKind.i64.wrap (leadZ c + 1 + c.queue * c.limit) = boundZ c := by rw [← hbd, IntKind.wrap_i64]; omega
  have d0 : IntKind.u64.wrap (mZ c * 4294967296 / 2) = mZ c * 4294967296 / 2 := by rw [IntKind.wrap_u64]; omega
  have d1 : ¬ mZ c * 4294967296 / 2 < cZ c * 4294967296 := by omega
  have d2 : IntKind.i64.wrap (c.nodes * c.period) = cZ c := by rw [← hcz, IntKind.wrap_i64]; omega
  have d3 : IntKind.u64.wrap (cZ c) = cZ c := by rw [IntKind.wrap_u64]; omega
  have d4 : IntKind.u64.wrap (cZ c * 4294967296) = cZ c * 4294967296 := by rw [IntKind.wrap_u64]; omega
  have d5 : ¬ 9223372036854775808 < mZ c * 4294967296 := by omega
  have g1 : IntKind.i64.wrap (c.age * boundZ c) = c.age * boundZ c := by rw [IntKind.wrap_i64]; omega
  have g2 : IntKind.i64.wrap (c.age * boundZ c + aheadZ c) = topZ c := by rw [← htp, IntKind.wrap_i64]; omega
  have g3 : IntKind.u64.wrap (topZ c) = topZ c := by rw [IntKind.wrap_u64]; omega
  have d6 : IntKind.u64.wrap (Int.tdiv (mZ c * 4294967296) 2) = mZ c * 4294967296 / 2 := by rw [Int.tdiv_eq_ediv_of_nonneg (by omega)]; exact d0
  have q7 : decide (cmpV (offN c * 1000) (offD c * topZ c) ≤ 0) = true := decide_eq_true hcm
  have HO : Hid (1 ≤ offD c ∧ offD c ≤ 1152921504606846976) := ⟨hO.2.2.2.2.1, hO.2.2.2.2.2⟩
  have HP : Hid (¬ c.fair = 0 → 0 < offN c) := fun h0 => by unfold offN; rw [if_neg h0]; omega
  have q3 : decide (c.age * (leadZ c + 1) ≤ aheadZ c) = false := decide_eq_false b3
  have q5 : decide (aheadZ c < c.age * leadZ c) = false := decide_eq_false b5
  have q1 : decide (mZ c * 4294967296 / 2 < cZ c * 4294967296) = false := decide_eq_false d1
  have q6 : decide (9223372036854775808 < mZ c * 4294967296) = false := decide_eq_false d5
  clear hA hL hB0 hC hM hT hO hl ra0 ra1 rf0 rf1 tp hpr hoff hm h hbd htp hah hcz hag nn
  generalize hX : offN c * 1000 = X0 at *
  generalize hY : offD c * topZ c = Y0 at *
  clear hX hY
  generalize cmpV X0 Y0 = Q0 at *
  generalize hM0 : mZ c = M0 at *
  generalize hC0 : cZ c = C0 at *
  generalize hT0 : topZ c = T0 at *
  generalize hB0 : boundZ c = B0 at *
  generalize hL0 : leadZ c = L0 at *
  generalize hA0 : aheadZ c = A0 at *
  clear hM0 hC0 hT0 hB0 hL0 hA0
  obtain ⟨N0, hN0⟩ : ∃ N0, N0 = offN c := ⟨_, rfl⟩
  obtain ⟨D0, hD0⟩ : ∃ D0, D0 = offD c := ⟨_, rfl⟩
  rw [← hN0] at c5 p6
  rw [← hD0] at c6 p6
  have HN : Hid _ := hN0
  have HD : Hid _ := hD0
  clear hN0 hD0
  unfold cfV at *
  have hS := St.new w c
  go_enter Try.func4, Try.ntmps4
  go_wp2_with fail
  refine (shown_any A _).mono ?_
  rintro e w1 ⟨rfl, b⟩
  replace hS := keepW hS b
  clear b
  obtain ⟨s0, s1, s2, s3, s4, s5, s6, s7, _, _⟩ := id hS
  go_wp2_with fail
  refine (p6 _).mono ?_
  rintro e w2 ⟨rfl, b⟩
  replace hS := keepW hS b
  clear b s0 s1 s2 s3 s4 s5 s6 s7
  have bA : Below w2.heap.size w2 (w2.alloc (.cells #[.int .u64 (hiW N0), .int .u64 (loW N0)] 27)) := (Below.refl _ _).alloc (Nat.le_refl _) _
  have bB : Below (w2.alloc (.cells #[.int .u64 (hiW N0), .int .u64 (loW N0)] 27)).heap.size (w2.alloc (.cells #[.int .u64 (hiW N0), .int .u64 (loW N0)] 27)) ((w2.alloc (.cells #[.int .u64 (hiW N0), .int .u64 (loW N0)] 27)).alloc (.cells #[.int .u64 (hiW D0), .int .u64 (loW D0)] 27)) := (Below.refl _ _).alloc (Nat.le_refl _) _
  have n2 := (Nu.new w2 N0 27).keep bB
  have m2 := Nu.new (w2.alloc (.cells #[.int .u64 (hiW N0), .int .u64 (loW N0)] 27)) D0 27
  rw [World.size_alloc] at m2
  replace hS := keepW (keepW hS bA) bB
  go_upto_region 3 with fail
  generalize (w2.alloc (.cells #[.int .u64 (hiW N0), .int .u64 (loW N0)] 27)).alloc (.cells #[.int .u64 (hiW D0), .int .u64 (loW D0)] 27) = v2 at *
  clear bA bB
  generalize w2.heap.size = k2 at *
  obtain ⟨s0, s1, s2, s3, s4, s5, s6, s7, _, _⟩ := id hS
  go_wp2_with fail
  refine (p1 _).mono ?_
  rintro e w3 ⟨rfl, b⟩
  replace hS := keepW hS b
  replace n2 := n2.keep b
  replace m2 := m2.keep b
  clear b s0 s1 s2 s3 s4 s5 s6 s7
  obtain ⟨s0, s1, s2, s3, s4, s5, s6, s7, _, _⟩ := id hS
  go_wp2_with fail
  refine (p2 _).mono ?_
  rintro e w4 ⟨rfl, b⟩
  replace hS := keepW hS b
  replace n2 := n2.keep b
  replace m2 := m2.keep b
  clear b s0 s1 s2 s3 s4 s5 s6 s7
  obtain ⟨s0, s1, s2, s3, s4, s5, s6, s7, _, _⟩ := id hS
  go_upto_region 7 with fail
  have HS : Hid (St8 w k2 N0 D0 c (World.drew w4)) := keep8 ⟨hS, n2.c0, n2.c1, m2.c0, m2.c1⟩ ((Below.refl _ _).drew)
  clear hS n2 m2
  go_region_held3 (fun x => (x.cell? ⟨w.heap.size, 0, none⟩ = some (.int .i64 c.nodes) ∧ x.cell? ⟨w.heap.size, 1, none⟩ = some (.int .i64 c.queue) ∧ x.cell? ⟨w.heap.size, 2, none⟩ = some (.int .i64 c.limit) ∧ x.cell? ⟨w.heap.size, 3, none⟩ = some (.int .i64 c.age) ∧ x.cell? ⟨w.heap.size, 4, none⟩ = some (.int .i64 c.fair) ∧ x.cell? ⟨w.heap.size, 5, none⟩ = some (.int .i64 c.size) ∧ x.cell? ⟨w.heap.size, 6, none⟩ = some (.int .i64 c.period) ∧ x.cell? ⟨w.heap.size, 7, none⟩ = some (.int .i64 c.half) ∧ Below w.heap.size w x ∧ w.heap.size ≤ x.heap.size) ∧ x.cell? ⟨k2, 0, none⟩ = some (.int .u64 (hiW N0)) ∧ x.cell? ⟨k2, 1, none⟩ = some (.int .u64 (loW N0)) ∧ x.cell? ⟨k2 + 1, 0, none⟩ = some (.int .u64 (hiW D0)) ∧ x.cell? ⟨k2 + 1, 1, none⟩ = some (.int .u64 (loW D0))) (first | exact HS.out | exact keep8 (by assumption) (by assumption))
    (first
      | (go_at_call 13; refine (p3 _).mono ?_; rintro e x ⟨rfl, hx⟩))
  have h8 : St8 w k2 N0 D0 c x := by assumption
  obtain ⟨hS, z0, z1, z2, z3⟩ := h8
  have n2 : Nu x k2 N0 := ⟨z0, z1⟩
  have m2 : Nu x (k2 + 1) D0 := ⟨z2, z3⟩
  clear HS z0 z1 z2 z3
  go_upto_region 9 with fail
  have HS : Hid (St8 w k2 N0 D0 c (World.drew x)) := keep8 ⟨hS, n2.c0, n2.c1, m2.c0, m2.c1⟩ ((Below.refl _ _).drew)
  clear hS n2 m2
  go_region_held3 (fun x => (x.cell? ⟨w.heap.size, 0, none⟩ = some (.int .i64 c.nodes) ∧ x.cell? ⟨w.heap.size, 1, none⟩ = some (.int .i64 c.queue) ∧ x.cell? ⟨w.heap.size, 2, none⟩ = some (.int .i64 c.limit) ∧ x.cell? ⟨w.heap.size, 3, none⟩ = some (.int .i64 c.age) ∧ x.cell? ⟨w.heap.size, 4, none⟩ = some (.int .i64 c.fair) ∧ x.cell? ⟨w.heap.size, 5, none⟩ = some (.int .i64 c.size) ∧ x.cell? ⟨w.heap.size, 6, none⟩ = some (.int .i64 c.period) ∧ x.cell? ⟨w.heap.size, 7, none⟩ = some (.int .i64 c.half) ∧ Below w.heap.size w x ∧ w.heap.size ≤ x.heap.size) ∧ x.cell? ⟨k2, 0, none⟩ = some (.int .u64 (hiW N0)) ∧ x.cell? ⟨k2, 1, none⟩ = some (.int .u64 (loW N0)) ∧ x.cell? ⟨k2 + 1, 0, none⟩ = some (.int .u64 (hiW D0)) ∧ x.cell? ⟨k2 + 1, 1, none⟩ = some (.int .u64 (loW D0))) (first | exact HS.out | exact keep8 (by assumption) (by assumption))
    (first
      | (go_at_call 15; refine (p4 _).mono ?_; rintro e y ⟨rfl, hx⟩)
      | (go_at_call 17; refine (p5 _).mono ?_; rintro e y ⟨rfl, hx⟩))
  have h8 : St8 w k2 N0 D0 c y := by assumption
  obtain ⟨hS, z0, z1, z2, z3⟩ := h8
  have n2 : Nu y k2 N0 := ⟨z0, z1⟩
  have m2 : Nu y (k2 + 1) D0 := ⟨z2, z3⟩
  clear HS z0 z1 z2 z3
  go_upto_region 11 with fail
  have HS : Hid (St8 w k2 N0 D0 c (World.drew y)) := keep8 ⟨hS, n2.c0, n2.c1, m2.c0, m2.c1⟩ ((Below.refl _ _).drew)
  clear hS n2 m2
  go_region_held3 (fun x => (x.cell? ⟨w.heap.size, 0, none⟩ = some (.int .i64 c.nodes) ∧ x.cell? ⟨w.heap.size, 1, none⟩ = some (.int .i64 c.queue) ∧ x.cell? ⟨w.heap.size, 2, none⟩ = some (.int .i64 c.limit) ∧ x.cell? ⟨w.heap.size, 3, none⟩ = some (.int .i64 c.age) ∧ x.cell? ⟨w.heap.size, 4, none⟩ = some (.int .i64 c.fair) ∧ x.cell? ⟨w.heap.size, 5, none⟩ = some (.int .i64 c.size) ∧ x.cell? ⟨w.heap.size, 6, none⟩ = some (.int .i64 c.period) ∧ x.cell? ⟨w.heap.size, 7, none⟩ = some (.int .i64 c.half) ∧ Below w.heap.size w x ∧ w.heap.size ≤ x.heap.size) ∧ x.cell? ⟨k2, 0, none⟩ = some (.int .u64 (hiW N0)) ∧ x.cell? ⟨k2, 1, none⟩ = some (.int .u64 (loW N0)) ∧ x.cell? ⟨k2 + 1, 0, none⟩ = some (.int .u64 (hiW D0)) ∧ x.cell? ⟨k2 + 1, 1, none⟩ = some (.int .u64 (loW D0))) (first | exact HS.out | exact keep8 (by assumption) (by assumption))
    (first
      | (go_at_call 13; refine (p3 _).mono ?_; rintro e z ⟨rfl, hx⟩))
  have h8 : St8 w k2 N0 D0 c z := by assumption
  obtain ⟨hS, z0, z1, z2, z3⟩ := h8
  have n2 : Nu z k2 N0 := ⟨z0, z1⟩
  have m2 : Nu z (k2 + 1) D0 := ⟨z2, z3⟩
  clear HS z0 z1 z2 z3
  obtain ⟨a0, a1⟩ := id n2
  have b9 : Below z.heap.size z (z.alloc (.cells #[.int .u64 (hiW N0), .int .u64 (loW N0)] 30)) := (Below.refl _ _).alloc (Nat.le_refl _) _
  have n9 := Nu.new z N0 30
  go_upto_region 13 with fail
  replace hS := keepW hS b9
  replace n2 := n2.keep b9
  replace m2 := m2.keep b9
  clear a0 a1 b9
  generalize z.alloc (.cells #[.int .u64 (hiW N0), .int .u64 (loW N0)] 30) = v9 at *
  generalize z.heap.size = k9 at *
  obtain ⟨a0, a1⟩ := id m2
  have b9 : Below v9.heap.size v9 (v9.alloc (.cells #[.int .u64 (hiW D0), .int .u64 (loW D0)] 30)) := (Below.refl _ _).alloc (Nat.le_refl _) _
  have n10 := Nu.new v9 D0 30
  go_upto_region 14 with fail
  replace hS := keepW hS b9
  replace n2 := n2.keep b9
  replace m2 := m2.keep b9
  replace n9 := n9.keep b9
  clear a0 a1 b9
  generalize v9.alloc (.cells #[.int .u64 (hiW D0), .int .u64 (loW D0)] 30) = v10 at *
  generalize v9.heap.size = k10 at *
  obtain ⟨a0, a1⟩ := id n9
  go_wp2_with fail
  refine (c5 _).mono ?_
  rintro e w14 ⟨rfl, b⟩
  replace hS := keepW hS b
  replace n2 := n2.keep b
  replace m2 := m2.keep b
  replace n10 := n10.keep b
  clear b a0 a1 n9
  have b9 : Below w14.heap.size w14 (w14.alloc (.cells #[.int .u64 (hiW X0), .int .u64 (loW X0)] 30)) := (Below.refl _ _).alloc (Nat.le_refl _) _
  have n11 := Nu.new w14 X0 30
  go_upto_region 15 with fail
  replace hS := keepW hS b9
  replace n2 := n2.keep b9
  replace m2 := m2.keep b9
  replace n10 := n10.keep b9
  clear b9
  generalize w14.alloc (.cells #[.int .u64 (hiW X0), .int .u64 (loW X0)] 30) = v11 at *
  generalize w14.heap.size = k11 at *
  obtain ⟨a0, a1⟩ := id n10
  go_wp2_with fail
  refine (c6 _).mono ?_
  rintro e w15 ⟨rfl, b⟩
  replace hS := keepW hS b
  replace n2 := n2.keep b
  replace m2 := m2.keep b
  replace n11 := n11.keep b
  clear b a0 a1 n10
  have b9 : Below w15.heap.size w15 (w15.alloc (.cells #[.int .u64 (hiW Y0), .int .u64 (loW Y0)] 30)) := (Below.refl _ _).alloc (Nat.le_refl _) _
  have n13 := Nu.new w15 Y0 30
  go_upto_region 16 with fail
  replace hS := keepW hS b9
  replace n2 := n2.keep b9
  replace m2 := m2.keep b9
  replace n11 := n11.keep b9
  clear b9
  generalize w15.alloc (.cells #[.int .u64 (hiW Y0), .int .u64 (loW Y0)] 30) = v13 at *
  generalize w15.heap.size = k13 at *
  have HS : Hid (St9 w k2 k11 k13 N0 D0 X0 Y0 c v13.drew) := keep9 ⟨⟨hS, n2.c0, n2.c1, m2.c0, m2.c1⟩, n11.c0, n11.c1, n13.c0, n13.c1⟩ ((Below.refl _ _).drew)
  clear hS n2 m2 n11 n13
  have hD1 := HD.out
  have hD2 : (hiW D0 == 0) = true ∧ (loW D0 == 0) = false := by
    obtain ⟨h1, h2⟩ := HO.out
    rw [← hD1] at h1 h2
    unfold hiW loW
    constructor
    · simp; omega
    · simp; omega
  obtain ⟨hD3, hD4⟩ := hD2
  clear hD1
  have hN3 := HN.out
  by_cases h0 : c.fair = 0
  · have g5 : (c.fair == 0) = true := by simp [h0]
    have hn : N0 = 0 := by rw [hN3]; unfold offN; rw [if_pos h0]
    have g6 : (hiW N0 == 0) = true := by rw [hn]; rfl
    have g7 : (loW N0 == 0) = true := by rw [hn]; rfl
    clear hN3 hn h0
    go_region_held3 (fun x => ((x.cell? ⟨w.heap.size, 0, none⟩ = some (.int .i64 c.nodes) ∧ x.cell? ⟨w.heap.size, 1, none⟩ = some (.int .i64 c.queue) ∧ x.cell? ⟨w.heap.size, 2, none⟩ = some (.int .i64 c.limit) ∧ x.cell? ⟨w.heap.size, 3, none⟩ = some (.int .i64 c.age) ∧ x.cell? ⟨w.heap.size, 4, none⟩ = some (.int .i64 c.fair) ∧ x.cell? ⟨w.heap.size, 5, none⟩ = some (.int .i64 c.size) ∧ x.cell? ⟨w.heap.size, 6, none⟩ = some (.int .i64 c.period) ∧ x.cell? ⟨w.heap.size, 7, none⟩ = some (.int .i64 c.half) ∧ Below w.heap.size w x ∧ w.heap.size ≤ x.heap.size) ∧ x.cell? ⟨k2, 0, none⟩ = some (.int .u64 (hiW N0)) ∧ x.cell? ⟨k2, 1, none⟩ = some (.int .u64 (loW N0)) ∧ x.cell? ⟨k2 + 1, 0, none⟩ = some (.int .u64 (hiW D0)) ∧ x.cell? ⟨k2 + 1, 1, none⟩ = some (.int .u64 (loW D0))) ∧ x.cell? ⟨k11, 0, none⟩ = some (.int .u64 (hiW X0)) ∧ x.cell? ⟨k11, 1, none⟩ = some (.int .u64 (loW X0)) ∧ x.cell? ⟨k13, 0, none⟩ = some (.int .u64 (hiW Y0)) ∧ x.cell? ⟨k13, 1, none⟩ = some (.int .u64 (loW Y0))) (first | exact HS.out | exact keep9 (by assumption) (by assumption))
      (first
        | (go_at_call 21; refine (c7 _).mono ?_; rintro e u ⟨rfl, hx⟩))
    all_goals
      have h9 : St9 w k2 k11 k13 N0 D0 X0 Y0 c u := by assumption
      have hB := h9.1.1.bel
      clear h9 HS
      go_wp2
      go_ret
      exact ⟨rfl, hB⟩
  · have g5 : (c.fair == 0) = false := by simp [h0]
    have hn : 0 < N0 := by
      rw [hN3]
      exact HP.out h0
    by_cases g6' : hiW N0 = 0
    · have g6 : (hiW N0 == 0) = true := by simp [g6']
      have g7 : (loW N0 == 0) = false := by
        unfold hiW loW at *
        simp
        omega
      clear hN3 hn h0 g6'
      go_region_held3 (fun x => ((x.cell? ⟨w.heap.size, 0, none⟩ = some (.int .i64 c.nodes) ∧ x.cell? ⟨w.heap.size, 1, none⟩ = some (.int .i64 c.queue) ∧ x.cell? ⟨w.heap.size, 2, none⟩ = some (.int .i64 c.limit) ∧ x.cell? ⟨w.heap.size, 3, none⟩ = some (.int .i64 c.age) ∧ x.cell? ⟨w.heap.size, 4, none⟩ = some (.int .i64 c.fair) ∧ x.cell? ⟨w.heap.size, 5, none⟩ = some (.int .i64 c.size) ∧ x.cell? ⟨w.heap.size, 6, none⟩ = some (.int .i64 c.period) ∧ x.cell? ⟨w.heap.size, 7, none⟩ = some (.int .i64 c.half) ∧ Below w.heap.size w x ∧ w.heap.size ≤ x.heap.size) ∧ x.cell? ⟨k2, 0, none⟩ = some (.int .u64 (hiW N0)) ∧ x.cell? ⟨k2, 1, none⟩ = some (.int .u64 (loW N0)) ∧ x.cell? ⟨k2 + 1, 0, none⟩ = some (.int .u64 (hiW D0)) ∧ x.cell? ⟨k2 + 1, 1, none⟩ = some (.int .u64 (loW D0))) ∧ x.cell? ⟨k11, 0, none⟩ = some (.int .u64 (hiW X0)) ∧ x.cell? ⟨k11, 1, none⟩ = some (.int .u64 (loW X0)) ∧ x.cell? ⟨k13, 0, none⟩ = some (.int .u64 (hiW Y0)) ∧ x.cell? ⟨k13, 1, none⟩ = some (.int .u64 (loW Y0))) (first | exact HS.out | exact keep9 (by assumption) (by assumption))
        (first
          | (go_at_call 21; refine (c7 _).mono ?_; rintro e u ⟨rfl, hx⟩))
      all_goals
        have h9 : St9 w k2 k11 k13 N0 D0 X0 Y0 c u := by assumption
        have hB := h9.1.1.bel
        clear h9 HS
        go_wp2
        go_ret
        exact ⟨rfl, hB⟩
    · have g6 : (hiW N0 == 0) = false := by simp [g6']
      clear hN3 hn h0 g6'
      go_region_held3 (fun x => ((x.cell? ⟨w.heap.size, 0, none⟩ = some (.int .i64 c.nodes) ∧ x.cell? ⟨w.heap.size, 1, none⟩ = some (.int .i64 c.queue) ∧ x.cell? ⟨w.heap.size, 2, none⟩ = some (.int .i64 c.limit) ∧ x.cell? ⟨w.heap.size, 3, none⟩ = some (.int .i64 c.age) ∧ x.cell? ⟨w.heap.size, 4, none⟩ = some (.int .i64 c.fair) ∧ x.cell? ⟨w.heap.size, 5, none⟩ = some (.int .i64 c.size) ∧ x.cell? ⟨w.heap.size, 6, none⟩ = some (.int .i64 c.period) ∧ x.cell? ⟨w.heap.size, 7, none⟩ = some (.int .i64 c.half) ∧ Below w.heap.size w x ∧ w.heap.size ≤ x.heap.size) ∧ x.cell? ⟨k2, 0, none⟩ = some (.int .u64 (hiW N0)) ∧ x.cell? ⟨k2, 1, none⟩ = some (.int .u64 (loW N0)) ∧ x.cell? ⟨k2 + 1, 0, none⟩ = some (.int .u64 (hiW D0)) ∧ x.cell? ⟨k2 + 1, 1, none⟩ = some (.int .u64 (loW D0))) ∧ x.cell? ⟨k11, 0, none⟩ = some (.int .u64 (hiW X0)) ∧ x.cell? ⟨k11, 1, none⟩ = some (.int .u64 (loW X0)) ∧ x.cell? ⟨k13, 0, none⟩ = some (.int .u64 (hiW Y0)) ∧ x.cell? ⟨k13, 1, none⟩ = some (.int .u64 (loW Y0))) (first | exact HS.out | exact keep9 (by assumption) (by assumption))
        (first
          | (go_at_call 21; refine (c7 _).mono ?_; rintro e u ⟨rfl, hx⟩))
      all_goals
        have h9 : St9 w k2 k11 k13 N0 D0 X0 Y0 c u := by assumption
        have hB := h9.1.1.bel
        clear h9 HS
        go_wp2
        go_ret
        exact ⟨rfl, hB⟩
end Go.Proofs.Ytniiijadkclabaa
