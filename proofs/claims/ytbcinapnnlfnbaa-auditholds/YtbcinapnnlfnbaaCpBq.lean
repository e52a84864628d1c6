/-
  LAYER 11: package config: wide's calls over numbers that fit; (asked).off.
-/
import Derived.Test.YtbcinapnnlfnbaaCpAq
namespace Go.Proofs.Ytbcinapnnlfnbaa
open Go.RowKit Wd Cg

theorem padd_fit {u v : Int} (hu : 0 ≤ u) (hv : 0 ≤ v) (h : u + v ≤ top) (w : World) :
    Calls Try.prog 72 #[nu u, nu v] w fun e w' => e = .returned (.tuple #[nu (u + v), .bool true]) ∧ Below w.heap.size w w' := by
  have c := add_num u v ⟨hu, by omega⟩ ⟨hv, by omega⟩ w
  rw [show addV u v = u + v by unfold addV; rw [if_pos h], show addB u v = true by unfold addB; exact decide_eq_true h] at c
  exact c
theorem ptimes_fit {u b : Int} (hu : Num u) (hb : Word b) (h : u * b ≤ top) (w : World) :
    Calls Try.prog 50 #[nu u, .int .u64 b] w fun e w' => e = .returned (.tuple #[nu (u * b), .bool true]) ∧ Below w.heap.size w w' := by
  have c := times_num u b hu hb w
  rw [show timV u b = u * b by unfold timV; rw [if_pos h], show timB u b = true by unfold timB; exact decide_eq_true h] at c
  exact c
theorem pcmp_nu (u v : Int) (w : World) : Calls Try.prog 52 #[nu u, nu v] w fun e w' => e = .returned (.int .i64 (cmpV u v)) ∧ Below w.heap.size w w' := by
  have c := cmp_any (hiW u) (loW u) (hiW v) (loW v) (lo_word u) (lo_word v) w
  rw [val_words, val_words] at c
  exact c
theorem pof_nu {n : Int} (hn : Word n) (w : World) : Calls Try.prog 69 #[.int .u64 n] w fun e w' => e = .returned (nu n) ∧ Below w.heap.size w w' := of_num n hn w
theorem pmul_nu {x y : Int} (hx : Word x) (hy : Word y) (w : World) : Calls Try.prog 70 #[.int .u64 x, .int .u64 y] w fun e w' => e = .returned (nu (x * y)) ∧ Below w.heap.size w w' := mul_any x y hx hy w
theorem Two.new7 (w : World) (v : Int) : Two (w.alloc (.cells #[.int .u64 (hiW v), .int .u64 (loW v)] 78)) w.heap.size v :=
  ⟨by simp, by simp, by simp [go_sem], by simp [go_sem]⟩
/-- The world behind the head of off: a config, two numbers. -/
def offW (w : World) (c : Cf) : World := ((w.alloc (.cells #[.int .i64 c.nodes, .int .i64 c.queue, .int .i64 c.limit, .int .i64 c.age, .int .i64 c.fair, .int .i64 c.size, .int .i64 c.period, .int .i64 c.half] 48)).alloc (.cells #[.int .u64 0, .int .u64 0] 78)).alloc (.cells #[.int .u64 0, .int .u64 0] 78)
theorem offW_st (w : World) (c : Cf) : St w w.heap.size c (offW w c) := keepW (keepW (St.new4 w c) ((Below.refl _ _).alloc (Nat.le_refl _) _)) ((Below.refl _ _).alloc (Nat.le_refl _) _)
theorem offW_two (w : World) (c : Cf) : Two (offW w c) (w.heap.size + 1) 0 ∧ Two (offW w c) (w.heap.size + 1 + 1) 0 := by
  unfold offW
  exact ⟨⟨by simp [go_sem]; rfl, by simp [go_sem]; rfl, by simp [go_sem], by simp [go_sem]⟩, ⟨by simp [go_sem]; rfl, by simp [go_sem]; rfl, by simp [go_sem], by simp [go_sem]⟩⟩
theorem poff_none {c : Cf} (h0 : c.fair = 0) (w : World) : Calls Try.prog 49 #[cfV c] w fun e w' => e = .returned (.tuple #[nu (offN c), nu (offD c)]) ∧ Below w.heap.size w w' := by
  have e1 : offN c = 0 := by unfold offN; rw [if_pos h0]
  have e2 : offD c = 1 := by unfold offD; rw [if_pos h0]
  rw [e1, e2]
  have c0 := pof_nu (n := 0) ⟨by omega, by omega⟩
  have c1 := pof_nu (n := 1) ⟨by omega, by omega⟩
  rw [show nu 0 = .agg #[.int .u64 0, .int .u64 0] from rfl] at *
  rw [show nu 1 = .agg #[.int .u64 0, .int .u64 1] from rfl] at *
  have hS := offW_st w c
  obtain ⟨t2, t3⟩ := offW_two w c
  unfold offW at hS t2 t3
  unfold cfV
  rw [h0] at *
  go_enter Try.func49, Try.ntmps49
  go_wp2_with fail
  generalize ((w.alloc (.cells #[.int .i64 c.nodes, .int .i64 c.queue, .int .i64 c.limit, .int .i64 c.age, .int .i64 0, .int .i64 c.size, .int .i64 c.period, .int .i64 c.half] 48)).alloc (.cells #[.int .u64 0, .int .u64 0] 78)).alloc (.cells #[.int .u64 0, .int .u64 0] 78) = v0 at *
  refine (c0 _).mono ?_
  rintro e w0 ⟨rfl, b0⟩
  replace hS := keepW hS b0
  replace t2 := t2.keep b0
  replace t3 := t3.keep b0
  clear b0
  go_wp2_with fail
  refine (c1 _).mono ?_
  rintro e w1 ⟨rfl, b1⟩
  have B1 := (keepW hS b1).bel
  obtain ⟨p0, p1, p2, p3⟩ := t2.keep b1
  obtain ⟨q0, q1, q2, q3⟩ := t3.keep b1
  clear t2 t3 b1 hS c1 c0
  go_wp2
  refine bodyPost_ret (v := .tuple #[.agg #[.int .u64 0, .int .u64 0], .agg #[.int .u64 0, .int .u64 1]]) (by simp [results, Try.results49, go_sem, p0, p1, q0, q1]) rfl ⟨rfl, ?_⟩
  exact (((B1.setCell (by simp) _).setCell (by simp) _).setCell (by simp; omega) _).setCell (by simp; omega) _
def StO (w : World) (D0 : Int) (c : Cf) (x : World) : Prop := (x.cell? ⟨w.heap.size, 0, none⟩ = some (.int .i64 c.nodes) ∧ x.cell? ⟨w.heap.size, 1, none⟩ = some (.int .i64 c.queue) ∧ x.cell? ⟨w.heap.size, 2, none⟩ = some (.int .i64 c.limit) ∧ x.cell? ⟨w.heap.size, 3, none⟩ = some (.int .i64 c.age) ∧ x.cell? ⟨w.heap.size, 4, none⟩ = some (.int .i64 c.fair) ∧ x.cell? ⟨w.heap.size, 5, none⟩ = some (.int .i64 c.size) ∧ x.cell? ⟨w.heap.size, 6, none⟩ = some (.int .i64 c.period) ∧ x.cell? ⟨w.heap.size, 7, none⟩ = some (.int .i64 c.half) ∧ Below w.heap.size w x ∧ w.heap.size ≤ x.heap.size) ∧ (x.cell? ⟨w.heap.size + 1, 0, none⟩ = some (.int .u64 (hiW 0)) ∧ x.cell? ⟨w.heap.size + 1, 1, none⟩ = some (.int .u64 (loW 0)) ∧ x.frozen? ⟨w.heap.size + 1, 0, none⟩ = false ∧ x.frozen? ⟨w.heap.size + 1, 1, none⟩ = false) ∧ (x.cell? ⟨w.heap.size + 1 + 1, 0, none⟩ = some (.int .u64 (hiW D0)) ∧ x.cell? ⟨w.heap.size + 1 + 1, 1, none⟩ = some (.int .u64 (loW D0)) ∧ x.frozen? ⟨w.heap.size + 1 + 1, 0, none⟩ = false ∧ x.frozen? ⟨w.heap.size + 1 + 1, 1, none⟩ = false)
theorem StO.of {w x : World} {D0 : Int} {c : Cf} (h : St w w.heap.size c x) (a : Two x (w.heap.size + 1) 0) (b : Two x (w.heap.size + 1 + 1) D0) : StO w D0 c x :=
  ⟨h, ⟨a.c0, a.c1, a.f0, a.f1⟩, ⟨b.c0, b.c1, b.f0, b.f1⟩⟩
theorem StO.st {w x : World} {D0 : Int} {c : Cf} (h : StO w D0 c x) : St w w.heap.size c x := h.1
theorem StO.a {w x : World} {D0 : Int} {c : Cf} (h : StO w D0 c x) : Two x (w.heap.size + 1) 0 := ⟨h.2.1.1, h.2.1.2.1, h.2.1.2.2.1, h.2.1.2.2.2⟩
theorem StO.b {w x : World} {D0 : Int} {c : Cf} (h : StO w D0 c x) : Two x (w.heap.size + 1 + 1) D0 := ⟨h.2.2.1, h.2.2.2.1, h.2.2.2.2.1, h.2.2.2.2.2⟩
theorem StO.keep {w x y : World} {D0 : Int} {c : Cf} (h : StO w D0 c x) (b : Below x.heap.size x y) : StO w D0 c y := StO.of (keepW h.st b) (h.a.keep b) (h.b.keep b)
set_option maxHeartbeats 2000000 in
theorem poff_some {c : Cf} (r : Rng c) (hm : mZ c ≤ 2147483648) (h0 : ¬ c.fair = 0) (w : World) : Calls Try.prog 49 #[cfV c] w fun e w' => e = .returned (.tuple #[nu (offN c), nu (offD c)]) ∧ Below w.heap.size w w' := by
  have e1 : offN c = cZ c * 4294967296 + c.fair * (258048 * gZ c + 2 * cZ c) := by unfold offN; rw [if_neg h0, Int.mul_comm c.fair]; omega
  have e2 : offD c = cZ c * 4294967296 := by unfold offD; rw [if_neg h0]
  have hc := c_box r
  have hg := g_box r hm
  have ho := off_box r hm
  have hf0 := r.f0
  have hf1 := r.f1
  have tp : top = 340282366920938463463374607431768211455 := rfl
  have hcm : (258048 * gZ c + 2 * cZ c) * c.fair = c.fair * (258048 * gZ c + 2 * cZ c) := Int.mul_comm _ _
  rw [hcm] at ho
  rw [e1, e2] at *
  have cC := pcharge_any r
  have cG := plost_any r hm
  have cD := pmul_nu (x := cZ c) (y := 4294967296) ⟨by omega, by omega⟩ ⟨by omega, by omega⟩
  have cX := pmul_nu (x := c.fair) (y := 258048 * gZ c + 2 * cZ c) ⟨by omega, by omega⟩ ⟨by omega, by omega⟩
  have cA := padd_fit (u := cZ c * 4294967296) (v := c.fair * (258048 * gZ c + 2 * cZ c)) (by omega) (by omega) (by omega)
  have m1 : IntKind.u64.wrap (cZ c) = cZ c := by rw [IntKind.wrap_u64]; omega
  have m2 : IntKind.i64.wrap (258048 * gZ c) = 258048 * gZ c := by rw [IntKind.wrap_i64]; omega
  have m3 : IntKind.i64.wrap (2 * cZ c) = 2 * cZ c := by rw [IntKind.wrap_i64]; omega
  have m6 : IntKind.i64.wrap (258048 * gZ c + 2 * cZ c) = 258048 * gZ c + 2 * cZ c := by rw [IntKind.wrap_i64]; omega
  have m4 : IntKind.u64.wrap (258048 * gZ c + 2 * cZ c) = 258048 * gZ c + 2 * cZ c := by rw [IntKind.wrap_u64]; omega
  have m5 : IntKind.u64.wrap c.fair = c.fair := by rw [IntKind.wrap_u64]; omega
  clear e1 e2 hc hg ho hf0 hf1 tp hm hcm
  generalize hV0 : 258048 * gZ c + 2 * cZ c = V0 at *
  generalize hT0 : c.fair * V0 = T0 at *
  generalize hD0 : cZ c * 4294967296 = D0 at *
  clear hT0 hD0
  replace hV0 : Hid (258048 * gZ c + 2 * cZ c = V0) := hV0
  have m6' : IntKind.i64.wrap (258048 * gZ c + 2 * cZ c) = V0 := by rw [hV0.out]; exact m6
  clear hV0 m6
  generalize gZ c = G0 at *
  generalize cZ c = C0 at *
  generalize D0 + T0 = R0 at *
  have hS := offW_st w c
  obtain ⟨t2, t3⟩ := offW_two w c
  unfold offW at hS t2 t3
  unfold cfV at *
  go_enter Try.func49, Try.ntmps49
  go_wp2_with fail
  generalize ((w.alloc (.cells #[.int .i64 c.nodes, .int .i64 c.queue, .int .i64 c.limit, .int .i64 c.age, .int .i64 c.fair, .int .i64 c.size, .int .i64 c.period, .int .i64 c.half] 48)).alloc (.cells #[.int .u64 0, .int .u64 0] 78)).alloc (.cells #[.int .u64 0, .int .u64 0] 78) = v0 at *
  refine (cC _).mono ?_
  rintro e w1 ⟨rfl, b1⟩
  replace hS := keepW hS b1
  replace t2 := t2.keep b1
  replace t3 := t3.keep b1
  clear b1
  go_wp2_with fail
  refine (cD _).mono ?_
  rintro e w2 ⟨rfl, b2⟩
  replace hS := keepW hS b2
  replace t2 := t2.keep b2
  replace t3 := t3.keep b2
  clear b2
  obtain ⟨g0, g1, g2, g3⟩ := id t3
  go_upto_region 4 with fail
  clear g0 g1 g2 g3
  replace t2 := t2.far (show w.heap.size + 1 ≠ w.heap.size + 1 + 1 by omega) D0
  replace hS := hS.far (show w.heap.size ≠ w.heap.size + 1 + 1 by omega) (by omega) D0
  replace t3 := t3.put D0
  change Code.wp _ _ _ _ (put w2 (w.heap.size + 1 + 1) D0)
  generalize put w2 (w.heap.size + 1 + 1) D0 = v3 at *
  have HS : Hid (StO w D0 c v3.drew) := (StO.of hS t2 t3).keep (Below.refl _ _).drew
  clear hS t2 t3
  go_region_held3 (fun x => (x.cell? ⟨w.heap.size, 0, none⟩ = some (.int .i64 c.nodes) ∧ x.cell? ⟨w.heap.size, 1, none⟩ = some (.int .i64 c.queue) ∧ x.cell? ⟨w.heap.size, 2, none⟩ = some (.int .i64 c.limit) ∧ x.cell? ⟨w.heap.size, 3, none⟩ = some (.int .i64 c.age) ∧ x.cell? ⟨w.heap.size, 4, none⟩ = some (.int .i64 c.fair) ∧ x.cell? ⟨w.heap.size, 5, none⟩ = some (.int .i64 c.size) ∧ x.cell? ⟨w.heap.size, 6, none⟩ = some (.int .i64 c.period) ∧ x.cell? ⟨w.heap.size, 7, none⟩ = some (.int .i64 c.half) ∧ Below w.heap.size w x ∧ w.heap.size ≤ x.heap.size) ∧ (x.cell? ⟨w.heap.size + 1, 0, none⟩ = some (.int .u64 (hiW 0)) ∧ x.cell? ⟨w.heap.size + 1, 1, none⟩ = some (.int .u64 (loW 0)) ∧ x.frozen? ⟨w.heap.size + 1, 0, none⟩ = false ∧ x.frozen? ⟨w.heap.size + 1, 1, none⟩ = false) ∧ (x.cell? ⟨w.heap.size + 1 + 1, 0, none⟩ = some (.int .u64 (hiW D0)) ∧ x.cell? ⟨w.heap.size + 1 + 1, 1, none⟩ = some (.int .u64 (loW D0)) ∧ x.frozen? ⟨w.heap.size + 1 + 1, 0, none⟩ = false ∧ x.frozen? ⟨w.heap.size + 1 + 1, 1, none⟩ = false)) (first | exact HS.out | exact StO.keep (by assumption) (by assumption))
    (first
      | (go_at_call 71; refine (cG _).mono ?_; rintro e x ⟨rfl, hx⟩)
      | (go_at_call 67; refine (cC _).mono ?_; rintro e x ⟨rfl, hx⟩))
  all_goals
    have hO : StO w D0 c x := by assumption
    have sd := hO.st
    have td2 := hO.a
    have td3 := hO.b
    clear hO HS
    replace sd := keepW sd (Below.refl x.heap.size x).drew
    replace td2 := td2.keep (Below.refl x.heap.size x).drew
    replace td3 := td3.keep (Below.refl x.heap.size x).drew
    go_upto_region 5 with fail
    obtain ⟨g0, g1, g2, g3⟩ := id td3
    obtain ⟨p0, p1, p2, p3⟩ := id td2
    obtain ⟨s0, s1, s2, s3, s4, s5, s6, s7, _, _⟩ := id sd
    go_region_with (first
      | (go_at_call 70; refine (cX _).mono ?_; rintro e y ⟨rfl, hy⟩; have hy' := hy; replace td2 := Two.keep td2 hy'; replace td3 := Two.keep td3 hy'; replace sd := keepW sd hy'; clear hy'; obtain ⟨g0, g1, g2, g3⟩ := id td3; obtain ⟨p0, p1, p2, p3⟩ := id td2; obtain ⟨s0, s1, s2, s3, s4, s5, s6, s7, _, _⟩ := id sd)
      | (go_at_call 72; refine (cA _).mono ?_; rintro e y ⟨rfl, hy⟩; have hy' := hy; replace td2 := Two.keep td2 hy'; replace td3 := Two.keep td3 hy'; replace sd := keepW sd hy'; clear hy'; obtain ⟨g0, g1, g2, g3⟩ := id td3; obtain ⟨p0, p1, p2, p3⟩ := id td2; obtain ⟨s0, s1, s2, s3, s4, s5, s6, s7, _, _⟩ := id sd))
  all_goals
    clear s0 s1 s2 s3 s4 s5 s6 s7 g0 g1 g2 g3 p0 p1 p2 p3
    replace td3 := td3.far (show w.heap.size + 1 + 1 ≠ w.heap.size + 1 by omega) R0
    replace sd := sd.far (show w.heap.size ≠ w.heap.size + 1 by omega) (by omega) R0
    replace td2 := td2.put R0
    change Exit.then _ _ _ _ (put y (w.heap.size + 1) R0)
    generalize put y (w.heap.size + 1) R0 = v5 at *
    obtain ⟨g0, g1, g2, g3⟩ := id td3
    obtain ⟨p0, p1, p2, p3⟩ := id td2
    have B5 := sd.bel
    clear sd td2 td3
    go_upto_region 6 with fail
    go_region
  all_goals go_wp2
  all_goals refine bodyPost_ret (v := .tuple #[nu R0, nu D0]) (by simp [results, Try.results49, go_sem, p0, p1, g0, g1]) rfl ⟨rfl, ?_⟩
  all_goals repeat first | exact B5 | refine Below.drew ?_ | refine Below.setCell ?_ (by first | (simp; done) | (simp; omega) | omega) _
theorem poff_any {c : Cf} (r : Rng c) (hm : mZ c ≤ 2147483648) (w : World) : Calls Try.prog 49 #[cfV c] w fun e w' => e = .returned (.tuple #[nu (offN c), nu (offD c)]) ∧ Below w.heap.size w w' := by
  by_cases h0 : c.fair = 0
  · exact poff_none h0 w
  · exact poff_some r hm h0 w
end Go.Proofs.Ytbcinapnnlfnbaa
