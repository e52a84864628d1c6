/-
 LAYER 16: the reference (backfillref16): quotient, greater.
 LAYER 16: the reference (backfillref16): Short.
-/
import Derived.Test.YtdkbmligaodpmaaGreatDoorXiaz
import Derived.Test.YtdkbmligaodpmaaGreatDoorXrgz
import Derived.Test.YtdkbmligaodpmaaGreatDoorXfxz
import Derived.Test.YtdkbmligaodpmaaGreatDoorXilz
namespace Go.Proofs.YtdkbmligaodpmaaGreatDoor
open Go.RowKit Wd Tr

def moV (q most : Int) : Int := if most < q then most else q
theorem mo_hi {q most : Int} (hm : Word most) (hh : 0 < hiW q) : moV q most = most := by
 have h1 := hm.2
 unfold moV
 rw [if_pos]
 unfold hiW at hh
 omega
theorem mo_lo {q most : Int} (hh : hiW q = 0) : moV q most = moV (loW q) most := by
 have : loW q = q := by unfold hiW at hh; unfold loW; omega
 rw [this]
set_option maxRecDepth 20000 in
set_option maxHeartbeats 1000000 in
theorem rquot_dn (a b c most : Int) (ha : Word a) (hb : Word b) (hc : Word c) (hm : Word most) (c0 : c ≠ 0) (w : World) :
  Calls Tryz.prog 133 #[.int .u64 a, .int .u64 b, .int .u64 c, .bool false, .int .u64 most] w fun e w' => e = .returned (.int .u64 (moV (a * b / c) most)) ∧ Below w.heap.size w w' := by
 have c1 := rmuln a b ha hb
 have nu := mul_num ha hb
 have c2 := rdivn (a * b) c nu hc
 obtain ⟨e1, e2, e3, nq, _⟩ := div_facts nu hc c0
 rw [e1, e2, e3] at c2
 have hqw := hi_word nq
 clear e1 e2 e3 nu ha hb hc
 generalize a * b / c = Q at *
 generalize a * b % c = R at *
 generalize a * b = AB at *
 by_cases hh : hiW Q = 0
 ·rw [mo_lo hh]
  rw [hh] at c2
  clear nq
  generalize loW Q = q at *
  by_cases hq : most < q
  ·rw [show moV q most = most from if_pos hq]
   go_enter Tryz.func133, Tryz.ntmps133
   go_wp2_with fail
   refine (c1 _).mono ?_
   rintro e w1 ⟨rfl, hb1⟩
   go_wp2_with fail
   refine (c2 _).mono ?_
   rintro e w2 ⟨rfl, hb2⟩
   have B2 := hb1.trans (hb2.mono hb1.size)
   clear hb1 hb2 c1 c2
   go_wp2
   go_ret
   exact ⟨rfl, B2.alloc B2.size _⟩
  ·rw [show moV q most = q from if_neg hq]
   go_enter Tryz.func133, Tryz.ntmps133
   go_wp2_with fail
   refine (c1 _).mono ?_
   rintro e w1 ⟨rfl, hb1⟩
   go_wp2_with fail
   refine (c2 _).mono ?_
   rintro e w2 ⟨rfl, hb2⟩
   have B2 := hb1.trans (hb2.mono hb1.size)
   clear hb1 hb2 c1 c2
   go_wp2
   go_ret
   exact ⟨rfl, B2.alloc B2.size _⟩
 ·have hp : 0 < hiW Q := by have := hqw.1; omega
  rw [mo_hi hm hp]
  clear hh nq hqw
  go_enter Tryz.func133, Tryz.ntmps133
  go_wp2_with fail
  refine (c1 _).mono ?_
  rintro e w1 ⟨rfl, hb1⟩
  go_wp2_with fail
  refine (c2 _).mono ?_
  rintro e w2 ⟨rfl, hb2⟩
  have B2 := hb1.trans (hb2.mono hb1.size)
  clear hb1 hb2 c1 c2
  go_wp2
  go_ret
  exact ⟨rfl, B2.alloc B2.size _⟩
set_option maxRecDepth 20000 in
set_option maxHeartbeats 1000000 in
theorem rquot_up0 (a b c most : Int) (ha : Word a) (hb : Word b) (hc : Word c) (hm : Word most) (c0 : c ≠ 0) (h0 : a * b % c = 0) (w : World) :
  Calls Tryz.prog 133 #[.int .u64 a, .int .u64 b, .int .u64 c, .bool true, .int .u64 most] w fun e w' => e = .returned (.int .u64 (moV (a * b / c) most)) ∧ Below w.heap.size w w' := by
 have c1 := rmuln a b ha hb
 have nu := mul_num ha hb
 have c2 := rdivn (a * b) c nu hc
 obtain ⟨e1, e2, e3, nq, _⟩ := div_facts nu hc c0
 rw [e1, e2, e3, h0] at c2
 clear h0
 have hqw := hi_word nq
 clear e1 e2 e3 nu ha hb hc
 generalize a * b / c = Q at *
 generalize a * b = AB at *
 by_cases hh : hiW Q = 0
 ·rw [mo_lo hh]
  rw [hh] at c2
  clear nq
  generalize loW Q = q at *
  by_cases hq : most < q
  ·rw [show moV q most = most from if_pos hq]
   go_enter Tryz.func133, Tryz.ntmps133
   go_wp2_with fail
   refine (c1 _).mono ?_
   rintro e w1 ⟨rfl, hb1⟩
   go_wp2_with fail
   refine (c2 _).mono ?_
   rintro e w2 ⟨rfl, hb2⟩
   have B2 := hb1.trans (hb2.mono hb1.size)
   clear hb1 hb2 c1 c2
   go_wp2
   go_ret
   exact ⟨rfl, B2.alloc B2.size _⟩
  ·rw [show moV q most = q from if_neg hq]
   go_enter Tryz.func133, Tryz.ntmps133
   go_wp2_with fail
   refine (c1 _).mono ?_
   rintro e w1 ⟨rfl, hb1⟩
   go_wp2_with fail
   refine (c2 _).mono ?_
   rintro e w2 ⟨rfl, hb2⟩
   have B2 := hb1.trans (hb2.mono hb1.size)
   clear hb1 hb2 c1 c2
   go_wp2
   go_ret
   exact ⟨rfl, B2.alloc B2.size _⟩
 ·have hp : 0 < hiW Q := by have := hqw.1; omega
  rw [mo_hi hm hp]
  clear hh nq hqw
  go_enter Tryz.func133, Tryz.ntmps133
  go_wp2_with fail
  refine (c1 _).mono ?_
  rintro e w1 ⟨rfl, hb1⟩
  go_wp2_with fail
  refine (c2 _).mono ?_
  rintro e w2 ⟨rfl, hb2⟩
  have B2 := hb1.trans (hb2.mono hb1.size)
  clear hb1 hb2 c1 c2
  go_wp2
  go_ret
  exact ⟨rfl, B2.alloc B2.size _⟩
set_option maxRecDepth 20000 in
set_option maxHeartbeats 1000000 in
theorem rquot_up1 (a b c most : Int) (ha : Word a) (hb : Word b) (hc : Word c) (hm : Word most) (c0 : c ≠ 0) (h0 : a * b % c ≠ 0) (w : World) :
  Calls Tryz.prog 133 #[.int .u64 a, .int .u64 b, .int .u64 c, .bool true, .int .u64 most] w fun e w' => e = .returned (.int .u64 (moV (a * b / c + 1) most)) ∧ Below w.heap.size w w' := by
 have c1 := rmuln a b ha hb
 have nu := mul_num ha hb
 have c2 := rdivn (a * b) c nu hc
 obtain ⟨e1, e2, e3, nq, m0, m1, _, _⟩ := div_facts nu hc c0
 rw [e1, e2, e3] at c2
 have hp0 : 0 < a * b % c := by omega
 have ntop : a * b / c + 1 ≤ top := by
  have h1 : a * b / c ≤ a * b := Int.ediv_le_self _ nu.1
  have h2 : a * b ≤ 18446744073709551615 * 18446744073709551615 := Int.mul_le_mul (by have := ha.2; omega) (by have := hb.2; omega) hb.1 (by omega)
  unfold top
  omega
 have nq1 : Num (a * b / c + 1) := ⟨by have := nq.1; omega, ntop⟩
 have ea : Wd.addV (a * b / c) 1 = a * b / c + 1 := by unfold Wd.addV; rw [if_pos ntop]
 have c3 := rof_num 1 ⟨by omega, by omega⟩
 have c4 := raddn (a * b / c) 1 nq ⟨by omega, by unfold top; omega⟩
 rw [ea] at c4
 clear e1 e2 e3 nu ha hb hc h0 m0 m1 ea ntop c0 nq
 generalize hQ1 : a * b / c + 1 = Q1 at *
 generalize a * b / c = Q at *
 generalize a * b % c = R at *
 generalize a * b = AB at *
 have HM : Hid (Word most) := hm
 clear hQ1
 go_enter Tryz.func133, Tryz.ntmps133
 go_wp2_with fail
 refine (c1 _).mono ?_
 rintro e w1 ⟨rfl, hb1⟩
 go_wp2_with fail
 refine (c2 _).mono ?_
 rintro e w2 ⟨rfl, hb2⟩
 have B2 := hb1.trans (hb2.mono hb1.size)
 have q := Bx.new w2 (.int .u64 (hiW Q)) (.int .u64 (loW Q)) 68
 have B3 := B2.alloc (o := .cells #[.int .u64 (hiW Q), .int .u64 (loW Q)] 68) B2.size
 have hg := B2.size
 clear hb1 hb2 c1 c2 B2
 go_upto_region 3 with fail
 generalize w2.alloc (.cells #[.int .u64 (hiW Q), .int .u64 (loW Q)] 68) = w3 at *
 generalize w2.heap.size = g at *
 go_cut [11] (fun b wq => b = .pointer (some ⟨g, 0, none⟩) ∧ wq.cell? ⟨g, 0, none⟩ = some (.int .u64 (hiW Q1)) ∧ wq.cell? ⟨g, 1, none⟩ = some (.int .u64 (loW Q1)) ∧ Below w.heap.size w wq)
 case first =>
  obtain ⟨q0, q1, q2, q3⟩ := q
  go_region_with (first
   | (go_at_call 30; refine (c3 _).mono ?_; rintro e x ⟨rfl, hx⟩; have x0 : x.cell? ⟨g, 0, none⟩ = some (.int .u64 (hiW Q)) := keepC hx q0; have x1 : x.cell? ⟨g, 1, none⟩ = some (.int .u64 (loW Q)) := keepC hx q1; have y0 : x.frozen? ⟨g, 0, none⟩ = false := keepF hx q0 q2; have y1 : x.frozen? ⟨g, 1, none⟩ = false := keepF hx q1 q3)
   | (go_at_call 28; refine (c4 _).mono ?_; rintro e y ⟨rfl, hy⟩; have u0 := keepC hy x0; have u1 := keepC hy x1; have v0 := keepF hy x0 y0; have v1 := keepF hy x1 y1))
  all_goals
   have HY : Hid (Below w.heap.size w y) := (B3.drew.trans (hx.mono (by have := B3.size; simp; omega))).trans (hy.mono (by have := B3.size; have := hx.size; simp at this; omega))
   go_wp2
   go_meet
   exact ⟨rfl, by simp [go_sem, *], by simp [go_sem, *], (HY.out.setCell hg _).setCell hg _⟩
 case rest =>
  obtain ⟨rfl, q0, q1, HB⟩ := hcut
  clear q c3 c4 hp0 B3 hg
  by_cases hh : hiW Q1 = 0
  ·rw [hh] at q0
   have HE : Hid (moV Q1 most = moV (loW Q1) most) := mo_lo hh
   clear nq1 hh
   generalize loW Q1 = qq at *
   by_cases hq : most < qq
   ·have HE2 : Hid (moV qq most = most) := if_pos hq
    go_wp2
    go_ret
    exact ⟨by rw [HE.out, HE2.out]; rfl, HB⟩
   ·have HE2 : Hid (moV qq most = qq) := if_neg hq
    go_wp2
    go_ret
    exact ⟨by rw [HE.out, HE2.out]; rfl, HB⟩
  ·have hp : 0 < hiW Q1 := by have := (hi_word nq1).1; omega
   have HE : Hid (moV Q1 most = most) := mo_hi HM.out hp
   clear nq1 hh
   go_wp2
   go_ret
   exact ⟨by rw [HE.out]; rfl, HB⟩
theorem rquot_up (a b c most : Int) (ha : Word a) (hb : Word b) (hc : Word c) (hm : Word most) (c0 : c ≠ 0) (w : World) :
  Calls Tryz.prog 133 #[.int .u64 a, .int .u64 b, .int .u64 c, .bool true, .int .u64 most] w fun e w' => e = .returned (.int .u64 (moV (cl (a * b) c) most)) ∧ Below w.heap.size w w' := by
 rw [cl_rem (x := a * b) (b := c) (by have := hc.1; omega)]
 by_cases h0 : a * b % c = 0
 ·rw [if_pos h0]
  exact rquot_up0 a b c most ha hb hc hm c0 h0 w
 ·rw [if_neg h0]
  exact rquot_up1 a b c most ha hb hc hm c0 h0 w
theorem rgrt_any (a b : Int) (w : World) : Calls Tryz.prog 90 #[.int .u64 a, .int .u64 b] w fun e w' => e = .returned (.int .u64 (mxV a b)) ∧ w' = w := by
 by_cases h : b < a
 ·rw [show mxV a b = a by unfold mxV; rw [if_neg (by omega)]]
  go_enter Tryz.func90, Tryz.ntmps90
  go_wp2
  go_ret
  exact ⟨rfl, rfl⟩
 ·rw [show mxV a b = b by unfold mxV; split <;> omega]
  go_enter Tryz.func90, Tryz.ntmps90
  go_wp2
  go_ret
  exact ⟨rfl, rfl⟩
end Go.Proofs.YtdkbmligaodpmaaGreatDoor
namespace Go.Proofs.YtdkbmligaodpmaaGreatDoor
open Go.RowKit Wd Tr

theorem rshr_num (u n : Int) (hu : Num u) (hm : n < 9223372036854775808) (w : World) :
  Calls Tryz.prog 76 #[nuV u, .int .i64 n] w fun e w' => e = .returned (nuV (shrV u n)) ∧ Below w.heap.size w w' := by
 have c := rshr_any (hiW u) (loW u) n (hi_word hu) (lo_word u) hm w
 rw [val_words] at c
 exact c
theorem short_dn (u : Int) (hu : Num u) (w : World) :
  Calls Tryz.prog 35 #[nuV u, .bool false] w fun e w' => e = .returned (.int .u64 (narV (u / 4294967296))) ∧ Below w.heap.size w w' := by
 have c1 := rshr_num u 32 hu (by omega)
 have e1 : shrV u 32 = u / 4294967296 := by unfold shrV; rw [if_neg (by omega)]; rfl
 rw [e1] at c1
 have nq : Num (u / 4294967296) := ⟨Int.ediv_nonneg hu.1 (by omega), Int.le_trans (Int.ediv_le_self _ hu.1) hu.2⟩
 have b0 : Below w.heap.size w (w.alloc (.cells #[.int .u64 (hiW u), .int .u64 (loW u)] 68)) := (Below.refl _ w).alloc (Nat.le_refl _) _
 clear e1 hu
 generalize u / 4294967296 = Q at *
 by_cases hh : hiW Q = 0
 ·rw [(nar_hi nq hh).1]
  have c2 := c1
  simp only [nuV, hh] at c2
  clear c1 nq
  go_enter Tryz.func35, Tryz.ntmps35
  go_wp2_with fail
  refine (c2 _).mono ?_
  rintro e w1 ⟨rfl, hb1⟩
  have B2 := b0.trans (hb1.mono b0.size)
  have B3 := B2.alloc (o := .cells #[.int .u64 0, .int .u64 (loW Q)] 68) B2.size
  obtain ⟨q0, q1, _, _⟩ := Bx.new w1 (.int .u64 0) (.int .u64 (loW Q)) 68
  clear hb1 b0 B2 c2
  go_upto_region 2 with fail
  generalize w1.alloc (.cells #[.int .u64 0, .int .u64 (loW Q)] 68) = w2 at *
  go_quiet (fail)
  go_wp2
  go_ret
  exact ⟨rfl, B3.trans ((bel_draw w2 _).mono B3.size)⟩
 ·rw [(nar_no nq hh).1]
  have hp : 0 < hiW Q := by have := (hi_word nq).1; omega
  have c2 := c1
  simp only [nuV] at c2
  clear c1 nq hh
  go_enter Tryz.func35, Tryz.ntmps35
  go_wp2_with fail
  refine (c2 _).mono ?_
  rintro e w1 ⟨rfl, hb1⟩
  have B2 := b0.trans (hb1.mono b0.size)
  have B3 := B2.alloc (o := .cells #[.int .u64 (hiW Q), .int .u64 (loW Q)] 68) B2.size
  obtain ⟨q0, q1, _, _⟩ := Bx.new w1 (.int .u64 (hiW Q)) (.int .u64 (loW Q)) 68
  clear hb1 b0 B2 c2
  go_upto_region 2 with fail
  generalize w1.alloc (.cells #[.int .u64 (hiW Q), .int .u64 (loW Q)] 68) = w2 at *
  go_quiet (fail)
  go_wp2
  go_ret
  exact ⟨rfl, B3.trans ((bel_draw w2 _).mono B3.size)⟩
theorem back_words {u : Int} (hu : Num u) : hiW (u / 4294967296 * 4294967296) = hiW u ∧ (loW (u / 4294967296 * 4294967296) = loW u ↔ u % 4294967296 = 0) ∧ shlV (u / 4294967296) 32 = u / 4294967296 * 4294967296 := by
 have h0 := hu.1
 have h1 := hu.2
 unfold top at h1
 refine ⟨by unfold hiW; omega, by unfold loW; omega, ?_⟩
 unfold shlV
 rw [if_neg (by omega)]
 show u / 4294967296 * 4294967296 % _ = _
 omega
set_option maxRecDepth 20000 in
set_option maxHeartbeats 1000000 in
theorem short_up (u : Int) (hu : Num u) (w : World) :
  Calls Tryz.prog 35 #[nuV u, .bool true] w fun e w' => e = .returned (.int .u64 (narV (cl u 4294967296))) ∧ Below w.heap.size w w' := by
 have c1 := rshr_num u 32 hu (by omega)
 have e1 : shrV u 32 = u / 4294967296 := by unfold shrV; rw [if_neg (by omega)]; rfl
 rw [e1] at c1
 have nq : Num (u / 4294967296) := ⟨Int.ediv_nonneg hu.1 (by omega), Int.le_trans (Int.ediv_le_self _ hu.1) hu.2⟩
 have nq1 : Num (u / 4294967296 + 1) := ⟨by have := nq.1; omega, by have := hu.2; unfold top at *; omega⟩
 have c2 := rshl_num (u / 4294967296) 32 nq (by omega)
 obtain ⟨f1, f2, f3⟩ := back_words hu
 rw [f3, f1] at c2
 have hcl := cl_rem (x := u) (b := 4294967296) (by omega)
 have ea : Wd.addV (u / 4294967296) 1 = u / 4294967296 + 1 := by unfold Wd.addV; rw [if_pos nq1.2]
 have c3 := rof_num 1 ⟨by omega, by omega⟩
 have c4 := raddn (u / 4294967296) 1 nq ⟨by omega, by unfold top; omega⟩
 rw [ea] at c4
 have b0 : Below w.heap.size w (w.alloc (.cells #[.int .u64 (hiW u), .int .u64 (loW u)] 68)) := (Below.refl _ w).alloc (Nat.le_refl _) _
 have ux := Bx.new w (.int .u64 (hiW u)) (.int .u64 (loW u)) 68
 generalize hLX : loW (u / 4294967296 * 4294967296) = LX at *
 generalize hQ1 : u / 4294967296 + 1 = Q1 at *
 have HQ : Hid (u / 4294967296 + 1 = Q1) := hQ1
 clear hQ1 e1 ea hu hLX f1 f3
 generalize hQQ : u / 4294967296 = Q at *
 clear hQQ
 by_cases hm : u % 4294967296 = 0
 ·have heq : LX = loW u := f2.2 hm
  rw [heq] at c2
  rw [if_pos hm] at hcl
  have HCL : Hid (cl u 4294967296 = Q) := hcl
  clear heq
  clear hcl f2 hm HQ
  go_enter Tryz.func35, Tryz.ntmps35
  go_wp2_with fail
  refine (c1 _).mono ?_
  rintro e w1 ⟨rfl, hb1⟩
  have B2 := b0.trans (hb1.mono b0.size)
  have B3 := B2.alloc (o := .cells #[.int .u64 (hiW Q), .int .u64 (loW Q)] 68) B2.size
  have q := Bx.new w1 (.int .u64 (hiW Q)) (.int .u64 (loW Q)) 68
  have u2 := (ux.below hb1).alloc #[.int .u64 (hiW Q), .int .u64 (loW Q)] 68
  have hg := B2.size
  clear hb1 b0 B2 c1 ux
  go_upto_region 2 with fail
  generalize w1.alloc (.cells #[.int .u64 (hiW Q), .int .u64 (loW Q)] 68) = w2 at *
  generalize w1.heap.size = g at *
  go_cut [14] (fun b wq => b = .bool false ∧ Bx wq g (.int .u64 (hiW Q)) (.int .u64 (loW Q)) ∧ Below w.heap.size w wq)
  case first =>
   obtain ⟨q0, q1, q2, q3⟩ := q
   obtain ⟨u0, u1, _, _⟩ := u2
   go_region_with (first
    | (go_at_call 29; refine (c2 _).mono ?_; rintro e x ⟨rfl, hx⟩; have u0x := keepC hx u0; have u1x := keepC hx u1; have HX : Hid (Below w2.drew.heap.size w2.drew x) := hx))
   all_goals
    have HB : Hid (Bx x g (.int .u64 (hiW Q)) (.int .u64 (loW Q)) ∧ Below w.heap.size w x) := show _ ∧ _ from ⟨Bx.below (Bx.below ⟨q0, q1, q2, q3⟩ (drew_belowI w2)) HX.out, B3.drew.trans (HX.out.mono (by have := B3.size; simp; omega))⟩
    clear HX q0 q1 q2 q3 B3 c2 c3 c4
    go_wp2
    go_meet
    exact ⟨by simp [*], HB.out.1, HB.out.2⟩
  case rest =>
   obtain ⟨rfl, q5, B5⟩ := hcut
   clear q u2 B3 c2
   obtain ⟨q0, q1, q2, q3⟩ := q5
   by_cases hh : hiW Q = 0
   ·rw [hh] at q0
    have HE : Hid (narV (cl u 4294967296) = loW Q) := show _ = _ by rw [HCL.out]; exact (nar_hi nq hh).1
    clear hh
    go_wp2
    go_ret
    exact ⟨by rw [HE.out]; rfl, B5⟩
   ·have hp : 0 < hiW Q := by have := (hi_word nq).1; omega
    have HE : Hid (narV (cl u 4294967296) = 18446744073709551615) := show _ = _ by rw [HCL.out]; exact (nar_no nq hh).1
    clear hh
    go_wp2
    go_ret
    exact ⟨by rw [HE.out]; rfl, B5⟩
 ·have hne : ¬ LX = loW u := fun e => hm (f2.1 e)
  rw [if_neg hm] at hcl
  have HCL : Hid (cl u 4294967296 = Q1) := hcl
  clear hcl f2 hm HQ
  go_enter Tryz.func35, Tryz.ntmps35
  go_wp2_with fail
  refine (c1 _).mono ?_
  rintro e w1 ⟨rfl, hb1⟩
  have B2 := b0.trans (hb1.mono b0.size)
  have B3 := B2.alloc (o := .cells #[.int .u64 (hiW Q), .int .u64 (loW Q)] 68) B2.size
  have q := Bx.new w1 (.int .u64 (hiW Q)) (.int .u64 (loW Q)) 68
  have u2 := (ux.below hb1).alloc #[.int .u64 (hiW Q), .int .u64 (loW Q)] 68
  have hg := B2.size
  clear hb1 b0 B2 c1 ux
  go_upto_region 2 with fail
  generalize w1.alloc (.cells #[.int .u64 (hiW Q), .int .u64 (loW Q)] 68) = w2 at *
  generalize w1.heap.size = g at *
  go_cut [14] (fun b wq => b = .bool true ∧ Bx wq g (.int .u64 (hiW Q)) (.int .u64 (loW Q)) ∧ Below w.heap.size w wq)
  case first =>
   obtain ⟨q0, q1, q2, q3⟩ := q
   obtain ⟨u0, u1, _, _⟩ := u2
   go_region_with (first
    | (go_at_call 29; refine (c2 _).mono ?_; rintro e x ⟨rfl, hx⟩; have u0x := keepC hx u0; have u1x := keepC hx u1; have HX : Hid (Below w2.drew.heap.size w2.drew x) := hx))
   all_goals
    have HB : Hid (Bx x g (.int .u64 (hiW Q)) (.int .u64 (loW Q)) ∧ Below w.heap.size w x) := show _ ∧ _ from ⟨Bx.below (Bx.below ⟨q0, q1, q2, q3⟩ (drew_belowI w2)) HX.out, B3.drew.trans (HX.out.mono (by have := B3.size; simp; omega))⟩
    clear HX q0 q1 q2 q3 B3 c2 c3 c4
    go_wp2
    go_meet
    exact ⟨by simp [*], HB.out.1, HB.out.2⟩
  case rest =>
   obtain ⟨rfl, q5, B5⟩ := hcut
   clear q u2 B3 c2
   go_upto_region 3 with fail
   go_cut [5] (fun b wq => b = .pointer (some ⟨g, 0, none⟩) ∧ Bx wq g (.int .u64 (hiW Q1)) (.int .u64 (loW Q1)) ∧ Below w.heap.size w wq)
   case first =>
    obtain ⟨q0, q1, q2, q3⟩ := q5
    go_region_with (first
     | (go_at_call 30; refine (c3 _).mono ?_; rintro e x ⟨rfl, hx⟩; have x0 := keepC hx q0; have x1 := keepC hx q1; have y0 := keepF hx q0 q2; have y1 := keepF hx q1 q3; have HX : Hid (Below wc.drew.heap.size wc.drew x) := hx)
     | (go_at_call 28; refine (c4 _).mono ?_; rintro e y ⟨rfl, hy⟩; have u0 := keepC hy x0; have u1 := keepC hy x1; have v0 := keepF hy x0 y0; have v1 := keepF hy x1 y1; have HY : Hid (Below x.heap.size x y) := hy))
    all_goals
     have HB : Hid (Below w.heap.size w y) := (B5.drew.trans (HX.out.mono (by have := B5.size; simp; omega))).trans (HY.out.mono (by have := B5.size; have := HX.out.size; simp at this; omega))
     clear HX HY
     go_wp2
     go_meet
     exact ⟨rfl, set_two ⟨u0, u1, v0, v1⟩ _ _, (HB.out.setCell hg _).setCell hg _⟩
   case rest =>
    obtain ⟨rfl, q6, B6⟩ := hcut
    clear q5 B5 c3 c4
    obtain ⟨q0, q1, q2, q3⟩ := q6
    by_cases hh : hiW Q1 = 0
    ·rw [hh] at q0
     have HE : Hid (narV (cl u 4294967296) = loW Q1) := show _ = _ by rw [HCL.out]; exact (nar_hi nq1 hh).1
     clear hh
     go_wp2
     go_ret
     exact ⟨by rw [HE.out]; rfl, B6⟩
    ·have hp : 0 < hiW Q1 := by have := (hi_word nq1).1; omega
     have HE : Hid (narV (cl u 4294967296) = 18446744073709551615) := show _ = _ by rw [HCL.out]; exact (nar_no nq1 hh).1
     clear hh
     go_wp2
     go_ret
     exact ⟨by rw [HE.out]; rfl, B6⟩
end Go.Proofs.YtdkbmligaodpmaaGreatDoor
