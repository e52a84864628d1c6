/-
 LAYER 13: the reference (backfillref13): effective, Exponent.
 LAYER 13: the reference (backfillref13): Exponent, rounded up.
 LAYER 13: the reference (backfillref13): right, Shares.
 ROWS OF WORDS that are ours (out of stage 13's book).
 LAYER 13: the reference (backfillref13): Shares.
-/
import Derived.Test.YtdkbmligaodpmaaGreatDoorRgAqz
import Derived.Test.YtdkbmligaodpmaaGreatDoorXcfz
import Derived.Maps.AppendAt
import Derived.WalkKit
import Derived.WalkSpells
import Derived.ArgAppend
import Derived.Laws.AppendOwnNone
import Derived.Deep.LoopGhost
import Derived.RowKit3
namespace Go.Proofs.YtdkbmligaodpmaaGreatDoor
open Go.RowKit Wd Tr

set_option maxHeartbeats 1000000 in
set_option maxRecDepth 20000 in
theorem reff_any {g o c h c2 : Nat} {l : List Ac} (hwu : Wu l) (hus : UsOk l) {W : Int} (hW : WOk l W) : ∀ (d : Nat) {n : Nat} {w : World}, Acs w g o l → Wds w h (usOf l) l.length → n < l.length → Dep l d n →
  Calls Tryz.prog 120 #[.slice (some ⟨g, o, none⟩) l.length c, .slice (some ⟨h, 0, none⟩) l.length c2, .int .u64 W, .int .i64 (n : Int)] w fun e w' => e = .returned (.int .u64 (efV l W n)) ∧ Below w.heap.size w w' := by
 intro d
 induction d with
 | zero =>
  intro n w hA hD hn hd
  obtain rfl : n = 0 := hd
  have c1 := rsum_any (c := c) (c2 := c2) hwu hus 5 (n := 0) (d := 0) hA hD hn rfl (by omega)
  have hu := u_word hus hW.word (hW.most 0 hn)
  have cU := rused_any (sum_word hus 0) hW.word (show sumV l 0 * 9223372036854775808 / W < _ by unfold uV at hu; omega)
  rw [ef_root]
  rw [show sumV l 0 * 9223372036854775808 / W = uV l W 0 from rfl] at cU
  obtain ⟨a, ha, hac⟩ := hA.at hn
  have x1 := hac.pa
  rw [root_at hwu ha] at x1
  simp only [Nat.zero_mul, Nat.add_zero] at x1
  have hl : (0 : Int) < l.length := by omega
  clear hac hA hD ha hu
  generalize sumV l 0 = S0 at *
  generalize uV l W 0 = U0 at *
  generalize l.length = L at *
  go_enter Tryz.func120, Tryz.ntmps120
  go_wp2_with fail
  refine c1.mono ?_
  rintro e w1 ⟨rfl, hb1⟩
  go_wp2_with fail
  refine (cU _).mono ?_
  rintro e w2 ⟨rfl, hb2⟩
  have y1 := keepC hb2 (keepC hb1 x1)
  go_wp2
  go_ret
  exact ⟨rfl, hb1.trans (hb2.mono hb1.size)⟩
 | succ d ih =>
  intro n w hA hD hn hd
  have h0 : n ≠ 0 := hd.1
  have hul := hwu.up_lt hn
  have c1 := rsum_any (c := c) (c2 := c2) hwu hus 5 (n := n) (d := d + 1) hA hD hn hd (by omega)
  have hu := u_word hus hW.word (hW.most n hn)
  have cU := rused_any (sum_word hus n) hW.word (show sumV l n * 9223372036854775808 / W < _ by unfold uV at hu; omega)
  rw [show sumV l n * 9223372036854775808 / W = uV l W n from rfl] at cU
  have HC3 : Hid (∀ x, Below w.heap.size w x → Calls Tryz.prog 120 #[.slice (some ⟨g, o, none⟩) l.length c, .slice (some ⟨h, 0, none⟩) l.length c2, .int .u64 W, .int .i64 (up l n : Nat)] x fun e w' => e = .returned (.int .u64 (efV l W (up l n))) ∧ Below x.heap.size x w') :=
   fun x hx => ih (hA.below hx) (hD.below hx) hul hd.2
  have HT : Hid (∀ x, Below w.heap.size w x → Calls Tryz.prog 134 #[.slice (some ⟨g, o, none⟩) l.length c, .int .i64 (up l n : Nat)] x fun e w' => e = .returned (.int .i64 (tog l (up l n))) ∧ w' = x) := fun x hx => rtog_any (hA.below hx) hwu (up l n)
  obtain ⟨a, ha, hac⟩ := hA.at hn
  have x1 := hac.pa
  rw [up_at hwu ha h0] at x1
  have x2 := hac.sh
  have hs := hwu.shOk n a ha
  have ht := tog_word hwu (up l n)
  have hf := ef_falls hwu hus hW hn h0
  have hw1 := ef_word hwu hus hW hn
  have hw2 := ef_word hwu hus hW hul
  have e1 := ef_up hwu W hn h0
  have hst := sh_tog hwu hn h0
  rw [sh_of ha] at e1 hst
  have k1 : IntKind.u64.wrap a.sh = a.sh := by rw [IntKind.wrap_u64]; omega
  have k2 : IntKind.u64.wrap (tog l (up l n)) = tog l (up l n) := by rw [IntKind.wrap_u64]; omega
  have k3 : IntKind.u64.wrap (efV l W (up l n) - uV l W n) = efV l W (up l n) - uV l W n := by rw [IntKind.wrap_u64]; omega
  have hpq := part_of (x := efV l W (up l n) - uV l W n) (by omega) hst.1 hst.2
  have k4 : IntKind.u64.wrap (uV l W n + (efV l W (up l n) - uV l W n) * a.sh / tog l (up l n)) = efV l W n := by rw [← e1, IntKind.wrap_u64]; omega
  have wx : Word (efV l W (up l n) - uV l W n) := ⟨by omega, by omega⟩
  have ws : Word a.sh := ⟨by omega, by omega⟩
  have wt : Word (tog l (up l n)) := ⟨by omega, by omega⟩
  have c4 := rmuln (efV l W (up l n) - uV l W n) a.sh wx ws
  have c5 := rdivn ((efV l W (up l n) - uV l W n) * a.sh) (tog l (up l n)) (mul_num wx ws) wt
  have el : loW (divV ((efV l W (up l n) - uV l W n) * a.sh) (tog l (up l n))) = (efV l W (up l n) - uV l W n) * a.sh / tog l (up l n) := by
   rw [divV_eq]
   exact (hi_small ⟨hpq.1, by omega⟩).2
  rw [el] at c5
  have hn' : (n : Int) < l.length := by omega
  have hp0 : ¬ ((up l n : Nat) : Int) < 0 := by omega
  have hp1 : 0 ≤ ((up l n : Nat) : Int) := by omega
  clear hA hD ha hs ht hf hw1 hw2 e1 hst hpq wx ws wt el hac ih hd hn hul h0 hu
  generalize hiW (divV ((efV l W (up l n) - uV l W n) * a.sh) (tog l (up l n))) = QH at *
  generalize remV ((efV l W (up l n) - uV l W n) * a.sh) (tog l (up l n)) = QR at *
  generalize divB (tog l (up l n)) = QB at *
  generalize (efV l W (up l n) - uV l W n) * a.sh / tog l (up l n) = Q at *
  generalize (efV l W (up l n) - uV l W n) * a.sh = XS at *
  generalize hE1 : efV l W (up l n) = E1 at *
  generalize hU1 : uV l W n = U1 at *
  clear hE1 hU1
  generalize tog l (up l n) = tg at *
  generalize sumV l n = S1 at *
  generalize efV l W n = E2 at *
  generalize a.sh = sh at *
  generalize ((up l n : Nat) : Int) = pq at *
  generalize l.length = L at *
  go_enter Tryz.func120, Tryz.ntmps120
  go_wp2_with fail
  refine c1.mono ?_
  rintro e w1 ⟨rfl, hb1⟩
  go_wp2_with fail
  refine (cU _).mono ?_
  rintro e w2 ⟨rfl, hb2⟩
  have B2 := hb1.trans (hb2.mono hb1.size)
  clear hb1 hb2
  have y1 := keepC B2 x1
  go_wp2_with fail
  refine (HC3.out _ B2).mono ?_
  rintro e w3 ⟨rfl, hb3⟩
  have B3 := B2.trans (hb3.mono B2.size)
  have y2 := keepC B3 x2
  clear hb3 B2 y1
  go_wp2_with fail
  refine (c4 _).mono ?_
  rintro e w4 ⟨rfl, hb4⟩
  have B4 := B3.trans (hb4.mono B3.size)
  clear hb4 B3 y2
  go_wp2_with fail
  refine (HT.out _ B4).mono ?_
  rintro e w5 ⟨rfl, rfl⟩
  go_wp2_with fail
  refine (c5 _).mono ?_
  rintro e w6 ⟨rfl, hb6⟩
  have B6 := B4.trans (hb6.mono B4.size)
  clear hb6 B4
  go_wp2
  go_ret
  exact ⟨rfl, B6.alloc (by have := B6.size; omega) _⟩
end Go.Proofs.YtdkbmligaodpmaaGreatDoor
namespace Go.Proofs.YtdkbmligaodpmaaGreatDoor
open Go.RowKit Wd Tr Cg

theorem raddn (u v : Int) (hu : Num u) (hv : Num v) (w : World) : Calls Tryz.prog 28 #[.agg #[.int .u64 (hiW u), .int .u64 (loW u)], .agg #[.int .u64 (hiW v), .int .u64 (loW v)]] w fun e w' =>
  e = .returned (.tuple #[.agg #[.int .u64 (hiW (Wd.addV u v)), .int .u64 (loW (Wd.addV u v))], .bool (addB u v)]) ∧ Below w.heap.size w w' := radd_num u v hu hv w
set_option maxHeartbeats 2000000 in
set_option maxRecDepth 20000 in
theorem rxp_any {e n d : Int} (he : 0 ≤ e) (he' : e ≤ 9223372036854775808) (hn : 1 ≤ n) (hnd : n ≤ d) (hn4 : n ≤ 281474976710656) (hd : d < 18446744073709551616) (w : World) :
  Calls Tryz.prog 72 #[.int .u64 e, .int .u64 n, .int .u64 d, .bool true] w fun r w' => r = .returned (.int .u64 (powV e n d)) ∧ Below w.heap.size w w' := by
 obtain ⟨a1, a2, a3⟩ := at_pos hn hnd hd
 have a4 : atN n d < 18446744073709551616 := by unfold atN; split <;> omega
 have m1 := rmuln n 4096 ⟨by omega, by omega⟩ ⟨by omega, by omega⟩
 have m2 := rof_num d ⟨by omega, hd⟩
 have m3 := rcmp_num (n * 4096) d
 unfold nu at m3
 have hcm : (cmpV (n * 4096) d < 0 ∧ atN n d = 1 ∧ atD n d = 4096) ∨ (¬ cmpV (n * 4096) d < 0 ∧ atN n d = n ∧ atD n d = d) := by
  unfold cmpV atN atD
  by_cases h : n * 4096 < d
  ·rw [if_pos h, if_pos h, if_pos h]; exact .inl ⟨by omega, rfl, rfl⟩
  ·rw [if_neg h, if_neg h, if_neg h]
   refine .inr ⟨?_, rfl, rfl⟩
   split <;> omega
 obtain ⟨N, hN⟩ : ∃ N, atN n d = N := ⟨_, rfl⟩
 obtain ⟨D, hD⟩ : ∃ D, atD n d = D := ⟨_, rfl⟩
 have hpv : powV e n d = narV (cl (cl (e * D) N) 2147483648) := by
  unfold powV rawP
  rw [hN, hD, cl_swap (by omega) (by omega)]
 rw [hN] at a1 a4 hcm
 rw [hD] at a2 a3 hcm
 obtain ⟨p0, p1⟩ := Tr.prod_bound he he' a2 a3
 have we : Word e := ⟨he, by omega⟩
 have wD : Word D := ⟨by omega, a3⟩
 have wN : Word N := ⟨by omega, a4⟩
 have wT : Word 2147483648 := ⟨by omega, by omega⟩
 have m4 := rmuln e D we wD
 have nX : Num (e * D) := ⟨p0, by unfold top; omega⟩
 have m5 := rdiv_yes (e * D) N nX wN (by omega)
 have q0 : 0 ≤ cl (e * D) N := cl_nonneg p0 (by omega)
 have q1 : cl (e * D) N ≤ e * D := cl_le p0 (by omega)
 have nQ : Num (cl (e * D) N) := ⟨q0, by unfold top; omega⟩
 have m6 := rdiv_yes (cl (e * D) N) 2147483648 nQ wT (by omega)
 have r0 : 0 ≤ cl (cl (e * D) N) 2147483648 := cl_nonneg q0 (by omega)
 have r1 : cl (cl (e * D) N) 2147483648 ≤ cl (e * D) N := cl_le q0 (by omega)
 have nR : Num (cl (cl (e * D) N) 2147483648) := ⟨r0, by unfold top; omega⟩
 have e5 := cl_rem (x := e * D) (b := N) (by omega)
 have e6 := cl_rem (x := cl (e * D) N) (b := 2147483648) (by omega)
 obtain ⟨_, _, _, nq1, u0, _, _, _⟩ := div_facts nX wN (by omega)
 obtain ⟨_, _, _, nq2, v0, _, _, _⟩ := div_facts nQ wT (by omega)
 rw [hpv]
 obtain ⟨A, hA⟩ : ∃ A, narV (cl (cl (e * D) N) 2147483648) = A := ⟨_, rfl⟩
 rw [hA]
 have HA : Hid (narV (cl (cl (e * D) N) 2147483648) = A) := hA
 have H5 : Hid _ := e5
 have H6 : Hid _ := e6
 have HNR : Hid (Num (cl (cl (e * D) N) 2147483648)) := nR
 have HNQ : Hid (Num (cl (e * D) N)) := nQ
 have HQ1 : Hid (Num (e * D / N) ∧ 0 ≤ e * D % N) := ⟨nq1, u0⟩
 have HQ2 : Hid (Num (cl (e * D) N / 2147483648) ∧ 0 ≤ cl (e * D) N % 2147483648) := ⟨nq2, v0⟩
 have HCM : Hid _ := hcm
 clear hA e5 e6 nR nQ nX q0 q1 r0 r1 p0 p1 we wD wN wT a1 a2 a3 a4 hpv hcm nq1 nq2 u0 v0 hN hD he he' hn hnd hn4 hd
 generalize hQ1 : cl (e * D) N = Q1 at *
 clear hQ1
 generalize hR1 : cl Q1 2147483648 = R1 at *
 clear hR1
 go_enter Tryz.func72, Tryz.ntmps72
 go_wp2_with fail
 refine (m1 _).mono ?_
 rintro _ w1 ⟨rfl, hb1⟩
 go_wp2_with fail
 refine (m2 _).mono ?_
 rintro _ w2 ⟨rfl, hb2⟩
 go_wp2_with fail
 refine (m3 _).mono ?_
 rintro _ w3 ⟨rfl, hb3⟩
 have HB3 : Hid (Below w.heap.size w w3) := (hb1.trans (hb2.mono hb1.size)).trans (hb3.mono (by have := hb1.size; have := hb2.size; omega))
 clear hb1 hb2 hb3 m1 m2 m3
 go_upto_if 19 with fail
 go_cut [1, 2] (fun x y wq => x = .int .u64 N ∧ y = .int .u64 D ∧ Below w.heap.size w wq)
 case first =>
  rcases HCM.out with ⟨h1, h2, h3⟩ | ⟨h1, h2, h3⟩
  ·have H2 : Hid _ := h2
   have H3 : Hid _ := h3
   clear h2 h3 HCM
   go_wp2
   go_meet
   exact ⟨by rw [H2.out], by rw [H3.out], HB3.out⟩
  ·have H2 : Hid _ := h2
   have H3 : Hid _ := h3
   clear h2 h3 HCM
   go_wp2
   go_meet
   exact ⟨by rw [H2.out], by rw [H3.out], HB3.out⟩
 case rest =>
 clear HB3
 obtain ⟨rfl, rfl, HB3⟩ := hcut
 clear HCM
 go_wp2_with fail
 refine (m4 _).mono ?_
 rintro _ w4 ⟨rfl, hb4⟩
 go_wp2_with fail
 refine (m5 _).mono ?_
 rintro _ w5 ⟨rfl, hb5⟩
 have B5 : Below w.heap.size w w5 := (HB3.trans (hb4.mono HB3.size)).trans (hb5.mono (by have := HB3.size; have := hb4.size; omega))
 have hgq : w.heap.size ≤ w5.heap.size := B5.size
 have HR5 : Hid (0 ≤ e * D % N) := HQ1.out.2
 have HN5 : Hid (Num Q1) := HNQ.out
 have HQ5 : Hid (Num (e * D / N) ∧ True) := ⟨HQ1.out.1, trivial⟩
 clear hb4 hb5 m4 m5
 have q0 : (w5.alloc (.cells #[.int .u64 (hiW (e * D / N)), .int .u64 (loW (e * D / N))] 68)).cell? ⟨w5.heap.size, 0, none⟩ = some (.int .u64 (hiW (e * D / N))) := by simp
 have q1 : (w5.alloc (.cells #[.int .u64 (hiW (e * D / N)), .int .u64 (loW (e * D / N))] 68)).cell? ⟨w5.heap.size, 1, none⟩ = some (.int .u64 (loW (e * D / N))) := by simp
 have f0 : (w5.alloc (.cells #[.int .u64 (hiW (e * D / N)), .int .u64 (loW (e * D / N))] 68)).frozen? ⟨w5.heap.size, 0, none⟩ = false := by simp [go_sem]
 have f1 : (w5.alloc (.cells #[.int .u64 (hiW (e * D / N)), .int .u64 (loW (e * D / N))] 68)).frozen? ⟨w5.heap.size, 1, none⟩ = false := by simp [go_sem]
 have HBq : Below w.heap.size w (w5.alloc (.cells #[.int .u64 (hiW (e * D / N)), .int .u64 (loW (e * D / N))] 68)) := B5.alloc hgq _
 clear B5
 go_upto_if 33 with fail
 generalize w5.alloc (.cells #[.int .u64 (hiW (e * D / N)), .int .u64 (loW (e * D / N))] 68) = w6 at *
 generalize w5.heap.size = gq at *
 go_cut [9] (fun b wq => b = .pointer (some ⟨gq, 0, none⟩) ∧ wq.cell? ⟨gq, 0, none⟩ = some (.int .u64 (hiW Q1)) ∧ wq.cell? ⟨gq, 1, none⟩ = some (.int .u64 (loW Q1)) ∧ Below w.heap.size w wq)
 case first =>
  by_cases z : e * D % N = 0
  ·have hz' : ¬ 0 < e * D % N := by omega
   have HZ : Hid _ := z
   clear z
   go_wp2
   go_meet
   exact ⟨rfl, by rw [H5.out, if_pos HZ.out]; exact q0, by rw [H5.out, if_pos HZ.out]; exact q1, HBq⟩
  ·have hz : 0 < e * D % N := by have := HR5.out; omega
   have HZ : Hid _ := z
   have ea : Hid (Wd.addV (e * D / N) 1 = e * D / N + 1) := by
    have h := HN5.out.2
    rw [H5.out, if_neg z] at h
    exact (show Wd.addV (e * D / N) 1 = e * D / N + 1 by unfold Wd.addV; rw [if_pos h])
   have nq := HQ5.out.1
   clear z
   go_upto_region 6 with fail
   go_region_with (first
    | (go_at_call 30; refine (rof_num 1 ⟨by omega, by omega⟩ _).mono ?_; rintro e x ⟨rfl, hx⟩; have x0 := keepC hx q0; have x1 := keepC hx q1; have y0 := keepF hx q0 f0; have y1 := keepF hx q1 f1)
    | (go_at_call 28; refine (raddn (e * D / N) 1 nq ⟨by omega, by unfold top; omega⟩ _).mono ?_; rw [ea.out]; rintro e y ⟨rfl, hy⟩; have u0 := keepC hy x0; have u1 := keepC hy x1; have v0 := keepF hy x0 y0; have v1 := keepF hy x1 y1))
   all_goals
    have HY : Hid (Below w.heap.size w y) := (HBq.drew.trans (hx.mono (by have := HBq.size; simp; omega))).trans (hy.mono (by have := HBq.size; have := hx.size; simp at this; omega))
    go_wp2
    go_meet
    exact ⟨rfl, by rw [H5.out, if_neg HZ.out]; simp [go_sem, *], by rw [H5.out, if_neg HZ.out]; simp [go_sem, *], (HY.out.setCell hgq _).setCell hgq _⟩
 case rest =>
 obtain ⟨rfl, z0, z1, HB7⟩ := hcut
 clear q0 q1 f0 f1 HBq HR5 HN5 HQ5 H5
 go_wp2_with fail
 refine (m6 _).mono ?_
 rintro _ w8 ⟨rfl, hb8⟩
 have B8 : Below w.heap.size w w8 := HB7.trans (hb8.mono HB7.size)
 have hgq : w.heap.size ≤ w8.heap.size := B8.size
 have HR6 : Hid (0 ≤ Q1 % 2147483648) := HQ2.out.2
 have HN6 : Hid (Num R1) := HNR.out
 have HQ6 : Hid (Num (Q1 / 2147483648) ∧ True) := ⟨HQ2.out.1, trivial⟩
 clear hb8 m6 z0 z1
 have q0 : (w8.alloc (.cells #[.int .u64 (hiW (Q1 / 2147483648)), .int .u64 (loW (Q1 / 2147483648))] 68)).cell? ⟨w8.heap.size, 0, none⟩ = some (.int .u64 (hiW (Q1 / 2147483648))) := by simp
 have q1 : (w8.alloc (.cells #[.int .u64 (hiW (Q1 / 2147483648)), .int .u64 (loW (Q1 / 2147483648))] 68)).cell? ⟨w8.heap.size, 1, none⟩ = some (.int .u64 (loW (Q1 / 2147483648))) := by simp
 have f0 : (w8.alloc (.cells #[.int .u64 (hiW (Q1 / 2147483648)), .int .u64 (loW (Q1 / 2147483648))] 68)).frozen? ⟨w8.heap.size, 0, none⟩ = false := by simp [go_sem]
 have f1 : (w8.alloc (.cells #[.int .u64 (hiW (Q1 / 2147483648)), .int .u64 (loW (Q1 / 2147483648))] 68)).frozen? ⟨w8.heap.size, 1, none⟩ = false := by simp [go_sem]
 have HBq : Below w.heap.size w (w8.alloc (.cells #[.int .u64 (hiW (Q1 / 2147483648)), .int .u64 (loW (Q1 / 2147483648))] 68)) := B8.alloc hgq _
 clear B8 HB7
 go_upto_if 50 with fail
 generalize w8.alloc (.cells #[.int .u64 (hiW (Q1 / 2147483648)), .int .u64 (loW (Q1 / 2147483648))] 68) = w9 at *
 generalize w8.heap.size = gr at *
 go_cut [12] (fun b wq => b = .pointer (some ⟨gr, 0, none⟩) ∧ wq.cell? ⟨gr, 0, none⟩ = some (.int .u64 (hiW R1)) ∧ wq.cell? ⟨gr, 1, none⟩ = some (.int .u64 (loW R1)) ∧ Below w.heap.size w wq)
 case first =>
  by_cases z : Q1 % 2147483648 = 0
  ·have hz' : ¬ 0 < Q1 % 2147483648 := by omega
   have HZ : Hid _ := z
   clear z
   go_wp2
   go_meet
   exact ⟨rfl, by rw [H6.out, if_pos HZ.out]; exact q0, by rw [H6.out, if_pos HZ.out]; exact q1, HBq⟩
  ·have hz : 0 < Q1 % 2147483648 := by have := HR6.out; omega
   have HZ : Hid _ := z
   have ea : Hid (Wd.addV (Q1 / 2147483648) 1 = Q1 / 2147483648 + 1) := by
    have h := HN6.out.2
    rw [H6.out, if_neg z] at h
    exact (show Wd.addV (Q1 / 2147483648) 1 = Q1 / 2147483648 + 1 by unfold Wd.addV; rw [if_pos h])
   have nq := HQ6.out.1
   clear z
   go_upto_region 9 with fail
   go_region_with (first
    | (go_at_call 30; refine (rof_num 1 ⟨by omega, by omega⟩ _).mono ?_; rintro e x ⟨rfl, hx⟩; have x0 := keepC hx q0; have x1 := keepC hx q1; have y0 := keepF hx q0 f0; have y1 := keepF hx q1 f1)
    | (go_at_call 28; refine (raddn (Q1 / 2147483648) 1 nq ⟨by omega, by unfold top; omega⟩ _).mono ?_; rw [ea.out]; rintro e y ⟨rfl, hy⟩; have u0 := keepC hy x0; have u1 := keepC hy x1; have v0 := keepF hy x0 y0; have v1 := keepF hy x1 y1))
   all_goals
    have HY : Hid (Below w.heap.size w y) := (HBq.drew.trans (hx.mono (by have := HBq.size; simp; omega))).trans (hy.mono (by have := HBq.size; have := hx.size; simp at this; omega))
    go_wp2
    go_meet
    exact ⟨rfl, by rw [H6.out, if_neg HZ.out]; simp [go_sem, *], by rw [H6.out, if_neg HZ.out]; simp [go_sem, *], (HY.out.setCell hgq _).setCell hgq _⟩
 case rest =>
 obtain ⟨rfl, z0, z1, HBz⟩ := hcut
 have hA := HA.out
 have nR := HNR.out
 clear q0 q1 f0 f1 HBq HR6 HN6 HQ6 H6 HA HNR HQ1 HQ2
 by_cases hh : hiW R1 = 0
 ·rw [(nar_hi nR hh).1] at hA
  rw [hh] at z0
  have HA : Hid _ := hA
  clear hA hh nR
  go_wp2
  go_ret
  exact ⟨by rw [← HA.out]; rfl, HBz⟩
 ·rw [(nar_no nR hh).1] at hA
  have hp : 0 < hiW R1 := by have := (hi_word nR).1; omega
  have HA : Hid _ := hA
  clear hA hh nR
  go_wp2
  go_ret
  exact ⟨by rw [← HA.out]; rfl, HBz⟩
end Go.Proofs.YtdkbmligaodpmaaGreatDoor
namespace Go.Proofs.YtdkbmligaodpmaaGreatDoor
open Go.RowKit Wd Tr Cg

def wdC (xs : List Int) : List Value := xs.map (Value.int .u64)
def firstN (f : Nat → Int) (k : Nat) : List Int := (List.range k).map f
theorem firstN_len (f : Nat → Int) (k : Nat) : (firstN f k).length = k := by simp [firstN]
theorem firstN_succ (f : Nat → Int) (k : Nat) : firstN f (k + 1) = firstN f k ++ [f k] := by simp [firstN, List.range_succ]
set_option maxHeartbeats 400000 in
set_option maxRecDepth 20000 in
theorem right_any {w : World} {ao : Option Addr} {l : List Ac} {c : Nat} (hA : AcsAt w ao l) (hn : l.length * 48 ≤ 140737488355328) :
  Calls Tryz.prog 118 #[.slice ao l.length c] w fun e w' => e = .returned (.bool (decide (loadE l = 0))) ∧ Below w.heap.size w w' := by
 have hld := rload_any (c := c) hA hn
 generalize l.length = L at *
 by_cases hE : loadE l = 0
 ·have HE : Hid (loadE l = 0) := hE
  clear hA hn hE
  go_enter Tryz.func118, Tryz.ntmps118
  go_wp2_with fail
  refine hld.mono ?_
  rintro e w1 ⟨h1, _, hb⟩
  obtain ⟨d, v, rfl, _⟩ := h1 HE.out
  clear h1 hld
  go_wp2
  go_ret
  exact ⟨by rw [HE.out]; rfl, hb⟩
 ·have HE : Hid (¬ loadE l = 0) := hE
  obtain ⟨er, her⟩ : ∃ er, loadE l = er := ⟨_, rfl⟩
  have HR : Hid (loadE l = er) := her
  rw [her] at hE
  have he' : (er == 0) = false := by simp [hE]
  clear hA hn her
  go_enter Tryz.func118, Tryz.ntmps118
  go_wp2_with fail
  refine hld.mono ?_
  rintro e w1 ⟨_, h2, hb⟩
  obtain rfl := h2 HE.out
  rw [HR.out]
  clear h2 hld
  go_wp2
  go_ret
  exact ⟨by rw [decide_eq_false (by rw [HR.out]; exact hE)]; rfl, hb⟩
theorem own_lt {w : World} {B e sz n : Nat} {v : Value} {xs : List Value} (h : w.ownsRow B e sz v n xs) : ∀ k, v.ownBlock = some k → k < w.heap.size ∧ B ≤ k := fun k hk => by
 rcases h.2 with ⟨e, _⟩ | ⟨g, cap, cur, e, hb, hh, _⟩
 ·rw [e] at hk; cases hk
 ·rw [e] at hk
  have : g = k := by simpa [Value.ownBlock] using hk
  subst this
  exact ⟨(Array.getElem?_eq_some_iff.1 hh).1, hb⟩
end Go.Proofs.YtdkbmligaodpmaaGreatDoor
namespace Go.Proofs.YtdkbmligaodpmaaGreatDoor
open Go.RowKit Wd Tr Cg

namespace Bk
def nthI (xs : List Int) (j : Nat) : Int := xs.getD j 0
theorem gr_below {w w' : World} (h : Below w.heap.size w w') (r : Option Nat) : w.grownBy w' r := ⟨h.os, h.tape, h.output, h.size, fun i hi _ => h.block i hi⟩
theorem own_below {w w' : World} {base e n : Nat} {v : Value} {xs : List Value} (h : w.ownsRow base e 1 v n xs) (hb : Below w.heap.size w w') : w'.ownsRow base e 1 v n xs :=
 h.kept (gr_below hb none) (by cases hv : v.ownBlock <;> simp)
theorem below1 (w : World) (o : Obj) : Below w.heap.size w (w.alloc o) := (Below.refl _ _).alloc (Nat.le_refl _) _
theorem empty_row (w : World) (base : Nat) (hb : base ≤ w.heap.size) : (w.alloc (.cells #[] 60)).ownsRow base 60 1 (.slice (some ⟨w.heap.size, 0, none⟩) 0 0) 0 [] :=
 World.ownsRow_made w #[] 0 hb (by decide) rfl
theorem own_lt {w : World} {base e n cap g : Nat} {xs : List Value} (h : w.ownsRow base e 1 (.slice (some ⟨g, 0, none⟩) n cap) n xs) : g < w.heap.size := by
 rcases h.2 with ⟨hv, _⟩ | ⟨g', cap', cur, hv, _, hg, _⟩
 ·simp at hv
 ·simp at hv
  obtain ⟨rfl, _⟩ := hv
  exact (Array.getElem?_eq_some_iff.1 hg).1

def Moved (w : World) (ao ao' : Option Addr) : Prop := ao' = ao ∨ ∃ g, w.heap.size ≤ g ∧ ao' = some ⟨g, 0, none⟩

theorem owns_shape {w : World} {base e n : Nat} {v : Value} {xs : List Value} (h : w.ownsRow base e 1 v n xs) : (v = .slice none 0 0 ∧ n = 0) ∨ ∃ g cap, v = .slice (some ⟨g, 0, none⟩) n cap ∧ base ≤ g ∧ n ≤ cap := by
 rcases h.2 with h | ⟨g, cap, cur, rfl, hb, _, hn, _⟩
 ·exact .inl h
 ·exact .inr ⟨g, cap, rfl, hb, hn⟩
theorem owns_low {w : World} {base e n : Nat} {v : Value} {xs : List Value} (h : w.ownsRow base e 1 v n xs) : w.ownsRow 0 e 1 v n xs := by
 refine ⟨h.1, ?_⟩
 rcases h.2 with h | ⟨g, cap, cur, rfl, hb, rest⟩
 ·exact .inl h
 ·exact .inr ⟨g, cap, cur, rfl, Nat.zero_le _, rest⟩

theorem wpList_app {P : Program} (w : World) {ops : Array Oper} {rest : List Oper} {o : Oper} {a : Act} {Q : Exit → Act → World → Prop}
  (hgd : o.guard = none) (s x : Operand) (t : TypeId) (ho : o.op = .call { callee := .builtin .append, args := #[s, x], argTypes := #[t, t] })
  (e : TypeId) (i : TypeInfo) (z : Value) (bytes : Nat) (h1 : P.underlying t = some (.slice e)) (h2 : P.info? e = some i) (h3 : i.zero = some z) (h4 : i.size = 1) (h5 : i.bytes = bytes) (h6 : z.cells.size = 1)
  (ao : Option Addr) (n cap : Nat) (xs : List Value) (hs : a.eval s = .slice ao n cap) (hown : w.ownsRow 0 e 1 (.slice ao n cap) n xs)
  (ad : Addr) (m c : Nat) (news : List Value) (hx : a.eval x = .slice (some ad) m c) (hl : news.length = m) (hnews : ∀ j u, news[j]? = some u → w.cell? (ad.add j) = some u) (hone : ∀ u ∈ news, u.oneCell' = true)
  (b1 : n + m ≤ maxLen) (b2 : (n + m) * bytes ≤ 140737488355328)
  (hK : ∀ ao' cap' w', w'.ownsRow 0 e 1 (.slice ao' (n + m) cap') (n + m) (xs ++ news) → w.grownBy w' (ao.map (·.block)) → Moved w ao ao' → wpList P ops Q rest (a.put o.dst (.slice ao' (n + m) cap')) w') :
  wpList P ops Q (o :: rest) a w := by
 rcases owns_shape hown with ⟨hv, hn0⟩ | ⟨g, cap', hv, _, hnc⟩
 ·simp only [Value.slice.injEq] at hv
  obtain ⟨rfl, rfl, rfl⟩ := hv
  by_cases hm : m = 0
  ·subst hm
   refine wpList_append_own w hgd s x t ho 0 e i z 1 bytes h1 h2 h3 h4 h5 h6 (by decide) _ 0 xs hs hown ad 0 c news hx (by omega) hnews hone b1 b2 (Nat.zero_le _) fun v' w' k1 k2 k3 => ?_
   obtain rfl := k3.2 ⟨rfl, rfl⟩
   exact hK none 0 w' k1 k2 (.inl rfl)
  ·have hxs : xs.length = 0 * 1 := hown.1
   refine wpList_append_grows w hgd s x t ho e i z 1 bytes h1 h2 h3 h4 h5 h6 (by decide) none 0 0 xs hs (fun _ => ⟨rfl, rfl⟩) hxs (fun _ h => by cases h) ad m c news hx (by omega) hnews hone (by omega) b1 b2 fun v' w' k1 k2 => ?_
   rcases owns_shape k1 with ⟨_, h0⟩ | ⟨g, cap', rfl, hg, _⟩
   ·omega
   ·exact hK _ cap' w' (owns_low k1) k2 (.inr ⟨g, hg, rfl⟩)
 ·simp only [Value.slice.injEq, true_and] at hv
  obtain ⟨rfl, rfl⟩ := hv
  by_cases hfit : n + m ≤ cap
  ·refine wpList_append_fits w hgd s x t ho 0 e i 1 h1 h2 h4 g n cap xs hs hown ad m c news hx (by omega) hnews hone hfit fun w' k1 k2 => ?_
   exact hK _ cap w' k1 k2 (.inl rfl)
  ·refine wpList_append_grows w hgd s x t ho e i z 1 bytes h1 h2 h3 h4 h5 h6 (by decide) (some ⟨g, 0, none⟩) n cap xs hs (fun h => by cases h) hown.1 (fun b hb j u hu => by
    cases hb
    exact hown.cells (g := g) rfl j u hu) ad m c news hx (by omega) hnews hone (by omega) b1 b2 fun v' w' k1 k2 => ?_
   rcases owns_shape k1 with ⟨_, h0⟩ | ⟨g', cap', rfl, hg, _⟩
   ·omega
   ·refine hK _ cap' w' (owns_low k1) ⟨k2.os, k2.tape, k2.output, k2.size, fun k hk _ => k2.block k hk (by simp)⟩ (.inr ⟨g', hg, rfl⟩)
end Bk
open Bk
namespace Bk
end Bk
namespace Bk
theorem own_at {w : World} {base n cap g : Nat} {xs : List Int} (h : w.ownsRow base 60 1 (.slice (some ⟨g, 0, none⟩) n cap) n (wdC xs)) (k : Nat) (hk : k < xs.length) : w.cell? ⟨g, k, none⟩ = some (.int .u64 (nthI xs k)) := by
 have := h.cells (g := g) rfl k (.int .u64 (nthI xs k)) (by simp [wdC, nthI, hk])
 have ha : (⟨g, 0, none⟩ : Addr).add k = ⟨g, k, none⟩ := by unfold Addr.add; split <;> simp_all
 rwa [ha] at this
theorem grown_shape {w : World} {base e n : Nat} {v : Value} {xs : List Value} (h : w.ownsRow base e 1 v n xs) (hn : 0 < n) : ∃ g cap, v = .slice (some ⟨g, 0, none⟩) n cap ∧ base ≤ g := by
 rcases owns_shape h with ⟨_, h0⟩ | ⟨g, cap, rfl, hg, _⟩
 ·omega
 ·exact ⟨g, cap, rfl, hg⟩
end Bk
end Go.Proofs.YtdkbmligaodpmaaGreatDoor
namespace Go.Proofs.YtdkbmligaodpmaaGreatDoor
open Go.RowKit Wd Tr Cg Bk

theorem wdC_snoc (xs : List Int) (x : Int) : wdC xs ++ [.int .u64 x] = wdC (xs ++ [x]) := by simp [wdC]
structure TwoR (w0 w : World) (ga ca na : Nat) (xs : List Int) (gb cb nb : Nat) (ys : List Int) : Prop where
 a : w.ownsRow 0 60 1 (.slice (some ⟨ga, 0, none⟩) na ca) na (wdC xs)
 b : w.ownsRow 0 60 1 (.slice (some ⟨gb, 0, none⟩) nb cb) nb (wdC ys)
 ne : ga ≠ gb
 la : w0.heap.size ≤ ga
 lb : w0.heap.size ≤ gb
 bl : Below w0.heap.size w0 w
section
variable {w0 w w' : World} {ga ca na gb cb nb : Nat} {xs ys : List Int}
theorem TwoR.swap (h : TwoR w0 w ga ca na xs gb cb nb ys) : TwoR w0 w gb cb nb ys ga ca na xs := ⟨h.b, h.a, h.ne.symm, h.lb, h.la, h.bl⟩
theorem TwoR.below (h : TwoR w0 w ga ca na xs gb cb nb ys) (hb : Below w.heap.size w w') : TwoR w0 w' ga ca na xs gb cb nb ys :=
 ⟨own_below h.a hb, own_below h.b hb, h.ne, h.la, h.lb, h.bl.trans (hb.mono h.bl.size)⟩
theorem TwoR.left (h : TwoR w0 w ga ca na xs gb cb nb ys) {x : Int} {o : Obj} {ao' : Option Addr} {c' : Nat} (ho : w'.ownsRow 0 60 1 (.slice ao' (na + 1) c') (na + 1) (wdC xs ++ [.int .u64 x])) (hg : (w.alloc o).grownBy w' (some ga)) (hm : Moved (w.alloc o) (some ⟨ga, 0, none⟩) ao') :
  ∃ g', ao' = some ⟨g', 0, none⟩ ∧ TwoR w0 w' g' c' (na + 1) (xs ++ [x]) gb cb nb ys := by
 have hgb := Bk.own_lt h.b
 have hga := Bk.own_lt h.a
 have hsz := h.bl.size
 have hla := h.la
 rw [wdC_snoc] at ho
 have hB : Below w0.heap.size w0 w' := (h.bl.alloc h.bl.size o).grown hg (by simp; omega) (fun k hk => by simp at hk; omega)
 have hb' := (h.b.alloc o).kept hg (by
  have := h.ne
  simp [Value.ownBlock]
  omega)
 rcases hm with e | ⟨g, hgs, e⟩
 ·subst e
  exact ⟨ga, rfl, ho, hb', h.ne, h.la, h.lb, hB⟩
 ·subst e
  simp at hgs
  exact ⟨g, rfl, ho, hb', by omega, by omega, h.lb, hB⟩
theorem TwoR.right (h : TwoR w0 w ga ca na xs gb cb nb ys) {x : Int} {o : Obj} {ao' : Option Addr} {c' : Nat} (ho : w'.ownsRow 0 60 1 (.slice ao' (nb + 1) c') (nb + 1) (wdC ys ++ [.int .u64 x])) (hg : (w.alloc o).grownBy w' (some gb)) (hm : Moved (w.alloc o) (some ⟨gb, 0, none⟩) ao') :
  ∃ g', ao' = some ⟨g', 0, none⟩ ∧ TwoR w0 w' ga ca na xs g' c' (nb + 1) (ys ++ [x]) := by
 obtain ⟨g', e, h'⟩ := h.swap.left ho hg hm
 exact ⟨g', e, h'.swap⟩
end
theorem two_new (w : World) : TwoR w ((w.alloc (.cells #[] 60)).alloc (.cells #[] 60)) w.heap.size 0 0 [] (w.heap.size + 1) 0 0 [] := by
 have b1 : Below w.heap.size w (w.alloc (.cells #[] 60)) := below1 w _
 have h1 := empty_row w 0 (Nat.zero_le _)
 have h2 := empty_row (w.alloc (.cells #[] 60)) 0 (Nat.zero_le _)
 refine ⟨h1.alloc _, by rw [show wdC [] = [] from rfl]; simpa using h2, by omega, Nat.le_refl _, by omega, b1.alloc (by simp) _⟩
def RSh (w : World) (N : Nat) (xs ys : List Int) (e : Ending) (w' : World) : Prop :=
 ∃ ga ca gb cb, e = .returned (.tuple #[.slice (some ⟨ga, 0, none⟩) N ca, .slice (some ⟨gb, 0, none⟩) N cb]) ∧ TwoR w w' ga ca N xs gb cb N ys
def lenS (l : List Ac) : Nat := if loadE l = 0 then l.length else 0
theorem wds_own {w : World} {ga ca n : Nat} {f : Nat → Int} (h : w.ownsRow 0 60 1 (.slice (some ⟨ga, 0, none⟩) n ca) n (wdC (firstN f n))) : Wds w ga f n := fun k hk => by
 have := own_at h k (by rw [firstN_len]; exact hk)
 simpa [nthI, firstN, hk] using this
theorem Tryz.infWE : (Tryz.prog.info? 60).map (fun i => (i.zero, i.size, i.bytes)) = some (some (.int .u64 0), 1, 8) := by kernel_rfl
set_option maxHeartbeats 1000000 in
set_option maxRecDepth 20000 in
theorem rshs_any {w : World} {ao : Option Addr} {l : List Ac} {c : Nat} (hA : AcsAt w ao l) (hn : l.length * 48 ≤ 140737488355328) :
  Calls Tryz.prog 70 #[.slice ao l.length c] w (RSh w (lenS l) (firstN (numV l) (lenS l)) (firstN (denV l) (lenS l))) := by
 obtain ⟨i3, hi3, hz30, hz31, hz32⟩ := info_parts Tryz.infWE
 have hT := two_new w
 have cR : Hid (∀ x, Below w.heap.size w x → Calls Tryz.prog 118 #[.slice ao l.length c] x fun e w' => e = .returned (.bool (decide (loadE l = 0))) ∧ Below x.heap.size x w') := fun x hx => right_any (hA.below hx) hn
 by_cases hE : loadE l = 0
 ·have hwu : Wu l := wf_load hE
  have hl := hwu.len
  obtain ⟨g, o, hao, hcl⟩ := hA
  obtain rfl := hao hwu.pos
  have hlS : lenS l = l.length := if_pos hE
  rw [hlS]
  have HP : Hid (∀ (n : Nat) x, n < l.length → Below w.heap.size w x → Calls Tryz.prog 121 #[.slice (some ⟨g, o, none⟩) l.length c, .int .i64 (n : Int)] x fun e w' => e = .returned (.tuple #[.int .u64 (numV l n), .int .u64 (denV l n)]) ∧ Below x.heap.size x w') := fun n x hn hx => rprt_any hwu _ (Acs.below hcl hx) hn (hwu.dOf hn).1
  obtain ⟨L, hL⟩ : ∃ L, l.length = L := ⟨_, rfl⟩
  rw [hL] at cR HP hl ⊢
  obtain ⟨w2, hw2⟩ : ∃ w2, (w.alloc (.cells #[] 60)).alloc (.cells #[] 60) = w2 := ⟨_, rfl⟩
  rw [hw2] at hT
  have c1 := cR.out w2 hT.bl
  rw [decide_eq_true hE] at c1
  have HT : Hid _ := hT
  clear hcl hn hE hao hwu hL hlS hT cR
  go_enter Tryz.func70, Tryz.ntmps70
  go_wp2_with fail
  refine c1.mono ?_
  rintro e w3 ⟨rfl, hb3⟩
  have HT3 : Hid _ := HT.out.below hb3
  clear hb3 HT c1
  go_wp2
  go_loopg [4, 5, 6] L (fun gk va vb x wr => ∃ j ga ca gb cb : Nat, j + gk = L ∧ va = .slice (some ⟨ga, 0, none⟩) j ca ∧ vb = .slice (some ⟨gb, 0, none⟩) j cb ∧ x = .int .i64 j ∧ TwoR w wr ga ca j (firstN (numV l) j) gb cb j (firstN (denV l) j))
  case atStart => exact ⟨0, _, _, _, _, by omega, rfl, rfl, rfl, HT3.out⟩
  case round =>
   obtain ⟨j, ga, ca, gb, cb, hj, rfl, rfl, rfl, hR⟩ := hrel
   by_cases hlt : j < L
   ·have hlt' : (j : Int) < L := by omega
    have c2 := HP.out j wr hlt hR.bl
    have HR : Hid _ := hR
    clear hR
    go_wp2_with fail
    refine c2.mono ?_
    rintro e w4 ⟨rfl, hb4⟩
    have R4 := HR.out.below hb4
    clear hb4 HR
    have ra := R4.a
    go_upto_region 10 with (first | (at_builtin; refine wpList_app _ rfl (.tmp 28) (.tmp 30) 57 rfl 60 i3 (.int .u64 0) 8 Tryz.underlying57 hi3 hz30 hz31 hz32 rfl (some ⟨ga, 0, none⟩) j ca (wdC (firstN (numV l) j)) rfl (ra.alloc _) ⟨_, 0, none⟩ 1 1 [.int .u64 (numV l j)] rfl rfl (cell_one_new _ _ _) (by intro u hu; simp at hu; subst hu; rfl) (by unfold maxLen; omega) (by omega) ?_; intro ao1 co1 w5 ho5 hg5 hmv5; obtain ⟨g1, rfl, R5⟩ := R4.left ho5 hg5 hmv5))
    clear R4 ra ho5 hg5 hmv5
    have rb := R5.b
    go_upto_region 7 with (first | (at_builtin; refine wpList_app _ rfl (.tmp 32) (.tmp 34) 57 rfl 60 i3 (.int .u64 0) 8 Tryz.underlying57 hi3 hz30 hz31 hz32 rfl (some ⟨gb, 0, none⟩) j cb (wdC (firstN (denV l) j)) rfl (rb.alloc _) ⟨_, 0, none⟩ 1 1 [.int .u64 (denV l j)] rfl rfl (cell_one_new _ _ _) (by intro u hu; simp at hu; subst hu; rfl) (by unfold maxLen; omega) (by omega) ?_; intro ao2 co2 w6 ho6 hg6 hmv6; obtain ⟨g2, rfl, R6⟩ := R5.right ho6 hg6 hmv6))
    have HR6 : Hid _ := R6
    clear R5 rb ho6 hg6 hmv6 R6
    go_wp2
    go_roundg (L - (j + 1))
    case measure => omega
    case rel => exact ⟨j + 1, _, _, _, _, by omega, rfl, rfl, rfl, by rw [firstN_succ, firstN_succ]; exact HR6.out⟩
   ·obtain rfl : j = L := by omega
    have HR : Hid _ := hR
    clear hR
    go_wp2
    go_ret2
    exact ⟨_, _, _, _, rfl, HR.out⟩
 ·have hlS : lenS l = 0 := if_neg hE
  rw [hlS]
  generalize l.length = L at *
  obtain ⟨w2, hw2⟩ : ∃ w2, (w.alloc (.cells #[] 60)).alloc (.cells #[] 60) = w2 := ⟨_, rfl⟩
  rw [hw2] at hT
  have c1 := cR.out w2 hT.bl
  rw [decide_eq_false hE] at c1
  have HT : Hid _ := hT
  clear hn hE hlS hT cR hA
  go_enter Tryz.func70, Tryz.ntmps70
  go_wp2_with fail
  refine c1.mono ?_
  rintro e w3 ⟨rfl, hb3⟩
  have HT3 : Hid _ := HT.out.below hb3
  clear hb3 HT c1
  go_wp2
  go_ret2
  exact ⟨_, _, _, _, rfl, HT3.out⟩
end Go.Proofs.YtdkbmligaodpmaaGreatDoor
