/-
  LAYER 13: the reference (backfillref13): effective, Exponent.
  LAYER 13: the reference (backfillref13): Exponent, rounded up.
  LAYER 13: the reference (backfillref13): right, Shares.
  THE BOOK of ShareTells: rows of words that were handed out, each with what it must read as.
  THE BOOK of ShareTells: words, holds, keep.
  THE BOOK of ShareTells: spoil.
  LAYER 13: the reference (backfillref13): Shares.
  LAYER 13: the reference (backfillref13): Effective.
  LAYER 13: the reference (backfillref13): Factors.
-/
import Derived.Test.YtioldijdmefljaaGreatDoorRgA
import Derived.Test.YtioldijdmefljaaGreatDoorCfC
import Derived.Maps.AppendAt
import Derived.WalkKit
import Derived.WalkSpells
import Derived.ArgAppend
import Derived.Laws.AppendOwnNone
import Derived.Deep.LoopGhost
import Derived.RowKit3
import Derived.Deep.QuietTactic
import Derived.Deep.CutBlock
import Derived.Deep.DeepCutAuto
import Derived.Test.YtioldijdmefljaaGreatDoorSfZ
namespace Go.Proofs.YtioldijdmefljaaGreatDoor
open Go.RowKit Wd Tr

set_option maxHeartbeats 1000000 in
set_option maxRecDepth 20000 in
theorem reff_any {g o c h c2 : Nat} {l : List Ac} (hwu : Wu l) (hus : UsOk l) {W : Int} (hW : WOk l W) : ∀ (d : Nat) {n : Nat} {w : World}, Acs w g o l → Wds w h (usOf l) l.length → n < l.length → Dep l d n →
    Calls Tryz.prog 30 #[.slice (some ⟨g, o, none⟩) l.length c, .slice (some ⟨h, 0, none⟩) l.length c2, .int .u64 W, .int .i64 (n : Int)] w fun e w' => e = .returned (.int .u64 (efV l W n)) ∧ Below w.heap.size w w' := by
  intro d
  induction d with
  | zero =>
    intro n w hA hD hn hd
    obtain rfl : n = 0 := hd
    have c1 := rsum_any (c := c) (c2 := c2) hwu hus 5 (n := 0) (d := 0) hA hD hn rfl (by omega)
    have hu := u_word hus hW.word (hW.most 0 hn)
    have cU := rused_any (sum_word hus 0) hW.word (show sumV l 0 * 9223372036854775808 / W < _ by unfold uV at hu; omega)
    rw [ef_root]
    rw [show sumV l 0 * 9223372036854775808 / W = uV l W 0 from rfl] at cU
    obtain ⟨a, ha, hac⟩ := hA.at hn
    have x1 := hac.pa
    rw [root_at hwu ha] at x1
    simp only [Nat.zero_mul, Nat.add_zero] at x1
    have hl : (0 : Int) < l.length := by omega
    clear hac hA hD ha hu
    generalize sumV l 0 = S0 at *
    generalize uV l W 0 = U0 at *
    generalize l.length = L at *
    go_enter Tryz.func30, Tryz.ntmps30
    go_wp2_with fail
    refine c1.mono ?_
    rintro e w1 ⟨rfl, hb1⟩
    go_wp2_with fail
    refine (cU _).mono ?_
    rintro e w2 ⟨rfl, hb2⟩
    have y1 := keepC hb2 (keepC hb1 x1)
    go_wp2
    go_ret
    exact ⟨rfl, hb1.trans (hb2.mono hb1.size)⟩
  | succ d ih =>
    intro n w hA hD hn hd
    have h0 : n ≠ 0 := hd.1
    have hul := hwu.up_lt hn
    have c1 := rsum_any (c := c) (c2 := c2) hwu hus 5 (n := n) (d := d + 1) hA hD hn hd (by omega)
    have hu := u_word hus hW.word (hW.most n hn)
    have cU := rused_any (sum_word hus n) hW.word (show sumV l n * 9223372036854775808 / W < _ by unfold uV at hu; omega)
    rw [show sumV l n * 9223372036854775808 / W = uV l W n from rfl] at cU
    have HC3 : Hid (∀ x, Below w.heap.size w x → Calls Tryz.prog 30 #[.slice (some ⟨g, o, none⟩) l.length c, .slice (some ⟨h, 0, none⟩) l.length c2, .int .u64 W, .int .i64 (up l n : Nat)] x fun e w' => e = .returned (.int .u64 (efV l W (up l n))) ∧ Below x.heap.size x w') :=
      fun x hx => ih (hA.below hx) (hD.below hx) hul hd.2
    have HT : Hid (∀ x, Below w.heap.size w x → Calls Tryz.prog 40 #[.slice (some ⟨g, o, none⟩) l.length c, .int .i64 (up l n : Nat)] x fun e w' => e = .returned (.int .i64 (tog l (up l n))) ∧ w' = x) := fun x hx => rtog_any (hA.below hx) hwu (up l n)
    obtain ⟨a, ha, hac⟩ := hA.at hn
    have x1 := hac.pa
    rw [up_at hwu ha h0] at x1
    have x2 := hac.sh
    have hs := hwu.shOk n a ha
    have ht := tog_word hwu (up l n)
    have hf := ef_falls hwu hus hW hn h0
    have hw1 := ef_word hwu hus hW hn
    have hw2 := ef_word hwu hus hW hul
    have e1 := ef_up hwu W hn h0
    have hst := sh_tog hwu hn h0
    rw [sh_of ha] at e1 hst
    have k1 : IntKind.u64.wrap a.sh = a.sh := by rw [IntKind.wrap_u64]; omega
    have k2 : IntKind.u64.wrap (tog l (up l n)) = tog l (up l n) := by rw [IntKind.wrap_u64]; omega
    have k3 : IntKind.u64.wrap (efV l W (up l n) - uV l W n) = efV l W (up l n) - uV l W n := by rw [IntKind.wrap_u64]; omega
    have hpq := part_of (x := efV l W (up l n) - uV l W n) (by omega) hst.1 hst.2
    have k4 : IntKind.u64.wrap (uV l W n + (efV l W (up l n) - uV l W n) * a.sh / tog l (up l n)) = efV l W n := by rw [← e1, IntKind.wrap_u64]; omega
    have wx : Word (efV l W (up l n) - uV l W n) := ⟨by omega, by omega⟩
    have ws : Word a.sh := ⟨by omega, by omega⟩
    have wt : Word (tog l (up l n)) := ⟨by omega, by omega⟩
    have c4 := rmuln (efV l W (up l n) - uV l W n) a.sh wx ws
    have c5 := rdivn ((efV l W (up l n) - uV l W n) * a.sh) (tog l (up l n)) (mul_num wx ws) wt
    have el : loW (divV ((efV l W (up l n) - uV l W n) * a.sh) (tog l (up l n))) = (efV l W (up l n) - uV l W n) * a.sh / tog l (up l n) := by
      rw [divV_eq]
      exact (hi_small ⟨hpq.1, by omega⟩).2
    rw [el] at c5
    have hn' : (n : Int) < l.length := by omega
    have hp0 : ¬ ((up l n : Nat) : Int) < 0 := by omega
    have hp1 : 0 ≤ ((up l n : Nat) : Int) := by omega
    clear hA hD ha hs ht hf hw1 hw2 e1 hst hpq wx ws wt el hac ih hd hn hul h0 hu
    generalize hiW (divV ((efV l W (up l n) - uV l W n) * a.sh) (tog l (up l n))) = QH at *
    generalize remV ((efV l W (up l n) - uV l W n) * a.sh) (tog l (up l n)) = QR at *
    generalize divB (tog l (up l n)) = QB at *
    generalize (efV l W (up l n) - uV l W n) * a.sh / tog l (up l n) = Q at *
    generalize (efV l W (up l n) - uV l W n) * a.sh = XS at *
    generalize hE1 : efV l W (up l n) = E1 at *
    generalize hU1 : uV l W n = U1 at *
    clear hE1 hU1
    generalize tog l (up l n) = tg at *
    generalize sumV l n = S1 at *
    generalize efV l W n = E2 at *
    generalize a.sh = sh at *
    generalize ((up l n : Nat) : Int) = pq at *
    generalize l.length = L at *
    go_enter Tryz.func30, Tryz.ntmps30
    go_wp2_with fail
    refine c1.mono ?_
    rintro e w1 ⟨rfl, hb1⟩
    go_wp2_with fail
    refine (cU _).mono ?_
    rintro e w2 ⟨rfl, hb2⟩
    have B2 := hb1.trans (hb2.mono hb1.size)
    clear hb1 hb2
    have y1 := keepC B2 x1
    go_wp2_with fail
    refine (HC3.out _ B2).mono ?_
    rintro e w3 ⟨rfl, hb3⟩
    have B3 := B2.trans (hb3.mono B2.size)
    have y2 := keepC B3 x2
    clear hb3 B2 y1
    go_wp2_with fail
    refine (c4 _).mono ?_
    rintro e w4 ⟨rfl, hb4⟩
    have B4 := B3.trans (hb4.mono B3.size)
    clear hb4 B3 y2
    go_wp2_with fail
    refine (HT.out _ B4).mono ?_
    rintro e w5 ⟨rfl, rfl⟩
    go_wp2_with fail
    refine (c5 _).mono ?_
    rintro e w6 ⟨rfl, hb6⟩
    have B6 := B4.trans (hb6.mono B4.size)
    clear hb6 B4
    go_wp2
    go_ret
    exact ⟨rfl, B6.alloc (by have := B6.size; omega) _⟩
end Go.Proofs.YtioldijdmefljaaGreatDoor
namespace Go.Proofs.YtioldijdmefljaaGreatDoor
open Go.RowKit Wd Tr Cg

theorem raddn (u v : Int) (hu : Num u) (hv : Num v) (w : World) : Calls Tryz.prog 67 #[.agg #[.int .u64 (hiW u), .int .u64 (loW u)], .agg #[.int .u64 (hiW v), .int .u64 (loW v)]] w fun e w' =>
    e = .returned (.tuple #[.agg #[.int .u64 (hiW (Wd.addV u v)), .int .u64 (loW (Wd.addV u v))], .bool (addB u v)]) ∧ Below w.heap.size w w' := radd_num u v hu hv w
set_option maxHeartbeats 2000000 in
set_option maxRecDepth 20000 in
theorem rxp_any {e n d : Int} (he : 0 ≤ e) (he' : e ≤ 9223372036854775808) (hn : 1 ≤ n) (hnd : n ≤ d) (hn4 : n ≤ 281474976710656) (hd : d < 18446744073709551616) (w : World) :
    Calls Tryz.prog 35 #[.int .u64 e, .int .u64 n, .int .u64 d, .bool true] w fun r w' => r = .returned (.int .u64 (powV e n d)) ∧ Below w.heap.size w w' := by
  obtain ⟨a1, a2, a3⟩ := at_pos hn hnd hd
  have a4 : atN n d < 18446744073709551616 := by unfold atN; split <;> omega
  have m1 := rmuln n 4096 ⟨by omega, by omega⟩ ⟨by omega, by omega⟩
  have m2 := rof_num d ⟨by omega, hd⟩
  have m3 := rcmp_num (n * 4096) d
  unfold nu at m3
  have hcm : (cmpV (n * 4096) d < 0 ∧ atN n d = 1 ∧ atD n d = 4096) ∨ (¬ cmpV (n * 4096) d < 0 ∧ atN n d = n ∧ atD n d = d) := by
    unfold cmpV atN atD
    by_cases h : n * 4096 < d
    · rw [if_pos h, if_pos h, if_pos h]; exact .inl ⟨by omega, rfl, rfl⟩
    · rw [if_neg h, if_neg h, if_neg h]
      refine .inr ⟨?_, rfl, rfl⟩
      split <;> omega
  obtain ⟨N, hN⟩ : ∃ N, atN n d = N := ⟨_, rfl⟩
  obtain ⟨D, hD⟩ : ∃ D, atD n d = D := ⟨_, rfl⟩
  have hpv : powV e n d = narV (cl (cl (e * D) N) 2147483648) := by
    unfold powV rawP
    rw [hN, hD, cl_swap (by omega) (by omega)]
  rw [hN] at a1 a4 hcm
  rw [hD] at a2 a3 hcm
  obtain ⟨p0, p1⟩ := Tr.prod_bound he he' a2 a3
  have we : Word e := ⟨he, by omega⟩
  have wD : Word D := ⟨by omega, a3⟩
  have wN : Word N := ⟨by omega, a4⟩
  have wT : Word 2147483648 := ⟨by omega, by omega⟩
  have m4 := rmuln e D we wD
  have nX : Num (e * D) := ⟨p0, by unfold top; omega⟩
  have m5 := rdiv_yes (e * D) N nX wN (by omega)
  have q0 : 0 ≤ cl (e * D) N := cl_nonneg p0 (by omega)
  have q1 : cl (e * D) N ≤ e * D := cl_le p0 (by omega)
  have nQ : Num (cl (e * D) N) := ⟨q0, by unfold top; omega⟩
  have m6 := rdiv_yes (cl (e * D) N) 2147483648 nQ wT (by omega)
  have r0 : 0 ≤ cl (cl (e * D) N) 2147483648 := cl_nonneg q0 (by omega)
  have r1 : cl (cl (e * D) N) 2147483648 ≤ cl (e * D) N := cl_le q0 (by omega)
  have nR : Num (cl (cl (e * D) N) 2147483648) := ⟨r0, by unfold top; omega⟩
  have e5 := cl_rem (x := e * D) (b := N) (by omega)
  have e6 := cl_rem (x := cl (e * D) N) (b := 2147483648) (by omega)
  obtain ⟨_, _, _, nq1, u0, _, _, _⟩ := div_facts nX wN (by omega)
  obtain ⟨_, _, _, nq2, v0, _, _, _⟩ := div_facts nQ wT (by omega)
  rw [hpv]
  obtain ⟨A, hA⟩ : ∃ A, narV (cl (cl (e * D) N) 2147483648) = A := ⟨_, rfl⟩
  rw [hA]
  have HA : Hid (narV (cl (cl (e * D) N) 2147483648) = A) := hA
  have H5 : Hid _ := e5
  have H6 : Hid _ := e6
  have HNR : Hid (Num (cl (cl (e * D) N) 2147483648)) := nR
  have HNQ : Hid (Num (cl (e * D) N)) := nQ
  have HQ1 : Hid (Num (e * D / N) ∧ 0 ≤ e * D % N) := ⟨nq1, u0⟩
  have HQ2 : Hid (Num (cl (e * D) N / 2147483648) ∧ 0 ≤ cl (e * D) N % 2147483648) := ⟨nq2, v0⟩
  have HCM : Hid _ := hcm
  clear hA e5 e6 nR nQ nX q0 q1 r0 r1 p0 p1 we wD wN wT a1 a2 a3 a4 hpv hcm nq1 nq2 u0 v0 hN hD he he' hn hnd hn4 hd
  generalize hQ1 : cl (e * D) N = Q1 at *
  clear hQ1
  generalize hR1 : cl Q1 2147483648 = R1 at *
  clear hR1
  go_enter Tryz.func35, Tryz.ntmps35
  go_wp2_with fail
  refine (m1 _).mono ?_
  rintro _ w1 ⟨rfl, hb1⟩
  go_wp2_with fail
  refine (m2 _).mono ?_
  rintro _ w2 ⟨rfl, hb2⟩
  go_wp2_with fail
  refine (m3 _).mono ?_
  rintro _ w3 ⟨rfl, hb3⟩
  have HB3 : Hid (Below w.heap.size w w3) := (hb1.trans (hb2.mono hb1.size)).trans (hb3.mono (by have := hb1.size; have := hb2.size; omega))
  clear hb1 hb2 hb3 m1 m2 m3
  go_upto_if 19 with fail
  go_cut [1, 2] (fun x y wq => x = .int .u64 N ∧ y = .int .u64 D ∧ Below w.heap.size w wq)
  case first =>
    rcases HCM.out with ⟨h1, h2, h3⟩ | ⟨h1, h2, h3⟩
    · have H2 : Hid _ := h2
      have H3 : Hid _ := h3
      clear h2 h3 HCM
      go_wp2
      go_meet
      exact ⟨by rw [H2.out], by rw [H3.out], HB3.out⟩
    · have H2 : Hid _ := h2
      have H3 : Hid _ := h3
      clear h2 h3 HCM
      go_wp2
      go_meet
      exact ⟨by rw [H2.out], by rw [H3.out], HB3.out⟩
  case rest =>
  clear HB3
  obtain ⟨rfl, rfl, HB3⟩ := hcut
  clear HCM
  go_wp2_with fail
  refine (m4 _).mono ?_
  rintro _ w4 ⟨rfl, hb4⟩
  go_wp2_with fail
  refine (m5 _).mono ?_
  rintro _ w5 ⟨rfl, hb5⟩
  have B5 : Below w.heap.size w w5 := (HB3.trans (hb4.mono HB3.size)).trans (hb5.mono (by have := HB3.size; have := hb4.size; omega))
  have hgq : w.heap.size ≤ w5.heap.size := B5.size
  have HR5 : Hid (0 ≤ e * D % N) := HQ1.out.2
  have HN5 : Hid (Num Q1) := HNQ.out
  have HQ5 : Hid (Num (e * D / N) ∧ True) := ⟨HQ1.out.1, trivial⟩
  clear hb4 hb5 m4 m5
  have q0 : (w5.alloc (.cells #[.int .u64 (hiW (e * D / N)), .int .u64 (loW (e * D / N))] 88)).cell? ⟨w5.heap.size, 0, none⟩ = some (.int .u64 (hiW (e * D / N))) := by simp
  have q1 : (w5.alloc (.cells #[.int .u64 (hiW (e * D / N)), .int .u64 (loW (e * D / N))] 88)).cell? ⟨w5.heap.size, 1, none⟩ = some (.int .u64 (loW (e * D / N))) := by simp
  have f0 : (w5.alloc (.cells #[.int .u64 (hiW (e * D / N)), .int .u64 (loW (e * D / N))] 88)).frozen? ⟨w5.heap.size, 0, none⟩ = false := by simp [go_sem]
  have f1 : (w5.alloc (.cells #[.int .u64 (hiW (e * D / N)), .int .u64 (loW (e * D / N))] 88)).frozen? ⟨w5.heap.size, 1, none⟩ = false := by simp [go_sem]
  have HBq : Below w.heap.size w (w5.alloc (.cells #[.int .u64 (hiW (e * D / N)), .int .u64 (loW (e * D / N))] 88)) := B5.alloc hgq _
  clear B5
  go_upto_if 33 with fail
  generalize w5.alloc (.cells #[.int .u64 (hiW (e * D / N)), .int .u64 (loW (e * D / N))] 88) = w6 at *
  generalize w5.heap.size = gq at *
  go_cut [9] (fun b wq => b = .pointer (some ⟨gq, 0, none⟩) ∧ wq.cell? ⟨gq, 0, none⟩ = some (.int .u64 (hiW Q1)) ∧ wq.cell? ⟨gq, 1, none⟩ = some (.int .u64 (loW Q1)) ∧ Below w.heap.size w wq)
  case first =>
    by_cases z : e * D % N = 0
    · have hz' : ¬ 0 < e * D % N := by omega
      have HZ : Hid _ := z
      clear z
      go_wp2
      go_meet
      exact ⟨rfl, by rw [H5.out, if_pos HZ.out]; exact q0, by rw [H5.out, if_pos HZ.out]; exact q1, HBq⟩
    · have hz : 0 < e * D % N := by have := HR5.out; omega
      have HZ : Hid _ := z
      have ea : Hid (Wd.addV (e * D / N) 1 = e * D / N + 1) := by
        have h := HN5.out.2
        rw [H5.out, if_neg z] at h
        exact (show Wd.addV (e * D / N) 1 = e * D / N + 1 by unfold Wd.addV; rw [if_pos h])
      have nq := HQ5.out.1
      clear z
      go_upto_region 6 with fail
      go_region_with (first
        | (go_at_call 66; refine (rof_num 1 ⟨by omega, by omega⟩ _).mono ?_; rintro e x ⟨rfl, hx⟩; have x0 := keepC hx q0; have x1 := keepC hx q1; have y0 := keepF hx q0 f0; have y1 := keepF hx q1 f1)
        | (go_at_call 67; refine (raddn (e * D / N) 1 nq ⟨by omega, by unfold top; omega⟩ _).mono ?_; rw [ea.out]; rintro e y ⟨rfl, hy⟩; have u0 := keepC hy x0; have u1 := keepC hy x1; have v0 := keepF hy x0 y0; have v1 := keepF hy x1 y1))
      all_goals
        have HY : Hid (Below w.heap.size w y) := (HBq.drew.trans (hx.mono (by have := HBq.size; simp; omega))).trans (hy.mono (by have := HBq.size; have := hx.size; simp at this; omega))
        go_wp2
        go_meet
        exact ⟨rfl, by rw [H5.out, if_neg HZ.out]; simp [go_sem, *], by rw [H5.out, if_neg HZ.out]; simp [go_sem, *], (HY.out.setCell hgq _).setCell hgq _⟩
  case rest =>
  obtain ⟨rfl, z0, z1, HB7⟩ := hcut
  clear q0 q1 f0 f1 HBq HR5 HN5 HQ5 H5
  go_wp2_with fail
  refine (m6 _).mono ?_
  rintro _ w8 ⟨rfl, hb8⟩
  have B8 : Below w.heap.size w w8 := HB7.trans (hb8.mono HB7.size)
  have hgq : w.heap.size ≤ w8.heap.size := B8.size
  have HR6 : Hid (0 ≤ Q1 % 2147483648) := HQ2.out.2
  have HN6 : Hid (Num R1) := HNR.out
  have HQ6 : Hid (Num (Q1 / 2147483648) ∧ True) := ⟨HQ2.out.1, trivial⟩
  clear hb8 m6 z0 z1
  have q0 : (w8.alloc (.cells #[.int .u64 (hiW (Q1 / 2147483648)), .int .u64 (loW (Q1 / 2147483648))] 88)).cell? ⟨w8.heap.size, 0, none⟩ = some (.int .u64 (hiW (Q1 / 2147483648))) := by simp
  have q1 : (w8.alloc (.cells #[.int .u64 (hiW (Q1 / 2147483648)), .int .u64 (loW (Q1 / 2147483648))] 88)).cell? ⟨w8.heap.size, 1, none⟩ = some (.int .u64 (loW (Q1 / 2147483648))) := by simp
  have f0 : (w8.alloc (.cells #[.int .u64 (hiW (Q1 / 2147483648)), .int .u64 (loW (Q1 / 2147483648))] 88)).frozen? ⟨w8.heap.size, 0, none⟩ = false := by simp [go_sem]
  have f1 : (w8.alloc (.cells #[.int .u64 (hiW (Q1 / 2147483648)), .int .u64 (loW (Q1 / 2147483648))] 88)).frozen? ⟨w8.heap.size, 1, none⟩ = false := by simp [go_sem]
  have HBq : Below w.heap.size w (w8.alloc (.cells #[.int .u64 (hiW (Q1 / 2147483648)), .int .u64 (loW (Q1 / 2147483648))] 88)) := B8.alloc hgq _
  clear B8 HB7
  go_upto_if 50 with fail
  generalize w8.alloc (.cells #[.int .u64 (hiW (Q1 / 2147483648)), .int .u64 (loW (Q1 / 2147483648))] 88) = w9 at *
  generalize w8.heap.size = gr at *
  go_cut [12] (fun b wq => b = .pointer (some ⟨gr, 0, none⟩) ∧ wq.cell? ⟨gr, 0, none⟩ = some (.int .u64 (hiW R1)) ∧ wq.cell? ⟨gr, 1, none⟩ = some (.int .u64 (loW R1)) ∧ Below w.heap.size w wq)
  case first =>
    by_cases z : Q1 % 2147483648 = 0
    · have hz' : ¬ 0 < Q1 % 2147483648 := by omega
      have HZ : Hid _ := z
      clear z
      go_wp2
      go_meet
      exact ⟨rfl, by rw [H6.out, if_pos HZ.out]; exact q0, by rw [H6.out, if_pos HZ.out]; exact q1, HBq⟩
    · have hz : 0 < Q1 % 2147483648 := by have := HR6.out; omega
      have HZ : Hid _ := z
      have ea : Hid (Wd.addV (Q1 / 2147483648) 1 = Q1 / 2147483648 + 1) := by
        have h := HN6.out.2
        rw [H6.out, if_neg z] at h
        exact (show Wd.addV (Q1 / 2147483648) 1 = Q1 / 2147483648 + 1 by unfold Wd.addV; rw [if_pos h])
      have nq := HQ6.out.1
      clear z
      go_upto_region 9 with fail
      go_region_with (first
        | (go_at_call 66; refine (rof_num 1 ⟨by omega, by omega⟩ _).mono ?_; rintro e x ⟨rfl, hx⟩; have x0 := keepC hx q0; have x1 := keepC hx q1; have y0 := keepF hx q0 f0; have y1 := keepF hx q1 f1)
        | (go_at_call 67; refine (raddn (Q1 / 2147483648) 1 nq ⟨by omega, by unfold top; omega⟩ _).mono ?_; rw [ea.out]; rintro e y ⟨rfl, hy⟩; have u0 := keepC hy x0; have u1 := keepC hy x1; have v0 := keepF hy x0 y0; have v1 := keepF hy x1 y1))
      all_goals
        have HY : Hid (Below w.heap.size w y) := (HBq.drew.trans (hx.mono (by have := HBq.size; simp; omega))).trans (hy.mono (by have := HBq.size; have := hx.size; simp at this; omega))
        go_wp2
        go_meet
        exact ⟨rfl, by rw [H6.out, if_neg HZ.out]; simp [go_sem, *], by rw [H6.out, if_neg HZ.out]; simp [go_sem, *], (HY.out.setCell hgq _).setCell hgq _⟩
  case rest =>
  obtain ⟨rfl, z0, z1, HBz⟩ := hcut
  have hA := HA.out
  have nR := HNR.out
  clear q0 q1 f0 f1 HBq HR6 HN6 HQ6 H6 HA HNR HQ1 HQ2
  by_cases hh : hiW R1 = 0
  · rw [(nar_hi nR hh).1] at hA
    rw [hh] at z0
    have HA : Hid _ := hA
    clear hA hh nR
    go_wp2
    go_ret
    exact ⟨by rw [← HA.out]; rfl, HBz⟩
  · rw [(nar_no nR hh).1] at hA
    have hp : 0 < hiW R1 := by have := (hi_word nR).1; omega
    have HA : Hid _ := hA
    clear hA hh nR
    go_wp2
    go_ret
    exact ⟨by rw [← HA.out]; rfl, HBz⟩
end Go.Proofs.YtioldijdmefljaaGreatDoor
namespace Go.Proofs.YtioldijdmefljaaGreatDoor
open Go.RowKit Wd Tr Cg

/-- The cells of words. -/
def wdC (xs : List Int) : List Value := xs.map (Value.int .u64)
theorem wdC_len (xs : List Int) : (wdC xs).length = xs.length := by simp [wdC]
theorem wdC_one (xs : List Int) : ∀ u ∈ wdC xs, u.oneCell' = true := fun u hu => by
  simp only [wdC, List.mem_map] at hu
  obtain ⟨x, _, rfl⟩ := hu
  rfl
theorem wdC_app (a b : List Int) : wdC (a ++ b) = wdC a ++ wdC b := by simp [wdC]
/-- The first k values of a function. -/
def firstN (f : Nat → Int) (k : Nat) : List Int := (List.range k).map f
theorem firstN_len (f : Nat → Int) (k : Nat) : (firstN f k).length = k := by simp [firstN]
theorem firstN_succ (f : Nat → Int) (k : Nat) : firstN f (k + 1) = firstN f k ++ [f k] := by simp [firstN, List.range_succ]
set_option maxHeartbeats 400000 in
set_option maxRecDepth 20000 in
theorem right_any {w : World} {ao : Option Addr} {l : List Ac} {c : Nat} (hA : AcsAt w ao l) (hn : l.length * 48 ≤ 140737488355328) :
    Calls Tryz.prog 18 #[.slice ao l.length c] w fun e w' => e = .returned (.bool (decide (loadE l = 0))) ∧ Below w.heap.size w w' := by
  have hld := rload_any (c := c) hA hn
  generalize l.length = L at *
  by_cases hE : loadE l = 0
  · have HE : Hid (loadE l = 0) := hE
    clear hA hn hE
    go_enter Tryz.func18, Tryz.ntmps18
    go_wp2_with fail
    refine hld.mono ?_
    rintro e w1 ⟨h1, _, hb⟩
    obtain ⟨d, v, rfl, _⟩ := h1 HE.out
    clear h1 hld
    go_wp2
    go_ret
    exact ⟨by rw [HE.out]; rfl, hb⟩
  · have HE : Hid (¬ loadE l = 0) := hE
    obtain ⟨er, her⟩ : ∃ er, loadE l = er := ⟨_, rfl⟩
    have HR : Hid (loadE l = er) := her
    rw [her] at hE
    have he' : (er == 0) = false := by simp [hE]
    clear hA hn her
    go_enter Tryz.func18, Tryz.ntmps18
    go_wp2_with fail
    refine hld.mono ?_
    rintro e w1 ⟨_, h2, hb⟩
    obtain rfl := h2 HE.out
    rw [HR.out]
    clear h2 hld
    go_wp2
    go_ret
    exact ⟨by rw [decide_eq_false (by rw [HR.out]; exact hE)]; rfl, hb⟩
theorem Tryz.infW : (Tryz.prog.info? 30).map (fun i => (i.zero, i.size, i.bytes)) = some (some (.int .u64 0), 1, 8) := by kernel_rfl
def RShP (w : World) (l : List Ac) (e : Ending) (w' : World) : Prop :=
  (loadE l = 0 → ∃ va vb, e = .returned (.tuple #[va, vb]) ∧ w'.ownsRow w.heap.size 30 1 va l.length (wdC (firstN (numV l) l.length)) ∧ w'.ownsRow w.heap.size 30 1 vb l.length (wdC (firstN (denV l) l.length))) ∧
  (loadE l ≠ 0 → ∃ va vb, e = .returned (.tuple #[va, vb]) ∧ w'.ownsRow w.heap.size 30 1 va 0 [] ∧ w'.ownsRow w.heap.size 30 1 vb 0 []) ∧ Below w.heap.size w w'
theorem row_grown {w w' : World} {r : Option Nat} {B e sz n : Nat} {v : Value} {xs : List Value} (h : w.ownsRow B e sz v n xs) (hg : w.grownBy w' r) (hne : ∀ k, v.ownBlock = some k → r ≠ some k) (hlt : ∀ k, v.ownBlock = some k → k < w.heap.size) : w'.ownsRow B e sz v n xs :=
  row_same h (fun k hk => hg.block k (hlt k hk) (fun x => hne k hk x.symm))
theorem own_lt {w : World} {B e sz n : Nat} {v : Value} {xs : List Value} (h : w.ownsRow B e sz v n xs) : ∀ k, v.ownBlock = some k → k < w.heap.size ∧ B ≤ k := fun k hk => by
  rcases h.2 with ⟨e, _⟩ | ⟨g, cap, cur, e, hb, hh, _⟩
  · rw [e] at hk; cases hk
  · rw [e] at hk
    have : g = k := by simpa [Value.ownBlock] using hk
    subst this
    exact ⟨(Array.getElem?_eq_some_iff.1 hh).1, hb⟩
end Go.Proofs.YtioldijdmefljaaGreatDoor
namespace Go.Proofs.YtioldijdmefljaaGreatDoor
open Go.RowKit Wd Tr Cg

namespace Bk
def nthI (xs : List Int) (j : Nat) : Int := xs.getD j 0
theorem gr_refl (w : World) (r : Option Nat) : w.grownBy w r := ⟨rfl, rfl, rfl, Nat.le_refl _, fun _ _ _ => rfl⟩
theorem gr_below {w w' : World} (h : Below w.heap.size w w') (r : Option Nat) : w.grownBy w' r := ⟨h.os, h.tape, h.output, h.size, fun i hi _ => h.block i hi⟩
theorem gr_set (w : World) (a : Addr) (v : Value) : w.grownBy (w.setCell a v) (some a.block) :=
  ⟨rfl, rfl, rfl, by simp [World.setCell], fun i _ hr => Below.heap_setCell w a v i (fun e => hr (by rw [e]))⟩
theorem own_below {w w' : World} {base e n : Nat} {v : Value} {xs : List Value} (h : w.ownsRow base e 1 v n xs) (hb : Below w.heap.size w w') : w'.ownsRow base e 1 v n xs :=
  h.kept (gr_below hb none) (by cases hv : v.ownBlock <;> simp)
theorem below1 (w : World) (o : Obj) : Below w.heap.size w (w.alloc o) := (Below.refl _ _).alloc (Nat.le_refl _) _
theorem keepB {B : Nat} {w w1 : World} (h : Below B w w1) {g o : Nat} {v : Value} (hg : g < B) (hc : w.cell? ⟨g, o, none⟩ = some v) : w1.cell? ⟨g, o, none⟩ = some v := (h.cell (p := ⟨g, o, none⟩) hg).trans hc
theorem empty_row (w : World) (base : Nat) (hb : base ≤ w.heap.size) : (w.alloc (.cells #[] 30)).ownsRow base 30 1 (.slice (some ⟨w.heap.size, 0, none⟩) 0 0) 0 [] :=
  World.ownsRow_made w #[] 0 hb (by decide) rfl
theorem own_lt {w : World} {base e n cap g : Nat} {xs : List Value} (h : w.ownsRow base e 1 (.slice (some ⟨g, 0, none⟩) n cap) n xs) : g < w.heap.size := by
  rcases h.2 with ⟨hv, _⟩ | ⟨g', cap', cur, hv, _, hg, _⟩
  · simp at hv
  · simp at hv
    obtain ⟨rfl, _⟩ := hv
    exact (Array.getElem?_eq_some_iff.1 hg).1

/-- Where a row lies behind an append: where it lay, or in a new block. -/
def Moved (w : World) (ao ao' : Option Addr) : Prop := ao' = ao ∨ ∃ g, w.heap.size ≤ g ∧ ao' = some ⟨g, 0, none⟩

theorem owns_shape {w : World} {base e n : Nat} {v : Value} {xs : List Value} (h : w.ownsRow base e 1 v n xs) : (v = .slice none 0 0 ∧ n = 0) ∨ ∃ g cap, v = .slice (some ⟨g, 0, none⟩) n cap ∧ base ≤ g ∧ n ≤ cap := by
  rcases h.2 with h | ⟨g, cap, cur, rfl, hb, _, hn, _⟩
  · exact .inl h
  · exact .inr ⟨g, cap, rfl, hb, hn⟩
theorem owns_low {w : World} {base e n : Nat} {v : Value} {xs : List Value} (h : w.ownsRow base e 1 v n xs) : w.ownsRow 0 e 1 v n xs := by
  refine ⟨h.1, ?_⟩
  rcases h.2 with h | ⟨g, cap, cur, rfl, hb, rest⟩
  · exact .inl h
  · exact .inr ⟨g, cap, cur, rfl, Nat.zero_le _, rest⟩

theorem wpList_app {P : Program} (w : World) {ops : Array Oper} {rest : List Oper} {o : Oper} {a : Act} {Q : Exit → Act → World → Prop}
    (hgd : o.guard = none) (s x : Operand) (t : TypeId) (ho : o.op = .call { callee := .builtin .append, args := #[s, x], argTypes := #[t, t] })
    (e : TypeId) (i : TypeInfo) (z : Value) (bytes : Nat) (h1 : P.underlying t = some (.slice e)) (h2 : P.info? e = some i) (h3 : i.zero = some z) (h4 : i.size = 1) (h5 : i.bytes = bytes) (h6 : z.cells.size = 1)
    (ao : Option Addr) (n cap : Nat) (xs : List Value) (hs : a.eval s = .slice ao n cap) (hown : w.ownsRow 0 e 1 (.slice ao n cap) n xs)
    (ad : Addr) (m c : Nat) (news : List Value) (hx : a.eval x = .slice (some ad) m c) (hl : news.length = m) (hnews : ∀ j u, news[j]? = some u → w.cell? (ad.add j) = some u) (hone : ∀ u ∈ news, u.oneCell' = true)
    (b1 : n + m ≤ maxLen) (b2 : (n + m) * bytes ≤ 140737488355328)
    (hK : ∀ ao' cap' w', w'.ownsRow 0 e 1 (.slice ao' (n + m) cap') (n + m) (xs ++ news) → w.grownBy w' (ao.map (·.block)) → Moved w ao ao' → wpList P ops Q rest (a.put o.dst (.slice ao' (n + m) cap')) w') :
    wpList P ops Q (o :: rest) a w := by
  rcases owns_shape hown with ⟨hv, hn0⟩ | ⟨g, cap', hv, _, hnc⟩
  · simp only [Value.slice.injEq] at hv
    obtain ⟨rfl, rfl, rfl⟩ := hv
    by_cases hm : m = 0
    · subst hm
      refine wpList_append_own w hgd s x t ho 0 e i z 1 bytes h1 h2 h3 h4 h5 h6 (by decide) _ 0 xs hs hown ad 0 c news hx (by omega) hnews hone b1 b2 (Nat.zero_le _) fun v' w' k1 k2 k3 => ?_
      obtain rfl := k3.2 ⟨rfl, rfl⟩
      exact hK none 0 w' k1 k2 (.inl rfl)
    · have hxs : xs.length = 0 * 1 := hown.1
      refine wpList_append_grows w hgd s x t ho e i z 1 bytes h1 h2 h3 h4 h5 h6 (by decide) none 0 0 xs hs (fun _ => ⟨rfl, rfl⟩) hxs (fun _ h => by cases h) ad m c news hx (by omega) hnews hone (by omega) b1 b2 fun v' w' k1 k2 => ?_
      rcases owns_shape k1 with ⟨_, h0⟩ | ⟨g, cap', rfl, hg, _⟩
      · omega
      · exact hK _ cap' w' (owns_low k1) k2 (.inr ⟨g, hg, rfl⟩)
  · simp only [Value.slice.injEq, true_and] at hv
    obtain ⟨rfl, rfl⟩ := hv
    by_cases hfit : n + m ≤ cap
    · refine wpList_append_fits w hgd s x t ho 0 e i 1 h1 h2 h4 g n cap xs hs hown ad m c news hx (by omega) hnews hone hfit fun w' k1 k2 => ?_
      exact hK _ cap w' k1 k2 (.inl rfl)
    · refine wpList_append_grows w hgd s x t ho e i z 1 bytes h1 h2 h3 h4 h5 h6 (by decide) (some ⟨g, 0, none⟩) n cap xs hs (fun h => by cases h) hown.1 (fun b hb j u hu => by
        cases hb
        exact hown.cells (g := g) rfl j u hu) ad m c news hx (by omega) hnews hone (by omega) b1 b2 fun v' w' k1 k2 => ?_
      rcases owns_shape k1 with ⟨_, h0⟩ | ⟨g', cap', rfl, hg, _⟩
      · omega
      · refine hK _ cap' w' (owns_low k1) ⟨k2.os, k2.tape, k2.output, k2.size, fun k hk _ => k2.block k hk (by simp)⟩ (.inr ⟨g', hg, rfl⟩)
end Bk
open Bk
namespace Bk
/-- The blocks of a slice's address. -/
def ablk (ao : Option Addr) : List Nat := (ao.map (·.block)).toList
end Bk
theorem Chg.own {K : Nat → Prop} {w w1 : World} (h : Chg K w w1) {base e n cap : Nat} {ao : Option Addr} {xs : List Value} (ho : w.ownsRow base e 1 (.slice ao n cap) n xs) (hK : ∀ i ∈ ablk ao, ¬ K i) : w1.ownsRow base e 1 (.slice ao n cap) n xs := by
  refine ⟨ho.1, ?_⟩
  rcases ho.2 with hv | ⟨g, cap', cur, hv, hb, hg, rest⟩
  · exact .inl hv
  · refine .inr ⟨g, cap', cur, hv, hb, ?_, rest⟩
    simp at hv
    rw [h.block g (Array.getElem?_eq_some_iff.1 hg).1 (hK g (by simp [ablk, hv.1]))]
    exact hg
namespace Bk
/-- A list that was handed out, and what it must read as. -/
structure Ent where
  ao : Option Addr
  co : Nat
  gw : Nat
  cw : Nat
  xs : List Int
def Ent.o (e : Ent) : Value := .slice e.ao e.xs.length e.co
def Ent.w (e : Ent) : Value := .slice (some ⟨e.gw, 0, none⟩) e.xs.length e.cw
def Ent.blk (e : Ent) : List Nat := ablk e.ao ++ [e.gw]
structure EntIn (w : World) (e : Ent) : Prop where
  out : w.ownsRow 0 30 1 (.slice e.ao e.xs.length e.co) e.xs.length (wdC e.xs)
  want : w.ownsRow 0 30 1 (.slice (some ⟨e.gw, 0, none⟩) e.xs.length e.cw) e.xs.length (wdC e.xs)
  small : e.xs.length ≤ 1000
/-- All blocks of the lists that were handed out. -/
def foot (ao aw : Option Addr) (es : List Ent) : List Nat := ablk ao ++ (ablk aw ++ es.flatMap Ent.blk)
structure Nums (w : World) (H : Nat) (fr : Int) (ao aw : Option Addr) (co cw : Nat) (es : List Ent) : Prop where
  blk : w.heap[H]? = some (.cells #[.slice ao es.length co, .slice aw es.length cw, .int .i64 fr] 29 (0, 0))
  out : w.ownsRow 0 33 1 (.slice ao es.length co) es.length (es.map Ent.o)
  want : w.ownsRow 0 33 1 (.slice aw es.length cw) es.length (es.map Ent.w)
  ent : ∀ e ∈ es, EntIn w e
  nodup : (H :: foot ao aw es).Nodup
  few : es.length ≤ 1000

theorem own_read {w : World} {ao : Option Addr} {n cap : Nat} {xs : List Int} (h : w.ownsRow 0 30 1 (.slice ao n cap) n (wdC xs)) : ∃ g, (0 < n → ao = some ⟨g, 0, none⟩) ∧ ∀ j, j < n → w.cell? ⟨g, 0 + j, none⟩ = some (.int .u64 (nthI xs j)) := by
  have hl : xs.length = n := by have := h.1; simpa [wdC] using this
  rcases owns_shape h with ⟨hv, h0⟩ | ⟨g, cap', hv, _, _⟩
  · exact ⟨0, fun h => by omega, fun j hj => by omega⟩
  · simp at hv
    obtain ⟨rfl, rfl⟩ := hv
    refine ⟨g, fun _ => rfl, fun j hj => ?_⟩
    have := h.cells (g := g) rfl j (.int .u64 (nthI xs j)) (by simp [wdC, nthI, hl, hj])
    have ha : (⟨g, 0, none⟩ : Addr).add j = ⟨g, 0 + j, none⟩ := by unfold Addr.add; split <;> simp_all
    rwa [ha] at this
theorem row_at {w : World} {ao : Option Addr} {n cap e : Nat} {vs : List Value} (h : w.ownsRow 0 e 1 (.slice ao n cap) n vs) (k : Nat) (hk : k < n) : ∃ g, ao = some ⟨g, 0, none⟩ ∧ ∀ v, vs[k]? = some v → w.cell? ⟨g, k, none⟩ = some v := by
  rcases owns_shape h with ⟨hv, h0⟩ | ⟨g, cap', hv, _, _⟩
  · omega
  · simp at hv
    obtain ⟨rfl, rfl⟩ := hv
    refine ⟨g, rfl, fun v hv => ?_⟩
    have := h.cells (g := g) rfl k v hv
    have ha : (⟨g, 0, none⟩ : Addr).add k = ⟨g, k, none⟩ := by unfold Addr.add; split <;> simp_all
    rwa [ha] at this

section
variable {w : World} {H : Nat} {fr : Int} {ao aw : Option Addr} {co cw : Nat} {es : List Ent}
theorem Nums.c0 (h : Nums w H fr ao aw co cw es) : w.cell? ⟨H, 0, none⟩ = some (.slice ao es.length co) := by simp [World.cell?, h.blk]
theorem Nums.c1 (h : Nums w H fr ao aw co cw es) : w.cell? ⟨H, 1, none⟩ = some (.slice aw es.length cw) := by simp [World.cell?, h.blk]
theorem Nums.lt (h : Nums w H fr ao aw co cw es) : H < w.heap.size := (Array.getElem?_eq_some_iff.1 h.blk).1
end

theorem three_set0 {w : World} {b : Nat} {v0 v1 v2 u : Value} {t : TypeId} (h : w.heap[b]? = some (.cells #[v0, v1, v2] t (0, 0))) : (w.setCell ⟨b, 0, none⟩ u).heap[b]? = some (.cells #[u, v1, v2] t (0, 0)) := by
  obtain ⟨hlt, h'⟩ := Array.getElem?_eq_some_iff.1 h
  show (w.heap.modify b _)[b]? = _
  rw [Array.getElem?_eq_getElem (by simpa using hlt), Array.getElem_modify_self, h']
  rfl
theorem three_set1 {w : World} {b : Nat} {v0 v1 v2 u : Value} {t : TypeId} (h : w.heap[b]? = some (.cells #[v0, v1, v2] t (0, 0))) : (w.setCell ⟨b, 1, none⟩ u).heap[b]? = some (.cells #[v0, u, v2] t (0, 0)) := by
  obtain ⟨hlt, h'⟩ := Array.getElem?_eq_some_iff.1 h
  show (w.heap.modify b _)[b]? = _
  rw [Array.getElem?_eq_getElem (by simpa using hlt), Array.getElem_modify_self, h']
  rfl
theorem three_set2 {w : World} {b : Nat} {v0 v1 v2 u : Value} {t : TypeId} (h : w.heap[b]? = some (.cells #[v0, v1, v2] t (0, 0))) : (w.setCell ⟨b, 2, none⟩ u).heap[b]? = some (.cells #[v0, v1, u] t (0, 0)) := by
  obtain ⟨hlt, h'⟩ := Array.getElem?_eq_some_iff.1 h
  show (w.heap.modify b _)[b]? = _
  rw [Array.getElem?_eq_getElem (by simpa using hlt), Array.getElem_modify_self, h']
  rfl
/-- The two rows of 'numbers', their entries left aside. -/
structure NumsX (w : World) (H : Nat) (fr : Int) (ao aw : Option Addr) (co cw : Nat) (os ws : List Value) : Prop where
  blk : w.heap[H]? = some (.cells #[.slice ao os.length co, .slice aw ws.length cw, .int .i64 fr] 29 (0, 0))
  out : w.ownsRow 0 33 1 (.slice ao os.length co) os.length os
  want : w.ownsRow 0 33 1 (.slice aw ws.length cw) ws.length ws
  nodup : (H :: (ablk ao ++ ablk aw)).Nodup

theorem own_head {w : World} {base e n cap : Nat} {ao : Option Addr} {xs : List Value} (h : w.ownsRow base e 1 (.slice ao n cap) n xs) : ∀ i ∈ ablk ao, i < w.heap.size ∧ ao = some ⟨i, 0, none⟩ := by
  intro i hi
  rcases owns_shape h with ⟨hv, _⟩ | ⟨g, cap', hv, _, _⟩
  · simp at hv
    rw [hv.1] at hi
    simp [ablk] at hi
  · simp at hv
    obtain ⟨rfl, rfl⟩ := hv
    simp [ablk] at hi
    subst hi
    exact ⟨own_lt h, rfl⟩
theorem moved_blk {w : World} {ao ao' : Option Addr} (h : Moved w ao ao') : ∀ i ∈ ablk ao', i ∈ ablk ao ∨ w.heap.size ≤ i := by
  intro i hi
  rcases h with rfl | ⟨g, hg, rfl⟩
  · exact .inl hi
  · simp [ablk] at hi
    subst hi
    exact .inr hg
theorem ablk_nodup (ao : Option Addr) : (ablk ao).Nodup := by cases ao <;> simp [ablk]
theorem moved_none {ao : Option Addr} {k : Nat} (h : ao.map (·.block) = some k) : k ∈ ablk ao := by simp [ablk, h]

section
variable {w w1 : World} {H : Nat} {fr : Int} {ao aw : Option Addr} {co cw : Nat} {os ws : List Value} {v : Value} {n1 : Nat} {ao' : Option Addr} {co' : Nat}
theorem NumsX.lt (h : NumsX w H fr ao aw co cw os ws) : H < w.heap.size := (Array.getElem?_eq_some_iff.1 h.blk).1
theorem NumsX.c0 (h : NumsX w H fr ao aw co cw os ws) : w.cell? ⟨H, 0, none⟩ = some (.slice ao os.length co) := by simp [World.cell?, h.blk]
theorem NumsX.c1 (h : NumsX w H fr ao aw co cw os ws) : w.cell? ⟨H, 1, none⟩ = some (.slice aw ws.length cw) := by simp [World.cell?, h.blk]
theorem NumsX.f (h : NumsX w H fr ao aw co cw os ws) (o : Nat) : w.frozen? ⟨H, o, none⟩ = false := by simp [World.frozen?, h.blk]
theorem NumsX.chg {K : Nat → Prop} (c : Chg K w w1) (h : NumsX w H fr ao aw co cw os ws) (hH : ¬ K H) (ho : ∀ i ∈ ablk ao, ¬ K i) (hw : ∀ i ∈ ablk aw, ¬ K i) : NumsX w1 H fr ao aw co cw os ws :=
  ⟨by rw [c.block H h.lt hH]; exact h.blk, c.own h.out ho, c.own h.want hw, h.nodup⟩

theorem NumsX.outApp (h : NumsX w H fr ao aw co cw os ws) (hn : n1 = os.length + 1) (ho : w1.ownsRow 0 33 1 (.slice ao' n1 co') n1 (os ++ [v])) (hgr : (w.alloc (.cells #[v] 33)).grownBy w1 (ao.map (·.block))) (hmv : Moved (w.alloc (.cells #[v] 33)) ao ao') :
    w1.cell? ⟨H, 0, none⟩ = some (.slice ao os.length co) ∧ w1.frozen? ⟨H, 0, none⟩ = false ∧
    NumsX (w1.setCell ⟨H, 0, none⟩ (.slice ao' n1 co')) H fr ao' aw co' cw (os ++ [v]) ws ∧ Chg (fun i => i = H ∨ i ∈ ablk ao) w (w1.setCell ⟨H, 0, none⟩ (.slice ao' n1 co')) ∧ (∀ i ∈ ablk ao', i ∈ ablk ao ∨ w.heap.size ≤ i) := by
  have hlt := h.lt
  have hnd := h.nodup
  rw [List.nodup_cons] at hnd
  obtain ⟨hH, hnd⟩ := hnd
  have hnew : ∀ i ∈ ablk ao', i ∈ ablk ao ∨ w.heap.size ≤ i := fun i hi => by
    rcases moved_blk hmv i hi with h | h
    · exact .inl h
    · simp at h
      exact .inr (by omega)
  have cA : Chg (fun i => i ∈ ablk ao) w w1 := (Chg.of_below (below1 w (.cells #[v] 33)) _).trans (Chg.of_gr (K := fun i => i ∈ ablk ao) hgr (fun k hk => .inl (moved_none hk))) (fun _ _ h => h)
  have hblk : w1.heap[H]? = some (.cells #[.slice ao os.length co, .slice aw ws.length cw, .int .i64 fr] 29 (0, 0)) := by
    rw [cA.block H hlt (fun e => hH (List.mem_append.2 (.inl e)))]; exact h.blk
  have hw1 : w1.ownsRow 0 33 1 (.slice aw ws.length cw) ws.length ws := cA.own h.want (fun i hi hh => (List.nodup_append.1 hnd).2.2 i hh i hi rfl)
  have cB : Chg (fun i => i = H) w1 (w1.setCell ⟨H, 0, none⟩ (.slice ao' n1 co')) := Chg.of_gr (gr_set w1 ⟨H, 0, none⟩ _) (fun k hk => .inl (Option.some.inj hk).symm)
  have hHo : H ∉ ablk ao' := fun e => by
    rcases hnew H e with h | h
    · exact hH (List.mem_append.2 (.inl h))
    · omega
  have hHw : H ∉ ablk aw := fun e => hH (List.mem_append.2 (.inr e))
  subst hn
  refine ⟨by simp [World.cell?, hblk], by simp [World.frozen?, hblk], ⟨?_, ?_, cB.own hw1 (fun i hi e => hHw (e ▸ hi)), ?_⟩, ?_, hnew⟩
  · rw [three_set0 hblk]
    simp
  · have := cB.own ho (fun i hi e => hHo (e ▸ hi))
    simpa using this
  · rw [List.nodup_cons]
    refine ⟨fun e => (List.mem_append.1 e).elim hHo hHw, List.nodup_append.2 ⟨ablk_nodup _, ablk_nodup _, fun a ha b hb e => ?_⟩⟩
    subst e
    rcases hnew a ha with h1 | h1
    · exact (List.nodup_append.1 hnd).2.2 a h1 a hb rfl
    · have := (own_head h.want a hb).1
      omega
  · exact (cA.mono (fun i _ hi => .inr hi)).trans cB (fun i _ hi => .inl hi)
theorem NumsX.wantApp (h : NumsX w H fr ao aw co cw os ws) (hn : n1 = ws.length + 1) (ho : w1.ownsRow 0 33 1 (.slice ao' n1 co') n1 (ws ++ [v])) (hgr : (w.alloc (.cells #[v] 33)).grownBy w1 (aw.map (·.block))) (hmv : Moved (w.alloc (.cells #[v] 33)) aw ao') :
    w1.cell? ⟨H, 1, none⟩ = some (.slice aw ws.length cw) ∧ w1.frozen? ⟨H, 1, none⟩ = false ∧
    NumsX (w1.setCell ⟨H, 1, none⟩ (.slice ao' n1 co')) H fr ao ao' co co' os (ws ++ [v]) ∧ Chg (fun i => i = H ∨ i ∈ ablk aw) w (w1.setCell ⟨H, 1, none⟩ (.slice ao' n1 co')) ∧ (∀ i ∈ ablk ao', i ∈ ablk aw ∨ w.heap.size ≤ i) := by
  have hlt := h.lt
  have hnd := h.nodup
  rw [List.nodup_cons] at hnd
  obtain ⟨hH, hnd⟩ := hnd
  have hnew : ∀ i ∈ ablk ao', i ∈ ablk aw ∨ w.heap.size ≤ i := fun i hi => by
    rcases moved_blk hmv i hi with h | h
    · exact .inl h
    · simp at h
      exact .inr (by omega)
  have cA : Chg (fun i => i ∈ ablk aw) w w1 := (Chg.of_below (below1 w (.cells #[v] 33)) _).trans (Chg.of_gr (K := fun i => i ∈ ablk aw) hgr (fun k hk => .inl (moved_none hk))) (fun _ _ h => h)
  have hblk : w1.heap[H]? = some (.cells #[.slice ao os.length co, .slice aw ws.length cw, .int .i64 fr] 29 (0, 0)) := by
    rw [cA.block H hlt (fun e => hH (List.mem_append.2 (.inr e)))]; exact h.blk
  have hw1 : w1.ownsRow 0 33 1 (.slice ao os.length co) os.length os := cA.own h.out (fun i hi hh => (List.nodup_append.1 hnd).2.2 i hi i hh rfl)
  have cB : Chg (fun i => i = H) w1 (w1.setCell ⟨H, 1, none⟩ (.slice ao' n1 co')) := Chg.of_gr (gr_set w1 ⟨H, 1, none⟩ _) (fun k hk => .inl (Option.some.inj hk).symm)
  have hHo : H ∉ ablk ao' := fun e => by
    rcases hnew H e with h | h
    · exact hH (List.mem_append.2 (.inr h))
    · omega
  have hHw : H ∉ ablk ao := fun e => hH (List.mem_append.2 (.inl e))
  subst hn
  refine ⟨by simp [World.cell?, hblk], by simp [World.frozen?, hblk], ⟨?_, cB.own hw1 (fun i hi e => hHw (e ▸ hi)), ?_, ?_⟩, ?_, hnew⟩
  · rw [three_set1 hblk]
    simp
  · have := cB.own ho (fun i hi e => hHo (e ▸ hi))
    simpa using this
  · rw [List.nodup_cons]
    refine ⟨fun e => (List.mem_append.1 e).elim hHw hHo, List.nodup_append.2 ⟨ablk_nodup _, ablk_nodup _, fun a ha b hb e => ?_⟩⟩
    subst e
    rcases hnew a hb with h1 | h1
    · exact (List.nodup_append.1 hnd).2.2 a ha a h1 rfl
    · have := (own_head h.out a ha).1
      omega
  · exact (cA.mono (fun i _ hi => .inr hi)).trans cB (fun i _ hi => .inl hi)
end

theorem EntIn.chg {K : Nat → Prop} {w w1 : World} {e : Ent} (c : Chg K w w1) (h : EntIn w e) (hK : ∀ i ∈ e.blk, ¬ K i) : EntIn w1 e :=
  ⟨c.own h.out (fun i hi => hK i (List.mem_append.2 (.inl hi))), c.own h.want (fun i hi => hK i (by simp [ablk] at hi; subst hi; simp [Ent.blk])), h.small⟩
section
variable {w w1 : World} {H : Nat} {fr : Int} {ao aw ao' aw' : Option Addr} {co cw co' cw' : Nat} {es : List Ent} {e : Ent}
theorem Nums.x (h : Nums w H fr ao aw co cw es) : NumsX w H fr ao aw co cw (es.map Ent.o) (es.map Ent.w) := by
  refine ⟨by simpa using h.blk, by simpa using h.out, by simpa using h.want, ?_⟩
  have := h.nodup
  unfold foot at this
  rw [List.nodup_cons, ← List.append_assoc] at this
  rw [List.nodup_cons]
  exact ⟨fun e => this.1 (List.mem_append.2 (.inl e)), (List.nodup_append.1 this.2).1⟩
theorem EntIn.lt (h : EntIn w e) : ∀ i ∈ e.blk, i < w.heap.size := by
  intro i hi
  rcases List.mem_append.1 hi with h1 | h1
  · exact (own_head h.out i h1).1
  · simp at h1
    subst h1
    exact own_lt h.want
theorem Nums.foot_lt (h : Nums w H fr ao aw co cw es) : ∀ i ∈ foot ao aw es, i < w.heap.size := by
  intro i hi
  rcases List.mem_append.1 hi with h1 | h1
  · exact (own_head h.out i h1).1
  · rcases List.mem_append.1 h1 with h2 | h2
    · exact (own_head h.want i h2).1
    · obtain ⟨e, he, h3⟩ := List.mem_flatMap.1 h2
      exact (h.ent e he).lt i h3
theorem Nums.chg {K : Nat → Prop} (c : Chg K w w1) (h : Nums w H fr ao aw co cw es) (hH : ¬ K H) (hf : ∀ i ∈ foot ao aw es, ¬ K i) : Nums w1 H fr ao aw co cw es := by
  refine ⟨by rw [c.block H h.lt hH]; exact h.blk, c.own h.out (fun i hi => hf i (List.mem_append.2 (.inl hi))), c.own h.want (fun i hi => hf i (List.mem_append.2 (.inr (List.mem_append.2 (.inl hi))))), fun e he => EntIn.chg c (h.ent e he) (fun i hi => hf i ?_), h.nodup, h.few⟩
  exact List.mem_append.2 (.inr (List.mem_append.2 (.inr (List.mem_flatMap.2 ⟨e, he, hi⟩))))

/-- The rows grown, an entry more. -/
theorem Nums.more (h : Nums w H fr ao aw co cw es) (hx : NumsX w1 H fr ao' aw' co' cw' (es.map Ent.o ++ [e.o]) (es.map Ent.w ++ [e.w])) (hfew : es.length < 1000) {m : Nat}
    (c : Chg (fun i => i = H ∨ i ∈ ablk ao ∨ i ∈ ablk aw) w w1) (he : EntIn w1 e)
    (ho : ∀ i ∈ ablk ao', i ∈ ablk ao ∨ m ≤ i) (hw : ∀ i ∈ ablk aw', i ∈ ablk aw ∨ m ≤ i) (hm : w.heap.size ≤ m)
    (hv : ∀ i ∈ ablk e.ao, (i ≠ H ∧ i ∉ foot ao aw es) ∧ i < m) (hvw : e.gw ∉ ablk e.ao) (hgw : w.heap.size ≤ e.gw) (hgm : e.gw < m) :
    Nums w1 H fr ao' aw' co' cw' (es ++ [e]) ∧ (∀ i ∈ foot ao' aw' (es ++ [e]), i ∈ foot ao aw es ∨ i ∈ ablk e.ao ∨ w.heap.size ≤ i) := by
  have hfl := h.foot_lt
  have hHlt := h.lt
  have hnd := h.nodup
  unfold foot at hnd
  rw [List.nodup_cons] at hnd
  obtain ⟨hH, hnd⟩ := hnd
  have hnd1 := List.nodup_append.1 hnd
  have hnd2 := List.nodup_append.1 hnd1.2.1
  have inO : ∀ i, i ∈ ablk ao → i ∈ foot ao aw es := fun i hi => List.mem_append.2 (.inl hi)
  have inW : ∀ i, i ∈ ablk aw → i ∈ foot ao aw es := fun i hi => List.mem_append.2 (.inr (List.mem_append.2 (.inl hi)))
  have inE : ∀ i, i ∈ es.flatMap Ent.blk → i ∈ foot ao aw es := fun i hi => List.mem_append.2 (.inr (List.mem_append.2 (.inr hi)))
  have hxn := hx.nodup
  rw [List.nodup_cons] at hxn
  have eb : ∀ i ∈ e.blk, (i ≠ H ∧ i ∉ foot ao aw es) ∧ i < m := by
    intro i hi
    rcases List.mem_append.1 hi with h1 | h1
    · exact hv i h1
    · simp at h1
      subst h1
      exact ⟨⟨by omega, fun hh => by have := hfl _ hh; omega⟩, hgm⟩
  have fm : (es ++ [e]).flatMap Ent.blk = es.flatMap Ent.blk ++ e.blk := by simp
  refine ⟨⟨?_, ?_, ?_, ?_, ?_, by simp; omega⟩, ?_⟩
  · simpa using hx.blk
  · simpa using hx.out
  · simpa using hx.want
  · intro e1 he1
    rcases List.mem_append.1 he1 with h1 | h1
    · refine EntIn.chg c (h.ent e1 h1) (fun i hi hK => ?_)
      have hie : i ∈ es.flatMap Ent.blk := List.mem_flatMap.2 ⟨e1, h1, hi⟩
      rcases hK with rfl | hK | hK
      · exact hH (inE _ hie)
      · exact hnd1.2.2 i hK i (List.mem_append.2 (.inr hie)) rfl
      · exact hnd2.2.2 i hK i hie rfl
    · simp at h1
      subst h1
      exact he
  · rw [List.nodup_cons]
    unfold foot
    rw [fm]
    have side : ∀ i, i ∈ es.flatMap Ent.blk ++ e.blk → i ≠ H ∧ i ∉ ablk ao ∧ i ∉ ablk aw ∧ i < m := by
      intro i hi
      rcases List.mem_append.1 hi with h1 | h1
      · exact ⟨fun e => hH (e ▸ inE i h1), fun hh => hnd1.2.2 i hh i (List.mem_append.2 (.inr h1)) rfl, fun hh => hnd2.2.2 i hh i h1 rfl, by have := hfl i (inE i h1); omega⟩
      · have := eb i h1
        exact ⟨this.1.1, fun hh => this.1.2 (inO i hh), fun hh => this.1.2 (inW i hh), this.2⟩
    have nO : ∀ i, i ∈ es.flatMap Ent.blk ++ e.blk → i ∉ ablk ao' := fun i hi hh => by
      rcases ho i hh with h1 | h1
      · exact (side i hi).2.1 h1
      · have := (side i hi).2.2.2; omega
    have nW : ∀ i, i ∈ es.flatMap Ent.blk ++ e.blk → i ∉ ablk aw' := fun i hi hh => by
      rcases hw i hh with h1 | h1
      · exact (side i hi).2.2.1 h1
      · have := (side i hi).2.2.2; omega
    refine ⟨fun hh => ?_, List.nodup_append.2 ⟨ablk_nodup _, List.nodup_append.2 ⟨ablk_nodup _, List.nodup_append.2 ⟨hnd2.2.1, ?_, ?_⟩, ?_⟩, ?_⟩⟩
    · rcases List.mem_append.1 hh with h1 | h1
      · exact hxn.1 (List.mem_append.2 (.inl h1))
      · rcases List.mem_append.1 h1 with h2 | h2
        · exact hxn.1 (List.mem_append.2 (.inr h2))
        · exact (side H h2).1 rfl
    · unfold Ent.blk
      exact List.nodup_append.2 ⟨ablk_nodup _, by simp, fun a ha b hb e => by simp at hb; subst e; subst hb; exact hvw ha⟩
    · intro a ha b hb e
      subst e
      exact (eb a hb).1.2 (inE a ha)
    · intro a ha b hb e
      subst e
      exact nW a hb ha
    · intro a ha b hb e
      subst e
      rcases List.mem_append.1 hb with h1 | h1
      · exact (List.nodup_append.1 hxn.2).2.2 a ha a h1 rfl
      · exact nO a h1 ha
  · intro i hi
    unfold foot at hi
    rw [fm] at hi
    rcases List.mem_append.1 hi with h1 | h1
    · rcases ho i h1 with h2 | h2
      · exact .inl (inO i h2)
      · exact .inr (.inr (by omega))
    · rcases List.mem_append.1 h1 with h2 | h2
      · rcases hw i h2 with h3 | h3
        · exact .inl (inW i h3)
        · exact .inr (.inr (by omega))
      · rcases List.mem_append.1 h2 with h3 | h3
        · exact .inl (inE i h3)
        · rcases List.mem_append.1 h3 with h4 | h4
          · exact .inr (.inl h4)
          · simp at h4
            exact .inr (.inr (by omega))
end
section
variable {P : Program}
/-- 'append(row, src...)', src whatever: nil, or a list somewhere. -/
theorem wpList_appSrc (w : World) {ops : Array Oper} {rest : List Oper} {o : Oper} {a : Act} {Q : Exit → Act → World → Prop}
    (hgd : o.guard = none) (s x : Operand) (t : TypeId) (ho : o.op = .call { callee := .builtin .append, args := #[s, x], argTypes := #[t, t] })
    (e : TypeId) (i : TypeInfo) (z : Value) (bytes : Nat) (h1 : P.underlying t = some (.slice e)) (h2 : P.info? e = some i) (h3 : i.zero = some z) (h4 : i.size = 1) (h5 : i.bytes = bytes) (h6 : z.cells.size = 1)
    (ao : Option Addr) (n cap : Nat) (xs : List Value) (hs : a.eval s = .slice ao n cap) (hown : w.ownsRow 0 e 1 (.slice ao n cap) n xs)
    (sa : Option Addr) (m c : Nat) (news : List Value) (hx : a.eval x = .slice sa m c) (hl : news.length = m) (hsa : sa = none → m = 0 ∧ c = 0) (hnews : ∀ ad, sa = some ad → ∀ j u, news[j]? = some u → w.cell? (ad.add j) = some u) (hone : ∀ u ∈ news, u.oneCell' = true)
    (b1 : n + m ≤ maxLen) (b2 : (n + m) * bytes ≤ 140737488355328)
    (hK : ∀ ao' cap' w', w'.ownsRow 0 e 1 (.slice ao' (n + m) cap') (n + m) (xs ++ news) → w.grownBy w' (ao.map (·.block)) → Moved w ao ao' → wpList P ops Q rest (a.put o.dst (.slice ao' (n + m) cap')) w') :
    wpList P ops Q (o :: rest) a w := by
  cases sa with
  | none =>
    obtain ⟨rfl, rfl⟩ := hsa rfl
    have hn : news = [] := List.eq_nil_of_length_eq_zero hl
    subst hn
    refine wpList_append_own_none hgd s x t ho 0 e i 1 h1 h2 _ n xs hs hown hx ?_
    have := hK ao cap w (by simpa using hown) (gr_refl _ _) (.inl rfl)
    simpa using this
  | some ad => exact wpList_app w hgd s x t ho e i z bytes h1 h2 h3 h4 h5 h6 ao n cap xs hs hown ad m c news hx hl (hnews ad rfl) hone b1 b2 hK
end
theorem own_none {w : World} {base e n cap : Nat} {ao : Option Addr} {xs : List Value} (h : w.ownsRow base e 1 (.slice ao n cap) n xs) : ao = none → n = 0 ∧ cap = 0 := by
  intro ha
  subst ha
  rcases owns_shape h with ⟨hv, h0⟩ | ⟨g, c, hv, _⟩
  · simp at hv
    exact ⟨h0, hv.2⟩
  · simp at hv
theorem own_src {w : World} {base e n cap : Nat} {ao : Option Addr} {xs : List Value} (h : w.ownsRow base e 1 (.slice ao n cap) n xs) : ∀ ad, ao = some ad → ∀ j u, xs[j]? = some u → w.cell? (ad.add j) = some u := by
  intro ad ha j u hu
  subst ha
  rcases owns_shape h with ⟨hv, h0⟩ | ⟨g, c, hv, _⟩
  · simp at hv
  · simp at hv
    obtain ⟨rfl, _⟩ := hv
    exact h.cells (g := g) rfl j u hu


/-- An entry with one number turned. -/
def Ent.mark (e : Ent) (k : Nat) (y : Int) : Ent := { e with xs := e.xs.set k y }
theorem wdC_set (xs : List Int) (k : Nat) (y : Int) : (wdC xs).set k (.int .u64 y) = wdC (xs.set k y) := by simp [wdC, List.map_set]
def Full (es : List Ent) : Prop := ∀ e ∈ es, e.co = e.xs.length ∧ e.xs.length ≤ 900

theorem flatMap_set {es : List Ent} {i : Nat} {e' : Ent} (hi : i < es.length) (hb : e'.blk = es[i].blk) : (es.set i e').flatMap Ent.blk = es.flatMap Ent.blk := by
  induction es generalizing i with
  | nil => simp at hi
  | cons a l ih =>
    cases i with
    | zero => simp at hb; simp [hb]
    | succ i =>
      simp only [List.set_cons_succ, List.flatMap_cons]
      rw [ih (by simpa using hi) (by simpa using hb)]

theorem flat_nodup (es : List Ent) (h : (es.flatMap Ent.blk).Nodup) : (∀ e ∈ es, e.blk.Nodup) ∧ es.Pairwise (fun a b => ∀ x ∈ a.blk, x ∉ b.blk) := by
  induction es with
  | nil => simp
  | cons a l ih =>
    rw [List.flatMap_cons] at h
    have hh := List.nodup_append.1 h
    have h2 := ih hh.2.1
    refine ⟨fun e he => ?_, List.pairwise_cons.2 ⟨fun b hb x hx hxb => hh.2.2 x hx x (List.mem_flatMap.2 ⟨b, hb, hxb⟩) rfl, h2.2⟩⟩
    rcases List.mem_cons.1 he with rfl | he
    · exact hh.1
    · exact h2.1 e he
structure Marked (w : World) (H : Nat) (fr : Int) (ao aw : Option Addr) (co cw : Nat) (es : List Ent) (i k : Nat) (y : Int) (ga : Nat) (hi : i < es.length) : Prop where
  ca : w.cell? ⟨ga, k, none⟩ = some (.int .u64 (nthI es[i].xs k))
  fa : w.frozen? ⟨ga, k, none⟩ = false
  k1 : (w.setCell ⟨ga, k, none⟩ (.int .u64 y)).cell? ⟨H, 1, none⟩ = some (.slice aw es.length cw)
  kw : ∀ g, aw = some ⟨g, 0, none⟩ → (w.setCell ⟨ga, k, none⟩ (.int .u64 y)).cell? ⟨g, i, none⟩ = some (.slice (some ⟨es[i].gw, 0, none⟩) es[i].xs.length es[i].cw)
  cb : (w.setCell ⟨ga, k, none⟩ (.int .u64 y)).cell? ⟨es[i].gw, k, none⟩ = some (.int .u64 (nthI es[i].xs k))
  fb : (w.setCell ⟨ga, k, none⟩ (.int .u64 y)).frozen? ⟨es[i].gw, k, none⟩ = false
  nums : Nums ((w.setCell ⟨ga, k, none⟩ (.int .u64 y)).setCell ⟨es[i].gw, k, none⟩ (.int .u64 y)) H fr ao aw co cw (es.set i (es[i].mark k y))
  same : foot ao aw (es.set i (es[i].mark k y)) = foot ao aw es
  chg : Chg (fun j => j ∈ foot ao aw es) w ((w.setCell ⟨ga, k, none⟩ (.int .u64 y)).setCell ⟨es[i].gw, k, none⟩ (.int .u64 y))

theorem own_frozen {w : World} {base e n cap g : Nat} {xs : List Value} (h : w.ownsRow base e 1 (.slice (some ⟨g, 0, none⟩) n cap) n xs) (o : Nat) : w.frozen? ⟨g, o, none⟩ = false := by
  rcases h.2 with ⟨hv, _⟩ | ⟨g', cap', cur, hv, _, hg, _⟩
  · simp at hv
  · simp at hv
    obtain ⟨rfl, _⟩ := hv
    simp [World.frozen?, hg]
theorem own_at {w : World} {base n cap g : Nat} {xs : List Int} (h : w.ownsRow base 30 1 (.slice (some ⟨g, 0, none⟩) n cap) n (wdC xs)) (k : Nat) (hk : k < xs.length) : w.cell? ⟨g, k, none⟩ = some (.int .u64 (nthI xs k)) := by
  have := h.cells (g := g) rfl k (.int .u64 (nthI xs k)) (by simp [wdC, nthI, hk])
  have ha : (⟨g, 0, none⟩ : Addr).add k = ⟨g, k, none⟩ := by unfold Addr.add; split <;> simp_all
  rwa [ha] at this

theorem Nums.mark {w : World} {H : Nat} {fr : Int} {ao aw : Option Addr} {co cw : Nat} {es : List Ent} (h : Nums w H fr ao aw co cw es) (i k : Nat) (y : Int) (hi : i < es.length) (hk : k < es[i].xs.length) :
    ∃ ga, es[i].ao = some ⟨ga, 0, none⟩ ∧ Marked w H fr ao aw co cw es i k y ga hi := by
  have hE := h.ent es[i] (List.getElem_mem hi)
  obtain ⟨ga, hga⟩ : ∃ ga, es[i].ao = some ⟨ga, 0, none⟩ := by
    obtain ⟨g, hg, _⟩ := own_read hE.out
    exact ⟨g, hg (by omega)⟩
  have hout := hE.out
  rw [hga] at hout
  have hnd := h.nodup
  rw [List.nodup_cons] at hnd
  obtain ⟨hH, hndf⟩ := hnd
  have hnd' : foot ao aw es = ablk ao ++ (ablk aw ++ es.flatMap Ent.blk) := rfl
  rw [hnd'] at hndf
  have n1 := List.nodup_append.1 hndf
  have n2 := List.nodup_append.1 n1.2.1
  have inE : ∀ j (hj : j < es.length) b, b ∈ es[j].blk → b ∈ es.flatMap Ent.blk := fun j hj b hb => List.mem_flatMap.2 ⟨es[j], List.getElem_mem hj, hb⟩
  have inF : ∀ b, b ∈ es.flatMap Ent.blk → b ∈ foot ao aw es := fun b hb => List.mem_append.2 (.inr (List.mem_append.2 (.inr hb)))
  have bga : ga ∈ es[i].blk := by simp [Ent.blk, hga, ablk]
  have bgw : es[i].gw ∈ es[i].blk := by simp [Ent.blk]
  have hne : ga ≠ es[i].gw := by
    have hb : es[i].blk.Nodup := (flat_nodup es n2.2.1).1 es[i] (List.getElem_mem hi)
    intro e
    simp [Ent.blk, hga, ablk, e] at hb
  have dO : ∀ b, b ∈ es.flatMap Ent.blk → b ∉ ablk ao := fun b hb hh => n1.2.2 b hh b (List.mem_append.2 (.inr hb)) rfl
  have dW : ∀ b, b ∈ es.flatMap Ent.blk → b ∉ ablk aw := fun b hb hh => n2.2.2 b hh b hb rfl
  have dE : ∀ j (hj : j < es.length), j ≠ i → ∀ b, b ∈ es[j].blk → b ∉ es[i].blk := by
    intro j hj hji b hb hb'
    have hp := (flat_nodup es n2.2.1).2
    rw [List.pairwise_iff_getElem] at hp
    rcases Nat.lt_or_gt_of_ne hji with hlt | hgt
    · exact hp j i hj hi hlt b hb hb'
    · exact hp i j hi hj hgt b hb' hb
  have s1 := hout.stored k (.int .u64 y)
  have c1 : Chg (fun j => j = ga) w (w.setCell ⟨ga, k, none⟩ (.int .u64 y)) := Chg.of_gr (gr_set w ⟨ga, k, none⟩ _) (fun j hj => .inl (Option.some.inj hj).symm)
  have hw1 : (w.setCell ⟨ga, k, none⟩ (.int .u64 y)).ownsRow 0 30 1 (.slice (some ⟨es[i].gw, 0, none⟩) es[i].xs.length es[i].cw) es[i].xs.length (wdC es[i].xs) := c1.own hE.want (fun b hb e => by simp [ablk] at hb; omega)
  have s2 := hw1.stored k (.int .u64 y)
  have c2 : Chg (fun j => j = es[i].gw) (w.setCell ⟨ga, k, none⟩ (.int .u64 y)) ((w.setCell ⟨ga, k, none⟩ (.int .u64 y)).setCell ⟨es[i].gw, k, none⟩ (.int .u64 y)) := Chg.of_gr (gr_set _ ⟨es[i].gw, k, none⟩ _) (fun j hj => .inl (Option.some.inj hj).symm)
  have c12 : Chg (fun j => j = ga ∨ j = es[i].gw) w ((w.setCell ⟨ga, k, none⟩ (.int .u64 y)).setCell ⟨es[i].gw, k, none⟩ (.int .u64 y)) := (c1.mono (fun j _ hj => .inl hj)).trans c2 (fun j _ hj => .inr hj)
  have Hga : H ≠ ga := fun e => hH (e ▸ inF _ (inE i hi _ bga))
  have Hgw : H ≠ es[i].gw := fun e => hH (e ▸ inF _ (inE i hi _ bgw))
  have hfe : (es.set i (es[i].mark k y)).flatMap Ent.blk = es.flatMap Ent.blk := flatMap_set hi rfl
  have hff : foot ao aw (es.set i (es[i].mark k y)) = foot ao aw es := by unfold foot; rw [hfe]
  have hmo : (es.set i (es[i].mark k y)).map Ent.o = es.map Ent.o := by
    apply List.ext_getElem
    · simp
    · intro j h1 h2
      simp only [List.getElem_map, List.getElem_set]
      split
      · rename_i e; subst e; simp [Ent.o, Ent.mark]
      · rfl
  have hmw : (es.set i (es[i].mark k y)).map Ent.w = es.map Ent.w := by
    apply List.ext_getElem
    · simp
    · intro j h1 h2
      simp only [List.getElem_map, List.getElem_set]
      split
      · rename_i e; subst e; simp [Ent.w, Ent.mark]
      · rfl
  have fO : ∀ b ∈ ablk ao, ¬ (b = ga ∨ b = es[i].gw) := fun b hb hh => by
    rcases hh with rfl | rfl
    · exact dO _ (inE i hi _ bga) hb
    · exact dO _ (inE i hi _ bgw) hb
  have fW : ∀ b ∈ ablk aw, ¬ (b = ga ∨ b = es[i].gw) := fun b hb hh => by
    rcases hh with rfl | rfl
    · exact dW _ (inE i hi _ bga) hb
    · exact dW _ (inE i hi _ bgw) hb
  refine ⟨ga, hga, ⟨own_at hout k hk, own_frozen hout k, c1.cell h.c1 Hga, fun g hg => c1.cell ?_ (fun e => ?_), own_at hw1 k hk, own_frozen hw1 k, ?_, hff, c12.mono (fun j _ hj => ?_)⟩⟩
  · obtain ⟨g', hg', hc⟩ := row_at h.want i hi
    rw [hg] at hg'
    cases hg'
    exact hc _ (by simp [hi, Ent.w])
  · exact dW ga (inE i hi _ bga) (by simp at e; simp [ablk, hg, e])
  · refine ⟨?_, ?_, ?_, ?_, by rw [hff]; exact h.nodup, by simpa using h.few⟩
    · rw [c12.block H h.lt (fun e => e.elim Hga Hgw)]
      simpa using h.blk
    · rw [hmo]
      simpa using c12.own h.out fO
    · rw [hmw]
      simpa using c12.own h.want fW
    · intro e1 he1
      obtain ⟨j, hj, rfl⟩ := List.getElem_of_mem he1
      have hj' : j < es.length := by simpa using hj
      simp only [List.getElem_set]
      split
      · rename_i e
        subst e
        refine ⟨?_, ?_, by simpa [Ent.mark] using hE.small⟩
        · have := c2.own s1.1 (fun b hb e => by simp [ablk] at hb; omega)
          simpa [Ent.mark, hga, wdC_set] using this
        · simpa [Ent.mark, wdC_set] using s2.1
      · rename_i e
        refine EntIn.chg c12 (h.ent es[j] (List.getElem_mem hj')) (fun b hb hh => ?_)
        rcases hh with rfl | rfl
        · exact dE j hj' (fun e' => e e'.symm) _ hb bga
        · exact dE j hj' (fun e' => e e'.symm) _ hb bgw
  · rcases hj with rfl | rfl
    · exact inF _ (inE i hi _ bga)
    · exact inF _ (inE i hi _ bgw)

/-- While marks are made: the same blocks, the same lengths. -/
structure MarkRel (w : World) (H : Nat) (ao aw : Option Addr) (co cw n : Nat) (fs : List Nat) (es : List Ent) (wr : World) : Prop where
  nums : Nums wr H 0 ao aw co cw es
  len : es.length = n
  foot : foot ao aw es = fs
  full : Full es
  chg : Chg (fun j => j ∈ fs) w wr

theorem full_mark {es : List Ent} {i k : Nat} {y : Int} (h : Full es) (hi : i < es.length) : Full (es.set i (es[i].mark k y)) := by
  intro e he
  obtain ⟨j, hj, rfl⟩ := List.getElem_of_mem he
  simp only [List.getElem_set]
  split
  · simpa [Ent.mark] using h es[i] (List.getElem_mem hi)
  · exact h _ (List.getElem_mem (by simpa using hj))
theorem MarkRel.step {w wr : World} {H : Nat} {ao aw : Option Addr} {co cw n : Nat} {fs : List Nat} {es : List Ent} (h : MarkRel w H ao aw co cw n fs es wr) (i k : Nat) (y : Int) (hi : i < es.length) (ga : Nat) (hm : Marked wr H 0 ao aw co cw es i k y ga hi) :
    MarkRel w H ao aw co cw n fs (es.set i (es[i].mark k y)) ((wr.setCell ⟨ga, k, none⟩ (.int .u64 y)).setCell ⟨es[i].gw, k, none⟩ (.int .u64 y)) :=
  ⟨hm.nums, by simpa using h.len, hm.same.trans h.foot, full_mark h.full hi, h.chg.trans hm.chg (fun j _ hj => by rw [h.foot] at hj; exact hj)⟩

/-- While the lists grow: the first n entries as they were, as many more as there were rounds. -/
structure GrowRel (w : World) (H n : Nat) (fs : List Nat) (es : List Ent) (ao aw : Option Addr) (co cw i : Nat) (news : List Ent) (wr : World) : Prop where
  nums : Nums wr H 0 ao aw co cw (es ++ news)
  many : news.length = i
  feet : ∀ b ∈ foot ao aw (es ++ news), b ∈ fs ∨ w.heap.size ≤ b
  chg : Chg (fun j => j = H ∨ j ∈ fs) w wr
  len : es.length = n
  full : Full es

/-- While one list and what it must read as grow, by k numbers so far. -/
structure InnerRel (ws : World) (ea : Option Addr) (m : Nat) (xs : List Int) (y : Int) (k : Nat) (la : Option Addr) (lc gm mc : Nat) (wi : World) : Prop where
  below : Below ws.heap.size ws wi
  hgm : ws.heap.size ≤ gm
  mrow : wi.ownsRow 0 30 1 (.slice (some ⟨gm, 0, none⟩) (m + k) mc) (m + k) (wdC (xs ++ List.replicate k y))
  lrow : wi.ownsRow 0 30 1 (.slice la (m + k) lc) (m + k) (wdC (xs ++ List.replicate k y))
  lat : (k = 0 ∧ la = ea ∧ lc = m) ∨ (k ≠ 0 ∧ ∃ gl, la = some ⟨gl, 0, none⟩ ∧ ws.heap.size ≤ gl ∧ gl ≠ gm)
/-- The list has its number more, what it must read as has not. -/
structure HalfRel (ws : World) (m : Nat) (xs : List Int) (y : Int) (k : Nat) (gl lc gm mc : Nat) (wi : World) : Prop where
  below : Below ws.heap.size ws wi
  hgm : ws.heap.size ≤ gm
  hgl : ws.heap.size ≤ gl
  ne : gl ≠ gm
  mrow : wi.ownsRow 0 30 1 (.slice (some ⟨gm, 0, none⟩) (m + k) mc) (m + k) (wdC (xs ++ List.replicate k y))
  lrow : wi.ownsRow 0 30 1 (.slice (some ⟨gl, 0, none⟩) (m + k + 1) lc) (m + k + 1) (wdC (xs ++ List.replicate (k + 1) y))
theorem wdC_more (xs : List Int) (k : Nat) (y : Int) : wdC (xs ++ List.replicate k y) ++ [.int .u64 y] = wdC (xs ++ List.replicate (k + 1) y) := by
  rw [List.replicate_succ']
  simp [wdC]
theorem grown_shape {w : World} {base e n : Nat} {v : Value} {xs : List Value} (h : w.ownsRow base e 1 v n xs) (hn : 0 < n) : ∃ g cap, v = .slice (some ⟨g, 0, none⟩) n cap ∧ base ≤ g := by
  rcases owns_shape h with ⟨_, h0⟩ | ⟨g, cap, rfl, hg, _⟩
  · omega
  · exact ⟨g, cap, rfl, hg⟩
section
variable {ws wi w4 : World} {ea la la' : Option Addr} {m k lc lc' gm mc gl : Nat} {xs : List Int} {y : Int}
theorem InnerRel.half0 (h : InnerRel ws ea m xs y k la lc gm mc wi) (ho : w4.ownsRow (wi.alloc (.cells #[.int .u64 y] 30)).heap.size 30 1 (.slice (some ⟨gl, 0, none⟩) (m + k + 1) lc') (m + k + 1) (wdC (xs ++ List.replicate k y) ++ [.int .u64 y])) (hg : (wi.alloc (.cells #[.int .u64 y] 30)).grownBy w4 none) (hgl : (wi.alloc (.cells #[.int .u64 y] 30)).heap.size ≤ gl) :
    HalfRel ws m xs y k gl lc' gm mc w4 := by
  rw [wdC_more] at ho
  have hz := h.below.size
  have hgm := own_lt h.mrow
  simp at hgl
  exact ⟨(h.below.alloc hz _).grown hg (by simp; omega) (fun j hj => by cases hj), h.hgm, by omega, by omega, (h.mrow.alloc _).kept hg (by simp [Value.ownBlock]), owns_low ho⟩
theorem InnerRel.half (h : InnerRel ws ea m xs y k la lc gm mc wi) (hk : k ≠ 0) (ho : w4.ownsRow 0 30 1 (.slice la' (m + k + 1) lc') (m + k + 1) (wdC (xs ++ List.replicate k y) ++ [.int .u64 y])) (hg : (wi.alloc (.cells #[.int .u64 y] 30)).grownBy w4 (la.map (·.block))) (hmv : Moved (wi.alloc (.cells #[.int .u64 y] 30)) la la') :
    ∃ gl, la' = some ⟨gl, 0, none⟩ ∧ HalfRel ws m xs y k gl lc' gm mc w4 := by
  rw [wdC_more] at ho
  have hz := h.below.size
  have hgm := own_lt h.mrow
  rcases h.lat with ⟨h0, _⟩ | ⟨_, g0, rfl, hg0, hne⟩
  · exact absurd h0 hk
  · have hb4 : Below ws.heap.size ws w4 := (h.below.alloc hz _).grown hg (by simp; omega) (fun j hj => by simp at hj; omega)
    have hm4 : w4.ownsRow 0 30 1 (.slice (some ⟨gm, 0, none⟩) (m + k) mc) (m + k) (wdC (xs ++ List.replicate k y)) := (h.mrow.alloc _).kept hg (by simp [Value.ownBlock]; omega)
    rcases hmv with rfl | ⟨g, hgg, rfl⟩
    · exact ⟨g0, rfl, hb4, h.hgm, hg0, hne, hm4, ho⟩
    · simp at hgg
      exact ⟨g, rfl, hb4, h.hgm, by omega, by omega, hm4, ho⟩
theorem HalfRel.next {ma' : Option Addr} {mc' : Nat} {w5 : World} (h : HalfRel ws m xs y k gl lc gm mc w4) (ho : w5.ownsRow 0 30 1 (.slice ma' (m + k + 1) mc') (m + k + 1) (wdC (xs ++ List.replicate k y) ++ [.int .u64 y])) (hg : (w4.alloc (.cells #[.int .u64 y] 30)).grownBy w5 (some gm)) (hmv : Moved (w4.alloc (.cells #[.int .u64 y] 30)) (some ⟨gm, 0, none⟩) ma') :
    ∃ gm', ma' = some ⟨gm', 0, none⟩ ∧ InnerRel ws ea m xs y (k + 1) (some ⟨gl, 0, none⟩) lc gm' mc' w5 := by
  rw [wdC_more] at ho
  have hz := h.below.size
  have hgl := own_lt h.lrow
  have hgm := h.hgm
  have hb5 : Below ws.heap.size ws w5 := (h.below.alloc hz _).grown hg (by simp; omega) (fun j hj => by simp at hj; omega)
  have hl5 : w5.ownsRow 0 30 1 (.slice (some ⟨gl, 0, none⟩) (m + k + 1) lc) (m + k + 1) (wdC (xs ++ List.replicate (k + 1) y)) := (h.lrow.alloc _).kept hg (by simp [Value.ownBlock]; exact h.ne)
  rcases hmv with rfl | ⟨g, hgg, rfl⟩
  · exact ⟨gm, rfl, hb5, h.hgm, ho, hl5, .inr ⟨by omega, gl, rfl, h.hgl, h.ne⟩⟩
  · simp at hgg
    exact ⟨g, rfl, hb5, by omega, ho, hl5, .inr ⟨by omega, gl, rfl, h.hgl, by omega⟩⟩
end

theorem GrowRel.next {w ws wi w5 : World} {H n j : Nat} {fs : List Nat} {es news : List Ent} {ao aw ao1 aw1 ea : Option Addr} {co cw co1 cw1 m lc gm mc gl : Nat} {xs : List Int} {y : Int}
    (hG : GrowRel w H n fs es ao aw co cw j news ws) (hI : InnerRel ws ea m xs y 20 (some ⟨gl, 0, none⟩) lc gm mc wi) (hgl : ws.heap.size ≤ gl) (hne : gl ≠ gm) (hxm : xs.length = m) (hm : m ≤ 900) (hnj : n + j < 1000)
    (hX : NumsX w5 H 0 ao1 aw1 co1 cw1 ((es ++ news).map Ent.o ++ [.slice (some ⟨gl, 0, none⟩) (m + 20) lc]) ((es ++ news).map Ent.w ++ [.slice (some ⟨gm, 0, none⟩) (m + 20) mc]))
    (hC : Chg (fun i => i = H ∨ i ∈ ablk ao ∨ i ∈ ablk aw) wi w5) (hO : ∀ i ∈ ablk ao1, i ∈ ablk ao ∨ wi.heap.size ≤ i) (hW : ∀ i ∈ ablk aw1, i ∈ ablk aw ∨ wi.heap.size ≤ i) :
    ∃ e, GrowRel w H n fs es ao1 aw1 co1 cw1 (j + 1) (news ++ [e]) w5 := by
  have hN := hG.nums
  have hfl := hN.foot_lt
  have hHl := hN.lt
  have hz := hI.below.size
  have hgll := own_lt hI.lrow
  have hgml := own_lt hI.mrow
  have hlx : (xs ++ List.replicate 20 y).length = m + 20 := by simp [hxm]
  have inO : ∀ i, i ∈ ablk ao → i ∈ foot ao aw (es ++ news) := fun i hi => List.mem_append.2 (.inl hi)
  have inW : ∀ i, i ∈ ablk aw → i ∈ foot ao aw (es ++ news) := fun i hi => List.mem_append.2 (.inr (List.mem_append.2 (.inl hi)))
  have c : Chg (fun i => i = H ∨ i ∈ ablk ao ∨ i ∈ ablk aw) ws w5 := (Chg.of_below hI.below _).trans hC (fun _ _ h => h)
  have he : EntIn w5 ⟨some ⟨gl, 0, none⟩, lc, gm, mc, xs ++ List.replicate 20 y⟩ := by
    refine ⟨?_, ?_, by simp only [hlx]; omega⟩
    · simp only [hlx]
      refine hC.own hI.lrow (fun i hi hK => ?_)
      simp [ablk] at hi
      subst hi
      rcases hK with h1 | h1 | h1
      · omega
      · have := hfl _ (inO _ h1); omega
      · have := hfl _ (inW _ h1); omega
    · simp only [hlx]
      refine hC.own hI.mrow (fun i hi hK => ?_)
      simp [ablk] at hi
      subst hi
      have := hI.hgm
      rcases hK with h1 | h1 | h1
      · omega
      · have := hfl _ (inO _ h1); omega
      · have := hfl _ (inW _ h1); omega
  have hfewN : (es ++ news).length = n + j := by rw [List.length_append, hG.len, hG.many]
  obtain ⟨hNums, hfoot⟩ := Nums.more hN (e := ⟨some ⟨gl, 0, none⟩, lc, gm, mc, xs ++ List.replicate 20 y⟩) (by simpa only [Ent.o, Ent.w, hlx] using hX) (by omega) (m := wi.heap.size) c he hO hW hz
    (fun i hi => by
      simp [ablk] at hi
      subst hi
      exact ⟨⟨by omega, fun hh => by have := hfl _ hh; omega⟩, hgll⟩) (fun hi => by simp [ablk] at hi; exact hne hi.symm) hI.hgm hgml
  refine ⟨⟨some ⟨gl, 0, none⟩, lc, gm, mc, xs ++ List.replicate 20 y⟩, by rw [← List.append_assoc]; exact hNums, by simp [hG.many], ?_, ?_, hG.len, hG.full⟩
  · intro b hb
    rw [← List.append_assoc] at hb
    have hwz := hG.chg.size
    rcases hfoot b hb with h1 | h1 | h1
    · exact hG.feet b h1
    · simp [ablk] at h1
      exact .inr (by omega)
    · exact .inr (by omega)
  · refine hG.chg.trans c (fun i hi h => ?_)
    rcases h with h1 | h1 | h1
    · exact .inl h1
    · rcases hG.feet i (inO i h1) with h2 | h2
      · exact .inr h2
      · omega
    · rcases hG.feet i (inW i h1) with h2 | h2
      · exact .inr h2
      · omega

end Bk
end Go.Proofs.YtioldijdmefljaaGreatDoor
namespace Go.Proofs.YtioldijdmefljaaGreatDoor
open Go.RowKit Wd Tr Cg Bk

namespace Bk
theorem Tryz.infL : (Tryz.prog.info? 33).map (fun i => (i.zero, i.size, i.bytes)) = some (some (.slice none 0 0), 1, 24) := by kernel_rfl
theorem dN_below (w : World) (q : Nat) : Below w.heap.size w (w.drewN q) := ⟨rfl, rfl, rfl, Nat.le_refl _, fun _ _ => rfl⟩
set_option maxHeartbeats 1000000 in
set_option maxRecDepth 20000 in
theorem words_yes (g m cap g' cap' : Nat) (ao ao' : Option Addr) (f : Nat → Int) (w : World) (hao : 0 < m → ao = some ⟨g, 0, none⟩) (hao' : 0 < m → ao' = some ⟨g', 0, none⟩) (hm : m ≤ 140737488355328)
    (hc : ∀ j, j < m → w.cell? ⟨g, 0 + j, none⟩ = some (.int .u64 (f j))) (hc' : ∀ j, j < m → w.cell? ⟨g', 0 + j, none⟩ = some (.int .u64 (f j))) :
    Calls Tryz.prog 20 #[.slice ao m cap, .slice ao' m cap'] w fun e w' => e = .returned (.bool true) ∧ ∃ q, w' = w.drewN q := by
  have hd : ((m : Int) != (m : Int)) = false := by simp
  go_enter Tryz.func20, Tryz.ntmps20
  go_wp2
  go_loopg [5] m (fun gk c wr => ∃ k : Nat, k + gk = m ∧ c = .int .i64 k ∧ ∃ q, wr = w.drewN q)
  case atStart => exact ⟨0, by omega, rfl, 0, rfl⟩
  case round =>
    obtain ⟨k, hk, rfl, q, rfl⟩ := hrel
    by_cases hlt : k < m
    · have ha := hao (by omega)
      have ha' := hao' (by omega)
      subst ha
      subst ha'
      have hck := hc k hlt
      have hck' := hc' k hlt
      rw [Nat.zero_add] at hck hck'
      have dck : (w.drewN q).cell? ⟨g, k, none⟩ = _ := hck
      have dck' : (w.drewN q).cell? ⟨g', k, none⟩ = _ := hck'
      have hn : (f k != f k) = false := by simp
      go_wp2
      go_quiet (fail)
      go_wp2
      go_roundg (m - (k + 1))
      case measure => omega
      case rel => exact ⟨k + 1, by omega, by go_num, _, rfl⟩
    · have e : k = m := by omega
      subst e
      go_wp2
      go_ret
      exact ⟨rfl, q, rfl⟩
theorem words_own {w : World} {a b : Option Addr} {c d : Nat} {xs : List Int} (hx : xs.length ≤ 1000) (h1 : w.ownsRow 0 30 1 (.slice a xs.length c) xs.length (wdC xs)) (h2 : w.ownsRow 0 30 1 (.slice b xs.length d) xs.length (wdC xs)) :
    Calls Tryz.prog 20 #[.slice a xs.length c, .slice b xs.length d] w fun e w' => e = .returned (.bool true) ∧ ∃ q, w' = w.drewN q := by
  obtain ⟨g1, a1, r1⟩ := own_read h1
  obtain ⟨g2, a2, r2⟩ := own_read h2
  exact words_yes g1 _ _ g2 _ _ _ (nthI xs) _ a1 a2 (by omega) r1 r2

set_option maxHeartbeats 1000000 in
set_option maxRecDepth 20000 in
theorem holds_any (H : Nat) (fr : Int) (ao aw : Option Addr) (co cw : Nat) (es : List Ent) (w : World) (h : Nums w H fr ao aw co cw es) :
    Calls Tryz.prog 36 #[.pointer (some ⟨H, 0, none⟩)] w fun e w' => e = .returned (.bool true) ∧ ∃ q, w' = w.drewN q := by
  have c0 := h.c0
  have c1 := h.c1
  have hfew := h.few
  obtain ⟨n, hn⟩ : ∃ n, es.length = n := ⟨_, rfl⟩
  have HN : Hid (es.length = n) := hn
  rw [hn] at c0 c1 hfew
  clear hn
  go_enter Tryz.func36, Tryz.ntmps36
  go_wp2
  go_loopg [3] n (fun gk c wr => ∃ k q : Nat, k + gk = n ∧ c = .int .i64 k ∧ wr = w.drewN q)
  case atStart => exact ⟨0, 0, by omega, rfl, rfl⟩
  case round =>
    obtain ⟨k, q, hk, rfl, rfl⟩ := hrel
    by_cases hlt : k < n
    · have hke : k < es.length := by rw [HN.out]; exact hlt
      have hE := h.ent es[k] (List.getElem_mem hke)
      obtain ⟨go, hgo, hco'⟩ := row_at h.out k hke
      obtain ⟨gw, hgw, hcw'⟩ := row_at h.want k hke
      have hco := hco' es[k].o (by simp [hke])
      have hcw := hcw' es[k].w (by simp [hke])
      clear hco' hcw'
      subst hgo
      subst hgw
      obtain ⟨e, he⟩ : ∃ e, es[k] = e := ⟨_, rfl⟩
      rw [he] at hE hco hcw
      clear he
      have hsm := hE.small
      have o1 := own_below hE.out (dN_below w q)
      have o2 := own_below hE.want (dN_below w q)
      unfold Ent.o at hco
      unfold Ent.w at hcw
      have d0 : (w.drewN q).cell? ⟨H, 0, none⟩ = _ := c0
      have d1 : (w.drewN q).cell? ⟨H, 1, none⟩ = _ := c1
      have do' : (w.drewN q).cell? ⟨go, k, none⟩ = _ := hco
      have dw : (w.drewN q).cell? ⟨gw, k, none⟩ = _ := hcw
      obtain ⟨W, hW⟩ : ∃ W, w.drewN q = W := ⟨_, rfl⟩
      have HW : Hid (w.drewN q = W) := hW
      rw [hW] at d0 d1 do' dw o1 o2 ⊢
      clear hW c0 c1 hco hcw hE
      have S1 : Hid (∀ x, Below W.heap.size W x → x.ownsRow 0 30 1 (.slice e.ao e.xs.length e.co) e.xs.length (wdC e.xs)) := fun x hx => own_below o1 hx
      have S2 : Hid (∀ x, Below W.heap.size W x → x.ownsRow 0 30 1 (.slice (some ⟨e.gw, 0, none⟩) e.xs.length e.cw) e.xs.length (wdC e.xs)) := fun x hx => own_below o2 hx
      clear o1 o2
      go_wp2
      go_quiet ((go_at_call 20; refine Calls.quiet_of (words_own hsm ?_ ?_); (exact S1.out _ (dN_below _ _)); (exact S2.out _ (dN_below _ _))))
      go_wp2
      go_roundg (n - (k + 1))
      case measure => omega
      case rel => exact ⟨k + 1, q + nq, by omega, by go_num, by rw [← HW.out]; simp⟩
    · go_wp2
      go_ret
      exact ⟨rfl, q, rfl⟩

set_option maxHeartbeats 1000000 in
set_option maxRecDepth 20000 in
theorem keep_any (H : Nat) (fr : Int) (ao aw : Option Addr) (co cw : Nat) (es : List Ent) (va vb : Option Addr) (vc vd : Nat) (xs : List Int) (w : World) (h : Nums w H fr ao aw co cw es) (hfew : es.length ≤ 900)
    (hv : w.ownsRow 0 30 1 (.slice va xs.length vc) xs.length (wdC xs)) (hb : w.ownsRow 0 30 1 (.slice vb xs.length vd) xs.length (wdC xs)) (hx : xs.length ≤ 256) (hap : ∀ i ∈ ablk va, i ≠ H ∧ i ∉ foot ao aw es) (hbp : ∀ i ∈ ablk vb, i ≠ H ∧ i ∉ foot ao aw es) :
    Calls Tryz.prog 7 #[.pointer (some ⟨H, 0, none⟩), .slice va xs.length vc, .slice vb xs.length vd] w fun e w' => e = .returned (.bool true) ∧ ∃ ao' aw' co' cw' gw cw1, Nums w' H fr ao' aw' co' cw' (es ++ [⟨va, vc, gw, cw1, xs⟩]) ∧
      (∀ i ∈ foot ao' aw' (es ++ [⟨va, vc, gw, cw1, xs⟩]), i ∈ foot ao aw es ∨ i ∈ ablk va ∨ w.heap.size ≤ i) ∧ Chg (fun i => i = H ∨ i ∈ foot ao aw es) w w' := by
  obtain ⟨i3, hi3, hz30, hz31, hz32⟩ := info_parts Tryz.infW
  obtain ⟨i7, hi7, hz70, hz71, hz72⟩ := info_parts Tryz.infL
  have hr0 := empty_row w 0 (Nat.zero_le _)
  have hv0 := hb.alloc (.cells #[] 30)
  have hfl := h.foot_lt
  have hHlt := h.lt
  have hvl := own_head hv
  obtain ⟨n, hn⟩ : ∃ n, es.length = n := ⟨_, rfl⟩
  have HN : Hid (es.length = n) := hn
  rw [hn] at hfew
  have hX := h.x
  have hlo : (es.map Ent.o).length = n := by simp [hn]
  have hlw : (es.map Ent.w).length = n := by simp [hn]
  clear hn
  generalize hos : es.map Ent.o = os at hX hlo
  generalize hws : es.map Ent.w = ws at hX hlw
  have HO : Hid (es.map Ent.o = os) := hos
  have HW : Hid (es.map Ent.w = ws) := hws
  clear hos hws
  go_enter Tryz.func7, Tryz.ntmps7
  go_upto_region 3 with (first | (at_builtin; refine wpList_appSrc _ rfl (.tmp 9) (.tmp 10) 33 rfl 30 i3 (.int .u64 0) 8 Tryz.underlying33 hi3 hz30 hz31 hz32 rfl (some ⟨w.heap.size, 0, none⟩) 0 0 [] rfl hr0 vb xs.length vd (wdC xs) rfl (wdC_len xs) (own_none hv0) (own_src hv0) (wdC_one xs) (by unfold maxLen; omega) (by omega) ?_; intro ma mc w1 hm1 hg1 hmv1))
  rw [Nat.zero_add, List.nil_append] at hm1
  have hb1 : Below w.heap.size w w1 := ((Below.refl _ _).alloc (Nat.le_refl _) _).grown hg1 (by simp) (fun k hk => by simp at hk; omega)
  obtain ⟨gm, hgm, hgm1⟩ : ∃ gm, ma = some ⟨gm, 0, none⟩ ∧ w.heap.size ≤ gm := by
    rcases hmv1 with e | ⟨g, hg, e⟩
    · exact ⟨_, e, Nat.le_refl _⟩
    · simp at hg
      exact ⟨g, e, by omega⟩
  subst hgm
  have hgm2 := own_lt hm1
  clear hg1 hmv1 hr0 hv0
  have hX1 : NumsX w1 H fr ao aw co cw os ws := hX.chg (Chg.of_below hb1 (fun _ => False)) (fun h => h) (fun _ _ h => h) (fun _ _ h => h)
  have k0 := hX1.c0
  have ho1 := hX1.out
  rw [hlo] at k0 ho1
  have hz1 := hb1.size
  have HLo : Hid (os.length = n) := hlo
  have HLw : Hid (ws.length = n) := hlw
  clear hlo hlw
  go_upto_region 4 with (first | (at_builtin; refine wpList_app _ rfl (.tmp 16) (.tmp 18) 27 rfl 33 i7 (.slice none 0 0) 24 Tryz.underlying27 hi7 hz70 hz71 hz72 rfl ao n co os rfl (ho1.alloc _) ⟨_, 0, none⟩ 1 1 [.slice va xs.length vc] rfl rfl (cell_one_new _ _ _) (by intro u hu; simp at hu; subst hu; rfl) (by unfold maxLen; omega) (by omega) ?_; intro ao1 co1 w2 ho2 hg2 hmv2; obtain ⟨hc2, hf2, hX2, hC2, hN2⟩ := hX1.outApp (by rw [HLo.out]) ho2 hg2 hmv2; rw [HLo.out] at hc2))
  clear ho1 ho2 hg2 hmv2 hc2 hf2 k0
  generalize w2.setCell ⟨H, 0, none⟩ (.slice ao1 (n + 1) co1) = w3 at *
  have k1 := hX2.c1
  have ho3 := hX2.want
  rw [HLw.out] at k1 ho3
  have hz3 := hC2.size
  go_upto_region 5 with (first | (at_builtin; refine wpList_app _ rfl (.tmp 26) (.tmp 28) 27 rfl 33 i7 (.slice none 0 0) 24 Tryz.underlying27 hi7 hz70 hz71 hz72 rfl aw n cw ws rfl (ho3.alloc _) ⟨_, 0, none⟩ 1 1 [.slice (some ⟨gm, 0, none⟩) xs.length mc] rfl rfl (cell_one_new _ _ _) (by intro u hu; simp at hu; subst hu; rfl) (by unfold maxLen; omega) (by omega) ?_; intro aw1 cw1 w4 ho4 hg4 hmv4; obtain ⟨hc4, hf4, hX4, hC4, hN4⟩ := hX2.wantApp (by rw [HLw.out]) ho4 hg4 hmv4; rw [HLw.out] at hc4))
  clear ho3 ho4 hg4 hmv4 hc4 hf4 k1
  generalize w4.setCell ⟨H, 1, none⟩ (.slice aw1 (n + 1) cw1) = w5 at *
  rw [← HO.out, ← HW.out] at hX4
  have inO : ∀ i, i ∈ ablk ao → i ∈ foot ao aw es := fun i hi => List.mem_append.2 (.inl hi)
  have inW : ∀ i, i ∈ ablk aw → i ∈ foot ao aw es := fun i hi => List.mem_append.2 (.inr (List.mem_append.2 (.inl hi)))
  have c : Chg (fun i => i = H ∨ i ∈ ablk ao ∨ i ∈ ablk aw) w w5 :=
    ((Chg.of_below hb1 (fun i => i = H ∨ i ∈ ablk ao ∨ i ∈ ablk aw)).trans hC2 (fun i _ h => h.elim .inl (fun h => .inr (.inl h)))).trans hC4 (fun i _ h => h.elim .inl (fun h => .inr (.inr h)))
  have apart : ∀ {v : Option Addr}, (∀ i ∈ ablk v, i ≠ H ∧ i ∉ foot ao aw es) → ∀ i ∈ ablk v, ¬ (i = H ∨ i ∈ ablk ao ∨ i ∈ ablk aw) := fun hq i hi hK => by
    rcases hK with h1 | h1 | h1
    · exact (hq i hi).1 h1
    · exact (hq i hi).2 (inO i h1)
    · exact (hq i hi).2 (inW i h1)
  have hv5 := c.own hv (apart hap)
  have hb5 := c.own hb (apart hbp)
  have he : EntIn w5 ⟨va, vc, gm, mc, xs⟩ := by
    refine ⟨hv5, hC4.own (hC2.own hm1 (fun i hi hK => ?_)) (fun i hi hK => ?_), by simp; omega⟩
    · simp [ablk] at hi
      subst hi
      rcases hK with h1 | h1
      · omega
      · have := hfl _ (inO _ h1); omega
    · simp [ablk] at hi
      subst hi
      rcases hK with h1 | h1
      · omega
      · have := hfl _ (inW _ h1); omega
  obtain ⟨hNums, hfoot⟩ := Nums.more h hX4 (by rw [HN.out]; omega) (m := w1.heap.size) c he hN2 (fun i hi => (hN4 i hi).elim .inl (fun h => .inr (by omega))) hz1 (fun i hi => ⟨hap i hi, by have := (hvl i hi).1; omega⟩) (fun hi => by have := (hvl _ hi).1; simp at this; omega) hgm1 hgm2
  have cW := words_own (by omega) hv5 hb5
  have HF : Hid _ := hfoot
  have HM : Hid _ := hNums
  have HC : Hid (Chg (fun i => i = H ∨ i ∈ foot ao aw es) w w5) := c.mono (fun i _ h => h.elim .inl (fun h => .inr (h.elim (inO i) (inW i))))
  clear hfoot hNums c hv hb hv5 hb5 he hC2 hC4 hN2 hN4 hX hX1 hX2 hX4 apart hm1 hap hbp hfl hvl h hb1 inO inW
  go_wp2_with fail
  refine cW.mono ?_
  rintro e w6 ⟨rfl, q, rfl⟩
  go_wp2
  go_ret
  exact ⟨rfl, ao1, aw1, co1, cw1, gm, mc, HM.out.chg (Chg.of_below (dN_below w5 q) (fun _ => False)) (fun h => h) (fun _ _ h => h), HF.out, HC.out.trans (Chg.of_below (dN_below w5 q) (fun _ => False)) (fun _ _ h => h.elim)⟩
end Bk
end Go.Proofs.YtioldijdmefljaaGreatDoor
namespace Go.Proofs.YtioldijdmefljaaGreatDoor
open Go.RowKit Wd Tr Cg Bk

namespace Bk
theorem Nums.fresh {w : World} {H : Nat} {fr : Int} {ao aw : Option Addr} {co cw : Nat} {es : List Ent} (h : Nums w H fr ao aw co cw es) (x : Int) : Nums (w.setCell ⟨H, 2, none⟩ (.int .i64 x)) H x ao aw co cw es ∧ Chg (fun i => i = H) w (w.setCell ⟨H, 2, none⟩ (.int .i64 x)) := by
  have c : Chg (fun i => i = H) w (w.setCell ⟨H, 2, none⟩ (.int .i64 x)) := Chg.of_gr (gr_set w ⟨H, 2, none⟩ _) (fun k hk => .inl (Option.some.inj hk).symm)
  have hnd := h.nodup
  rw [List.nodup_cons] at hnd
  have hne : ∀ i ∈ foot ao aw es, ¬ i = H := fun i hi e => hnd.1 (e ▸ hi)
  refine ⟨⟨three_set2 h.blk, c.own h.out (fun i hi => hne i (List.mem_append.2 (.inl hi))), c.own h.want (fun i hi => hne i (List.mem_append.2 (.inr (List.mem_append.2 (.inl hi))))), fun e he => EntIn.chg c (h.ent e he) (fun i hi => hne i (List.mem_append.2 (.inr (List.mem_append.2 (.inr (List.mem_flatMap.2 ⟨e, he, hi⟩)))))), h.nodup, h.few⟩, c⟩
theorem Nums.c2 {w : World} {H : Nat} {fr : Int} {ao aw : Option Addr} {co cw : Nat} {es : List Ent} (h : Nums w H fr ao aw co cw es) : w.cell? ⟨H, 2, none⟩ = some (.int .i64 fr) := by simp [World.cell?, h.blk]
set_option maxHeartbeats 4000000 in
set_option maxRecDepth 20000 in
theorem spoil_any (H : Nat) (ao aw : Option Addr) (co cw : Nat) (es : List Ent) (w : World) (h : Nums w H 0 ao aw co cw es) (hfew : es.length ≤ 400) (hfull : Full es) :
    Calls Tryz.prog 12 #[.pointer (some ⟨H, 0, none⟩)] w fun e w' => e = .returned (.bool true) ∧ Chg (fun i => i = H ∨ i ∈ foot ao aw es) w w' := by
  obtain ⟨i3, hi3, hz30, hz31, hz32⟩ := info_parts Tryz.infW
  obtain ⟨i7, hi7, hz70, hz71, hz72⟩ := info_parts Tryz.infL
  obtain ⟨n, hn⟩ : ∃ n, es.length = n := ⟨_, rfl⟩
  obtain ⟨fs, hfs⟩ : ∃ fs, foot ao aw es = fs := ⟨_, rfl⟩
  have c0 := h.c0
  have c2 := h.c2
  rw [hn] at c0 hfew
  have M0 : Hid (∀ q, MarkRel w H ao aw co cw n fs es (w.drewN q)) := fun q => ⟨h.chg (Chg.of_below (dN_below w q) (fun _ => False)) (fun h => h) (fun _ _ h => h), hn, hfs, hfull, Chg.of_below (dN_below w q) _⟩
  rw [hfs]
  clear hn hfs hfull
  go_enter Tryz.func12, Tryz.ntmps12
  go_wp2_with (go_at_call 36; refine (holds_any H 0 ao aw co cw es _ h).mono ?_; rintro e w1 ⟨rfl, q, rfl⟩)
  have hM := M0.out q
  generalize w.drewN q = w1 at *
  go_loopg [6] n (fun gk c wr => ∃ i es', i + gk = n ∧ c = .int .i64 (i : Nat) ∧ MarkRel w H ao aw co cw n fs es' wr)
  case atStart => exact ⟨0, es, by omega, rfl, hM⟩
  case round =>
    clear hM c0 M0 h
    obtain ⟨i, es', hi, rfl, hM⟩ := hrel
    have c0 := hM.nums.c0
    have hlen := hM.len
    rw [hlen] at c0
    have HL : Hid (es'.length = n) := hlen
    clear hlen
    by_cases hin : i < n
    · have hd : decide ((i : Int) < (n : Int)) = true := by simp; omega
      have kw1 : IntKind.i64.wrap ((i : Int) + 7) = (i : Int) + 7 := by rw [IntKind.wrap_i64]; omega
      have kw2 : IntKind.u64.wrap ((i : Int) + 7) = (i : Int) + 7 := by rw [IntKind.wrap_u64]; omega
      have hie : i < es'.length := by rw [HL.out]; exact hin
      obtain ⟨m, hm⟩ : ∃ m, es'[i].xs.length = m := ⟨_, rfl⟩
      have hsm := (hM.nums.ent es'[i] (List.getElem_mem hie)).small
      rw [hm] at hsm
      have R0 : Hid (∃ e2 : List Ent, MarkRel w H ao aw co cw n fs e2 wr ∧ ∃ h2 : i < e2.length, e2[i].xs.length = m) := ⟨es', hM, hie, hm⟩
      clear hm
      go_wp2
      go_loopg [7] m (fun gj c wi => ∃ k : Nat, k + gj = m ∧ c = .int .i64 k ∧ ∃ e2 : List Ent, MarkRel w H ao aw co cw n fs e2 wi ∧ ∃ h2 : i < e2.length, e2[i].xs.length = m)
      case atStart => exact ⟨0, by omega, rfl, R0.out⟩
      case round =>
        clear hM c0 R0
        obtain ⟨k, hk, rfl, e2, hM2, h2, hm2⟩ := hrel
        have c0 := hM2.nums.c0
        rw [hM2.len] at c0
        obtain ⟨go, hgo, hco'⟩ := row_at hM2.nums.out i h2
        have hco := hco' e2[i].o (by simp [h2])
        clear hco'
        subst hgo
        by_cases hkm : k < m
        · obtain ⟨ga, hga, hMk⟩ := hM2.nums.mark i k ((i : Int) + 7) h2 (by omega)
          have hstep := hM2.step i k _ h2 ga hMk
          have hca := hMk.ca
          have hfa := hMk.fa
          have hk1 := hMk.k1
          obtain ⟨gw, hgw, _⟩ := row_at hM2.nums.want i h2
          have hkw := hMk.kw gw hgw
          have hcb := hMk.cb
          have hfb := hMk.fb
          rw [hM2.len, hgw] at hk1
          rw [hm2] at hkw
          unfold Ent.o at hco
          rw [hga, hm2] at hco
          have R1 : Hid (∃ e3 : List Ent, MarkRel w (H) (some ⟨go, 0, none⟩) aw co cw n fs e3 ((wr.setCell ⟨ga, k, none⟩ (.int .u64 ((i : Int) + 7))).setCell ⟨e2[i].gw, k, none⟩ (.int .u64 ((i : Int) + 7))) ∧ ∃ h3 : i < e3.length, e3[i].xs.length = m) :=
            ⟨_, hstep, by simpa using h2, by simp [Ent.mark, hm2]⟩
          clear hstep hMk hM2 hga hm2
          generalize hgg : e2[i].gw = gg at *
          go_wp2
          go_roundg (m - (k + 1))
          case measure => omega
          case rel => exact ⟨k + 1, by omega, by go_num, R1.out⟩
        · have e : k = m := by omega
          subst e
          unfold Ent.o at hco
          rw [hm2] at hco
          have R1 : Hid (MarkRel w H (some ⟨go, 0, none⟩) aw co cw n fs e2 wr) := hM2
          clear hM2 hm2
          go_wp2
          go_roundg (n - (i + 1))
          case measure => omega
          case rel => exact ⟨i + 1, e2, by omega, by go_num, R1.out⟩
    · have e : i = n := by omega
      subst e
      have hNs := hM.nums
      have G0 : Hid (∀ q, GrowRel w H i fs es' ao aw co cw 0 [] (wr.drewN q)) := fun q => by
        refine ⟨?_, rfl, fun b hb => .inl ?_, ?_, hM.len, hM.full⟩
        · rw [List.append_nil]
          exact hNs.chg (Chg.of_below (dN_below wr q) (fun _ => False)) (fun h => h) (fun _ _ h => h)
        · rw [List.append_nil, hM.foot] at hb; exact hb
        · exact (hM.chg.mono (fun j _ hj => .inr hj)).trans (Chg.of_below (dN_below wr q) (fun _ => False)) (fun _ _ h => h.elim)
      clear hM
      go_wp2_with (go_at_call 36; refine (holds_any H 0 ao aw co cw es' _ hNs).mono ?_; rintro e w2 ⟨rfl, q2, rfl⟩)
      have hG := G0.out q2
      clear G0 hNs c0
      generalize wr.drewN q2 = w2 at *
      go_loopg [8] i (fun gk c wr => ∃ j ao' aw' co' cw' news, j + gk = i ∧ c = .int .i64 (j : Nat) ∧ GrowRel w H i fs es' ao' aw' co' cw' j news wr)
      case atStart => exact ⟨0, ao, aw, co, cw, [], by omega, rfl, hG⟩
      case round =>
        clear hG
        obtain ⟨j, ao1, aw1, co1, cw1, news, hj, rfl, hG⟩ := hrel
        have hN := hG.nums
        have hlen : (es' ++ news).length = i + j := by rw [List.length_append, hG.len, hG.many]
        by_cases hji : j < i
        · have hje : j < es'.length := by rw [hG.len]; exact hji
          have kw1 : IntKind.i64.wrap (1000 + (j : Int)) = 1000 + (j : Int) := by rw [IntKind.wrap_i64]; omega
          have kw2 : IntKind.u64.wrap (1000 + (j : Int)) = 1000 + (j : Int) := by rw [IntKind.wrap_u64]; omega
          have hjn : j < (es' ++ news).length := by omega
          have hget : (es' ++ news)[j] = es'[j] := List.getElem_append_left hje
          have hE := hN.ent (es' ++ news)[j] (List.getElem_mem hjn)
          obtain ⟨go, hgo, hco'⟩ := row_at hN.out j hjn
          obtain ⟨gw, hgw, hcw'⟩ := row_at hN.want j hjn
          have hco := hco' (es' ++ news)[j].o (by rw [List.getElem?_map, List.getElem?_eq_getElem hjn]; rfl)
          have hcw := hcw' (es' ++ news)[j].w (by rw [List.getElem?_map, List.getElem?_eq_getElem hjn]; rfl)
          have hfe : (es' ++ news)[j].co = (es' ++ news)[j].xs.length := by rw [hget]; exact (hG.full _ (List.getElem_mem hje)).1
          have hsm : (es' ++ news)[j].xs.length ≤ 900 := by rw [hget]; exact (hG.full _ (List.getElem_mem hje)).2
          have hblk : ∀ b ∈ (es' ++ news)[j].blk, b < wr.heap.size := hE.lt
          clear hco' hcw' hget
          generalize hent : (es' ++ news)[j] = e at *
          clear hent
          subst hgo
          subst hgw
          have c0 := hN.c0
          have c1 := hN.c1
          rw [hlen] at c0 c1
          unfold Ent.o at hco
          unfold Ent.w at hcw
          rw [hfe] at hco
          have hout := hE.out
          rw [hfe] at hout
          obtain ⟨m, hm⟩ : ∃ m, e.xs.length = m := ⟨_, rfl⟩
          have HM : Hid (e.xs.length = m) := hm
          have hwant := hE.want
          rw [hm] at hco hcw hout hsm hwant
          have hil : (wdC e.xs).length = m := by rw [wdC_len, hm]
          clear hm hfe
          have hr0 := empty_row wr 0 (Nat.zero_le _)
          have hwa := hwant.alloc (.cells #[] 30)
          have b1 := below1 wr (.cells #[] 30)
          have c1a := keepB b1 hN.lt c1
          have hcwa := keepB b1 (own_lt hN.want) hcw
          go_upto_region 19 with (first | (at_builtin; refine wpList_app _ rfl (.tmp 84) (.tmp 91) 33 rfl 30 i3 (.int .u64 0) 8 Tryz.underlying33 hi3 hz30 hz31 hz32 rfl (some ⟨wr.heap.size, 0, none⟩) 0 0 [] rfl hr0 ⟨e.gw, 0, none⟩ m e.cw (wdC e.xs) rfl hil (own_src hwa _ rfl) (wdC_one _) (by unfold maxLen; omega) (by omega) ?_; intro ma mc w3 hm3 hg3 hmv3))
          rw [Nat.zero_add, List.nil_append] at hm3
          have hb3 : Below wr.heap.size wr w3 := ((Below.refl _ _).alloc (Nat.le_refl _) _).grown hg3 (by simp) (fun k hk => by simp at hk; omega)
          obtain ⟨gm, hgm, hgm1⟩ : ∃ gm, ma = some ⟨gm, 0, none⟩ ∧ wr.heap.size ≤ gm := by
            rcases hmv3 with e | ⟨g, hg, e⟩
            · exact ⟨_, e, Nat.le_refl _⟩
            · simp at hg
              exact ⟨g, e, by omega⟩
          subst hgm
          have I0 : Hid (InnerRel wr e.ao m e.xs (1000 + (j : Int)) 0 e.ao m gm mc w3) := ⟨hb3, hgm1, by simpa using hm3, by simpa using own_below hout hb3, .inl ⟨rfl, rfl, rfl⟩⟩
          clear hm3 hg3 hmv3 hr0 hwa b1 c1a hcwa hcw hco
          go_wp2
          go_loopg [9, 10, 11] 20 (fun gj l mm c wi => ∃ k la lc gm mc, k + gj = 20 ∧ c = .int .i64 (k : Nat) ∧ l = .slice la (m + k) lc ∧ mm = .slice (some ⟨gm, 0, none⟩) (m + k) mc ∧ InnerRel wr e.ao m e.xs (1000 + (j : Int)) k la lc gm mc wi)
          case atStart => exact ⟨0, e.ao, m, gm, mc, by omega, rfl, rfl, rfl, I0.out⟩
          case round =>
            clear I0 hb3
            obtain ⟨k, la, lc, gm, mc, hk, rfl, rfl, rfl, hI⟩ := hrel
            by_cases hk12 : k < 20
            · have hlr := hI.lrow
              have hmr := hI.mrow
              by_cases hk0 : k = 0
              · rcases hI.lat with ⟨_, _, hlc⟩ | ⟨hx, _⟩
                · subst hk0
                  subst hlc
                  have hla := hlr.alloc (.cells #[.int .u64 (1000 + (j : Int))] 30)
                  go_upto_region 23 with (first | (at_builtin; refine wpList_append_grows _ rfl (.tmp 97) (.tmp 101) 33 rfl 30 i3 (.int .u64 0) 1 8 Tryz.underlying33 hi3 hz30 hz31 hz32 rfl (by decide) la (lc + 0) lc (wdC (e.xs ++ List.replicate 0 (1000 + (j : Int)))) rfl (own_none hla) hla.1 (own_src hla) ⟨_, 0, none⟩ 1 1 [.int .u64 (1000 + (j : Int))] rfl rfl (cell_one_new _ _ _) (by intro u hu; simp at hu; subst hu; rfl) (by omega) (by unfold maxLen; omega) (by omega) ?_; intro v4 w4 ho4 hg4; obtain ⟨gl, lc1, rfl, hgl⟩ := grown_shape ho4 (by omega)))
                  have hH := hI.half0 ho4 hg4 hgl
                  clear hI hlr hmr hla ho4 hg4 hgl
                  have hmr := hH.mrow
                  go_wp2_with (first | (at_builtin; refine wpList_app _ rfl (.tmp 103) (.tmp 107) 33 rfl 30 i3 (.int .u64 0) 8 Tryz.underlying33 hi3 hz30 hz31 hz32 rfl (some ⟨gm, 0, none⟩) (lc + 0) mc _ rfl (hmr.alloc _) ⟨_, 0, none⟩ 1 1 [.int .u64 (1000 + (j : Int))] rfl rfl (cell_one_new _ _ _) (by intro u hu; simp at hu; subst hu; rfl) (by unfold maxLen; omega) (by omega) ?_; intro ma5 mc5 w5 ho5 hg5 hmv5; obtain ⟨gm5, rfl, hI5⟩ := hH.next (ea := e.ao) ho5 hg5 hmv5))
                  go_roundg 19
                  case measure => omega
                  case rel => exact ⟨1, some ⟨gl, 0, none⟩, lc1, gm5, mc5, by omega, rfl, rfl, rfl, hI5⟩
                · exact absurd hk0 hx
              · go_upto_region 23 with (first | (at_builtin; refine wpList_app _ rfl (.tmp 97) (.tmp 101) 33 rfl 30 i3 (.int .u64 0) 8 Tryz.underlying33 hi3 hz30 hz31 hz32 rfl la (m + k) lc _ rfl (hlr.alloc _) ⟨_, 0, none⟩ 1 1 [.int .u64 (1000 + (j : Int))] rfl rfl (cell_one_new _ _ _) (by intro u hu; simp at hu; subst hu; rfl) (by unfold maxLen; omega) (by omega) ?_; intro la4 lc4 w4 ho4 hg4 hmv4; obtain ⟨gl, rfl, hH⟩ := hI.half hk0 ho4 hg4 hmv4))
                clear hI hlr hmr ho4 hg4 hmv4
                have hmr := hH.mrow
                go_wp2_with (first | (at_builtin; refine wpList_app _ rfl (.tmp 103) (.tmp 107) 33 rfl 30 i3 (.int .u64 0) 8 Tryz.underlying33 hi3 hz30 hz31 hz32 rfl (some ⟨gm, 0, none⟩) (m + k) mc _ rfl (hmr.alloc _) ⟨_, 0, none⟩ 1 1 [.int .u64 (1000 + (j : Int))] rfl rfl (cell_one_new _ _ _) (by intro u hu; simp at hu; subst hu; rfl) (by unfold maxLen; omega) (by omega) ?_; intro ma5 mc5 w5 ho5 hg5 hmv5; obtain ⟨gm5, rfl, hI5⟩ := hH.next (ea := e.ao) ho5 hg5 hmv5))
                go_roundg (20 - (k + 1))
                case measure => omega
                case rel => exact ⟨k + 1, some ⟨gl, 0, none⟩, lc4, gm5, mc5, by omega, by go_num, rfl, rfl, hI5⟩
            · have hk : k = 20 := by omega
              subst hk
              rcases hI.lat with ⟨hx, _⟩ | ⟨_, gl, hla, hgl, hne⟩
              · exact absurd hx (by decide)
              · subst hla
                have hX1 := hN.x.chg (Chg.of_below hI.below (fun _ => False)) (fun h => h) (fun _ _ h => h) (fun _ _ h => h)
                have hlo : ((es' ++ news).map Ent.o).length = i + j := by rw [List.length_map, hlen]
                have hlw : ((es' ++ news).map Ent.w).length = i + j := by rw [List.length_map, hlen]
                generalize hos : (es' ++ news).map Ent.o = os at hX1 hlo
                generalize hws : (es' ++ news).map Ent.w = ws at hX1 hlw
                have HO : Hid ((es' ++ news).map Ent.o = os) := hos
                have HW : Hid ((es' ++ news).map Ent.w = ws) := hws
                have k0 := hX1.c0
                have ho1 := hX1.out
                rw [hlo] at k0 ho1
                have HLo : Hid (os.length = i + j) := hlo
                have HLw : Hid (ws.length = i + j) := hlw
                clear hos hws hlo hlw
                go_upto_region 25 with (first | (at_builtin; refine wpList_app _ rfl (.tmp 113) (.tmp 115) 27 rfl 33 i7 (.slice none 0 0) 24 Tryz.underlying27 hi7 hz70 hz71 hz72 rfl (some ⟨go, 0, none⟩) (i + j) co1 os rfl (ho1.alloc _) ⟨_, 0, none⟩ 1 1 [.slice (some ⟨gl, 0, none⟩) (m + 20) lc] rfl rfl (cell_one_new _ _ _) (by intro u hu; simp at hu; subst hu; rfl) (by unfold maxLen; omega) (by omega) ?_; intro ao2 co2 w2 ho2 hg2 hmv2; obtain ⟨hc2, hf2, hX2, hC2, hN2⟩ := hX1.outApp (by rw [HLo.out]) ho2 hg2 hmv2; rw [HLo.out] at hc2))
                clear ho1 ho2 hg2 hmv2 hc2 hf2 k0 hX1
                generalize w2.setCell ⟨H, 0, none⟩ (.slice ao2 (i + j + 1) co2) = w3 at *
                have k1 := hX2.c1
                have ho3 := hX2.want
                rw [HLw.out] at k1 ho3
                have hz3 := hC2.size
                go_wp2_with (first | (at_builtin; refine wpList_app _ rfl (.tmp 123) (.tmp 125) 27 rfl 33 i7 (.slice none 0 0) 24 Tryz.underlying27 hi7 hz70 hz71 hz72 rfl (some ⟨gw, 0, none⟩) (i + j) cw1 ws rfl (ho3.alloc _) ⟨_, 0, none⟩ 1 1 [.slice (some ⟨gm, 0, none⟩) (m + 20) mc] rfl rfl (cell_one_new _ _ _) (by intro u hu; simp at hu; subst hu; rfl) (by unfold maxLen; omega) (by omega) ?_; intro aw2 cw2 w4 ho4 hg4 hmv4; obtain ⟨hc4, hf4, hX4, hC4, hN4⟩ := hX2.wantApp (by rw [HLw.out]) ho4 hg4 hmv4; rw [HLw.out] at hc4))
                clear ho3 ho4 hg4 hmv4 hc4 hf4 k1
                generalize w4.setCell ⟨H, 1, none⟩ (.slice aw2 (i + j + 1) cw2) = w5 at *
                rw [← HO.out, ← HW.out] at hX4
                obtain ⟨eN, hGN⟩ := hG.next hI hgl hne HM.out hsm (by omega) hX4 ((hC2.mono (fun i _ h => h.elim .inl (fun h => .inr (.inl h)))).trans hC4 (fun i _ h => h.elim .inl (fun h => .inr (.inr h)))) hN2 (fun b hb => (hN4 b hb).elim .inl (fun h => .inr (by omega)))
                go_roundg (i - (j + 1))
                case measure => omega
                case rel => exact ⟨j + 1, ao2, aw2, co2, cw2, news ++ [eN], by omega, by go_num, hGN⟩
        · have e : j = i := by omega
          subst e
          have hC := hG.chg
          have c0 := hN.c0
          have c2 := hN.c2
          have f2 : wr.frozen? ⟨H, 2, none⟩ = false := by simp [World.frozen?, hN.blk]
          generalize (es' ++ news).length = N at c0
          obtain ⟨hN', hC'⟩ := hN.fresh (N : Int)
          clear hG hN
          go_wp2_with (go_at_call 36; refine (holds_any H _ ao1 aw1 co1 cw1 (es' ++ news) _ hN').mono ?_; rintro e w2 ⟨rfl, q2, rfl⟩)
          go_ret
          exact ⟨rfl, (hC.trans hC' (fun i _ h => .inl h)).trans (Chg.of_below (dN_below _ q2) (fun _ => False)) (fun _ _ h => h.elim)⟩
end Bk
end Go.Proofs.YtioldijdmefljaaGreatDoor
namespace Go.Proofs.YtioldijdmefljaaGreatDoor
open Go.RowKit Wd Tr Cg Bk

theorem wdC_snoc (xs : List Int) (x : Int) : wdC xs ++ [.int .u64 x] = wdC (xs ++ [x]) := by simp [wdC]
/-- Two rows of words of one's own, apart. -/
structure TwoR (w0 w : World) (ga ca na : Nat) (xs : List Int) (gb cb nb : Nat) (ys : List Int) : Prop where
  a : w.ownsRow 0 30 1 (.slice (some ⟨ga, 0, none⟩) na ca) na (wdC xs)
  b : w.ownsRow 0 30 1 (.slice (some ⟨gb, 0, none⟩) nb cb) nb (wdC ys)
  ne : ga ≠ gb
  la : w0.heap.size ≤ ga
  lb : w0.heap.size ≤ gb
  bl : Below w0.heap.size w0 w
section
variable {w0 w w' : World} {ga ca na gb cb nb : Nat} {xs ys : List Int}
theorem TwoR.swap (h : TwoR w0 w ga ca na xs gb cb nb ys) : TwoR w0 w gb cb nb ys ga ca na xs := ⟨h.b, h.a, h.ne.symm, h.lb, h.la, h.bl⟩
theorem TwoR.below (h : TwoR w0 w ga ca na xs gb cb nb ys) (hb : Below w.heap.size w w') : TwoR w0 w' ga ca na xs gb cb nb ys :=
  ⟨own_below h.a hb, own_below h.b hb, h.ne, h.la, h.lb, h.bl.trans (hb.mono h.bl.size)⟩
theorem TwoR.left (h : TwoR w0 w ga ca na xs gb cb nb ys) {x : Int} {o : Obj} {ao' : Option Addr} {c' : Nat} (ho : w'.ownsRow 0 30 1 (.slice ao' (na + 1) c') (na + 1) (wdC xs ++ [.int .u64 x])) (hg : (w.alloc o).grownBy w' (some ga)) (hm : Moved (w.alloc o) (some ⟨ga, 0, none⟩) ao') :
    ∃ g', ao' = some ⟨g', 0, none⟩ ∧ TwoR w0 w' g' c' (na + 1) (xs ++ [x]) gb cb nb ys := by
  have hgb := Bk.own_lt h.b
  have hga := Bk.own_lt h.a
  have hsz := h.bl.size
  have hla := h.la
  rw [wdC_snoc] at ho
  have hB : Below w0.heap.size w0 w' := (h.bl.alloc h.bl.size o).grown hg (by simp; omega) (fun k hk => by simp at hk; omega)
  have hb' := (h.b.alloc o).kept hg (by
    have := h.ne
    simp [Value.ownBlock]
    omega)
  rcases hm with e | ⟨g, hgs, e⟩
  · subst e
    exact ⟨ga, rfl, ho, hb', h.ne, h.la, h.lb, hB⟩
  · subst e
    simp at hgs
    exact ⟨g, rfl, ho, hb', by omega, by omega, h.lb, hB⟩
theorem TwoR.right (h : TwoR w0 w ga ca na xs gb cb nb ys) {x : Int} {o : Obj} {ao' : Option Addr} {c' : Nat} (ho : w'.ownsRow 0 30 1 (.slice ao' (nb + 1) c') (nb + 1) (wdC ys ++ [.int .u64 x])) (hg : (w.alloc o).grownBy w' (some gb)) (hm : Moved (w.alloc o) (some ⟨gb, 0, none⟩) ao') :
    ∃ g', ao' = some ⟨g', 0, none⟩ ∧ TwoR w0 w' ga ca na xs g' c' (nb + 1) (ys ++ [x]) := by
  obtain ⟨g', e, h'⟩ := h.swap.left ho hg hm
  exact ⟨g', e, h'.swap⟩
end
/-- Two empty rows, just made. -/
theorem two_new (w : World) : TwoR w ((w.alloc (.cells #[] 30)).alloc (.cells #[] 30)) w.heap.size 0 0 [] (w.heap.size + 1) 0 0 [] := by
  have b1 : Below w.heap.size w (w.alloc (.cells #[] 30)) := below1 w _
  have h1 := empty_row w 0 (Nat.zero_le _)
  have h2 := empty_row (w.alloc (.cells #[] 30)) 0 (Nat.zero_le _)
  refine ⟨h1.alloc _, by rw [show wdC [] = [] from rfl]; simpa using h2, by omega, Nat.le_refl _, by omega, b1.alloc (by simp) _⟩
/-- The reference's answer: two rows. -/
def RSh (w : World) (N : Nat) (xs ys : List Int) (e : Ending) (w' : World) : Prop :=
  ∃ ga ca gb cb, e = .returned (.tuple #[.slice (some ⟨ga, 0, none⟩) N ca, .slice (some ⟨gb, 0, none⟩) N cb]) ∧ TwoR w w' ga ca N xs gb cb N ys
def lenS (l : List Ac) : Nat := if loadE l = 0 then l.length else 0
theorem wds_own {w : World} {ga ca n : Nat} {f : Nat → Int} (h : w.ownsRow 0 30 1 (.slice (some ⟨ga, 0, none⟩) n ca) n (wdC (firstN f n))) : Wds w ga f n := fun k hk => by
  have := own_at h k (by rw [firstN_len]; exact hk)
  simpa [nthI, firstN, hk] using this
theorem Tryz.infWE : (Tryz.prog.info? 30).map (fun i => (i.zero, i.size, i.bytes)) = some (some (.int .u64 0), 1, 8) := by kernel_rfl
set_option maxHeartbeats 1000000 in
set_option maxRecDepth 20000 in
theorem rshs_any {w : World} {ao : Option Addr} {l : List Ac} {c : Nat} (hA : AcsAt w ao l) (hn : l.length * 48 ≤ 140737488355328) :
    Calls Tryz.prog 6 #[.slice ao l.length c] w (RSh w (lenS l) (firstN (numV l) (lenS l)) (firstN (denV l) (lenS l))) := by
  obtain ⟨i3, hi3, hz30, hz31, hz32⟩ := info_parts Tryz.infWE
  have hT := two_new w
  have cR : Hid (∀ x, Below w.heap.size w x → Calls Tryz.prog 18 #[.slice ao l.length c] x fun e w' => e = .returned (.bool (decide (loadE l = 0))) ∧ Below x.heap.size x w') := fun x hx => right_any (hA.below hx) hn
  by_cases hE : loadE l = 0
  · have hwu : Wu l := wf_load hE
    have hl := hwu.len
    obtain ⟨g, o, hao, hcl⟩ := hA
    obtain rfl := hao hwu.pos
    have hlS : lenS l = l.length := if_pos hE
    rw [hlS]
    have HP : Hid (∀ (n : Nat) x, n < l.length → Below w.heap.size w x → Calls Tryz.prog 19 #[.slice (some ⟨g, o, none⟩) l.length c, .int .i64 (n : Int)] x fun e w' => e = .returned (.tuple #[.int .u64 (numV l n), .int .u64 (denV l n)]) ∧ Below x.heap.size x w') := fun n x hn hx => rprt_any hwu _ (Acs.below hcl hx) hn (hwu.dOf hn).1
    obtain ⟨L, hL⟩ : ∃ L, l.length = L := ⟨_, rfl⟩
    rw [hL] at cR HP hl ⊢
    obtain ⟨w2, hw2⟩ : ∃ w2, (w.alloc (.cells #[] 30)).alloc (.cells #[] 30) = w2 := ⟨_, rfl⟩
    rw [hw2] at hT
    have c1 := cR.out w2 hT.bl
    rw [decide_eq_true hE] at c1
    have HT : Hid _ := hT
    clear hcl hn hE hao hwu hL hlS hT cR
    go_enter Tryz.func6, Tryz.ntmps6
    go_wp2_with fail
    refine c1.mono ?_
    rintro e w3 ⟨rfl, hb3⟩
    have HT3 : Hid _ := HT.out.below hb3
    clear hb3 HT c1
    go_wp2
    go_loopg [4, 5, 6] L (fun gk va vb x wr => ∃ j ga ca gb cb : Nat, j + gk = L ∧ va = .slice (some ⟨ga, 0, none⟩) j ca ∧ vb = .slice (some ⟨gb, 0, none⟩) j cb ∧ x = .int .i64 j ∧ TwoR w wr ga ca j (firstN (numV l) j) gb cb j (firstN (denV l) j))
    case atStart => exact ⟨0, _, _, _, _, by omega, rfl, rfl, rfl, HT3.out⟩
    case round =>
      obtain ⟨j, ga, ca, gb, cb, hj, rfl, rfl, rfl, hR⟩ := hrel
      by_cases hlt : j < L
      · have hlt' : (j : Int) < L := by omega
        have c2 := HP.out j wr hlt hR.bl
        have HR : Hid _ := hR
        clear hR
        go_wp2_with fail
        refine c2.mono ?_
        rintro e w4 ⟨rfl, hb4⟩
        have R4 := HR.out.below hb4
        clear hb4 HR
        have ra := R4.a
        go_upto_region 10 with (first | (at_builtin; refine wpList_app _ rfl (.tmp 28) (.tmp 30) 33 rfl 30 i3 (.int .u64 0) 8 Tryz.underlying33 hi3 hz30 hz31 hz32 rfl (some ⟨ga, 0, none⟩) j ca (wdC (firstN (numV l) j)) rfl (ra.alloc _) ⟨_, 0, none⟩ 1 1 [.int .u64 (numV l j)] rfl rfl (cell_one_new _ _ _) (by intro u hu; simp at hu; subst hu; rfl) (by unfold maxLen; omega) (by omega) ?_; intro ao1 co1 w5 ho5 hg5 hmv5; obtain ⟨g1, rfl, R5⟩ := R4.left ho5 hg5 hmv5))
        clear R4 ra ho5 hg5 hmv5
        have rb := R5.b
        go_upto_region 7 with (first | (at_builtin; refine wpList_app _ rfl (.tmp 32) (.tmp 34) 33 rfl 30 i3 (.int .u64 0) 8 Tryz.underlying33 hi3 hz30 hz31 hz32 rfl (some ⟨gb, 0, none⟩) j cb (wdC (firstN (denV l) j)) rfl (rb.alloc _) ⟨_, 0, none⟩ 1 1 [.int .u64 (denV l j)] rfl rfl (cell_one_new _ _ _) (by intro u hu; simp at hu; subst hu; rfl) (by unfold maxLen; omega) (by omega) ?_; intro ao2 co2 w6 ho6 hg6 hmv6; obtain ⟨g2, rfl, R6⟩ := R5.right ho6 hg6 hmv6))
        have HR6 : Hid _ := R6
        clear R5 rb ho6 hg6 hmv6 R6
        go_wp2
        go_roundg (L - (j + 1))
        case measure => omega
        case rel => exact ⟨j + 1, _, _, _, _, by omega, rfl, rfl, rfl, by rw [firstN_succ, firstN_succ]; exact HR6.out⟩
      · obtain rfl : j = L := by omega
        have HR : Hid _ := hR
        clear hR
        go_wp2
        go_ret2
        exact ⟨_, _, _, _, rfl, HR.out⟩
  · have hlS : lenS l = 0 := if_neg hE
    rw [hlS]
    generalize l.length = L at *
    obtain ⟨w2, hw2⟩ : ∃ w2, (w.alloc (.cells #[] 30)).alloc (.cells #[] 30) = w2 := ⟨_, rfl⟩
    rw [hw2] at hT
    have c1 := cR.out w2 hT.bl
    rw [decide_eq_false hE] at c1
    have HT : Hid _ := hT
    clear hn hE hlS hT cR hA
    go_enter Tryz.func6, Tryz.ntmps6
    go_wp2_with fail
    refine c1.mono ?_
    rintro e w3 ⟨rfl, hb3⟩
    have HT3 : Hid _ := HT.out.below hb3
    clear hb3 HT c1
    go_wp2
    go_ret2
    exact ⟨_, _, _, _, rfl, HT3.out⟩
end Go.Proofs.YtioldijdmefljaaGreatDoor
namespace Go.Proofs.YtioldijdmefljaaGreatDoor
open Go.RowKit Wd Tr Cg Bk

noncomputable def lenE (cf : Cf) (l : List Ac) : Nat := if loadE l = 0 ∧ chkZ cf = 0 then l.length else 0
/-- The reference's answer: one row. -/
def REf (w : World) (N : Nat) (xs : List Int) (e : Ending) (w' : World) : Prop :=
  ∃ g c, e = .returned (.slice (some ⟨g, 0, none⟩) N c) ∧ w'.ownsRow 0 30 1 (.slice (some ⟨g, 0, none⟩) N c) N (wdC xs) ∧ w.heap.size ≤ g ∧ Below w.heap.size w w'
theorem two_made {w1 w3 : World} {g : Nat} (hr : w3.ownsRow 0 30 1 (.slice (some ⟨g, 0, none⟩) 0 0) 0 []) (h : Below w1.heap.size w1 w3) (hg : w1.heap.size ≤ g) : TwoR w1 (w3.alloc (.cells #[] 30)) g 0 0 [] w3.heap.size 0 0 [] := by
  have := Bk.own_lt hr
  exact ⟨hr.alloc _, empty_row w3 0 (Nat.zero_le _), by omega, hg, h.size, h.alloc h.size _⟩
set_option maxHeartbeats 2000000 in
set_option maxRecDepth 20000 in
theorem reffs_any {w : World} {ao : Option Addr} {l : List Ac} {c : Nat} {cf : Cf} (hA : AcsAt w ao l) (hus : UsOk l) (hn : l.length * 48 ≤ 140737488355328) :
    Calls Tryz.prog 9 #[cfV cf, .slice ao l.length c] w (REf w (lenE cf l) (firstN (efV l (wV l (flZ cf))) (lenE cf l))) := by
  obtain ⟨i3, hi3, hz30, hz31, hz32⟩ := info_parts Tryz.infWE
  have hS := St.new w cf
  have cR : Hid (∀ x, Below w.heap.size w x → Calls Tryz.prog 18 #[.slice ao l.length c] x fun e w' => e = .returned (.bool (decide (loadE l = 0))) ∧ Below x.heap.size x w') := fun x hx => right_any (hA.below hx) hn
  have cK := rcheck_any cf
  obtain ⟨w1, hw1⟩ : ∃ w1, w.alloc (.cells #[.int .i64 cf.nodes, .int .i64 cf.queue, .int .i64 cf.limit, .int .i64 cf.age, .int .i64 cf.fair, .int .i64 cf.size, .int .i64 cf.period, .int .i64 cf.half] 23) = w1 := ⟨_, rfl⟩
  rw [hw1] at hS
  have hr := empty_row w1 0 (Nat.zero_le _)
  have b2 := below1 w1 (.cells #[] 30)
  obtain ⟨w2, hw2⟩ : ∃ w2, w1.alloc (.cells #[] 30) = w2 := ⟨_, rfl⟩
  rw [hw2] at hr b2
  have S2 := keepW hS b2
  have c1 := cR.out w2 S2.bel
  have HB1 : Hid (Below w.heap.size w w1) := hS.bel
  have HS1 : Hid (St w w.heap.size cf w1) := hS
  have HS2 : Hid (St w w.heap.size cf w2) := S2
  have HR2 : Hid (w2.ownsRow 0 30 1 (.slice (some ⟨w1.heap.size, 0, none⟩) 0 0) 0 []) := hr
  have HB2 : Hid (Below w1.heap.size w1 w2) := b2
  clear hS cR S2 hr b2
  by_cases hE : loadE l = 0
  · rw [decide_eq_true hE] at c1
    by_cases hK : chkZ cf = 0
    · have hwu : Wu l := wf_load hE
      have hl := hwu.len
      obtain ⟨g, o, hao, hcl⟩ := hA
      obtain rfl := hao hwu.pos
      rw [show lenE cf l = l.length from if_pos ⟨hE, hK⟩]
      have cF := rFloor_yes hK
      rw [show cZ cf * 4294967296 = flZ cf from rfl] at cF
      have hW := wOk hwu hus (fl_word hK)
      rw [hK] at cK
      have HA : Hid (∀ x, Below w.heap.size w x → Acs x g o l) := fun x hx => Acs.below hcl hx
      have HRT : Hid (∀ x, Below w.heap.size w x → Calls Tryz.prog 28 #[.slice (some ⟨g, o, none⟩) l.length c] x fun e w' => e = .returned (.int .i64 0) ∧ x = w') := fun x hx => rroot_any (Acs.below hcl hx) hwu
      have HSM : Hid (∀ x (h c2 : Nat), Below w.heap.size w x → Wds x h (usOf l) l.length → Calls Tryz.prog 27 #[.slice (some ⟨g, o, none⟩) l.length c, .slice (some ⟨h, 0, none⟩) l.length c2, .int .i64 0] x fun e w' => e = .returned (.int .u64 (sumV l 0)) ∧ Below x.heap.size x w') := fun x h c2 hx hd => rsum_any hwu hus 5 (n := 0) (d := 0) (Acs.below hcl hx) hd hwu.pos rfl (by omega)
      obtain ⟨W, hWW⟩ : ∃ W, wV l (flZ cf) = W := ⟨_, rfl⟩
      have HWW : Hid (wV l (flZ cf) = W) := hWW
      rw [hWW] at hW ⊢
      obtain ⟨SS, hSS⟩ : ∃ SS, sumV l 0 = SS := ⟨_, rfl⟩
      obtain ⟨FF, hFF⟩ : ∃ FF, flZ cf = FF := ⟨_, rfl⟩
      have HW2 : Hid ((if SS < FF then FF else SS) = W) := show (if SS < FF then FF else SS) = W by rw [← hWW, ← hSS, ← hFF]; rfl
      rw [hSS] at HSM
      rw [hFF] at cF
      clear hSS hFF
      have HEF : Hid (∀ x (h c2 n : Nat), Below w.heap.size w x → Wds x h (usOf l) l.length → n < l.length → Calls Tryz.prog 30 #[.slice (some ⟨g, o, none⟩) l.length c, .slice (some ⟨h, 0, none⟩) l.length c2, .int .u64 W, .int .i64 (n : Int)] x fun e w' => e = .returned (.int .u64 (efV l W n)) ∧ Below x.heap.size x w') := fun x h c2 n hx hd hn => reff_any hwu hus hW _ (Acs.below hcl hx) hd hn (hwu.dOf hn).1
      obtain ⟨L, hL⟩ : ∃ L, l.length = L := ⟨_, rfl⟩
      have HL : Hid (l.length = L) := hL
      have HUW : Hid (∀ n, Word (usOf l n)) := us_word hus
      have HSW : Hid (Word (sumV l 0) ∧ Word (flZ cf)) := ⟨sum_word hus 0, fl_word hK⟩
      rw [hL] at HRT HSM HEF c1 hl ⊢
      unfold cfV at *
      clear hcl hn hE hK hao hwu hL hW hWW hus
      go_enter Tryz.func9, Tryz.ntmps9
      go_wp2_with fail
      refine c1.mono ?_
      rintro e w3 ⟨rfl, hb3⟩
      have S3 := keepW HS2.out hb3
      have HS3 : Hid _ := S3
      have HR3 : Hid (w3.ownsRow 0 30 1 (.slice (some ⟨w1.heap.size, 0, none⟩) 0 0) 0 []) := own_below HR2.out hb3
      have HB3 : Hid (Below w1.heap.size w1 w3) := HB2.out.trans (hb3.mono HB2.out.size)
      obtain ⟨s0, s1, s2, s3, s4, s5, s6, s7, _, _⟩ := S3
      clear hb3 c1 HS2 HR2 HB2
      go_wp2_with fail
      refine (cK _).mono ?_
      rintro e w4 ⟨rfl, hb4⟩
      have HT5 : Hid (TwoR w1 (w4.alloc (.cells #[] 30)) w1.heap.size 0 0 [] w4.heap.size 0 0 []) := two_made (own_below HR3.out hb4) (HB3.out.trans (hb4.mono HB3.out.size)) (Nat.le_refl _)
      clear hb4 cK HS3 HR3 HB3 s0 s1 s2 s3 s4 s5 s6 s7
      go_wp2
      go_loopg [6, 7] L (fun gk va x wr => ∃ j gb cb : Nat, j + gk = L ∧ va = .slice (some ⟨gb, 0, none⟩) j cb ∧ x = .int .i64 j ∧ TwoR w1 wr w1.heap.size 0 0 [] gb cb j (firstN (usOf l) j))
      case atStart => exact ⟨0, _, _, by omega, rfl, rfl, HT5.out⟩
      case round =>
        obtain ⟨j, gb, cb, hj, rfl, rfl, hR⟩ := hrel
        by_cases hlt : j < L
        · have hlt' : (j : Int) < L := by omega
          have hB : Below w.heap.size w wr := HB1.out.trans (hR.bl.mono HB1.out.size)
          obtain ⟨a, ha, hac⟩ := Acs.at (HA.out wr hB) (n := j) (by rw [HL.out]; exact hlt)
          have x1 := hac.us
          rw [← us_of ha] at x1
          have rb := hR.b
          clear hac ha hB
          go_upto_region 7 with (first | (at_builtin; refine wpList_app _ rfl (.tmp 27) (.tmp 33) 33 rfl 30 i3 (.int .u64 0) 8 Tryz.underlying33 hi3 hz30 hz31 hz32 rfl (some ⟨gb, 0, none⟩) j cb (wdC (firstN (usOf l) j)) rfl (rb.alloc _) ⟨_, 0, none⟩ 1 1 [.int .u64 (usOf l j)] rfl rfl (cell_one_new _ _ _) (by intro u hu; simp at hu; subst hu; rfl) (by unfold maxLen; omega) (by omega) ?_; intro ao2 co2 w6 ho6 hg6 hmv6; obtain ⟨g2, rfl, R6⟩ := hR.right ho6 hg6 hmv6))
          have HR6 : Hid _ := R6
          clear hR rb ho6 hg6 hmv6 R6 x1
          go_wp2
          go_roundg (L - (j + 1))
          case measure => omega
          case rel => exact ⟨j + 1, _, _, by omega, rfl, rfl, by rw [firstN_succ]; exact HR6.out⟩
        · obtain rfl : j = L := by omega
          have hB : Below w.heap.size w wr := HB1.out.trans (hR.bl.mono HB1.out.size)
          have cr := HRT.out wr hB
          have cs := HSM.out wr gb cb hB (wds_own hR.b)
          have HR : Hid _ := hR
          clear hR hB
          go_wp2_with fail
          refine cr.mono ?_
          rintro e w6 ⟨rfl, rfl⟩
          go_wp2_with fail
          refine cs.mono ?_
          rintro e w6 ⟨rfl, hb6⟩
          have R6 := HR.out.below hb6
          have HR6 : Hid _ := R6
          obtain ⟨s0, s1, s2, s3, s4, s5, s6, s7, _, _⟩ := keepW HS1.out R6.bl
          clear R6 hb6 cr cs HR
          go_wp2_with fail
          refine (cF _).mono ?_
          rintro e w7 ⟨rfl, hb7⟩
          have R7 := HR6.out.below hb7
          have HR7 : Hid _ := R7
          clear s0 s1 s2 s3 s4 s5 s6 s7
          obtain ⟨s0, s1, s2, s3, s4, s5, s6, s7, _, _⟩ := keepW HS1.out R7.bl
          clear R7 hb7 HR6
          go_upto_if 43 with fail
          go_cut [8] (fun x wq => x = .int .u64 W ∧ TwoR w1 wq w1.heap.size 0 0 [] gb cb j (firstN (usOf l) j))
          case first =>
            by_cases hlt : SS < FF
            · have HW3 : Hid (FF = W) := show FF = W by rw [← HW2.out, if_pos hlt]
              go_wp2_with fail
              refine (cF _).mono ?_
              rintro e w8 ⟨rfl, hb8⟩
              have HR8 : Hid _ := HR7.out.below hb8
              clear hb8
              go_wp2
              go_meet
              exact ⟨by rw [HW3.out], HR8.out⟩
            · have HW3 : Hid (SS = W) := show SS = W by rw [← HW2.out, if_neg hlt]
              go_wp2
              go_meet
              exact ⟨by rw [HW3.out], HR7.out⟩
          case rest =>
          obtain ⟨rfl, hR8⟩ := hcut
          have HR8 : Hid _ := hR8
          clear hR8 s0 s1 s2 s3 s4 s5 s6 s7 cF HR7 HW2
          go_wp2
          go_loopg [5, 9] j (fun gk va x wr => ∃ k ga ca : Nat, k + gk = j ∧ va = .slice (some ⟨ga, 0, none⟩) k ca ∧ x = .int .i64 k ∧ TwoR w1 wr ga ca k (firstN (efV l W) k) gb cb j (firstN (usOf l) j))
          case atStart => exact ⟨0, _, _, by omega, rfl, rfl, HR8.out⟩
          case round =>
            obtain ⟨k, ga, ca, hk, rfl, rfl, hR⟩ := hrel
            by_cases hlt : k < j
            · have hlt' : (k : Int) < j := by omega
              have hB : Below w.heap.size w wr := HB1.out.trans (hR.bl.mono HB1.out.size)
              have ce := HEF.out wr gb cb k hB (wds_own hR.b) hlt
              have HR : Hid _ := hR
              clear hR hB
              go_wp2_with fail
              refine ce.mono ?_
              rintro e w9 ⟨rfl, hb9⟩
              have R9 := HR.out.below hb9
              have ra := R9.a
              clear hb9 ce HR
              go_upto_region 14 with (first | (at_builtin; refine wpList_app _ rfl (.tmp 52) (.tmp 58) 33 rfl 30 i3 (.int .u64 0) 8 Tryz.underlying33 hi3 hz30 hz31 hz32 rfl (some ⟨ga, 0, none⟩) k ca (wdC (firstN (efV l W) k)) rfl (ra.alloc _) ⟨_, 0, none⟩ 1 1 [.int .u64 (efV l W k)] rfl rfl (cell_one_new _ _ _) (by intro u hu; simp at hu; subst hu; rfl) (by unfold maxLen; omega) (by omega) ?_; intro ao2 co2 wA hoA hgA hmvA; obtain ⟨g2, rfl, RA⟩ := R9.left hoA hgA hmvA))
              have HRA : Hid _ := RA
              clear R9 ra hoA hgA hmvA RA
              go_wp2
              go_roundg (j - (k + 1))
              case measure => omega
              case rel => exact ⟨k + 1, _, _, by omega, rfl, rfl, by rw [firstN_succ]; exact HRA.out⟩
            · obtain rfl : k = j := by omega
              have HR : Hid _ := hR
              clear hR
              go_wp2
              go_ret
              exact ⟨_, _, rfl, HR.out.a, Nat.le_trans HB1.out.size HR.out.la, HB1.out.trans (HR.out.bl.mono HB1.out.size)⟩
    · have hlS : lenE cf l = 0 := if_neg (fun h => hK h.2)
      rw [hlS]
      generalize l.length = L at *
      obtain ⟨er, her⟩ : ∃ er, chkZ cf = er := ⟨_, rfl⟩
      rw [her] at hK cK
      have hK' : (er == 0) = false := by simp [hK]
      unfold cfV at *
      clear hn hE hlS hA her hK hus
      go_enter Tryz.func9, Tryz.ntmps9
      go_wp2_with fail
      refine c1.mono ?_
      rintro e w3 ⟨rfl, hb3⟩
      have S3 := keepW HS2.out hb3
      have HS3 : Hid _ := S3
      have HR3 : Hid (w3.ownsRow 0 30 1 (.slice (some ⟨w1.heap.size, 0, none⟩) 0 0) 0 []) := own_below HR2.out hb3
      obtain ⟨s0, s1, s2, s3, s4, s5, s6, s7, _, _⟩ := S3
      clear hb3 c1 HS2 HR2 HB2
      go_wp2_with fail
      refine (cK _).mono ?_
      rintro e w4 ⟨rfl, hb4⟩
      have HS4 : Hid _ := keepW HS3.out hb4
      have HR4 : Hid (w4.ownsRow 0 30 1 (.slice (some ⟨w1.heap.size, 0, none⟩) 0 0) 0 []) := own_below HR3.out hb4
      clear hb4 s0 s1 s2 s3 s4 s5 s6 s7
      go_wp2
      go_ret
      exact ⟨_, _, rfl, HR4.out, HB1.out.size, St.bel HS4.out⟩
  · have hlS : lenE cf l = 0 := if_neg (fun h => hE h.1)
    rw [decide_eq_false hE] at c1
    rw [hlS]
    generalize l.length = L at *
    unfold cfV at *
    clear hn hE hlS hA hus cK
    go_enter Tryz.func9, Tryz.ntmps9
    go_wp2_with fail
    refine c1.mono ?_
    rintro e w3 ⟨rfl, hb3⟩
    have HS3 : Hid _ := keepW HS2.out hb3
    have HR3 : Hid (w3.ownsRow 0 30 1 (.slice (some ⟨w1.heap.size, 0, none⟩) 0 0) 0 []) := own_below HR2.out hb3
    clear hb3 c1 HS2 HR2 HB2
    go_wp2
    go_ret
    exact ⟨_, _, rfl, HR3.out, HB1.out.size, St.bel HS3.out⟩
end Go.Proofs.YtioldijdmefljaaGreatDoor
namespace Go.Proofs.YtioldijdmefljaaGreatDoor
open Go.RowKit Wd Tr Cg Bk Ld

/-- A row that grows; nothing else turns but the block in which it began. -/
structure OneR (wA w : World) (g0 g c n : Nat) (xs : List Int) : Prop where
  row : w.ownsRow 0 30 1 (.slice (some ⟨g, 0, none⟩) n c) n (wdC xs)
  lie : g = g0 ∨ wA.heap.size ≤ g
  chg : Chg (fun i => i = g0) wA w
section
variable {wA w w' : World} {g0 g c n : Nat} {xs : List Int}
theorem OneR.below (h : OneR wA w g0 g c n xs) (hb : Below w.heap.size w w') : OneR wA w' g0 g c n xs :=
  ⟨own_below h.row hb, h.lie, h.chg.trans (Chg.of_below hb (fun _ => False)) (fun _ _ h => h.elim)⟩
theorem OneR.next (h : OneR wA w g0 g c n xs) {x : Int} {o : Obj} {v' : Value} (ho : w'.ownsRow 0 30 1 v' (n + 1) (wdC xs ++ [.int .u64 x])) (hg : (w.alloc o).grownBy w' (Value.slice (some ⟨g, 0, none⟩) n c).ownBlock)
    (hm : v'.ownBlock = (Value.slice (some ⟨g, 0, none⟩) n c).ownBlock ∨ v'.ownBlock = some (w.alloc o).heap.size) : ∃ g' c', v' = .slice (some ⟨g', 0, none⟩) (n + 1) c' ∧ OneR wA w' g0 g' c' (n + 1) (xs ++ [x]) := by
  rw [wdC_snoc] at ho
  obtain ⟨g', c', rfl, _⟩ := grown_shape ho (by omega)
  have hlie := h.lie
  have hsz := h.chg.size
  refine ⟨g', c', rfl, ho, ?_, (h.chg.alloc o).trans (K' := fun i => i = g) (Chg.of_gr hg (fun k hk => .inl (by simpa [Value.ownBlock] using hk.symm))) (fun i hi e => ?_)⟩
  · rcases hm with e | e
    · simp [Value.ownBlock] at e
      omega
    · simp [Value.ownBlock] at e
      omega
  · have e' : i = g := e
    show i = g0
    omega
end
theorem keepF3 {W w : World} {a0 a1 a2 : Addr} {v0 v1 v2 : Value} (hb : Below W.heap.size W w) (h : W.cell? a0 = some v0 ∧ W.cell? a1 = some v1 ∧ W.cell? a2 = some v2) : w.cell? a0 = some v0 ∧ w.cell? a1 = some v1 ∧ w.cell? a2 = some v2 :=
  ⟨keepC hb h.1, keepC hb h.2.1, keepC hb h.2.2⟩
theorem allocF3 {W : World} {a0 a1 a2 : Addr} {v0 v1 v2 : Value} {o : Obj} (h : W.cell? a0 = some v0 ∧ W.cell? a1 = some v1 ∧ W.cell? a2 = some v2) : (W.alloc o).cell? a0 = some v0 ∧ (W.alloc o).cell? a1 = some v1 ∧ (W.alloc o).cell? a2 = some v2 :=
  keepF3 (below1 W o) h
set_option maxHeartbeats 2000000 in
set_option maxRecDepth 20000 in
theorem rfacs_any {w : World} {ao : Option Addr} {l : List Ac} {c : Nat} {cf : Cf} (hA : AcsAt w ao l) (hus : UsOk l) (hn : l.length * 48 ≤ 140737488355328) :
    Calls Tryz.prog 11 #[cfV cf, .slice ao l.length c] w (REf w (lenE cf l) (firstN (facV l (wV l (flZ cf))) (lenE cf l))) := by
  obtain ⟨i3, hi3, hz30, hz31, hz32⟩ := info_parts Tryz.infWE
  have hS := St.new w cf
  obtain ⟨w1, hw1⟩ : ∃ w1, w.alloc (.cells #[.int .i64 cf.nodes, .int .i64 cf.queue, .int .i64 cf.limit, .int .i64 cf.age, .int .i64 cf.fair, .int .i64 cf.size, .int .i64 cf.period, .int .i64 cf.half] 23) = w1 := ⟨_, rfl⟩
  rw [hw1] at hS
  have hr := empty_row w1 0 (Nat.zero_le _)
  have b2 := below1 w1 (.cells #[] 30)
  have hz2 : w1.heap.size < (w1.alloc (.cells #[] 30)).heap.size := by simp
  obtain ⟨w2, hw2⟩ : ∃ w2, w1.alloc (.cells #[] 30) = w2 := ⟨_, rfl⟩
  rw [hw2] at hr b2 hz2
  have S2 := keepW hS b2
  have c1 := reffs_any (c := c) (cf := cf) (hA.below S2.bel) hus hn
  have HSH : Hid (∀ x, Below w.heap.size w x → Calls Tryz.prog 6 #[.slice ao l.length c] x (RSh x (lenS l) (firstN (numV l) (lenS l)) (firstN (denV l) (lenS l)))) := fun x hx => rshs_any (hA.below hx) hn
  have HB1 : Hid (Below w.heap.size w w1) := hS.bel
  have HB2 : Hid (Below w.heap.size w w2) := S2.bel
  have HR2 : Hid (w2.ownsRow 0 30 1 (.slice (some ⟨w1.heap.size, 0, none⟩) 0 0) 0 []) := hr
  have HZ2 : Hid (w1.heap.size < w2.heap.size) := hz2
  obtain ⟨s0, s1, s2, s3, s4, s5, s6, s7, _, _⟩ := S2
  clear hS hr b2 hz2
  by_cases hOK : loadE l = 0 ∧ chkZ cf = 0
  · have hwu : Wu l := wf_load hOK.1
    have hl := hwu.len
    have hW := wOk hwu hus (fl_word hOK.2)
    obtain ⟨W, hWW⟩ : ∃ W, wV l (flZ cf) = W := ⟨_, rfl⟩
    rw [show lenE cf l = l.length from if_pos hOK] at c1 ⊢
    rw [show lenS l = l.length from if_pos hOK.1] at HSH
    rw [hWW] at hW c1 ⊢
    have HW : Hid (WOk l W) := hW
    have HWU : Hid (Wu l) := hwu
    have HUS : Hid (UsOk l) := hus
    obtain ⟨L, hL⟩ : ∃ L, l.length = L := ⟨_, rfl⟩
    have HL : Hid (l.length = L) := hL
    rw [hL] at c1 HSH hl ⊢
    unfold cfV at *
    clear hA hn hOK hwu hL hW hWW hus
    go_enter Tryz.func11, Tryz.ntmps11
    go_wp2_with fail
    refine c1.mono ?_
    rintro e w3 ⟨ge, ce, rfl, hrE, hge, hb3⟩
    have B3 : Below w.heap.size w w3 := HB2.out.trans (hb3.mono HB2.out.size)
    have c2 := HSH.out w3 B3
    have HR3 : Hid (w3.ownsRow 0 30 1 (.slice (some ⟨w1.heap.size, 0, none⟩) 0 0) 0 []) := own_below HR2.out hb3
    have HE3 : Hid (Wds w3 ge (efV l W) L ∧ w1.heap.size ≠ ge) := ⟨wds_own hrE, by have := HZ2.out; omega⟩
    have HZ3 : Hid (w1.heap.size < w3.heap.size) := Nat.lt_of_lt_of_le HZ2.out hb3.size
    have HB3 : Hid (Below w.heap.size w w3) := B3
    clear hb3 c1 hrE hge B3 s0 s1 s2 s3 s4 s5 s6 s7 HR2 HB2 HSH HZ2
    go_wp2_with fail
    refine c2.mono ?_
    rintro e w4 ⟨ga, ca, gb, cb, rfl, hTW⟩
    have HTW : Hid (Wds w4 ga (numV l) L ∧ Wds w4 gb (denV l) L ∧ w1.heap.size ≠ ga ∧ w1.heap.size ≠ gb) := ⟨wds_own hTW.a, wds_own hTW.b, by have := HZ3.out; have := hTW.la; omega, by have := HZ3.out; have := hTW.lb; omega⟩
    have HE4 : Hid (Wds w4 ge (efV l W) L ∧ w1.heap.size ≠ ge) := ⟨HE3.out.1.below hTW.bl, HE3.out.2⟩
    have HR4 : Hid (OneR w4 w4 w1.heap.size w1.heap.size 0 0 []) := ⟨own_below HR3.out hTW.bl, .inl rfl, Chg.refl _ _⟩
    have HB4 : Hid (Below w.heap.size w w4) := HB3.out.trans (hTW.bl.mono HB3.out.size)
    clear hTW HE3 HR3 HB3 c2
    go_wp2
    go_loopg [5, 9] L (fun gk va x wr => ∃ j g c : Nat, j + gk = L ∧ va = .slice (some ⟨g, 0, none⟩) j c ∧ x = .int .i64 j ∧ OneR w4 wr w1.heap.size g c j (firstN (facV l W) j))
    case atStart => exact ⟨0, _, _, by omega, rfl, rfl, HR4.out⟩
    case round =>
      obtain ⟨j, g, cg, hj, rfl, rfl, hR⟩ := hrel
      by_cases hlt : j < L
      · have hlt' : (j : Int) < L := by omega
        have hjl : j < l.length := by rw [HL.out]; exact hlt
        have e1 := hR.chg.cell (HE4.out.1 j hlt) (Ne.symm HE4.out.2)
        have n1 := hR.chg.cell (HTW.out.1 j hlt) (Ne.symm HTW.out.2.2.1)
        have d1 := hR.chg.cell (HTW.out.2.1 j hlt) (Ne.symm HTW.out.2.2.2)
        have HQ : Hid (∀ x g c n xs, OneR w4 x w1.heap.size g c n xs → x.cell? ⟨ge, j, none⟩ = some (.int .u64 (efV l W j)) ∧ x.cell? ⟨ga, j, none⟩ = some (.int .u64 (numV l j)) ∧ x.cell? ⟨gb, j, none⟩ = some (.int .u64 (denV l j))) := fun x g c n xs h => ⟨h.chg.cell (HE4.out.1 j hlt) (Ne.symm HE4.out.2), h.chg.cell (HTW.out.1 j hlt) (Ne.symm HTW.out.2.2.1), h.chg.cell (HTW.out.2.1 j hlt) (Ne.symm HTW.out.2.2.2)⟩
        obtain ⟨q1, q2, q3, q4⟩ := den_word HWU.out hjl
        obtain ⟨u1, u2, u3⟩ := ef_word HWU.out HUS.out HW.out hjl
        have cP := rxp_any (e := efV l W j) (n := numV l j) (d := denV l j) (by omega) u3 q1 q2 q3 q4
        have hpw := pow_word (e := efV l W j) (by omega) q1 q2 q4
        have cH : ∀ x, Calls Tryz.prog 34 #[.int .u64 (powV (efV l W j) (numV l j) (denV l j))] x fun r w' => r = .returned (.int .u64 (facV l W j)) ∧ Below x.heap.size x w' := fun x => by
          have := rhalf_any (powV (efV l W j) (numV l j) (denV l j)).toNat (by have := hpw.2; have := hpw.1; omega) x
          rw [Int.toNat_of_nonneg hpw.1] at this
          exact this
        have HR : Hid (OneR w4 wr w1.heap.size g cg j (firstN (facV l W) j)) := hR
        have HF : Hid (firstN (facV l W) (j + 1) = firstN (facV l W) j ++ [facV l W j]) := firstN_succ _ _
        clear hR q1 q2 q3 q4 u1 u2 u3 hpw hjl
        generalize powV (efV l W j) (numV l j) (denV l j) = PW at *
        generalize numV l j = NJ at *
        generalize denV l j = DJ at *
        generalize efV l W j = EJ at *
        generalize facV l W j = FJ at *
        generalize firstN (facV l W) j = XS at *
        have HS : Hid (wr.drew.cell? ⟨ge, j, none⟩ = some (.int .u64 EJ) ∧ wr.drew.cell? ⟨ga, j, none⟩ = some (.int .u64 NJ) ∧ wr.drew.cell? ⟨gb, j, none⟩ = some (.int .u64 DJ)) := ⟨e1, n1, d1⟩
        clear e1 n1 d1
        go_upto_region 7 with fail
        go_region_held3 (fun x => x.cell? ⟨ge, j, none⟩ = some (.int .u64 EJ) ∧ x.cell? ⟨ga, j, none⟩ = some (.int .u64 NJ) ∧ x.cell? ⟨gb, j, none⟩ = some (.int .u64 DJ)) (first | exact HS.out | exact keepF3 (by assumption) (by assumption) | exact allocF3 (by assumption) | exact HQ.out _ _ _ _ _ R6)
          (first
          | (go_at_call 35; refine (cP _).mono ?_; rintro e x ⟨rfl, hx⟩; have BX : Hid (Below wr.heap.size wr x) := (drew_below wr).trans hx)
          | (go_at_call 34; refine (cH _).mono ?_; rintro e y ⟨rfl, hy⟩; have BY : Hid (Below wr.heap.size wr y) := BX.out.trans (hy.mono BX.out.size); have ry := (HR.out.below BY.out).row)
          | (refine step_app rfl (.tmp 25) (.tmp 40) 33 rfl 30 i3 _ 1 8 Tryz.underlying33 hi3 hz30 hz31 hz32 rfl (by decide) (.slice (some ⟨g, 0, none⟩) j cg) j (wdC XS) (by simp [Act.eval]) (ry.alloc _) ⟨y.heap.size, 0, none⟩ 1 1 [.int .u64 FJ] (by simp [Act.eval]) rfl (cell_one_new _ _ _) (by intro u hu; simp at hu; subst hu; rfl) (by unfold maxLen; omega) (by omega) ?_; intro v' w6 r1 g1 r4; obtain ⟨g', c', rfl, R6⟩ := OneR.next (HR.out.below BY.out) r1 g1 r4))
        all_goals
          have HR6 : Hid _ := R6
          clear HS hx hy ry cP cH r1 g1 r4 R6
          go_wp2
          go_roundg (L - (j + 1))
          case measure => omega
          case rel => exact ⟨j + 1, _, _, by omega, rfl, rfl, by rw [HF.out]; exact HR6.out⟩
      · obtain rfl : j = L := by omega
        have HR : Hid (OneR w4 wr w1.heap.size g cg j (firstN (facV l W) j)) := hR
        clear hR
        go_wp2
        go_ret
        exact ⟨g, cg, rfl, HR.out.row, by have := HB1.out.size; have := HB4.out.size; have := HR.out.lie; omega, HR.out.chg.below HB4.out HB4.out.size (fun i e => by have := HB1.out.size; omega)⟩
  · have hl0 : lenE cf l = 0 := if_neg hOK
    rw [hl0] at c1 ⊢
    obtain ⟨N, hN⟩ : ∃ N, lenS l = N := ⟨_, rfl⟩
    rw [hN] at HSH
    generalize l.length = L at *
    unfold cfV at *
    clear hA hn hOK hus hl0 hN
    go_enter Tryz.func11, Tryz.ntmps11
    go_wp2_with fail
    refine c1.mono ?_
    rintro e w3 ⟨ge, ce, rfl, hrE, hge, hb3⟩
    have B3 : Below w.heap.size w w3 := HB2.out.trans (hb3.mono HB2.out.size)
    have c2 := HSH.out w3 B3
    have HR3 : Hid (w3.ownsRow 0 30 1 (.slice (some ⟨w1.heap.size, 0, none⟩) 0 0) 0 []) := own_below HR2.out hb3
    have HB3 : Hid (Below w.heap.size w w3) := B3
    clear hb3 c1 hrE hge B3 s0 s1 s2 s3 s4 s5 s6 s7 HR2 HB2 HSH HZ2
    go_wp2_with fail
    refine c2.mono ?_
    rintro e w4 ⟨ga, ca, gb, cb, rfl, hTW⟩
    have HR4 : Hid (w4.ownsRow 0 30 1 (.slice (some ⟨w1.heap.size, 0, none⟩) 0 0) 0 []) := own_below HR3.out hTW.bl
    have HB4 : Hid (Below w.heap.size w w4) := HB3.out.trans (hTW.bl.mono HB3.out.size)
    clear hTW HR3 HB3 c2
    go_wp2
    refine wp_loop_rounds 1 ?_
    rw [rounds_succ]
    go_wp2
    go_ret
    exact ⟨_, _, rfl, HR4.out, HB1.out.size, HB4.out⟩
end Go.Proofs.YtioldijdmefljaaGreatDoor
