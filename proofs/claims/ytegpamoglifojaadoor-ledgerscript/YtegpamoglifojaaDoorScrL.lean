/-
  THE STATEMENT LedgerScript: the walk.
-/
import Derived.Test.YtegpamoglifojaaDoorScR
namespace Go.Proofs.YtegpamoglifojaaDoor
open Go.RowKit Wd Ld Cg Lg

set_option maxRecDepth 20000 in
set_option maxHeartbeats 6000000 in
theorem script_ok {w : World} (hT : Tab w) {uo ao so : Option Addr} {us : List Int} {xs : List Ax} {ss : List Int} {cu ca cs : Nat} (hU : WdsAt w uo us) (hUw : Wds us) (hun : uo = none → us.length = 0 ∧ cu = 0) (hX : AxsAt w ao xs) (hxl : xs.length * 32 ≤ 140737488351232) (hSS : IntsAt w so ss) (hsl : ss.length ≤ 140737488355328)
    (c : Cf) (hc : chkZ c = 0) (h64 : us.length ≤ 64) :
    Calls Tryd.prog 3 #[cfV c, .slice uo us.length cu, .slice ao xs.length ca, .slice so ss.length cs] w fun e w' => e = .returned (.bool true) ∧ Below w.heap.size w w' := by
  have rng := chk_rng hc
  have hcn : c.nodes < 9223372036854775808 := by have := rng.n1; omega
  have hfw := fac_word c
  have HFW0 : Hid (Word (facZ c)) := hfw
  have HNEW : Hid (∀ {ao : Option Addr} {cp : Nat} {w : World}, Tab w → WdsAt w ao us → (ao = none → us.length = 0 ∧ cp = 0) → Calls Tryd.prog 9 #[cfV c, .slice ao us.length cp] w fun e w' => ∃ d v, e = .returned (.tuple #[.pointer (some ⟨d, 0, none⟩), .int .i64 0]) ∧ Led c.nodes (facZ c) w.heap.size w' d v us ∧ Below w.heap.size w w') := fun hT hA hn => new_led hc hT hA hUw hn h64
  have HRNEW : Hid (∀ {ao : Option Addr} {cp : Nat} {w : World}, WdsAt w ao us → (ao = none → us.length = 0 ∧ cp = 0) → Calls Tryd.prog 10 #[cfV c, .slice ao us.length cp] w fun e w' => ∃ d v, e = .returned (.tuple #[.pointer (some ⟨d, 0, none⟩), .int .i64 0]) ∧ RLed c (facZ c) w.heap.size w' d v us ∧ Below w.heap.size w w') := fun hA hn => rnew_led hc hA hUw hn h64
  have HSS : Hid (∀ W, Below w.heap.size w W → IntsAt W so ss) := fun W hb => hSS.below hb
  have HXS : Hid (∀ W, Below w.heap.size w W → AxsAt W ao xs) := fun W hb => hX.below hb
  have HUNN : Hid (uo = none → us.length = 0 ∧ cu = 0) := hun
  have HHT : Hid (Tab w) := hT
  generalize facZ c = F at HFW0 HNEW HRNEW hfw
  have HFW : Hid (Word F) := hfw
  clear hfw HFW0 hSS hX rng hUw
  obtain ⟨i28, hi0, hz0, hz1, hz2⟩ := info_parts Tryd.inf28
  unfold cfV at *
  have hS := St.new w c
  obtain ⟨q, hq⟩ : ∃ q, us.length = q := ⟨_, rfl⟩
  rw [hq] at hun h64 ⊢
  have HQ : Hid (us.length = q) := hq
  have HUN : Hid (uo = none → q = 0 ∧ cu = 0) := hun
  have HFL : Hid ((u64s us).length = q * 1) := show (u64s us).length = q * 1 by rw [u64s_len]; omega
  have HUL2 : Hid (((q + 1) + (q + 1) / 4 + 192) * 8 ≤ 281474976710656) := show ((q + 1) + (q + 1) / 4 + 192) * 8 ≤ 281474976710656 by omega
  clear hq hun
  go_enter Tryd.func3, Tryd.ntmps3
  go_wp2_with fail
  refine (shown_any _ (Tab.below hS.bel hT)).mono ?_
  rintro e w1 ⟨rfl, b1⟩
  replace hS := keepW hS b1
  have hu1 := hU.below hS.bel
  have HU1 : Hid (WdsAt w1 uo us) := hu1
  have HS1 : Hid (St w w.heap.size c w1) := hS
  have hsz := hS.bel.size
  clear b1 hS hu1
  go_wp2_with (first
    | (at_builtin; refine wpList_append_any rfl (.const (.slice none 0 0)) (.tmp 23) 24 rfl w1.heap.size 28 i28 _ 1 8 Tryd.underlying24 hi0 hz0 hz1 hz2 rfl (by decide) (.slice none 0 0) 0 [] rfl (World.ownsRow_nil _ _ _ _) uo q cu (u64s us) rfl HUN.out HFL.out (WdsAt.cells HU1.out) (u64s_one us) (Nat.le_trans (m := 35184372088832) (by omega) (by decide)) (by omega) (Nat.le_refl _) ?_; intro v2 w2 o2 g2; rw [Nat.zero_add, List.nil_append] at o2; have b2 : Below w1.heap.size w1 w2 := (Below.refl _ w1).grown g2 (Nat.le_refl _) (fun k e => by simp [Value.ownBlock] at e); have z2 := b2.size)
    | (at_builtin; refine wpList_append_own_wide _ rfl (.tmp 24) (.tmp 25) 24 rfl w1.heap.size 28 i28 _ 1 8 Tryd.underlying24 hi0 hz0 hz1 hz2 rfl (by decide) v2 q (u64s us) rfl (o2.alloc _) ⟨w2.heap.size, 0, none⟩ 1 1 [.int .u64 7] rfl rfl (cell_one_new _ _ _) (fun u hu => by simp at hu; subst hu; rfl) (Nat.le_trans (m := 35184372088832) (by omega) (by decide)) HUL2.out (by simp; omega) ?_; intro v3 w3 o3 g3 _; have b3 : Below w1.heap.size w1 w3 := (b2.alloc z2 _).grown g3 (by simp; omega) (fun k e => (o2.lt k e).1)))
  obtain ⟨g, c3, e3, l3⟩ := own_some o3
  subst e3
  have S3 := keepW HS1.out b3
  have z3 := b3.size
  have Hb3 : Hid (Below w1.heap.size w1 w3) := b3
  have HO3 : Hid (w3.ownsRow w1.heap.size 28 1 (.slice (some ⟨g, 0, none⟩) (q + 1) c3) (q + 1) (u64s us ++ [.int .u64 7])) := o3
  have hg1 := (o3.lt g rfl).1
  have hg3 := (o3.lt g rfl).2
  have S3d : Hid (St w w.heap.size c w3.drew) := keepW S3 (drew_below w3)
  have hUo : WdsAt w3.drew (some ⟨g, 0, none⟩) us := (WdsAt.front HQ.out o3).below (drew_below w3)
  have q0 : (0 : Int) ≤ (q : Int) := by omega
  have q1 : (q : Int) ≤ c3 := by omega
  clear o3 g3 b3 b2 o2 g2 S3
  have hn4 := HNEW.out (cp := c3) (Tab.below S3d.out.bel HHT.out) hUo (fun h => by cases h)
  rw [HQ.out] at hn4
  go_region_held3 (fun w' => w'.cell? ⟨w.heap.size, 0, none⟩ = some (.int .i64 c.nodes) ∧ w'.cell? ⟨w.heap.size, 1, none⟩ = some (.int .i64 c.queue) ∧ w'.cell? ⟨w.heap.size, 2, none⟩ = some (.int .i64 c.limit) ∧ w'.cell? ⟨w.heap.size, 3, none⟩ = some (.int .i64 c.age) ∧ w'.cell? ⟨w.heap.size, 4, none⟩ = some (.int .i64 c.fair) ∧ w'.cell? ⟨w.heap.size, 5, none⟩ = some (.int .i64 c.size) ∧ w'.cell? ⟨w.heap.size, 6, none⟩ = some (.int .i64 c.period) ∧ w'.cell? ⟨w.heap.size, 7, none⟩ = some (.int .i64 c.half))
    (first | exact St.eight S3d.out | exact St.eight S4)
    (first | (go_at_call 9; refine hn4.mono ?_; rintro e w4 ⟨t, tv, rfl, P4, b4⟩; have S4 := keepW S3d.out b4))
  all_goals
    have B34 : Below w3.heap.size w3 w4 := (drew_below w3).trans b4
    have HU4 : Hid (WdsAt w4 (some ⟨g, 0, none⟩) us) := hUo.below b4
    have hV4 : WdsAt w4 uo us := (HU1.out.below Hb3.out).below B34
    have hn5 := HRNEW.out (cp := cu) hV4 HUNN.out
    rw [HQ.out] at hn5
    have HV4 : Hid (WdsAt w4 uo us) := hV4
    have O4 := row_kept HO3.out B34
    have HO4 : Hid (w4.ownsRow w1.heap.size 28 1 (.slice (some ⟨g, 0, none⟩) (q + 1) c3) (q + 1) (u64s us ++ [.int .u64 7])) := O4
    have y7 : w4.cell? ⟨g, q, none⟩ = some (.int .u64 7) := by
      rw [O4.cellAt q (by omega), List.getElem?_append_right (by rw [u64s_len, HQ.out]; omega), u64s_len, HQ.out, Nat.sub_self]
      rfl
    obtain ⟨s0, s1, s2, s3, s4, s5, s6, s7, _⟩ := id S4
    have HS4 : Hid (St w w.heap.size c w4) := S4
    have HP4 : Hid (Led c.nodes F w3.heap.size w4 t tv us) := P4
    clear S4 b4 B34 O4 hUo hV4 P4 hn4
    go_wp2_with fail
    refine hn5.mono ?_
    rintro e w5 ⟨d, dv, rfl, R5, b5⟩
    have y75 := cellB b5 y7
    have hus := usages_any (c := c3) (c' := cu) (HU4.out.below b5) (HV4.out.below b5) (by rw [HQ.out]; omega)
    rw [HQ.out] at hus
    have HB5 : Hid (Below w.heap.size w w5) := (keepW HS4.out b5).bel
    have z5 := b5.size
    have HAP : Hid (Apt t tv d dv) := HP4.out.apt R5 (Nat.le_refl _)
    have HP5 : Hid (Led c.nodes F w3.heap.size w5 t tv us) := HP4.out.below b5
    have HR5 : Hid (RLed c F w3.heap.size w5 d dv us) := R5.base (by have := HP4.out.lk_lt t (.inl rfl); have := HP4.out.lo; omega)
    have O5 := row_kept HO4.out b5
    have HO5 : Hid (w5.ownsRow w1.heap.size 28 1 (.slice (some ⟨g, 0, none⟩) (q + 1) c3) (q + 1) (u64s us ++ [.int .u64 7])) := O5
    clear s0 s1 s2 s3 s4 s5 s6 s7 y7 b5 R5 O5 HP4 HO4 hn5
    go_wp2_with fail
    refine hus.mono ?_
    rintro e w6 ⟨rfl, b6⟩
    have y76 := cellB b6 y75
    have HB6 : Hid (Below w.heap.size w w6) := HB5.out.trans (b6.mono HB5.out.size)
    have HP6 : Hid (Led c.nodes F w3.heap.size w6 t tv us) := HP5.out.below b6
    have HR6 : Hid (RLed c F w3.heap.size w6 d dv us) := HR5.out.below b6
    have HE6 : Hid (RowE w6 w1.heap.size (.slice (some ⟨g, 0, none⟩) (q + 1) c3) (q + 1)) := show RowE w6 w1.heap.size (.slice (some ⟨g, 0, none⟩) (q + 1) c3) (q + 1) from ⟨_, row_kept HO5.out b6⟩
    clear y75 b6 hus HP5 HR5 HO5 HB5
    obtain ⟨Q1, hQ1⟩ : ∃ Q1, q + 1 = Q1 := ⟨_, rfl⟩
    rw [hQ1] at HE6
    have hQI : (q : Int) + 1 = Q1 := by omega
    go_wp2_with fail
    clear y76
    go_loopg [73] Q1 (fun gk pj wr => ∃ i : Nat, i + gk = Q1 ∧ pj = .int .i64 i ∧ RowE wr w1.heap.size (.slice (some ⟨g, 0, none⟩) Q1 c3) Q1 ∧ Chg (fun k => k = g) w6 wr)
    case atStart => exact ⟨0, by omega, rfl, HE6.out, Chg.refl _ _⟩
    case round =>
      obtain ⟨i, hi, rfl, hE, hC⟩ := hrel
      by_cases hlt : i < Q1
      · have hlt' : (i : Int) < Q1 := by omega
        obtain ⟨_, _, ⟨ov, hcell⟩, hfz⟩ := hE.at hlt
        have HE2 : Hid (RowE (wr.setCell ⟨g, i, none⟩ (.int .u64 5)) w1.heap.size (.slice (some ⟨g, 0, none⟩) Q1 c3) Q1) := hE.set i _
        have HC2 : Hid (Chg (fun k => k = g) w6 (wr.setCell ⟨g, i, none⟩ (.int .u64 5))) := hC.setCell ⟨g, i, none⟩ _ (.inl rfl)
        clear hE hC
        go_wp2
        go_roundg (Q1 - (i + 1))
        case measure => omega
        case rel => exact ⟨i + 1, by omega, rfl, HE2.out, HC2.out⟩
      · obtain rfl : i = Q1 := by omega
        have Pw := HP6.out.chg hC (fun k hk e => by have := HP6.out.lk_lo k hk; omega)
        have Rw := HR6.out.chg hC (fun k hk e => by have := HR6.out.lk_lo k hk; omega)
        have hBw : Below w.heap.size w wr := hC.below HB6.out HB6.out.size (fun k e => by omega)
        have h0 := Pw.base (B' := w.heap.size) (by omega)
        have h1 := Rw.base (B' := w.heap.size) (by omega)
        obtain ⟨own0, _, hF0⟩ := fam_start h0 h1 HAP.out (by have := HQ.out; omega) hBw.size
        have hb0 : Below w.heap.size w ((wr.alloc (.cells #[.pointer (some ⟨t, 0, none⟩)] 29)).alloc (.cells #[.pointer (some ⟨d, 0, none⟩)] 33)) := (hBw.alloc hBw.size _).alloc (by have := hBw.size; simp; omega) _
        have F0 : Hid (Fam c F w.heap.size 1 own0 (fun _ => ⟨t, tv, d, dv, us⟩) (.slice (some ⟨wr.heap.size, 0, none⟩) 1 1) (.slice (some ⟨wr.heap.size + 1, 0, none⟩) 1 1) ((wr.alloc (.cells #[.pointer (some ⟨t, 0, none⟩)] 29)).alloc (.cells #[.pointer (some ⟨d, 0, none⟩)] 33))) := hF0
        have B0 : Hid (Below w.heap.size w ((wr.alloc (.cells #[.pointer (some ⟨t, 0, none⟩)] 29)).alloc (.cells #[.pointer (some ⟨d, 0, none⟩)] 33))) := hb0
        clear hE hC Pw Rw hBw h0 h1 hF0 hb0 HP6 HR6 HB6 HAP HE6 HU4 HV4 hQI hQ1
        obtain ⟨iA, hiA, hzA0, hzA1, hzA2⟩ := info_parts Tryd.inf29
        obtain ⟨iB, hiB, hzB0, hzB1, hzB2⟩ := info_parts Tryd.inf33
        obtain ⟨n, hnq⟩ : ∃ n, xs.length = n := ⟨_, rfl⟩
        rw [hnq] at hxl ⊢
        have HN : Hid (xs.length = n) := hnq
        clear hnq
        go_wp2_with fail
        go_loopg [15, 16, 86] n (fun gk vA vB cc wr => ∃ (k N : Nat) (own : Nat → Lb) (f : Nat → Pt), k + gk = n ∧ cc = .int .i64 k ∧ 1 ≤ N ∧ N ≤ 5 ∧ Fam c F w.heap.size N own f vA vB wr ∧ Below w.heap.size w wr)
        case atStart => exact ⟨0, 1, own0, _, by omega, rfl, by omega, by omega, F0.out, B0.out⟩
        case round =>
          clear F0 B0
          obtain ⟨k, N, own, f, hk, rfl, hN1, hN5, hF, hbw⟩ := hrel
          by_cases hlt : k < n
          · have hlt' : (k : Int) < n := by omega
            obtain ⟨x, hx⟩ : ∃ x, xs[k]? = some x := ⟨_, List.getElem?_eq_getElem (by rw [HN.out]; omega)⟩
            obtain ⟨gx, ox, hgx, hcx⟩ := HXS.out _ hbw
            rw [HN.out] at hgx
            obtain rfl := hgx (by omega)
            obtain ⟨x0, x1, x2, x3⟩ := hcx k x hx
            obtain ⟨bA, cA, bB, cB, eA, eB⟩ := hF.shape hN1
            subst eA eB
            obtain ⟨wn, hwn⟩ : ∃ wn, wr.alloc (.cells #[.int .i64 x.kd, .int .i64 x.wh, .int .i64 x.ac, .int .i64 x.nd] 40) = wn := ⟨_, rfl⟩
            have bwn : Below wr.heap.size wr wn := by rw [← hwn]; exact (Below.refl _ _).alloc (Nat.le_refl _) _
            have hCp : AxB wr.heap.size x wn := by rw [← hwn]; exact heap_alloc_new _ _
            obtain ⟨own1, ho1⟩ : ∃ own1 : Nat → Lb, own1 = fun k => if k < wr.heap.size then own k else .x := ⟨_, rfl⟩
            have hFn : Fam c F w.heap.size N own1 f (.slice (some ⟨bA, 0, none⟩) N cA) (.slice (some ⟨bB, 0, none⟩) N cB) wn := (hF.relb (fun k hk => by rw [ho1]; simp [hk])).below bwn
            have HX : Hid (own1 wr.heap.size = .x) := show own1 wr.heap.size = .x by rw [ho1]; simp
            have hbn : Below w.heap.size w wn := hbw.trans (bwn.mono hbw.size)
            have y0 := hCp.c0
            have y1 := hCp.c1
            obtain ⟨ha0, ha1⟩ := amgV_in x.wh (n := (N : Int)) (by omega)
            obtain ⟨i, hi⟩ : ∃ i : Nat, amgV x.wh N = i := ⟨(amgV x.wh N).toNat, by omega⟩
            rw [hi] at ha0 ha1
            have hiN : i < N := by omega
            have hw1 := among_any x.wh N wn (by omega) (by omega)
            rw [hi] at hw1
            have hw2 := among_any x.kd 4 wn (by omega) (by omega)
            obtain ⟨hk0, hk4⟩ := amgV_in x.kd (n := 4) (by omega)
            have FN : Hid (Fam c F w.heap.size N own1 f (.slice (some ⟨bA, 0, none⟩) N cA) (.slice (some ⟨bB, 0, none⟩) N cB) wn) := hFn
            have CP : Hid (AxB wr.heap.size x wn) := hCp
            have BN : Hid (Below w.heap.size w wn) := hbn
            have hbx : wr.heap.size < wn.heap.size := (Array.getElem?_eq_some_iff.1 hCp).1
            clear hF hbw hFn hCp hbn bwn hi ho1 hx hcx hgx
            by_cases hcl : amgV x.kd 4 = 3 ∧ N < 5
            · obtain ⟨h4, h6⟩ := hcl
              have h6' : (N : Int) < 5 := by omega
              rw [h4] at hw2
              have hiN1 : i < N + 1 := by omega
              have hp0 := FN.out.ok i hiN
              obtain ⟨pt, hpt⟩ : ∃ pt, (f i).t = pt := ⟨_, rfl⟩
              obtain ⟨pd, hpd⟩ : ∃ pd, (f i).d = pd := ⟨_, rfl⟩
              obtain ⟨u5, u6⟩ := FN.out.cells hiN hpt hpd
              have hc5 := clone_led hp0.tr
              rw [hpt] at hc5
              have HPT : Hid _ := hpt
              have HPD : Hid _ := hpd
              clear hp0 hpt hpd hk0 hk4 h4
              go_wp2_with (first
                | (go_at_call_of 12 (Value.int IntKind.i64 x.wh); refine hw1.mono ?_; rintro e w5 ⟨rfl, rfl⟩)
                | (go_at_call_of 12 (Value.int IntKind.i64 x.kd); refine hw2.mono ?_; rintro e w5 ⟨rfl, rfl⟩)
                | (go_at_call 13; refine hc5.mono ?_; rintro e w5 ⟨t', tv', rfl, r5, b5⟩; have ra5 := (Fam.below FN.out b5).rowA; have s5 := Nat.le_trans BN.out.size b5.size)
                | (at_builtin; refine wpList_append_own_at _ rfl (.tmp 104) (.tmp 110) 37 rfl w.heap.size 29 iA (.pointer none) 1 8 Tryd.underlying37 hiA hzA0 hzA1 hzA2 rfl (by decide) _ _ _ rfl (ra5.alloc _) ⟨w5.heap.size, 0, none⟩ 1 1 [.pointer (some ⟨t', 0, none⟩)] rfl rfl (cell_one_new _ _ _) (by intro u hu; simp at hu; subst hu; rfl) (Nat.le_trans (m := 35184372088832) (by omega) (by decide)) (by omega) (by simp; omega) ?_; intro vA' w6 o6 hg6 _ hat6; obtain ⟨bA', cA', e6, l6⟩ := own_some o6; subst e6; obtain ⟨ok6, rb6⟩ := Fam.half FN.out b5 hg6; have u7 : w6.cell? ⟨bB, i, none⟩ = some (.pointer (some ⟨pd, 0, none⟩)) := (by rw [rb6.cellAt i (by omega)]; simp [ptrD, hiN, HPD.out]); have hc7 := rclone_led (ok6 i hiN).rf; rw [HPD.out] at hc7)
                | (go_at_call 14; refine hc7.mono ?_; rintro e w7 ⟨d', dv', rfl, q7, b7⟩; have rb7 : w7.ownsRow w.heap.size 33 1 _ N _ := row_kept rb6 b7; have c6 := grown_row hg6; have s6 := c6.size; have s7 := b7.size)
                | (at_builtin; refine wpList_append_own_at _ rfl (.tmp 112) (.tmp 118) 38 rfl w.heap.size 33 iB (.pointer none) 1 8 Tryd.underlying38 hiB hzB0 hzB1 hzB2 rfl (by decide) _ _ _ rfl (rb7.alloc _) ⟨w7.heap.size, 0, none⟩ 1 1 [.pointer (some ⟨d', 0, none⟩)] rfl rfl (cell_one_new _ _ _) (by intro u hu; simp at hu; subst hu; rfl) (Nat.le_trans (m := 35184372088832) (by omega) (by decide)) (by omega) (by simp; omega) ?_; intro vB' w8 o8 hg8 _ hat8; obtain ⟨bB', cB', e8, l8⟩ := own_some o8; subst e8))
              obtain ⟨own2, hoo, F8'⟩ := Fam.cloned FN.out BN.out.size hiN r5 b5 o6 hg6 hat6 q7 b7 o8 hg8 hat8
              have c8 := grown_row hg8
              have Cp5 := AxB.below CP.out b5
              have Cp6 := Cp5.kept c6 (fun h => by have z := FN.out.la _ h; rw [HX.out] at z; cases z)
              have Cp7 := Cp6.below b7
              have Cp8' := Cp7.kept c8 (fun h => by have z := FN.out.lb _ h; rw [HX.out] at z; cases z)
              have B5 : Below w.heap.size w w5 := BN.out.trans (b5.mono BN.out.size)
              have B6 : Below w.heap.size w w6 := c6.below B5 B5.size (fun j h => (ra5.lt j h).1)
              have B7' : Below w.heap.size w w7 := B6.trans (b7.mono B6.size)
              have B8' : Below w.heap.size w w8 := c8.below B7' B7'.size (fun j h => (rb7.lt j h).1)
              have HX2 : Hid (own2 wr.heap.size = .x) := (hoo _ hbx).trans HX.out
              obtain ⟨f', hf'⟩ : ∃ f' : Nat → Pt, f' = (fun j => if j = N then ⟨t', tv', d', dv', (f i).l⟩ else f j) := ⟨_, rfl⟩
              rw [← hf'] at F8'
              generalize hM : N + 1 = M at F8' hiN1 ⊢
              have hiM : (i : Int) < M := by omega
              have F8 : Hid (Fam c F w.heap.size M own2 f' (.slice (some ⟨bA', 0, none⟩) M cA') (.slice (some ⟨bB', 0, none⟩) M cB') w8) := F8'
              have Cp8H : Hid (AxB wr.heap.size x w8) := Cp8'
              have B8 : Hid (Below w.heap.size w w8) := B8'
              clear F8' Cp8' B8' B7' B6 B5 Cp7 Cp6 Cp5 c6 c8 q7 b7 o8 hg8 r5 b5 o6 hg6 ok6 rb6 rb7 ra5 hc7 hc5 u5 u6 u7 y0 y1 hw1 hw2 hat6 hat8 hoo hf' HPT HPD
              have hdr : Below w8.heap.size w8 w8.drew := drew_below w8
              have hFd := Fam.below F8.out hdr
              have hCd := AxB.below Cp8H.out hdr
              have hBd : Below w.heap.size w w8.drew := B8.out.trans (hdr.mono B8.out.size)
              obtain ⟨pt, hpt⟩ : ∃ pt, (f' i).t = pt := ⟨_, rfl⟩
              obtain ⟨pd, hpd⟩ : ∃ pd, (f' i).d = pd := ⟨_, rfl⟩
              have s0 := rds_of hFd hiN1 hpt hpd hCd
              have hact := act_fam hcn HFW.out hFd hBd.size hiN1 hpt hpd x
              unfold axV at hact
              have S0 : Hid (RdS wr.heap.size bA' bB' i pt pd x w8.drew) := s0
              have CD : Hid (AxB wr.heap.size x w8.drew) := hCd
              have BD : Hid (Below w.heap.size w w8.drew) := hBd
              clear hFd hCd hBd s0 hdr hpt hpd
              go_region_held3 (fun w' => w'.cell? ⟨wr.heap.size, 0, none⟩ = some (.int .i64 x.kd) ∧ w'.cell? ⟨wr.heap.size, 1, none⟩ = some (.int .i64 x.wh) ∧ w'.cell? ⟨wr.heap.size, 2, none⟩ = some (.int .i64 x.ac) ∧ w'.cell? ⟨wr.heap.size, 3, none⟩ = some (.int .i64 x.nd) ∧ w'.cell? ⟨bA', i, none⟩ = some (.pointer (some ⟨pt, 0, none⟩)) ∧ w'.cell? ⟨bB', i, none⟩ = some (.pointer (some ⟨pd, 0, none⟩))) (first | exact S0.out | exact S9 | exact S7)
                (first
                | (go_at_call 15; (refine hact.mono ?_; rintro e w7 ⟨rfl, own7, F7, f7, e7t, e7d, k7, b7⟩; have Cp7 := k7 _ _ HX2.out CD.out; have S7 : RdS wr.heap.size bA' bB' i pt pd x w7 := rds_of f7 hiN1 e7t e7d Cp7; have hsm := same_fam f7 hiN1 e7t e7d))
                | (go_at_call 16; (refine hsm.mono ?_; rintro e w9 ⟨rfl, b9⟩; have f9 := f7.below b9; have Cp9 := Cp7.below b9; have S9 : RdS wr.heap.size bA' bB' i pt pd x w9 := rds_of f9 hiN1 e7t e7d Cp9; have B9 := (BD.out.trans b7).trans (b9.mono (BD.out.trans b7).size); obtain ⟨U, hs17, hs18⟩ := sum_fam (cs := cs) f9 hiN1 e7t e7d (HSS.out w9 B9) hsl))
                | (go_at_call 17; (refine hs17.mono ?_; rintro e wq ⟨rfl, hwq⟩; rw [hwq]; clear hwq))
                | (go_at_call 18; (refine hs18.mono ?_; rintro e wq ⟨rfl, hwq⟩; rw [hwq]; clear hwq)))
              all_goals
                go_wp2
                go_roundg (n - (k + 1))
                case measure => omega
                case rel => exact ⟨k + 1, M, own7, F7, by omega, rfl, by omega, by omega, f9, B9⟩
            · have hgg : (amgV x.kd 4 = 3 ∧ ¬ N < 5) ∨ ¬ amgV x.kd 4 = 3 := by
                by_cases h4 : amgV x.kd 4 = 3
                · exact .inl ⟨h4, fun h => hcl ⟨h4, h⟩⟩
                · exact .inr h4
              obtain ⟨kk, hkk⟩ : ∃ kk, amgV x.kd 4 = kk := ⟨_, rfl⟩
              rw [hkk] at hw2 hgg
              clear hcl hkk hk0 hk4
              rcases hgg with ⟨h4, h6⟩ | h4
              · subst h4
                have h6' : ¬ (N : Int) < 5 := by omega
                go_wp2_with (first
                  | (go_at_call_of 12 (Value.int IntKind.i64 x.wh); refine hw1.mono ?_; rintro e w5 ⟨rfl, rfl⟩)
                  | (go_at_call_of 12 (Value.int IntKind.i64 x.kd); refine hw2.mono ?_; rintro e w5 ⟨rfl, rfl⟩))
                have hdr : Below wn.heap.size wn wn.drew := drew_below wn
                have hFd := Fam.below FN.out hdr
                have hCd := AxB.below CP.out hdr
                have hBd : Below w.heap.size w wn.drew := BN.out.trans (hdr.mono BN.out.size)
                obtain ⟨pt, hpt⟩ : ∃ pt, (f i).t = pt := ⟨_, rfl⟩
                obtain ⟨pd, hpd⟩ : ∃ pd, (f i).d = pd := ⟨_, rfl⟩
                have s0 := rds_of hFd hiN hpt hpd hCd
                have hact := act_fam hcn HFW.out hFd hBd.size hiN hpt hpd x
                unfold axV at hact
                have S0 : Hid (RdS wr.heap.size bA bB i pt pd x wn.drew) := s0
                have CD : Hid (AxB wr.heap.size x wn.drew) := hCd
                have BD : Hid (Below w.heap.size w wn.drew) := hBd
                clear hFd hCd hBd s0 hdr hpt hpd
                go_region_held3 (fun w' => w'.cell? ⟨wr.heap.size, 0, none⟩ = some (.int .i64 x.kd) ∧ w'.cell? ⟨wr.heap.size, 1, none⟩ = some (.int .i64 x.wh) ∧ w'.cell? ⟨wr.heap.size, 2, none⟩ = some (.int .i64 x.ac) ∧ w'.cell? ⟨wr.heap.size, 3, none⟩ = some (.int .i64 x.nd) ∧ w'.cell? ⟨bA, i, none⟩ = some (.pointer (some ⟨pt, 0, none⟩)) ∧ w'.cell? ⟨bB, i, none⟩ = some (.pointer (some ⟨pd, 0, none⟩))) (first | exact S0.out | exact S9 | exact S7)
                  (first
                  | (go_at_call 15; (refine hact.mono ?_; rintro e w7 ⟨rfl, own7, F7, f7, e7t, e7d, k7, b7⟩; have Cp7 := k7 _ _ HX.out CD.out; have S7 : RdS wr.heap.size bA bB i pt pd x w7 := rds_of f7 hiN e7t e7d Cp7; have hsm := same_fam f7 hiN e7t e7d))
                  | (go_at_call 16; (refine hsm.mono ?_; rintro e w9 ⟨rfl, b9⟩; have f9 := f7.below b9; have Cp9 := Cp7.below b9; have S9 : RdS wr.heap.size bA bB i pt pd x w9 := rds_of f9 hiN e7t e7d Cp9; have B9 := (BD.out.trans b7).trans (b9.mono (BD.out.trans b7).size); obtain ⟨U, hs17, hs18⟩ := sum_fam (cs := cs) f9 hiN e7t e7d (HSS.out w9 B9) hsl))
                  | (go_at_call 17; (refine hs17.mono ?_; rintro e wq ⟨rfl, hwq⟩; rw [hwq]; clear hwq))
                  | (go_at_call 18; (refine hs18.mono ?_; rintro e wq ⟨rfl, hwq⟩; rw [hwq]; clear hwq)))
                all_goals
                  go_wp2
                  go_roundg (n - (k + 1))
                  case measure => omega
                  case rel => exact ⟨k + 1, N, own7, F7, by omega, rfl, by omega, by omega, f9, B9⟩
              · have h4' : (kk == 3) = false := by simp [h4]
                go_wp2_with (first
                  | (go_at_call_of 12 (Value.int IntKind.i64 x.wh); refine hw1.mono ?_; rintro e w5 ⟨rfl, rfl⟩)
                  | (go_at_call_of 12 (Value.int IntKind.i64 x.kd); refine hw2.mono ?_; rintro e w5 ⟨rfl, rfl⟩))
                have hdr : Below wn.heap.size wn wn.drew := drew_below wn
                have hFd := Fam.below FN.out hdr
                have hCd := AxB.below CP.out hdr
                have hBd : Below w.heap.size w wn.drew := BN.out.trans (hdr.mono BN.out.size)
                obtain ⟨pt, hpt⟩ : ∃ pt, (f i).t = pt := ⟨_, rfl⟩
                obtain ⟨pd, hpd⟩ : ∃ pd, (f i).d = pd := ⟨_, rfl⟩
                have s0 := rds_of hFd hiN hpt hpd hCd
                have hact := act_fam hcn HFW.out hFd hBd.size hiN hpt hpd x
                unfold axV at hact
                have S0 : Hid (RdS wr.heap.size bA bB i pt pd x wn.drew) := s0
                have CD : Hid (AxB wr.heap.size x wn.drew) := hCd
                have BD : Hid (Below w.heap.size w wn.drew) := hBd
                clear hFd hCd hBd s0 hdr hpt hpd
                go_region_held3 (fun w' => w'.cell? ⟨wr.heap.size, 0, none⟩ = some (.int .i64 x.kd) ∧ w'.cell? ⟨wr.heap.size, 1, none⟩ = some (.int .i64 x.wh) ∧ w'.cell? ⟨wr.heap.size, 2, none⟩ = some (.int .i64 x.ac) ∧ w'.cell? ⟨wr.heap.size, 3, none⟩ = some (.int .i64 x.nd) ∧ w'.cell? ⟨bA, i, none⟩ = some (.pointer (some ⟨pt, 0, none⟩)) ∧ w'.cell? ⟨bB, i, none⟩ = some (.pointer (some ⟨pd, 0, none⟩))) (first | exact S0.out | exact S9 | exact S7)
                  (first
                  | (go_at_call 15; (refine hact.mono ?_; rintro e w7 ⟨rfl, own7, F7, f7, e7t, e7d, k7, b7⟩; have Cp7 := k7 _ _ HX.out CD.out; have S7 : RdS wr.heap.size bA bB i pt pd x w7 := rds_of f7 hiN e7t e7d Cp7; have hsm := same_fam f7 hiN e7t e7d))
                  | (go_at_call 16; (refine hsm.mono ?_; rintro e w9 ⟨rfl, b9⟩; have f9 := f7.below b9; have Cp9 := Cp7.below b9; have S9 : RdS wr.heap.size bA bB i pt pd x w9 := rds_of f9 hiN e7t e7d Cp9; have B9 := (BD.out.trans b7).trans (b9.mono (BD.out.trans b7).size); obtain ⟨U, hs17, hs18⟩ := sum_fam (cs := cs) f9 hiN e7t e7d (HSS.out w9 B9) hsl))
                  | (go_at_call 17; (refine hs17.mono ?_; rintro e wq ⟨rfl, hwq⟩; rw [hwq]; clear hwq))
                  | (go_at_call 18; (refine hs18.mono ?_; rintro e wq ⟨rfl, hwq⟩; rw [hwq]; clear hwq)))
                all_goals
                  go_wp2
                  go_roundg (n - (k + 1))
                  case measure => omega
                  case rel => exact ⟨k + 1, N, own7, F7, by omega, rfl, by omega, by omega, f9, B9⟩
          · obtain ⟨bA, cA, bB, cB, eA, eB⟩ := hF.shape hN1
            subst eA eB
            have FN : Hid (Fam c F w.heap.size N own f (.slice (some ⟨bA, 0, none⟩) N cA) (.slice (some ⟨bB, 0, none⟩) N cB) wr) := hF
            have BN : Hid (Below w.heap.size w wr) := hbw
            clear hF hbw
            go_wp2
            go_loopg [170] N (fun gj cj wr => ∃ j : Nat, j + gj = N ∧ cj = .int .i64 j ∧ Fam c F w.heap.size N own f (.slice (some ⟨bA, 0, none⟩) N cA) (.slice (some ⟨bB, 0, none⟩) N cB) wr ∧ Below w.heap.size w wr)
            case atStart => exact ⟨0, by omega, rfl, FN.out, BN.out⟩
            case round =>
              clear FN BN
              obtain ⟨j, hj, rfl, hF, hb⟩ := hrel
              by_cases hjN : j < N
              · have hdr : Below wr.heap.size wr wr.drew := drew_below wr
                have hFd := hF.below hdr
                have hBd : Below w.heap.size w wr.drew := hb.trans (hdr.mono hb.size)
                obtain ⟨pt, hpt⟩ : ∃ pt, (f j).t = pt := ⟨_, rfl⟩
                obtain ⟨pd, hpd⟩ : ∃ pd, (f j).d = pd := ⟨_, rfl⟩
                have s0 := hFd.cells hjN hpt hpd
                have hsm := same_fam hFd hjN hpt hpd
                have S0 : Hid _ := s0
                have FD : Hid (Fam c F w.heap.size N own f (.slice (some ⟨bA, 0, none⟩) N cA) (.slice (some ⟨bB, 0, none⟩) N cB) wr.drew) := hFd
                have BD : Hid (Below w.heap.size w wr.drew) := hBd
                have HPT : Hid _ := hpt
                have HPD : Hid _ := hpd
                have hjN' : (j : Int) < N := by omega
                clear hF hb hFd hBd hdr s0 hpt hpd
                go_wp2_with fail
                go_region_held3 (fun w' => w'.cell? ⟨bA, j, none⟩ = some (.pointer (some ⟨pt, 0, none⟩)) ∧ w'.cell? ⟨bB, j, none⟩ = some (.pointer (some ⟨pd, 0, none⟩))) (first | exact S0.out | exact S8)
                  (first
                  | (go_at_call 16; refine hsm.mono ?_; rintro e w8 ⟨rfl, b8⟩; have F8 := Fam.below FD.out b8; have S8 := Fam.cells F8 hjN HPT.out HPD.out))
                all_goals
                  go_wp2
                  go_roundg (N - (j + 1))
                  case measure => omega
                  case rel => exact ⟨j + 1, by omega, rfl, F8, BD.out.trans (b8.mono BD.out.size)⟩
              · have HB : Hid (Below w.heap.size w wr) := hb
                clear hb hF
                go_wp2
                go_ret
                exact ⟨rfl, HB.out⟩
end Go.Proofs.YtegpamoglifojaaDoor
