/-
  THE STATEMENT LedgerLess: the walk.
-/
import Derived.Test.YtegpamoglifojaaDoorLwB
namespace Go.Proofs.YtegpamoglifojaaDoor
open Go.RowKit Wd Ld Cg Lg

/-- Two ledgers side by side, and a config's nodes. -/
structure Ap2 (N F : Int) (w3 : World) (cb da : Nat) (va : Value) (db : Nat) (vb : Value) (la lb : List Int) (W : World) : Prop where
  a : Led N F w3.heap.size W da va la
  b : Led N F w3.heap.size W db vb lb
  bel : Below w3.heap.size w3 W
  n : W.cell? ⟨cb, 0, none⟩ = some (.int .i64 N)
section
variable {N F : Int} {w3 : World} {cb da : Nat} {va : Value} {db : Nat} {vb : Value} {la lb l' : List Int} {W W' : World}
theorem Ap2.below (h : Ap2 N F w3 cb da va db vb la lb W) (b : Below W.heap.size W W') : Ap2 N F w3 cb da va db vb la lb W' :=
  ⟨h.a.below b, h.b.below b, h.bel.trans (b.mono h.bel.size), cellB b h.n⟩
theorem Ap2.stepA (h : Ap2 N F w3 cb da va db vb la lb W) (hcb : cb < w3.heap.size) (ab : Apt da va db vb) (L : Led N F w3.heap.size W' da va l') (c : Chg (LK da va) W W') : Ap2 N F w3 cb da va db vb l' lb W' :=
  ⟨L, h.b.chg c ab.symm, h.a.bel c h.bel h.bel.size, c.cell h.n (fun e => by have := h.a.lk_lo _ e; simp only at this; omega)⟩
theorem Ap2.stepB (h : Ap2 N F w3 cb da va db vb la lb W) (hcb : cb < w3.heap.size) (ab : Apt da va db vb) (L : Led N F w3.heap.size W' db vb l') (c : Chg (LK db vb) W W') : Ap2 N F w3 cb da va db vb la l' W' :=
  ⟨h.a.chg c ab, L, h.b.bel c h.bel h.bel.size, c.cell h.n (fun e => by have := h.b.lk_lo _ e; simp only at this; omega)⟩
end
/-- What stands between two acts. -/
structure LsI (i : Nat) (la lb : List Int) (r : Int) (fd : Bool) : Prop where
  les : Les lb la
  len : la.length = 3
  r0 : 0 ≤ r
  r1 : r ≤ i * 256
  raw : fd = false → la[0]? = some (narV (r * 4294967296))
theorem LsI.fade {i : Nat} {la lb : List Int} {r : Int} {fd : Bool} {F : Int} (h : LsI i la lb r fd) (hF : Word F) : LsI (i + 1) (fadeL F la) (fadeL F lb) r true :=
  ⟨les_fade h.les hF, by rw [fade_len, h.len], h.r0, by have := h.r1; omega, fun e => by cases e⟩
theorem chg_ok {l : List Int} {N k n : Int} (hl : l.length = 3) (hk0 : 0 ≤ k) (hk : k < 3) (h0 : 0 ≤ n) (h1 : n ≤ N) : chgE l N k n = 0 := by
  unfold chgE
  rw [if_pos (okA_of hk0 (by omega)), if_pos ⟨h0, h1⟩]
theorem LsI.charge {i : Nat} {la lb lb' : List Int} {r : Int} {fd : Bool} {N k n : Int} (h : LsI i la lb r fd) (hw : Wds la) (hk0 : 0 ≤ k) (hk : k < 3) (h0 : 0 ≤ n) (h1 : n ≤ N) (hN : N ≤ 256) (hb : lb' = lb ∨ lb' = chgL lb N k n) :
    LsI (i + 1) (chgL la N k n) lb' (if k = 0 then r + n else r) fd := by
  have hr := h.r1
  have hr0 := h.r0
  refine ⟨?_, by rw [chg_len, h.len], by split <;> omega, by split <;> omega, fun e => ?_⟩
  · rcases hb with rfl | rfl
    · exact les_one h.les hw _ _ _
    · exact les_both h.les _ _ _
  · have hraw := h.raw e
    unfold chgL
    rw [if_pos ⟨okA_of hk0 (by rw [h.len]; exact hk), h0, h1⟩]
    by_cases ek : k = 0
    · subst ek
      rw [if_pos rfl]
      have hl := h.len
      rw [show (0 : Int).toNat = 0 from rfl, List.getElem?_set_self (by omega), hraw, Option.getD_some, chN_raw hr0 h0]
    · rw [if_neg ek, List.getElem?_set_ne (by omega)]
      exact hraw
set_option maxRecDepth 20000 in
set_option maxHeartbeats 8000000 in
theorem less_any {w : World} (hT : Tab w) {ao : Option Addr} {xs : List Ax} {cp : Nat} (hA : AxsAt w ao xs) (hl : xs.length * 32 ≤ 140737488351232) (sk : Int) (c : Cf) :
    Calls Tryd.prog 6 #[cfV c, .slice ao xs.length cp, .int .i64 sk] w fun e w' => e = .returned (.bool true) ∧ Below w.heap.size w w' := by
  have ck := pcheck_any c
  by_cases hc : chkZ c = 0
  · rw [hc] at ck
    have r := chk_rng hc
    have hnew := fun (w : World) (g : Nat) hT => new_led (w := w) hc (ao := some ⟨g, 0, none⟩) (l := [0, 0, 0]) (cp := 3) hT
    obtain ⟨n0, n1⟩ := And.intro r.n0 r.n1
    have hfw := fac_word c
    generalize facZ c = F at hnew hfw
    unfold cfV at *
    have hS := St.new w c
    go_enter Tryd.func6, Tryd.ntmps6
    go_wp2_with fail
    refine (shown_any _ (Tab.below hS.bel hT)).mono ?_
    rintro e w1 ⟨rfl, b1⟩
    replace hS := keepW hS b1
    clear b1
    obtain ⟨s0, s1, s2, s3, s4, s5, s6, s7, _, _⟩ := id hS
    go_wp2_with fail
    refine (ck _).mono ?_
    rintro e w2 ⟨rfl, b2⟩
    replace hS := keepW hS b2
    clear b2 s0 s1 s2 s3 s4 s5 s6 s7
    obtain ⟨s0, s1, s2, s3, s4, s5, s6, s7, _, _⟩ := id hS
    have bz : Below w2.heap.size w2 (w2.alloc (.cells #[.int .u64 0, .int .u64 0, .int .u64 0] 28)) := (Below.refl _ w2).alloc (Nat.le_refl _) _
    have hZ := zero3 w2
    have hS2 := keepW hS bz
    obtain ⟨w3, hw3⟩ : ∃ w3, w2.alloc (.cells #[.int .u64 0, .int .u64 0, .int .u64 0] 28) = w3 := ⟨_, rfl⟩
    rw [hw3] at hZ hS2
    have HW3 : Hid _ := hw3
    clear bz hS hw3
    have hn1 := hnew w3 _ (Tab.below hS2.bel hT) hZ wds3 (fun h => by cases h) (by simp)
    go_wp2_with fail
    rw [HW3.out]
    refine hn1.mono ?_
    rintro e w4 ⟨da, va, rfl, LA, b4⟩
    clear hn1 HW3 s0 s1 s2 s3 s4 s5 s6 s7
    have hS4 := keepW hS2 b4
    obtain ⟨s0, s1, s2, s3, s4, s5, s6, s7, _, _⟩ := id hS4
    have bz : Below w4.heap.size w4 (w4.alloc (.cells #[.int .u64 0, .int .u64 0, .int .u64 0] 28)) := (Below.refl _ w4).alloc (Nat.le_refl _) _
    have hZ4 := zero3 w4
    have hS5 := keepW hS4 bz
    have LA5 := LA.below bz
    obtain ⟨w5, hw5⟩ : ∃ w5, w4.alloc (.cells #[.int .u64 0, .int .u64 0, .int .u64 0] 28) = w5 := ⟨_, rfl⟩
    rw [hw5] at hZ4 hS5 bz LA5
    have HW5 : Hid _ := hw5
    clear hw5
    have hn2 := hnew w5 _ (Tab.below hS5.bel hT) hZ4 wds3 (fun h => by cases h) (by simp)
    go_wp2_with fail
    rw [HW5.out]
    refine hn2.mono ?_
    rintro e w6 ⟨db, vb, rfl, LB, b6⟩
    clear hn2 s0 s1 s2 s3 s4 s5 s6 s7 hnew hZ hZ4 HW5
    have z4 := b4.size
    have z5 := bz.size
    have z6 := b6.size
    have ab : Hid (Apt da va db vb) := LA5.apt LB (Nat.le_refl _)
    have LA6 := LA5.below b6
    have LB6 := LB.base (Nat.le_trans z4 z5)
    have B6 : Below w3.heap.size w3 w6 := (b4.trans (bz.mono z4)).trans (b6.mono (Nat.le_trans z4 z5))
    have bw3 : Hid (Below w.heap.size w w3) := hS2.bel
    have hN : w3.cell? ⟨w.heap.size, 0, none⟩ = some (.int .i64 c.nodes) := (id hS2).1
    have z3 := bw3.out.size
    clear LA LB LA5 b4 bz b6 hS2 hS4 hS5 ck r
    have hcb : w.heap.size < w3.heap.size := World.block_lt_of_cell? _ _ hN
    have HA6 : Hid (Ap2 c.nodes F w3 w.heap.size da va db vb [0, 0, 0] [0, 0, 0] w6) := ⟨LA6, LB6, B6, (B6.cell hcb).trans hN⟩
    obtain ⟨q, hq⟩ : ∃ q, xs.length = q := ⟨_, rfl⟩
    rw [hq] at hl ⊢
    have HQ : Hid (xs.length = q) := hq
    have HFW : Hid (Word F) := hfw
    clear hq LA6 LB6 B6 hN hfw
    obtain ⟨g, o, hg, hcell⟩ := hA
    rw [HQ.out] at hg
    have HCL : Hid (∀ (k : Nat) (x : Ax), xs[k]? = some x → AxAt w g (o + k * 4) x) := hcell
    clear hcell
    go_wp2_with fail
    go_loopg [11, 12, 56] q (fun gk pr pf pj wr => ∃ (i : Nat) (la lb : List Int) (r : Int) (fd : Bool), i + gk = q ∧ pj = .int .i64 i ∧ pr = .int .i64 r ∧ pf = .bool fd ∧ LsI i la lb r fd ∧ Ap2 c.nodes F w3 w.heap.size da va db vb la lb wr)
    case atStart => exact ⟨0, _, _, 0, false, by omega, rfl, rfl, rfl, ⟨les_refl _, rfl, by omega, by omega, fun _ => by decide⟩, HA6.out⟩
    case round =>
      clear HA6
      obtain ⟨i, la, lb, r, fd, hi, rfl, rfl, rfl, hI, hR⟩ := hrel
      by_cases hlt : i < q
      · have hlt' : (i : Int) < q := by omega
        obtain ⟨x, hx⟩ : ∃ x, xs[i]? = some x := ⟨_, List.getElem?_eq_getElem (by rw [HQ.out]; exact hlt)⟩
        obtain rfl := hg (by omega)
        have bwr : Below w.heap.size w wr := bw3.out.trans (hR.bel.mono z3)
        obtain ⟨d0, d1, d2, d3⟩ := (HCL.out i x hx).below bwr
        have ba : Below wr.heap.size wr (wr.alloc (.cells #[.int .i64 x.kd, .int .i64 x.wh, .int .i64 x.ac, .int .i64 x.nd] 40)) := (Below.refl _ wr).alloc (Nat.le_refl _) _
        have hX : AxB wr.heap.size x (wr.alloc (.cells #[.int .i64 x.kd, .int .i64 x.wh, .int .i64 x.ac, .int .i64 x.nd] 40)) := heap_alloc_new _ _
        have hR0 := hR.below ba
        have hLAr := hR.a
        obtain ⟨W0, hW0⟩ : ∃ W0, wr.alloc (.cells #[.int .i64 x.kd, .int .i64 x.wh, .int .i64 x.ac, .int .i64 x.nd] 40) = W0 := ⟨_, rfl⟩
        rw [hW0] at hX hR0
        have HR0 : Hid (Ap2 c.nodes F w3 w.heap.size da va db vb la lb W0) := hR0
        have HX : Hid (AxB wr.heap.size x W0) := hX
        have HRr : Hid (Ap2 c.nodes F w3 w.heap.size da va db vb la lb wr) := hR
        have HI : Hid (LsI i la lb r fd) := hI
        have x0 := hX.c0
        have HW0 : Hid _ := hW0
        have ham := fun w => among_any x.kd 5 w (by omega) (by omega)
        have r0 := hI.r0
        have r1 := hI.r1
        clear hR hR0 hX hx bwr ba hLAr hI hW0
        by_cases hk : amgV x.kd 5 = 0
        · rw [hk] at ham
          go_wp2_with (first | (go_at_call 12; rw [HW0.out]; refine (ham _).mono ?_; rintro e wq ⟨rfl, rfl⟩))
          refine (list_any HR0.out.a).mono ?_
          rintro e w10 ⟨v10, rfl, r10, b10⟩
          have R10 := HR0.out.below b10
          clear x0 d0 d1 d2 d3 ham
          obtain ⟨aoW, cW, eW⟩ := sl_shape r10
          subst eW
          go_wp2_with fail
          refine (fade_led R10.a HFW.out).mono ?_
          rintro e w11 ⟨rfl, L11, c11⟩
          have R11 := R10.stepA hcb ab.out L11 c11
          have r11 := row_same r10 (fun k hk => c11.block k (r10.lt k hk).2 (fun e => by have := HR0.out.a.lk_lt k e; have := (r10.lt k hk).1; omega))
          clear r10 L11 c11 R10 b10
          go_wp2_with fail
          refine (fade_led R11.b HFW.out).mono ?_
          rintro e w12 ⟨rfl, L12, c12⟩
          have R12 := R11.stepB hcb ab.out L12 c12
          have r12 := row_same r11 (fun k hk => c12.block k (r11.lt k hk).2 (fun e => by have := HR0.out.b.lk_lt k e; have := (r11.lt k hk).1; omega))
          clear r11 L12 c12 R11
          go_wp2_with fail
          refine (list_any R12.a).mono ?_
          rintro e w13 ⟨v13, rfl, r13, b13⟩
          have R13 : Hid (Ap2 c.nodes F w3 w.heap.size da va db vb (fadeL F la) (fadeL F lb) w13) := R12.below b13
          have r12' := row_kept r12 b13
          obtain ⟨ao13, c13, e13, A13, _⟩ := WdsAt.of_row r13
          subst e13
          obtain ⟨aoX, cX, eX, AX, _⟩ := WdsAt.of_row r12'
          cases eX
          have h3 := HI.out.len
          have hwl := HR0.out.a.wds
          have hfl := fade_len la F
          rw [h3] at hfl
          obtain ⟨gu, ou, hgu, hcu⟩ := A13
          obtain ⟨gw, ow, hgw, hcw⟩ := AX
          rw [hfl] at hgu ⊢
          rw [h3] at hgw ⊢
          obtain rfl := hgu (by omega)
          obtain rfl := hgw (by omega)
          have HUW : Hid (∀ k : Nat, k < 3 → ∃ u v : Int, w13.cell? ⟨gu, ou + k, none⟩ = some (.int .u64 u) ∧ w13.cell? ⟨gw, ow + k, none⟩ = some (.int .u64 v) ∧ u ≤ v) := fun k hk => by
            obtain ⟨u, hu⟩ : ∃ u, (fadeL F la)[k]? = some u := ⟨_, List.getElem?_eq_getElem (by rw [hfl]; exact hk)⟩
            obtain ⟨v, hv⟩ : ∃ v, la[k]? = some v := ⟨_, List.getElem?_eq_getElem (by rw [h3]; exact hk)⟩
            exact ⟨u, v, hcu k u hu, hcw k v hv, fade_le hwl hv hu⟩
          clear r12 r12' r13 b13 R12 hcu hcw hgu hgw h3 hfl hwl
          go_wp2_with fail
          go_loopg [78] 3 (fun gl pk wx => ∃ k : Nat, k + gl = 3 ∧ pk = .int .i64 k ∧ w13 = wx)
          case atStart => exact ⟨0, by omega, rfl, rfl⟩
          case round =>
            obtain ⟨k, hk3, rfl, rfl⟩ := hrel
            by_cases hlk : k < 3
            · have hlk' : (k : Int) < 3 := by omega
              obtain ⟨u, v, y0, y1, huv⟩ := HUW.out k hlk
              have hgt : ¬ v < u := by omega
              go_wp2
              go_roundg (3 - (k + 1))
              case measure => omega
              case rel => exact ⟨k + 1, by omega, rfl, rfl⟩
            · obtain rfl : k = 3 := by omega
              go_wp2
              go_roundg (q - (i + 1))
              case measure => omega
              case rel => exact ⟨i + 1, _, _, r, true, by omega, rfl, rfl, rfl, LsI.fade HI.out HFW.out, R13.out⟩
        · have hk' : (amgV x.kd 5 == 0) = false := by simpa using hk
          obtain ⟨k0, k1⟩ := amgV_in x.ac (n := 3) (by omega)
          obtain ⟨m0, m1⟩ := amgV_in x.nd (n := c.nodes + 1) (by omega)
          have hN1 : IntKind.i64.wrap (c.nodes + 1) = c.nodes + 1 := by rw [IntKind.wrap_i64]; omega
          have R0d : Hid (Ap2 c.nodes F w3 w.heap.size da va db vb la lb W0.drew) := HR0.out.below (drew_below W0)
          have X0d : Hid (AxB wr.heap.size x W0.drew) := HX.out.below (drew_below W0)
          have hea := chg_ok (N := c.nodes) HI.out.len k0 k1 m0 (by omega)
          have heb := chg_ok (N := c.nodes) (HI.out.les.1.trans HI.out.len) k0 k1 m0 (by omega)
          have hca := charge_led R0d.out.a (by omega) (amgV x.ac 3) (amgV x.nd (c.nodes + 1))
          rw [hea] at hca
          have HEB : Hid _ := heb
          have HIN : Hid (∀ lb', (lb' = lb ∨ lb' = chgL lb c.nodes (amgV x.ac 3) (amgV x.nd (c.nodes + 1))) → LsI (i + 1) (chgL la c.nodes (amgV x.ac 3) (amgV x.nd (c.nodes + 1))) lb' (if amgV x.ac 3 = 0 then r + amgV x.nd (c.nodes + 1) else r) fd) := fun lb' h => LsI.charge HI.out HR0.out.a.wds k0 k1 m0 (by omega) n1 h
          clear hea heb hk
          go_wp2_with (first | (go_at_call 12; rw [HW0.out]; refine (ham _).mono ?_; rintro e wq ⟨rfl, rfl⟩))
          clear ham x0 d0 d1 d2 d3
          go_region_held3 (fun w' => w'.cell? ⟨wr.heap.size, 2, none⟩ = some (.int .i64 x.ac) ∧ w'.cell? ⟨wr.heap.size, 3, none⟩ = some (.int .i64 x.nd) ∧ w'.cell? ⟨w.heap.size, 0, none⟩ = some (.int .i64 c.nodes))
            (exact ⟨X0d.out.c2, X0d.out.c3, R0d.out.n⟩)
            (first
            | (go_at_call_of 12 (Value.int IntKind.i64 x.ac); refine (among_any x.ac 3 _ (by omega) (by omega)).mono ?_; rintro e wq ⟨rfl, rfl⟩)
            | (go_at_call_of 12 (Value.int IntKind.i64 x.nd); refine (among_any x.nd (c.nodes + 1) _ (by omega) (by omega)).mono ?_; rintro e wq ⟨rfl, rfl⟩))
          all_goals
            generalize amgV x.ac 3 = kk at *
            generalize amgV x.nd (c.nodes + 1) = nn at *
            go_wp2_with fail
            refine hca.mono ?_
            rintro e w7 ⟨rfl, L7, c7⟩
            have R7 := Ap2.stepA R0d.out hcb ab.out L7 c7
            clear L7 c7 hca R0d
            go_wp2_with fail
            refine (among_any sk q _ (by omega) (by omega)).mono ?_
            rintro e wq ⟨rfl, rfl⟩
            generalize amgV sk q = sq
            by_cases hs : (i : Int) = sq
            · have hs' : ((i : Int) != sq) = false := by simpa using hs
              have R7H : Hid (Ap2 c.nodes F w3 w.heap.size da va db vb (chgL la c.nodes kk nn) lb w7) := R7
              have HIl := HIN.out lb (.inl rfl)
              by_cases hz : kk = 0
              · rw [if_pos hz] at HIl
                have HJ : Hid _ := HIl
                subst hz
                clear HIl hs R7
                go_wp2
                go_roundg (q - (i + 1))
                case measure => omega
                case rel => exact ⟨i + 1, _, _, _, fd, by omega, rfl, rfl, rfl, HJ.out, R7H.out⟩
              · rw [if_neg hz] at HIl
                have HJ : Hid _ := HIl
                have hz' : (kk == 0) = false := by simpa using hz
                clear HIl hs R7 hz
                go_wp2
                go_roundg (q - (i + 1))
                case measure => omega
                case rel => exact ⟨i + 1, _, _, _, fd, by omega, rfl, rfl, rfl, HJ.out, R7H.out⟩
            · have hs' : ((i : Int) != sq) = true := by simpa using hs
              have hcc := charge_led R7.b (by omega) kk nn
              rw [HEB.out] at hcc
              go_wp2_with fail
              refine hcc.mono ?_
              rintro e w8 ⟨rfl, L8, c8⟩
              have R7H : Hid (Ap2 c.nodes F w3 w.heap.size da va db vb (chgL la c.nodes kk nn) (chgL lb c.nodes kk nn) w8) := R7.stepB hcb ab.out L8 c8
              have HIl := HIN.out _ (.inr rfl)
              clear L8 c8 hcc R7 hs
              by_cases hz : kk = 0
              · rw [if_pos hz] at HIl
                have HJ : Hid _ := HIl
                subst hz
                clear HIl
                go_wp2
                go_roundg (q - (i + 1))
                case measure => omega
                case rel => exact ⟨i + 1, _, _, _, fd, by omega, rfl, rfl, rfl, HJ.out, R7H.out⟩
              · rw [if_neg hz] at HIl
                have HJ : Hid _ := HIl
                have hz' : (kk == 0) = false := by simpa using hz
                clear HIl hz
                go_wp2
                go_roundg (q - (i + 1))
                case measure => omega
                case rel => exact ⟨i + 1, _, _, _, fd, by omega, rfl, rfl, rfl, HJ.out, R7H.out⟩
      · obtain rfl : i = q := by omega
        have HR : Hid (Ap2 c.nodes F w3 w.heap.size da va db vb la lb wr) := hR
        have HI : Hid (LsI i la lb r fd) := hI
        have r0 := hI.r0
        have r1 := hI.r1
        clear hR hI
        go_wp2_with fail
        go_loopg [125] 3 (fun gl pk wx => ∃ k : Nat, k + gl = 3 ∧ pk = .int .i64 k ∧ Ap2 c.nodes F w3 w.heap.size da va db vb la lb wx)
        case atStart => exact ⟨0, by omega, rfl, HR.out⟩
        case round =>
          clear HR
          obtain ⟨k, hk3, rfl, hRx⟩ := hrel
          by_cases hlk : k < 3
          · have hlk' : (k : Int) < 3 := by omega
            have hle := les_own HI.out.les k
            have oa := fun n => own_any (hRx.a.below (drewN_below wr n)) k
            have ob := fun n => own_any (hRx.b.below (drewN_below wr n)) k
            generalize ownV la k = ua at hle oa
            generalize ownV lb k = ub at hle ob
            have hgt : ¬ ua < ub := by omega
            have HRX : Hid (Ap2 c.nodes F w3 w.heap.size da va db vb la lb wr) := hRx
            clear hRx hle
            go_wp2_with fail
            go_quiet ((first | (go_at_call_of 26 (Value.pointer (some ⟨da, 0, none⟩)); exact Calls.quiet_of_same (oa _)) | (go_at_call_of 26 (Value.pointer (some ⟨db, 0, none⟩)); exact Calls.quiet_of_same (ob _))))
            go_wp2
            go_roundg (3 - (k + 1))
            case measure => omega
            case rel => exact ⟨k + 1, by omega, rfl, HRX.out.below (drewN_below wr _)⟩
          · obtain rfl : k = 3 := by omega
            have HRX : Hid (Ap2 c.nodes F w3 w.heap.size da va db vb la lb wr) := hRx
            clear hRx
            have hof := qof_any r (by omega) wr
            go_wp2_with fail
            refine hof.mono ?_
            rintro e w9 ⟨rfl, b9⟩
            have R9 : Hid (Ap2 c.nodes F w3 w.heap.size da va db vb la lb w9) := HRX.out.below b9
            clear b9 hof HRX
            cases fd with
            | true =>
              generalize ofB r = ok
              go_wp2
              go_ret
              exact ⟨rfl, bw3.out.trans (R9.out.bel.mono z3)⟩
            | false =>
              have h0 := HI.out.raw rfl
              have e0 : ownV la 0 = ofV r := by
                have := own_of h0
                simp only [Int.natCast_zero] at this
                rw [this]
                unfold ofV
                rw [if_neg (by omega)]
              have ho := own_any R9.out.a 0
              rw [e0] at ho
              clear e0 h0
              generalize ofV r = u at ho
              cases hob : ofB r with
              | false =>
                go_wp2
                go_ret
                exact ⟨rfl, bw3.out.trans (R9.out.bel.mono z3)⟩
              | true =>
                go_wp2_with fail
                refine ho.mono ?_
                rintro e wq ⟨rfl, hwq⟩
                rw [hwq]
                clear hwq ho
                go_wp2
                go_ret
                exact ⟨rfl, bw3.out.trans (R9.out.bel.mono z3)⟩
  · have hn : (chkZ c != 0) = true := by simp [hc]
    generalize chkZ c = q at ck hn hc
    unfold cfV at *
    have hS := St.new w c
    go_enter Tryd.func6, Tryd.ntmps6
    go_wp2_with fail
    refine (shown_any _ (Tab.below hS.bel hT)).mono ?_
    rintro e w1 ⟨rfl, b1⟩
    replace hS := keepW hS b1
    clear b1
    obtain ⟨s0, s1, s2, s3, s4, s5, s6, s7, _, _⟩ := id hS
    go_wp2_with fail
    refine (ck _).mono ?_
    rintro e w2 ⟨rfl, b2⟩
    replace hS := keepW hS b2
    clear b2 s0 s1 s2 s3 s4 s5 s6 s7
    go_wp2
    go_ret
    exact ⟨rfl, hS.bel⟩
end Go.Proofs.YtegpamoglifojaaDoor
