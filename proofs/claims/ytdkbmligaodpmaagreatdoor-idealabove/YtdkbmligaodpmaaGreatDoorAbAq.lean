/-
  IDEALABOVE walked.
-/
import Derived.Test.YtdkbmligaodpmaaGreatDoorTkBq
import Derived.Test.YtdkbmligaodpmaaGreatDoorTkCq
import Derived.Test.YtdkbmligaodpmaaGreatDoorXri
import Derived.Test.YtdkbmligaodpmaaGreatDoorXrf
import Derived.Test.YtdkbmligaodpmaaGreatDoorXiy
namespace Go.Proofs.YtdkbmligaodpmaaGreatDoor
open Go.RowKit Wd Tr Cg Ld

theorem St.chg {w x y : World} {g : Nat} {c : Cf} {K : Nat → Prop} (h : St w g c x) (hc : Chg K x y) (hg : ¬ K g) (hK : ∀ i, K i → w.heap.size ≤ i) : St w g c y := by
  obtain ⟨s0, s1, s2, s3, s4, s5, s6, s7, hB, hz⟩ := h
  exact ⟨hc.cell s0 hg, hc.cell s1 hg, hc.cell s2 hg, hc.cell s3 hg, hc.cell s4 hg, hc.cell s5 hg, hc.cell s6 hg, hc.cell s7 hg, hc.below hB hz hK, Nat.le_trans hz hc.size⟩
theorem above_num {c : Cf} (r : Rng c) (hm : mZ c ≤ 2147483648) {B u : Int} {b : Bd} (h : Nr (kZ c) B u b) (hu : u < 18446744073709551616) : u ≤ narV (b.lo / 4294967296) ∧ narV (b.lo / 4294967296) - u ≤ gZ c ∧ narV (b.lo / 4294967296) < 18446744073709551616 := by
  have h1 := h.lo
  have h2 := h.hi
  have h0 := h.u0
  have hk := k_box r
  obtain ⟨g1, g2, g3, g4⟩ := g_box r hm
  have hg : kZ c ≤ gZ c := by
    unfold gZ
    have := Int.mul_nonneg (show 0 ≤ kZ c by omega) g1
    rw [Int.mul_add, Int.mul_one]
    omega
  unfold narV
  split <;> omega
/-- Two Ideals side by side. -/
structure Ab (c : Cf) (w wr : World) (t d : Nat) (tv v1 v2 : Value) (L : List Bd) : Prop where
  st : St w w.heap.size c wr
  i : Idl c w.heap.size wr t tv L
  r : RIdl c w.heap.size wr d v1 v2 L
  ht : ∀ k, IK t tv k → k ≠ w.heap.size
  hd : ∀ k, RK d v1 v2 k → k ≠ w.heap.size
set_option maxRecDepth 20000 in
set_option maxHeartbeats 4000000 in
theorem above_yes {w : World} (hT : Tab w) {ao : Option Addr} {ts : List Tc} {cap : Nat} (hH : TcsAt w ao ts) (htl : ts.length ≤ 140737488355328) (c : Cf) (hck : chkZ c = 0) :
    Calls Tryz.prog 5 #[cfV c, .slice ao ts.length cap] w fun e w' => e = .returned (.bool true) ∧ Below w.heap.size w w' := by
  obtain ⟨r, hm⟩ := chk_yes hck
  have hSt := St.new w c
  have c1 := ishown_any (Tab.below hSt.bel hT)
  have cC := rcheck_any c
  rw [hck] at cC
  have HNW : Hid (∀ x, Below w.heap.size w x → Calls Tryz.prog 8 #[cfV c] x fun e w' => ∃ d v, e = .returned (.tuple #[.pointer (some ⟨d, 0, none⟩), .int .i64 0]) ∧ Idl c x.heap.size w' d v [zeB] ∧ Below x.heap.size x w') := fun x hx => inew_yes hck x (Tab.below hx hT)
  have HRN : Hid (∀ x, Calls Tryz.prog 9 #[cfV c] x fun e w' => ∃ d v1 v2, e = .returned (.tuple #[.pointer (some ⟨d, 0, none⟩), .int .i64 0]) ∧ RIdl c x.heap.size w' d v1 v2 [zeB] ∧ Below x.heap.size x w') := fun x => rinew_yes hck x
  have HTK : Hid (∀ (x : World) (t : Nat) (tv : Value), Idl c w.heap.size x t tv (List.replicate 4 zeB) → Below w.heap.size w x → Calls Tryz.prog 22 #[cfV c, .int .i64 4, .slice ao ts.length cap, .pointer (some ⟨t, 0, none⟩)] x fun e w' => ∃ gu, e = .returned (.tuple #[.slice (some ⟨gu, 0, none⟩) 4 4, .bool true]) ∧ UsC w' gu (tkA c 4 (hisV ts) (min ts.length 2000)).us ∧ Idl c w.heap.size w' t tv (tkA c 4 (hisV ts) (min ts.length 2000)).bs ∧ Below w.heap.size w w' ∧ x.heap.size ≤ gu ∧ Chg (IK t tv) x w') := fun x t tv hI hb => ticks_any (many := 4) hck (by omega) (by omega) hI hb (Nat.le_refl _) (fun y hy => hH.below hy) htl
  have HSK : Hid (∀ (x : World) (d : Nat) (v1 v2 : Value), RIdl c w.heap.size x d v1 v2 (List.replicate 4 zeB) → Below w.heap.size w x → Calls Tryz.prog 33 #[cfV c, .slice ao ts.length cap, .pointer (some ⟨d, 0, none⟩)] x fun e w' => ∃ gu, e = .returned (.tuple #[.slice (some ⟨gu, 0, none⟩) 4 4, .bool true]) ∧ UsC w' gu (tkA c 4 (hisV ts) (min ts.length 2000)).us ∧ RIdl c w.heap.size w' d v1 v2 (tkA c 4 (hisV ts) (min ts.length 2000)).bs ∧ Below w.heap.size w w' ∧ x.heap.size ≤ gu ∧ Chg (RK d v1 v2) x w') := fun x d v1 v2 hI hb => shadow_any hck hI hb (Nat.le_refl _) (fun y hy => hH.below hy) htl
  have cG := rG_any r hm
  obtain ⟨gg1, gg2, gg3, gg4⟩ := g_box r hm
  have wG : IntKind.u64.wrap (gZ c) = gZ c := by rw [IntKind.wrap_u64]; omega
  have hAll := All.at r hm 4 (hisV ts) (min ts.length 2000)
  have HNR : Hid (∀ (k : Nat) (u : Int) (b : Bd), (tkA c 4 (hisV ts) (min ts.length 2000)).us[k]? = some u → (tkA c 4 (hisV ts) (min ts.length 2000)).bs[k]? = some b → b.Ok ∧ Word u ∧ u ≤ narV (b.lo / 4294967296) ∧ narV (b.lo / 4294967296) - u ≤ gZ c ∧ narV (b.lo / 4294967296) < 18446744073709551616) := fun k u b hu hb => by
    have h1 := hAll.nr k u b hu hb
    have hbd : bdT c (min ts.length 2000) ≤ 9223372036854775808 := by
      have hk := k_box r
      have hc := c_box r
      have hp0 := r.p0
      have hn0 := r.n0
      have hml := Int.emod_lt_of_pos ((min ts.length 2000 : Nat) : Int) (show 0 < c.period by omega)
      have hC : ((min ts.length 2000 : Nat) : Int) % c.period * c.nodes + c.nodes ≤ cZ c := by
        have : (((min ts.length 2000 : Nat) : Int) % c.period + 1) * c.nodes ≤ c.period * c.nodes := Int.mul_le_mul_of_nonneg_right (by omega) (by omega)
        rw [Int.add_mul, Int.mul_comm c.period] at this
        unfold cZ
        omega
      have hM : (kZ c - 1) * cZ c + cZ c = mZ c := by
        unfold mZ
        rw [Int.sub_mul, Int.mul_comm (kZ c)]
        omega
      unfold bdT
      omega
    have h2 := h1.u0
    have h3 := h1.ub
    exact ⟨h1.ok, ⟨h2, by omega⟩, above_num r hm h1 (by omega)⟩
  have HLB : Hid ((tkA c 4 (hisV ts) (min ts.length 2000)).us.length = 4 ∧ (tkA c 4 (hisV ts) (min ts.length 2000)).bs.length = 4) := ⟨hAll.lu, hAll.lb⟩
  generalize htk : tkA c 4 (hisV ts) (min ts.length 2000) = S at *
  generalize hts : ts.length = N at *
  unfold cfV at *
  clear hH r hm hck hT hAll htk hts gg1 gg2
  generalize hgz : gZ c = GZ at *
  clear hgz
  go_enter Tryz.func5, Tryz.ntmps5
  go_wp2_with fail
  refine c1.mono ?_
  rintro e w1 ⟨rfl, b1⟩
  replace hSt := keepW hSt b1
  clear b1 c1
  obtain ⟨s0, s1, s2, s3, s4, s5, s6, s7, hB, hz⟩ := hSt
  go_wp2_with fail
  refine (cC _).mono ?_
  rintro e w2 ⟨rfl, b2⟩
  have hSt : St w w.heap.size c w2 := keepW ⟨s0, s1, s2, s3, s4, s5, s6, s7, hB, hz⟩ b2
  clear s0 s1 s2 s3 s4 s5 s6 s7 hB hz b2 cC
  obtain ⟨s0, s1, s2, s3, s4, s5, s6, s7, hB, hz⟩ := hSt
  have cR := HRN.out w2
  go_wp2_with fail
  refine cR.mono ?_
  rintro e w3 ⟨d, v1, v2, rfl, hR3, b3⟩
  have HCB : Hid (w.heap.size < w2.heap.size) := (show w.heap.size < w2.heap.size by have := World.block_lt_of_cell? w2 _ s0; simpa using this)
  have hSt : St w w.heap.size c w3 := keepW ⟨s0, s1, s2, s3, s4, s5, s6, s7, hB, hz⟩ b3
  have HR3 : Hid (RIdl c w2.heap.size w3 d v1 v2 [zeB]) := hR3
  have HZ2 : Hid (w2.heap.size ≤ w3.heap.size) := b3.size
  clear s0 s1 s2 s3 s4 s5 s6 s7 hB hz b3 cR hR3
  obtain ⟨s0, s1, s2, s3, s4, s5, s6, s7, hB, hz⟩ := hSt
  have cN := HNW.out w3 hB
  go_wp2_with fail
  refine cN.mono ?_
  rintro e w4 ⟨t, tv, rfl, hI4, b4⟩
  have hSt : St w w.heap.size c w4 := keepW ⟨s0, s1, s2, s3, s4, s5, s6, s7, hB, hz⟩ b4
  have HA0 : Hid (Ab c w w4 t d tv v1 v2 (List.replicate 1 zeB)) := by
    have z2 := HZ2.out
    have z1 := HCB.out
    exact ⟨hSt, hI4.base (by omega), (HR3.out.below b4).base (by omega), fun k hk e => by have := hI4.low k hk; omega, fun k hk e => by have := HR3.out.low k hk; omega⟩
  clear s0 s1 s2 s3 s4 s5 s6 s7 hB hz b4 cN hI4 hSt HR3 HZ2 HCB HNW HRN
  go_wp2
  go_loopg [10] 3 (fun gk x wr => ∃ j : Nat, j + gk = 3 ∧ x = .int .i64 j ∧ ∃ tv v1 v2, Ab c w wr t d tv v1 v2 (List.replicate (j + 1) zeB))
  case atStart => exact ⟨0, by omega, rfl, _, _, _, HA0.out⟩
  case round =>
    clear HA0
    obtain ⟨j, hj, rfl, tv', v1', v2', hA⟩ := hrel
    by_cases hlt : j < 3
    · have hlt' : (j : Int) < 3 := by omega
      have cO := riopen_any hA.r hA.st.2.2.2.2.2.2.2.2.2 (by simp; omega)
      have HA : Hid _ := hA
      clear hA
      go_wp2_with fail
      refine cO.mono ?_
      rintro e x ⟨rfl, va, vb, hR1, hC1, hat1⟩
      have hI1 := HA.out.i.chg hC1 (fun k h1 h2 => id_apart HA.out.i HA.out.r k h1 h2)
      have hst1 := St.chg HA.out.st hC1 (fun e => HA.out.hd _ e rfl) (fun i e => HA.out.r.low i e)
      have cO2 := iopen_any hI1 hst1.2.2.2.2.2.2.2.2.2 (by simp; omega)
      have HR1 : Hid _ := hR1
      have HS1 : Hid (St w w.heap.size c x) := hst1
      have HD1 : Hid (∀ k, RK d va vb k → k ≠ w.heap.size) := fun k hk e => by
        rcases hat1 k hk with h | h
        · exact HA.out.hd k h e
        · have z0 := World.block_lt_of_cell? wr _ HA.out.st.1
          simp at z0
          omega
      have HI1 : Hid _ := hI1
      clear cO hR1 hC1 hat1 hI1 hst1
      go_wp2_with fail
      refine cO2.mono ?_
      rintro e y ⟨rfl, vc, hI2, hC2, hat2⟩
      have HA2 : Hid (Ab c w y t d vc va vb (List.replicate (j + 1 + 1) zeB)) := by
        have e9 : List.replicate (j + 1) zeB ++ [zeB] = List.replicate (j + 1 + 1) zeB := by rw [List.replicate_succ' (n := j + 1)]
        have hr := HR1.out
        rw [e9] at hI2 hr
        refine ⟨St.chg HS1.out hC2 (fun e => HA.out.ht _ e rfl) (fun i e => HA.out.i.low i e), hI2, hr.chg hC2 (fun k h1 h2 => id_apart HI1.out HR1.out k h2 h1), fun k hk e => ?_, HD1.out⟩
        rcases hk with rfl | hk
        · exact HA.out.ht _ (.inl rfl) e
        · rcases hat2 with h | ⟨m, hm, h⟩
          · exact HA.out.ht k (.inr (by rw [← h]; exact hk)) e
          · rw [h] at hk
            cases hk
            have z0 := World.block_lt_of_cell? x _ HS1.out.1
            simp at z0
            omega
      clear hI2 hC2 hat2 cO2 HA HR1 HS1 HD1 HI1
      go_wp2
      go_roundg (3 - (j + 1))
      case measure => omega
      case rel => exact ⟨j + 1, by omega, rfl, _, _, _, HA2.out⟩
    · have hge : ¬ (j : Int) < 3 := by omega
      have HA : Hid (Ab c w wr t d tv' v1' v2' (List.replicate 4 zeB)) := by
        have e9 : j + 1 = 4 := by omega
        rw [e9] at hA
        exact hA
      clear hA
      obtain ⟨V0, hV0⟩ : ∃ V0, wr = V0 := ⟨_, rfl⟩
      rw [hV0] at HA
      rw [hV0]
      clear hV0
      obtain ⟨s0, s1, s2, s3, s4, s5, s6, s7, hB, hz⟩ := HA.out.st
      have cT := HTK.out V0 t tv' HA.out.i hB
      go_wp2_with fail
      refine cT.mono ?_
      rintro e V1 ⟨gu, rfl, hU1, hI1, hB1, hgu, hC1⟩
      have hst1 : St w w.heap.size c V1 := St.chg HA.out.st hC1 (fun e => HA.out.ht _ e rfl) (fun i e => HA.out.i.low i e)
      have hR1 := HA.out.r.chg hC1 (fun k h1 h2 => id_apart HA.out.i HA.out.r k h2 h1)
      have HU1 : Hid (UsC V1 gu S.us) := hU1
      have HB1 : Hid (Below w.heap.size w V1) := hB1
      have cS := HSK.out V1 d v1' v2' hR1 hB1
      have HR1 : Hid _ := hR1
      have HS1 : Hid (St w w.heap.size c V1) := hst1
      clear cT hU1 hI1 hB1 hgu hC1 hst1 hR1 s0 s1 s2 s3 s4 s5 s6 s7 hB hz
      obtain ⟨s0, s1, s2, s3, s4, s5, s6, s7, hB, hz⟩ := HS1.out
      go_wp2_with fail
      refine cS.mono ?_
      rintro e V2 ⟨gv, rfl, hU2, hR2, hB2, hgv, hC2⟩
      have hst2 : St w w.heap.size c V2 := St.chg HS1.out hC2 (fun e => HA.out.hd _ e rfl) (fun i e => HA.out.r.low i e)
      have HU1b : Hid (UsC V2 gu S.us) := UsC.chg hC2 HU1.out (fun e => by
        obtain ⟨cs, tt, q1, q2⟩ := HR1.out.tag e
        have q3 := tags_apart q1 (show V1.heap[gu]? = _ from HU1.out)
        rcases q2 with rfl | rfl <;> exact absurd q3 (by decide))
      have HU2 : Hid (UsC V2 gv S.us) := hU2
      have HR2 : Hid (RIdl c w.heap.size V2 d v1' v2' S.bs) := hR2
      have HS2 : Hid (St w w.heap.size c V2) := hst2
      clear cS hU2 hR2 hB2 hgv hC2 hst2 s0 s1 s2 s3 s4 s5 s6 s7 hB hz HS1 HR1 HU1 HB1 HA
      obtain ⟨s0, s1, s2, s3, s4, s5, s6, s7, hB, hz⟩ := HS2.out
      go_wp2_with fail
      refine (cG _).mono ?_
      rintro e V3 ⟨rfl, b3⟩
      have HU1c : Hid (UsC V3 gu S.us) := UsC.below b3 HU1b.out
      have HU2c : Hid (UsC V3 gv S.us) := UsC.below b3 HU2.out
      have HR3 : Hid (RIdl c w.heap.size V3 d v1' v2' S.bs) := HR2.out.below b3
      have HB3 : Hid (Below w.heap.size w V3) := hB.trans (b3.mono hB.size)
      clear s0 s1 s2 s3 s4 s5 s6 s7 hB hz HS2 HU1b HU2 HR2 b3 cG
      go_wp2
      go_loopg [16] 4 (fun gk x wr => ∃ k : Nat, k + gk = 4 ∧ x = .int .i64 k ∧ Below V3.heap.size V3 wr)
      case atStart => exact ⟨0, by omega, rfl, Below.refl _ _⟩
      case round =>
        obtain ⟨k, hk, rfl, hb⟩ := hrel
        by_cases hltk : k < 4
        · have hltk' : (k : Int) < 4 := by omega
          obtain ⟨u, hu⟩ : ∃ u, S.us[k]? = some u := ⟨_, List.getElem?_eq_getElem (by rw [HLB.out.1]; exact hltk)⟩
          obtain ⟨bb, hbb⟩ : ∃ bb, S.bs[k]? = some bb := ⟨_, List.getElem?_eq_getElem (by rw [HLB.out.2]; exact hltk)⟩
          obtain ⟨hbo, hwu, n1, n2, n3⟩ := HNR.out k u bb hu hbb
          have hR := (HR3.out.below hb).two
          obtain ⟨g1, p1, ev, x1, x2⟩ := hR.at1 (k := k) (u := bb.lo) (by rw [List.getElem?_map, hbb]; rfl)
          have hlen : (S.bs.map Bd.lo).length = 4 := by rw [List.length_map]; exact HLB.out.2
          rw [hlen] at ev
          have c8 := hR.c8.1
          rw [ev] at c8
          have y1 := x1.1
          have y2 := x2.1
          have cS := short_dn bb.lo hbo.lon
          obtain ⟨F, hF⟩ : ∃ F, narV (bb.lo / 4294967296) = F := ⟨_, rfl⟩
          rw [hF] at n1 n2 n3 cS
          have d1 : decide (F < u) = false := decide_eq_false (by omega)
          have d2 : decide (GZ < F - u) = false := decide_eq_false (by omega)
          have wS : IntKind.u64.wrap (F - u) = F - u := by rw [IntKind.wrap_u64]; have := hwu.1; omega
          have HUA : Hid (∀ x, Below V3.heap.size V3 x → x.cell? ⟨gu, k, none⟩ = some (.int .u64 u) ∧ x.cell? ⟨gv, k, none⟩ = some (.int .u64 u)) := fun x hx => ⟨((UsC.below hx HU1c.out).at hu).1, ((UsC.below hx HU2c.out).at hu).1⟩
          have HB : Hid (Below V3.heap.size V3 wr) := hb
          clear hR ev x1 x2 hbo hwu n1 n2 n3 hF hu hbb hb hlen
          go_wp2_with fail
          refine (cS _).mono ?_
          rintro e x ⟨rfl, bx⟩
          have HBx : Hid (Below V3.heap.size V3 x) := HB.out.trans (bx.mono HB.out.size)
          obtain ⟨z1, z2⟩ := HUA.out x HBx.out
          clear c8 y1 y2 cS bx HUA HB
          go_upto_region 22 with fail
          go_quiet (fail)
          have HBy : Hid (Below V3.heap.size V3 (x.drewN nq)) := HBx.out.trans ((bel_draw x nq).mono HBx.out.size)
          clear z1 z2 HBx d1 d2 wS
          go_wp2
          go_roundg (4 - (k + 1))
          case measure => omega
          case rel => exact ⟨k + 1, by omega, rfl, HBy.out⟩
        · have hge4 : ¬ (k : Int) < 4 := by omega
          have HBz : Hid (Below w.heap.size w wr) := HB3.out.trans (hb.mono HB3.out.size)
          clear hb
          go_wp2
          go_ret
          exact ⟨rfl, HBz.out⟩
set_option maxRecDepth 20000 in
set_option maxHeartbeats 1000000 in
theorem above_no {w : World} (hT : Tab w) (ao : Option Addr) (N cap : Nat) (c : Cf) (hck : ¬ chkZ c = 0) :
    Calls Tryz.prog 5 #[cfV c, .slice ao N cap] w fun e w' => e = .returned (.bool true) ∧ Below w.heap.size w w' := by
  have hSt := St.new w c
  have c1 := ishown_any (Tab.below hSt.bel hT)
  have cC := rcheck_any c
  have hne : (chkZ c != 0) = true := by simp [hck]
  generalize chkZ c = z at *
  unfold cfV at *
  clear hck hT
  go_enter Tryz.func5, Tryz.ntmps5
  go_wp2_with fail
  refine c1.mono ?_
  rintro e w1 ⟨rfl, b1⟩
  replace hSt := keepW hSt b1
  clear b1 c1
  obtain ⟨s0, s1, s2, s3, s4, s5, s6, s7, hB, hz⟩ := hSt
  go_wp2_with fail
  refine (cC _).mono ?_
  rintro e w2 ⟨rfl, b2⟩
  have HB2 : Hid (Below w.heap.size w w2) := hB.trans (b2.mono hB.size)
  clear s0 s1 s2 s3 s4 s5 s6 s7 hB hz b2 cC
  go_wp2
  go_ret
  exact ⟨rfl, HB2.out⟩
end Go.Proofs.YtdkbmligaodpmaaGreatDoor
