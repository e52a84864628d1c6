/-
 LAYER 16: the reference (backfillref16): Priority of what can be (made by gen16qr.py).
-/
import Derived.Test.YtdkbmligaodpmaaGreatDoorStCqz
import Derived.Test.YtdkbmligaodpmaaGreatDoorXhcz
namespace Go.Proofs.YtdkbmligaodpmaaGreatDoor
open Go.RowKit Wd Tr Cg Ld

theorem us_lo {l : List Ac} {L : List Bd} (hll : l.length = L.length) {k : Nat} (hk : k < L.length) : sF false ((L.map Bd.lo).getD k 0) = usOf (mL l L) k := by
 have h1 : (L.map loS).length = l.length := by simp [hll]
 have e : L[k]? = some L[k] := List.getElem?_eq_getElem hk
 have e1 : usOf (mL l L) k = loS L[k] := withU_us h1 (by rw [List.getElem?_map, e]; rfl)
 rw [e1, List.getD_eq_getElem?_getD, List.getElem?_map, e]
 rfl
theorem us_hi {l : List Ac} {L : List Bd} (hll : l.length = L.length) {k : Nat} (hk : k < L.length) : sF true ((L.map Bd.hi).getD k 0) = usOf (mH l L) k := by
 have h1 : (L.map hiS).length = l.length := by simp [hll]
 have e : L[k]? = some L[k] := List.getElem?_eq_getElem hk
 have e1 : usOf (mH l L) k = hiS L[k] := withU_us h1 (by rw [List.getElem?_map, e]; rfl)
 rw [e1, List.getD_eq_getElem?_getD, List.getElem?_map, e]
 rfl
theorem Wds.congr {W : World} {h n : Nat} {f g : Nat → Int} (x : Wds W h f n) (e : ∀ k, k < n → f k = g k) : Wds W h g n := fun k hk => by rw [← e k hk]; exact x k hk
theorem step_of {ops : Array Oper} {o : Oper} {a : Act} {w : World} {K : Act → World → Prop} {Q : Exit → Act → World → Prop} {E : Prop} (hgd : o.guard = none) (x : Operand)
  (ho : o.op = .call { callee := .value (.func 30), args := #[x], argTypes := #[60] }) (vx : Value) (hx : a.eval x = vx) (R : Ending → World → Prop) (hc : Calls Tryz.prog 30 #[vx] w R)
  (hK : ∀ e w', R e w' → ∃ v, e = .returned v ∧ K (a.put o.dst v) w') :
  if Region.wanted o (yielded ops a.tmps) = true then Oper.wp Tryz.prog o a w K Q else E := by
 have hw : Region.wanted o (yielded ops a.tmps) = true := by simp [Region.wanted, hgd]
 rw [if_pos hw]
 unfold Oper.wp
 have hr : (execOp a.eval o).run Tryz.prog w = .ok (.enter 30 #[vx]) w := by
  subst hx
  simp [execOp, ho, resolve, invoke, go_sem]
 rw [hr, Oper.upon_enter]
 refine hc.mono ?_
 intro e w' h
 obtain ⟨v, rfl, hk⟩ := hK e w' h
 exact hk
theorem dep_alike {l m : List Ac} (e : Tr.Alike l m) {d n : Nat} (h : Dep l d n) : Dep m d n := dep_plain.1 (by rw [← show l.map plainAc = m.map plainAc from e]; exact dep_plain.2 h)
theorem R2.nms1 {c : Cf} {B : Nat} {W : World} {d g n cp : Nat} {v2 : Value} {U1 U2 : List Int} (h : R2 c B W d (.slice (some ⟨g, 0, none⟩) n cp) v2 U1 U2) : NmsAt W g U1 := by
 have hr := h.row1
 rcases h.row1.2 with ⟨hv, _⟩ | ⟨g', cap', cur, hv, _⟩
 ·cases hv
 ·cases hv
  exact nms_own hr
theorem R2.nms2 {c : Cf} {B : Nat} {W : World} {d g n cp : Nat} {v1 : Value} {U1 U2 : List Int} (h : R2 c B W d v1 (.slice (some ⟨g, 0, none⟩) n cp) U1 U2) : NmsAt W g U2 := by
 have hr := h.row2
 rcases h.row2.2 with ⟨hv, _⟩ | ⟨g', cap', cur, hv, _⟩
 ·cases hv
 ·cases hv
  exact nms_own hr
theorem rest_num {c : Cf} (r : Rng c) {L : List Bd} {now : Int} {j : Jb} (h : wtB c L now j = true) : Num (restV c now j * 9223372036854775808) := by
 obtain ⟨_, _, _, _, _, w1, w2⟩ := rest_box r h
 exact ⟨by have := w1.1; omega, by unfold top; omega⟩
set_option maxRecDepth 20000 in
set_option maxHeartbeats 30000000 in
theorem rprio_yes {c : Cf} (hck : chkZ c = 0) {B : Nat} {w : World} {d : Nat} {v1 v2 : Value} {L : List Bd} (h : RIdl c B w d v1 v2 L) {ao : Option Addr} {l : List Ac} {cap : Nat} (hA : AcsAt w ao l) (hn : l.length * 48 ≤ 140737488355328) (now : Int) (j : Jb) (hl : loadE l = 0) (hll : l.length = L.length) (hw : wtB c L now j = true) :
  Calls Tryz.prog 47 #[.pointer (some ⟨d, 0, none⟩), .slice ao l.length cap, .int .i64 now, jbV j] w fun e w' => e = .returned (.tuple #[nuV (idLo c l L now j), nuV (idHi c l L now j), nuV 9223372036854775808]) ∧ Below w.heap.size w w' := by
 obtain ⟨r, _⟩ := chk_yes hck
 have hP := QrS.start h j
 have cL := rload_any (c := cap) (hA.below hP.bel) hn
 have hwu : Wu l := wf_load hl
 have hok := h.ok
 have hfew := h.few
 have hs := side_of hwu hll hok
 have hpos := hwu.pos
 obtain ⟨⟨p0, p1⟩, _⟩ := wt_yes hw
 obtain ⟨p, hp⟩ : ∃ p : Nat, j.ac = p := ⟨j.ac.toNat, by omega⟩
 have hpl : p < l.length := by omega
 obtain ⟨e1, e2, e3, e4, e5, wr, rb⟩ := rest_box r hw
 have hRN := rest_num r hw
 have h1 : (L.map loS).length = l.length := by simp [hll]
 have h2 : (L.map hiS).length = l.length := by simp [hll]
 have a1 : Tr.Alike l (mL l L) := withU_alike h1
 have a2 : Tr.Alike l (mH l L) := withU_alike h2
 have hm1 : (mL l L).length = l.length := withU_len h1
 have hm2 : (mH l L).length = l.length := withU_len h2
 have hcb := c_box r
 have wfl : Word (flo c) := by unfold flo; exact ⟨by omega, by omega⟩
 have pfl : 0 < flo c := by unfold flo; omega
 have wW1 : Word (wV (mL l L) (flo c)) := w_word hs.ul wfl
 have wW2 : Word (wV (mH l L) (flo c)) := w_word hs.um wfl
 have pW1 : 0 < wV (mL l L) (flo c) := Int.lt_of_lt_of_le pfl (w_ge _ _)
 have pW2 : 0 < wV (mH l L) (flo c) := Int.lt_of_lt_of_le pfl (w_ge _ _)
 obtain ⟨dp, _, hdep⟩ := hwu.deep hpl
 have dw := den_word hwu hpl
 have hpm1 : p < (mL l L).length := by rw [hm1]; exact hpl
 have hpm2 : p < (mH l L).length := by rw [hm2]; exact hpl
 have ewl := ef_word hs.wu hs.ul (hs.wok wfl) hpm1
 have ewh := eh_word hs.wm hs.um pW1 hpm2
 obtain ⟨g, o, hao, hac⟩ := hA
 obtain rfl := hao hpos
 obtain ⟨q, hq⟩ : ∃ q, l.length = q := ⟨_, rfl⟩
 have hq2 : L.length = q := by omega
 have HACS : Hid (∀ x, Below w.heap.size w x → Acs x g o l) := fun x hx => Acs.below hac hx
 have HSUML : Hid (∀ x gl cl2, Below w.heap.size w x → Wds x gl (usOf (mL l L)) q → Calls Tryz.prog 91 #[.slice (some ⟨g, o, none⟩) q cap, .slice (some ⟨gl, 0, none⟩) q cl2, .int .i64 0] x fun e w' => e = .returned (.int .u64 (sumV (mL l L) 0)) ∧ Below x.heap.size x w') := fun x gl cl2 hx hd => by
  have := rsum_p (c := cap) (c2 := cl2) hs.wu hs.ul 5 (n := 0) (d := 0) (acp_of (Acs.below hac hx) a1) (by rw [hm1, hq]; exact hd) (by rw [hm1]; exact hpos) rfl (by omega)
  rw [hm1, hq] at this
  exact this
 have HSUMH : Hid (∀ x gl cl2, Below w.heap.size w x → Wds x gl (usOf (mH l L)) q → Calls Tryz.prog 91 #[.slice (some ⟨g, o, none⟩) q cap, .slice (some ⟨gl, 0, none⟩) q cl2, .int .i64 0] x fun e w' => e = .returned (.int .u64 (sumV (mH l L) 0)) ∧ Below x.heap.size x w') := fun x gl cl2 hx hd => by
  have := rsum_p (c := cap) (c2 := cl2) hs.wm hs.um 5 (n := 0) (d := 0) (acp_of (Acs.below hac hx) a2) (by rw [hm2, hq]; exact hd) (by rw [hm2]; exact hpos) rfl (by omega)
  rw [hm2, hq] at this
  exact this
 have HEFL : Hid (∀ x gl cl2, Below w.heap.size w x → Wds x gl (usOf (mL l L)) q → Calls Tryz.prog 93 #[.agg #[.slice (some ⟨g, o, none⟩) q cap, .slice (some ⟨gl, 0, none⟩) q cl2, .int .u64 (wV (mH l L) (flo c)), .bool false], .int .i64 (p : Int)] x fun e w' => e = .returned (.int .u64 (efV (mL l L) (wV (mH l L) (flo c)) p)) ∧ Below x.heap.size x w') := fun x gl cl2 hx hd => by
  have := rieff_any (c := cap) (c2 := cl2) hs.wu hs.ul wW2 (by omega) (efok_dn hs.wu hs.ul (hs.wok wfl)) dp (acp_of (Acs.below hac hx) a1) (by rw [hm1, hq]; exact hd) hpm1 (dep_alike a1 hdep)
  rw [hm1, hq] at this
  exact this
 have HEFH : Hid (∀ x gl cl2, Below w.heap.size w x → Wds x gl (usOf (mH l L)) q → Calls Tryz.prog 93 #[.agg #[.slice (some ⟨g, o, none⟩) q cap, .slice (some ⟨gl, 0, none⟩) q cl2, .int .u64 (wV (mL l L) (flo c)), .bool true], .int .i64 (p : Int)] x fun e w' => e = .returned (.int .u64 (ehV (mH l L) (wV (mL l L) (flo c)) p)) ∧ Below x.heap.size x w') := fun x gl cl2 hx hd => by
  have := rieff_any (c := cap) (c2 := cl2) hs.wm hs.um wW1 (by omega) (efok_up hs.wm hs.um pW1) dp (acp_of (Acs.below hac hx) a2) (by rw [hm2, hq]; exact hd) hpm2 (dep_alike a2 hdep)
  rw [hm2, hq] at this
  exact this
 have cXL := rxp_dn (e := efV (mL l L) (wV (mH l L) (flo c)) p) (by omega) (by omega) dw.1 dw.2.1 dw.2.2.1 dw.2.2.2
 have cXH := rxp_any (e := ehV (mH l L) (wV (mL l L) (flo c)) p) (by omega) (by omega) dw.1 dw.2.1 dw.2.2.1 dw.2.2.2
 have wXL : Word (pdV (efV (mL l L) (wV (mH l L) (flo c)) p) (numV l p) (denV l p)) := pd_word (by omega) dw.1 dw.2.1 dw.2.2.2
 have wXH : Word (powV (ehV (mH l L) (wV (mL l L) (flo c)) p) (numV l p) (denV l p)) := pow_word (by omega) dw.1 dw.2.1 dw.2.2.2
 have HAN : Hid (idLo c l L now j = Wd.addV (restV c now j * 9223372036854775808) (c.fair * ((halfN (powV (ehV (mH l L) (wV (mL l L) (flo c)) p) (numV l p) (denV l p)).toNat : Nat) : Int)) ∧ idHi c l L now j = Wd.addV (restV c now j * 9223372036854775808) (c.fair * ((uppN (pdV (efV (mL l L) (wV (mH l L) (flo c)) p) (numV l p) (denV l p)).toNat : Nat) : Int))) := by
  refine show _ ∧ _ from ⟨?_, ?_⟩
  ·unfold idLo fLo xHi
   rw [hp, Int.toNat_natCast, a1.num, a1.den]
  ·unfold idHi fHi xLo
   rw [hp, Int.toNat_natCast, a1.num, a1.den]
 rw [HAN.out.1, HAN.out.2]
 have HWE : Hid (mxV (sumV (mL l L) 0) (flo c) = wV (mL l L) (flo c) ∧ mxV (sumV (mH l L) 0) (flo c) = wV (mH l L) (flo c)) := show _ ∧ _ from ⟨rfl, rfl⟩
 have cG1 := rgrt_any (sumV (mL l L) 0) (flo c)
 have cG2 := rgrt_any (sumV (mH l L) 0) (flo c)
 rw [HWE.out.1] at cG1
 rw [HWE.out.2] at cG2
 have cFl : ∀ x, Calls Tryz.prog 92 #[cfV c] x fun e w' => e = .returned (.int .u64 (flo c)) ∧ Below x.heap.size x w' := rFloor_yes hck
 unfold cfV at cFl
 have HUSL : Hid (∀ k, k < q → sF false ((L.map Bd.lo).getD k 0) = usOf (mL l L) k) := fun k hk => us_lo hll (by omega)
 have HUSH : Hid (∀ k, k < q → sF true ((L.map Bd.hi).getD k 0) = usOf (mH l L) k) := fun k hk => us_hi hll (by omega)
 have HNUM : Hid ((∀ u ∈ L.map Bd.lo, Num u) ∧ (∀ u ∈ L.map Bd.hi, Num u)) := by
  refine show _ ∧ _ from ⟨fun u hu => ?_, fun u hu => ?_⟩
  ·obtain ⟨b, hb, rfl⟩ := List.mem_map.1 hu
   exact (hok b hb).lon
  ·obtain ⟨b, hb, rfl⟩ := List.mem_map.1 hu
   exact (hok b hb).hin
 have HSH : Hid (∀ x, Below w.heap.size w x → Calls Tryz.prog 70 #[.slice (some ⟨g, o, none⟩) q cap] x (RSh x q (firstN (numV l) q) (firstN (denV l) q))) := fun x hx => by
  have := rshs_any (c := cap) (⟨g, o, fun _ => rfl, Acs.below hac hx⟩ : AcsAt x (some ⟨g, o, none⟩) l) hn
  rw [show lenS l = l.length from if_pos hl, hq] at this
  exact this
 have HRT : Hid (∀ x, Below w.heap.size w x → Calls Tryz.prog 89 #[.slice (some ⟨g, o, none⟩) q cap] x fun e w' => e = .returned (.int .i64 0) ∧ x = w') := fun x hx => by
  have := riroot_any (c := cap) (Acs.below hac hx) hwu
  rw [hq] at this
  exact this
 obtain ⟨f1, f2, f3, f4, f5, f6, f7, f8⟩ := yes_any hw hll hq hq2
 have hf0 := r.f0; have hf1 := r.f1
 have wfa : IntKind.u64.wrap c.fair = c.fair := by rw [IntKind.wrap_u64]; omega
 have HWF : Hid (Word c.fair) := show Word c.fair from ⟨by omega, by omega⟩
 have r1 := h.row1
 have r2 := h.row2
 rcases r1.2 with ⟨_, x0⟩ | ⟨g1, p1', cur1, rfl, k1⟩
 ·omega
 rcases r2.2 with ⟨_, x0⟩ | ⟨g2, p2', cur2, rfl, k2⟩
 ·omega
 have HP : Hid _ := hP
 have HL : Hid (loadE l = 0) := hl
 have HPJ : Hid (j.ac = (p : Int)) := hp
 have HEE : Hid (IntKind.i64.wrap (now - j.su) = now - j.su ∧ IntKind.i64.wrap (c.age * (now - j.su)) = c.age * (now - j.su) ∧ IntKind.i64.wrap (c.size * j.no) = c.size * j.no ∧ IntKind.i64.wrap (c.age * (now - j.su) + c.size * j.no) = restV c now j ∧ IntKind.u64.wrap (restV c now j) = restV c now j) := ⟨e1, e2, e3, e4, e5⟩
 have HWR : Hid (Word (restV c now j) ∧ Num (restV c now j * 9223372036854775808)) := ⟨wr, hRN⟩
 have hpq : (p : Int) < q := by omega
 have HPQN : Hid (p < q) := (show p < q by omega)
 have HLQ : Hid (L.length = q ∧ q ≤ 1000000) := ⟨hq2, by omega⟩
 rw [hq2] at HP
 rw [hq] at cL ⊢
 generalize hW1 : wV (mL l L) (flo c) = W1 at *
 generalize hW2 : wV (mH l L) (flo c) = W2 at *
 generalize hEL : efV (mL l L) W2 p = EL at *
 generalize hEH : ehV (mH l L) W1 p = EH at *
 have HDN : Hid (firstN (numV l) q = firstN (numV l) q) := rfl
 obtain ⟨NU, hNU⟩ : ∃ NU, numV l p = NU := ⟨_, rfl⟩
 obtain ⟨DE, hDE⟩ : ∃ DE, denV l p = DE := ⟨_, rfl⟩
 rw [hNU, hDE] at cXL cXH wXL wXH ⊢
 have HND : Hid (numV l p = NU ∧ denV l p = DE) := ⟨hNU, hDE⟩
 generalize hXL : pdV EL NU DE = XL at *
 generalize hXH : powV EH NU DE = XH at *
 have tXL : ((XL.toNat : Nat) : Int) = XL := by have := wXL.1; omega
 have tXH : ((XH.toNat : Nat) : Int) = XH := by have := wXH.1; omega
 have cBL := rbounds_any XL.toNat (by have := wXL.2; omega)
 have cBH := rbounds_any XH.toNat (by have := wXH.2; omega)
 have hFT := half_top XH.toNat
 have hFU := upp_top XL.toNat
 rw [tXL] at cBL
 rw [tXH] at cBH
 have wFL : Word ((halfN XH.toNat : Nat) : Int) := ⟨by omega, by omega⟩
 have wFH : Word ((uppN XL.toNat : Nat) : Int) := ⟨by omega, by omega⟩
 generalize hFL : ((halfN XH.toNat : Nat) : Int) = FL at *
 generalize hFH : ((uppN XL.toNat : Nat) : Int) = FH at *
 generalize ((uppN XH.toNat : Nat) : Int) = FL2 at *
 generalize ((halfN XL.toNat : Nat) : Int) = FH2 at *
 have HFW : Hid (Word FL ∧ Word FH) := ⟨wFL, wFH⟩
 generalize hFO : flo c = FO at *
 generalize hS1 : sumV (mL l L) 0 = S1 at *
 generalize hS2 : sumV (mH l L) 0 = S2 at *
 clear h hl hll hw r hck hn hwu hok hfew hs hpos p0 p1 hp hpl e1 e2 e3 e4 e5 wr rb hRN h1 h2 a1 a2 hm1 hm2 hcb wfl pfl wW1 wW2 pW1 pW2 hdep dw hpm1 hpm2 ewl ewh hac hao hq hq2 wXL wXH HAN HWE hf0 hf1 r1 r2 k1 k2 hNU hDE tXL tXH hFT hFU wFL wFH hFL hFH hXL hXH hEL hEH hW1 hW2 hFO hS1 hS2 hP
 go_enter Tryz.func47, Tryz.ntmps47
 go_wp2_with fail
 refine cL.mono ?_
 rintro e w1 ⟨h1, _, hb⟩
 obtain ⟨dt, vt, rfl, _⟩ := h1 HL.out
 have hP1 := HP.out.below hb
 have HP1 : Hid _ := hP1.below (Bk.below1 w1 (.cells #[.int .u64 0, .int .u64 0] 68))
 clear cL hP1 HP h1 hb HL
 go_upto_region 3 with fail
 obtain ⟨V0, hV0⟩ : ∃ V0, w1.alloc (.cells #[.int .u64 0, .int .u64 0] 68) = V0 := ⟨_, rfl⟩
 rw [hV0] at HP1
 rw [hV0]
 clear hV0
 go_cut [94] (fun b wq => b = .bool false ∧ QrS w wq c B d (.slice (some ⟨g1, 0, none⟩) q p1') (.slice (some ⟨g2, 0, none⟩) q p2') L j 0 0 0 0 0 0)
 case first =>
  as_aux_lemma =>
   have c8 := HP1.out.idl.two.c8.1
   have c0 := HP1.out.idl.two.c0
   obtain ⟨j0, j1, j2, j3, j4, j5, j6, j7⟩ := Jb.cells HP1.out.job
   clear j2 j4 j5 j6 j7
   go_quiet (fail)
   go_wp2
   go_meet
   exact ⟨rfl, HP1.out.below (bel_draw V0 _)⟩
 case rest =>
 obtain ⟨rfl, hP2⟩ := hcut
 clear HP1 f1 f2 f3 f4 f5 f6 f7 f8
 have cS1 := rshorts_any (c := p1') hP2.idl.two.nms1 HNUM.out.1 (by rw [List.length_map, HLQ.out.1]; have := HLQ.out.2; omega) false
 rw [List.length_map, HLQ.out.1] at cS1
 have c8 := hP2.idl.two.c8.1
 have HP2 : Hid _ := hP2
 clear hP2
 obtain ⟨V1, hV1⟩ : ∃ V1, wc = V1 := ⟨_, rfl⟩
 rw [hV1] at HP2 c8 cS1
 rw [hV1]
 clear hV1
 go_wp2_with fail
 refine cS1.mono ?_
 rintro e V2 ⟨gl, cl2, rfl, ol, hgl, hb2⟩
 have HWL0 : Hid (Wds V2 gl (usOf (mL l L)) q) := (wds_own ol).congr HUSL.out
 have hP2 := HP2.out.below hb2
 have cS2 := rshorts_any (c := p2') hP2.idl.two.nms2 HNUM.out.2 (by rw [List.length_map, HLQ.out.1]; have := HLQ.out.2; omega) true
 rw [List.length_map, HLQ.out.1] at cS2
 have c9 := hP2.idl.two.c9.1
 have HP3 : Hid _ := hP2
 clear hP2 HP2 c8 cS1 ol hb2 hgl
 go_wp2_with fail
 refine cS2.mono ?_
 rintro e V3 ⟨gh, ch2, rfl, oh, hgh, hb3⟩
 have HWH : Hid (Wds V3 gh (usOf (mH l L)) q) := (wds_own oh).congr HUSH.out
 have HWL : Hid (Wds V3 gl (usOf (mL l L)) q) := HWL0.out.below hb3
 have HP4 : Hid _ := HP3.out.below hb3
 have cR := HRT.out V3 HP4.out.bel
 clear HP3 HWL0 c9 cS2 oh hb3 hgh HUSL HUSH HNUM HRT
 go_wp2_with fail
 refine cR.mono ?_
 rintro e x ⟨rfl, rfl⟩
 clear cR
 have HV : Hid (Hc8 V3 ⟨d, 0, none⟩ ⟨d, 1, none⟩ ⟨d, 2, none⟩ ⟨d, 3, none⟩ ⟨d, 4, none⟩ ⟨d, 5, none⟩ ⟨d, 6, none⟩ ⟨d, 7, none⟩ (.int .i64 c.nodes) (.int .i64 c.queue) (.int .i64 c.limit) (.int .i64 c.age) (.int .i64 c.fair) (.int .i64 c.size) (.int .i64 c.period) (.int .i64 c.half) V3) := by
  have hk := HP4.out.idl.blk
  exact ⟨(cell_of (o := 0) hk rfl).1, (cell_of (o := 1) hk rfl).1, (cell_of (o := 2) hk rfl).1, (cell_of (o := 3) hk rfl).1, (cell_of (o := 4) hk rfl).1, (cell_of (o := 5) hk rfl).1, (cell_of (o := 6) hk rfl).1, (cell_of (o := 7) hk rfl).1, Below.refl _ _, Nat.le_refl _⟩
 have HS : Hid (Hc8 V3 ⟨d, 0, none⟩ ⟨d, 1, none⟩ ⟨d, 2, none⟩ ⟨d, 3, none⟩ ⟨d, 4, none⟩ ⟨d, 5, none⟩ ⟨d, 6, none⟩ ⟨d, 7, none⟩ (.int .i64 c.nodes) (.int .i64 c.queue) (.int .i64 c.limit) (.int .i64 c.age) (.int .i64 c.fair) (.int .i64 c.size) (.int .i64 c.period) (.int .i64 c.half) V3.drew) := Hc8.keep HV.out (drew_belowI V3)
 have cS := HSUML.out V3.drew gl cl2 (HP4.out.below (drew_belowI V3)).bel (HWL.out.below (drew_belowI V3))
 go_upto_region 8 with fail
 go_cut [17] (fun v wq => v = .int .u64 W1 ∧ Below V3.heap.size V3 wq)
 case first =>
  as_aux_lemma =>
   go_region_held3 (fun x => x.cell? ⟨d, 0, none⟩ = some (.int .i64 c.nodes) ∧ x.cell? ⟨d, 1, none⟩ = some (.int .i64 c.queue) ∧ x.cell? ⟨d, 2, none⟩ = some (.int .i64 c.limit) ∧ x.cell? ⟨d, 3, none⟩ = some (.int .i64 c.age) ∧ x.cell? ⟨d, 4, none⟩ = some (.int .i64 c.fair) ∧ x.cell? ⟨d, 5, none⟩ = some (.int .i64 c.size) ∧ x.cell? ⟨d, 6, none⟩ = some (.int .i64 c.period) ∧ x.cell? ⟨d, 7, none⟩ = some (.int .i64 c.half) ∧ Below V3.heap.size V3 x ∧ V3.heap.size ≤ x.heap.size)
    (first | exact HS.out | exact HX.out | exact HY.out | exact HZ.out | assumption | exact Hc8.keep (by assumption) (by assumption))
    (first
    | (go_at_call 91; refine cS.mono ?_; rintro e x ⟨rfl, hx⟩; have HX : Hid (Hc8 V3 ⟨d, 0, none⟩ ⟨d, 1, none⟩ ⟨d, 2, none⟩ ⟨d, 3, none⟩ ⟨d, 4, none⟩ ⟨d, 5, none⟩ ⟨d, 6, none⟩ ⟨d, 7, none⟩ (.int .i64 c.nodes) (.int .i64 c.queue) (.int .i64 c.limit) (.int .i64 c.age) (.int .i64 c.fair) (.int .i64 c.size) (.int .i64 c.period) (.int .i64 c.half) x) := Hc8.keep HS.out hx)
    | (go_at_call 92; refine (cFl _).mono ?_; rintro e y ⟨rfl, hy⟩; have HY : Hid (Hc8 V3 ⟨d, 0, none⟩ ⟨d, 1, none⟩ ⟨d, 2, none⟩ ⟨d, 3, none⟩ ⟨d, 4, none⟩ ⟨d, 5, none⟩ ⟨d, 6, none⟩ ⟨d, 7, none⟩ (.int .i64 c.nodes) (.int .i64 c.queue) (.int .i64 c.limit) (.int .i64 c.age) (.int .i64 c.fair) (.int .i64 c.size) (.int .i64 c.period) (.int .i64 c.half) y) := Hc8.keep HX.out hy)
    | (go_at_call 90; refine (cG1 _).mono ?_; rintro e z ⟨rfl, rfl⟩))
   all_goals
    have hb := HY.out.bel
    clear HX HS HV HY cS cFl cG1 cG2
    go_wp2
    go_meet
    exact ⟨rfl, hb⟩
 case rest =>
 obtain ⟨rfl, hb⟩ := hcut
 have HP5 : Hid _ := HP4.out.below hb
 have HWL5 : Hid (Wds wc gl (usOf (mL l L)) q) := HWL.out.below hb
 have HWH5 : Hid (Wds wc gh (usOf (mH l L)) q) := HWH.out.below hb
 obtain ⟨V4, hV4⟩ : ∃ V4, wc = V4 := ⟨_, rfl⟩
 rw [hV4] at HP5 HWL5 HWH5
 rw [hV4]
 clear hV4 hb HS HV cS cG1 HP4 HWL HWH
 have HV : Hid (Hc8 V4 ⟨d, 0, none⟩ ⟨d, 1, none⟩ ⟨d, 2, none⟩ ⟨d, 3, none⟩ ⟨d, 4, none⟩ ⟨d, 5, none⟩ ⟨d, 6, none⟩ ⟨d, 7, none⟩ (.int .i64 c.nodes) (.int .i64 c.queue) (.int .i64 c.limit) (.int .i64 c.age) (.int .i64 c.fair) (.int .i64 c.size) (.int .i64 c.period) (.int .i64 c.half) V4) := by
  have hk := HP5.out.idl.blk
  exact ⟨(cell_of (o := 0) hk rfl).1, (cell_of (o := 1) hk rfl).1, (cell_of (o := 2) hk rfl).1, (cell_of (o := 3) hk rfl).1, (cell_of (o := 4) hk rfl).1, (cell_of (o := 5) hk rfl).1, (cell_of (o := 6) hk rfl).1, (cell_of (o := 7) hk rfl).1, Below.refl _ _, Nat.le_refl _⟩
 have HS : Hid (Hc8 V4 ⟨d, 0, none⟩ ⟨d, 1, none⟩ ⟨d, 2, none⟩ ⟨d, 3, none⟩ ⟨d, 4, none⟩ ⟨d, 5, none⟩ ⟨d, 6, none⟩ ⟨d, 7, none⟩ (.int .i64 c.nodes) (.int .i64 c.queue) (.int .i64 c.limit) (.int .i64 c.age) (.int .i64 c.fair) (.int .i64 c.size) (.int .i64 c.period) (.int .i64 c.half) V4.drew) := Hc8.keep HV.out (drew_belowI V4)
 have cS := HSUMH.out V4.drew gh ch2 (HP5.out.below (drew_belowI V4)).bel (HWH5.out.below (drew_belowI V4))
 go_upto_region 9 with fail
 go_cut [18] (fun v wq => v = .int .u64 W2 ∧ Below V4.heap.size V4 wq)
 case first =>
  as_aux_lemma =>
   go_region_held3 (fun x => x.cell? ⟨d, 0, none⟩ = some (.int .i64 c.nodes) ∧ x.cell? ⟨d, 1, none⟩ = some (.int .i64 c.queue) ∧ x.cell? ⟨d, 2, none⟩ = some (.int .i64 c.limit) ∧ x.cell? ⟨d, 3, none⟩ = some (.int .i64 c.age) ∧ x.cell? ⟨d, 4, none⟩ = some (.int .i64 c.fair) ∧ x.cell? ⟨d, 5, none⟩ = some (.int .i64 c.size) ∧ x.cell? ⟨d, 6, none⟩ = some (.int .i64 c.period) ∧ x.cell? ⟨d, 7, none⟩ = some (.int .i64 c.half) ∧ Below V4.heap.size V4 x ∧ V4.heap.size ≤ x.heap.size)
    (first | exact HS.out | exact HX.out | exact HY.out | exact HZ.out | assumption | exact Hc8.keep (by assumption) (by assumption))
    (first
    | (go_at_call 91; refine cS.mono ?_; rintro e x ⟨rfl, hx⟩; have HX : Hid (Hc8 V4 ⟨d, 0, none⟩ ⟨d, 1, none⟩ ⟨d, 2, none⟩ ⟨d, 3, none⟩ ⟨d, 4, none⟩ ⟨d, 5, none⟩ ⟨d, 6, none⟩ ⟨d, 7, none⟩ (.int .i64 c.nodes) (.int .i64 c.queue) (.int .i64 c.limit) (.int .i64 c.age) (.int .i64 c.fair) (.int .i64 c.size) (.int .i64 c.period) (.int .i64 c.half) x) := Hc8.keep HS.out hx)
    | (go_at_call 92; refine (cFl _).mono ?_; rintro e y ⟨rfl, hy⟩; have HY : Hid (Hc8 V4 ⟨d, 0, none⟩ ⟨d, 1, none⟩ ⟨d, 2, none⟩ ⟨d, 3, none⟩ ⟨d, 4, none⟩ ⟨d, 5, none⟩ ⟨d, 6, none⟩ ⟨d, 7, none⟩ (.int .i64 c.nodes) (.int .i64 c.queue) (.int .i64 c.limit) (.int .i64 c.age) (.int .i64 c.fair) (.int .i64 c.size) (.int .i64 c.period) (.int .i64 c.half) y) := Hc8.keep HX.out hy)
    | (go_at_call 90; refine (cG2 _).mono ?_; rintro e z ⟨rfl, rfl⟩))
   all_goals
    have hb := HY.out.bel
    clear HX HS HV HY cS cFl cG2
    go_wp2
    go_meet
    exact ⟨rfl, hb⟩
 case rest =>
 obtain ⟨rfl, hb⟩ := hcut
 have HP6 : Hid _ := HP5.out.below hb
 have HWL6 : Hid (Wds wc gl (usOf (mL l L)) q) := HWL5.out.below hb
 have HWH6 : Hid (Wds wc gh (usOf (mH l L)) q) := HWH5.out.below hb
 obtain ⟨V5, hV5⟩ : ∃ V5, wc = V5 := ⟨_, rfl⟩
 rw [hV5] at HP6 HWL6 HWH6
 rw [hV5]
 clear hV5 hb HS HV cS cG2 HP5 HWL5 HWH5 cFl HSUML HSUMH
 have sL := Sx.new V5 (.slice (some ⟨g, o, none⟩) q cap) (.slice (some ⟨gl, 0, none⟩) q cl2) (.int .u64 W2) (.bool false) 153
 have sH := Sx.new (V5.alloc (.cells #[.slice (some ⟨g, o, none⟩) q cap, .slice (some ⟨gl, 0, none⟩) q cl2, .int .u64 W2, .bool false] 153)) (.slice (some ⟨g, o, none⟩) q cap) (.slice (some ⟨gh, 0, none⟩) q ch2) (.int .u64 W1) (.bool true) 153
 have b5 := (Bk.below1 V5 (.cells #[.slice (some ⟨g, o, none⟩) q cap, .slice (some ⟨gl, 0, none⟩) q cl2, .int .u64 W2, .bool false] 153))
 have b6 := (Bk.below1 (V5.alloc (.cells #[.slice (some ⟨g, o, none⟩) q cap, .slice (some ⟨gl, 0, none⟩) q cl2, .int .u64 W2, .bool false] 153)) (.cells #[.slice (some ⟨g, o, none⟩) q cap, .slice (some ⟨gh, 0, none⟩) q ch2, .int .u64 W1, .bool true] 153))
 have bb : Below V5.heap.size V5 _ := b5.trans (b6.mono b5.size)
 simp only [World.size_alloc] at sH
 have sL6 := sL.below b6
 go_upto_region 12 with fail
 obtain ⟨V6, hV6⟩ : ∃ V6, (V5.alloc (.cells #[.slice (some ⟨g, o, none⟩) q cap, .slice (some ⟨gl, 0, none⟩) q cl2, .int .u64 W2, .bool false] 153)).alloc (.cells #[.slice (some ⟨g, o, none⟩) q cap, .slice (some ⟨gh, 0, none⟩) q ch2, .int .u64 W1, .bool true] 153) = V6 := ⟨_, rfl⟩
 rw [hV6] at sH bb sL6
 try rw [hV6]
 obtain ⟨KL, hKL⟩ : ∃ KL, V5.heap.size = KL := ⟨_, rfl⟩
 rw [hKL] at sH sL6
 try rw [hKL]
 have HP7 : Hid _ := HP6.out.below bb
 have HWL7 : Hid (Wds V6 gl (usOf (mL l L)) q) := HWL6.out.below bb
 have HWH7 : Hid (Wds V6 gh (usOf (mH l L)) q) := HWH6.out.below bb
 have HSL : Hid (Sx V6 KL (.slice (some ⟨g, o, none⟩) q cap) (.slice (some ⟨gl, 0, none⟩) q cl2) (.int .u64 W2) (.bool false)) := sL6
 have HSHH : Hid (Sx V6 (KL + 1) (.slice (some ⟨g, o, none⟩) q cap) (.slice (some ⟨gh, 0, none⟩) q ch2) (.int .u64 W1) (.bool true)) := sH
 have cSh := HSH.out V6 HP7.out.bel
 clear hV6 hKL sL sH sL6 b5 b6 bb HP6 HWL6 HWH6 HSH
 go_wp2_with fail
 refine cSh.mono ?_
 rintro e V7 ⟨ga, ca, gb, cb, rfl, hTW⟩
 have hb7 := hTW.bl
 have n1 := wds_own hTW.a p HPQN.out
 have n2 := wds_own hTW.b p HPQN.out
 rw [HND.out.1] at n1
 rw [HND.out.2] at n2
 have HP8 : Hid _ := HP7.out.below hb7
 have HWL8 : Hid (Wds V7 gl (usOf (mL l L)) q) := HWL7.out.below hb7
 have HWH8 : Hid (Wds V7 gh (usOf (mH l L)) q) := HWH7.out.below hb7
 have sL := Sx.below HSL.out hb7
 have sH := Sx.below HSHH.out hb7
 obtain ⟨j0, _⟩ := Jb.cells HP8.out.job
 rw [HPJ.out] at j0
 have HV : Hid (Hc6 V7 ⟨KL, 0, none⟩ ⟨KL, 1, none⟩ ⟨KL, 2, none⟩ ⟨KL, 3, none⟩ ⟨ga, p, none⟩ ⟨gb, p, none⟩ (.slice (some ⟨g, o, none⟩) q cap) (.slice (some ⟨gl, 0, none⟩) q cl2) (.int .u64 W2) (.bool false) (.int .u64 NU) (.int .u64 DE) V7) := ⟨sL.1, sL.2.1, sL.2.2.1, sL.2.2.2, n1, n2, Below.refl _ _, Nat.le_refl _⟩
 have HS : Hid (Hc6 V7 ⟨KL, 0, none⟩ ⟨KL, 1, none⟩ ⟨KL, 2, none⟩ ⟨KL, 3, none⟩ ⟨ga, p, none⟩ ⟨gb, p, none⟩ (.slice (some ⟨g, o, none⟩) q cap) (.slice (some ⟨gl, 0, none⟩) q cl2) (.int .u64 W2) (.bool false) (.int .u64 NU) (.int .u64 DE) V7.drew) := Hc6.keep HV.out (drew_belowI V7)
 have HVH : Hid (Hc6 V7 ⟨KL + 1, 0, none⟩ ⟨KL + 1, 1, none⟩ ⟨KL + 1, 2, none⟩ ⟨KL + 1, 3, none⟩ ⟨ga, p, none⟩ ⟨gb, p, none⟩ (.slice (some ⟨g, o, none⟩) q cap) (.slice (some ⟨gh, 0, none⟩) q ch2) (.int .u64 W1) (.bool true) (.int .u64 NU) (.int .u64 DE) V7) := ⟨sH.1, sH.2.1, sH.2.2.1, sH.2.2.2, n1, n2, Below.refl _ _, Nat.le_refl _⟩
 have cE := HEFL.out V7.drew gl cl2 (HP8.out.below (drew_belowI V7)).bel (HWL8.out.below (drew_belowI V7))
 clear cSh hTW hb7 n1 n2 HP7 HWL7 HWH7 HSL HSHH sL sH
 go_upto_region 14 with fail
 clear j0
 go_cut [24] (fun v wq => v = .int .u64 XL ∧ Below V7.heap.size V7 wq)
 case first =>
  as_aux_lemma =>
   go_region_held3 (fun x => x.cell? ⟨KL, 0, none⟩ = some (.slice (some ⟨g, o, none⟩) q cap) ∧ x.cell? ⟨KL, 1, none⟩ = some (.slice (some ⟨gl, 0, none⟩) q cl2) ∧ x.cell? ⟨KL, 2, none⟩ = some (.int .u64 W2) ∧ x.cell? ⟨KL, 3, none⟩ = some (.bool false) ∧ x.cell? ⟨ga, p, none⟩ = some (.int .u64 NU) ∧ x.cell? ⟨gb, p, none⟩ = some (.int .u64 DE) ∧ Below V7.heap.size V7 x ∧ V7.heap.size ≤ x.heap.size)
    (first | exact HS.out | exact HX.out | exact HY.out | exact HZ.out | assumption | exact Hc6.keep (by assumption) (by assumption))
    (first
    | (go_at_call 93; refine cE.mono ?_; rintro e x ⟨rfl, hx⟩; have HX : Hid (Hc6 V7 ⟨KL, 0, none⟩ ⟨KL, 1, none⟩ ⟨KL, 2, none⟩ ⟨KL, 3, none⟩ ⟨ga, p, none⟩ ⟨gb, p, none⟩ (.slice (some ⟨g, o, none⟩) q cap) (.slice (some ⟨gl, 0, none⟩) q cl2) (.int .u64 W2) (.bool false) (.int .u64 NU) (.int .u64 DE) x) := Hc6.keep HS.out hx)
    | (go_at_call 72; refine (cXL _).mono ?_; rintro e y ⟨rfl, hy⟩; have HY : Hid (Hc6 V7 ⟨KL, 0, none⟩ ⟨KL, 1, none⟩ ⟨KL, 2, none⟩ ⟨KL, 3, none⟩ ⟨ga, p, none⟩ ⟨gb, p, none⟩ (.slice (some ⟨g, o, none⟩) q cap) (.slice (some ⟨gl, 0, none⟩) q cl2) (.int .u64 W2) (.bool false) (.int .u64 NU) (.int .u64 DE) y) := Hc6.keep HX.out hy))
   all_goals
    have hb := HY.out.bel
    clear HX HS HV HVH HY cE cXL cXH cBL cBH
    go_wp2
    go_meet
    exact ⟨rfl, hb⟩
 case rest =>
 obtain ⟨rfl, hb⟩ := hcut
 have HP9 : Hid _ := HP8.out.below hb
 have HWH9 : Hid (Wds wc gh (usOf (mH l L)) q) := HWH8.out.below hb
 have HVH2 : Hid (Hc6 wc ⟨KL + 1, 0, none⟩ ⟨KL + 1, 1, none⟩ ⟨KL + 1, 2, none⟩ ⟨KL + 1, 3, none⟩ ⟨ga, p, none⟩ ⟨gb, p, none⟩ (.slice (some ⟨g, o, none⟩) q cap) (.slice (some ⟨gh, 0, none⟩) q ch2) (.int .u64 W1) (.bool true) (.int .u64 NU) (.int .u64 DE) wc) := by
  have := Hc6.keep HVH.out hb
  exact ⟨this.1, this.2.1, this.2.2.1, this.2.2.2.1, this.2.2.2.2.1, this.2.2.2.2.2.1, Below.refl _ _, Nat.le_refl _⟩
 obtain ⟨V8, hV8⟩ : ∃ V8, wc = V8 := ⟨_, rfl⟩
 rw [hV8] at HP9 HWH9 HVH2
 rw [hV8]
 clear hV8 hb HS HV HVH cE cXL HP8 HWL8 HWH8 HEFL
 have HS : Hid (Hc6 V8 ⟨KL + 1, 0, none⟩ ⟨KL + 1, 1, none⟩ ⟨KL + 1, 2, none⟩ ⟨KL + 1, 3, none⟩ ⟨ga, p, none⟩ ⟨gb, p, none⟩ (.slice (some ⟨g, o, none⟩) q cap) (.slice (some ⟨gh, 0, none⟩) q ch2) (.int .u64 W1) (.bool true) (.int .u64 NU) (.int .u64 DE) V8.drew) := Hc6.keep HVH2.out (drew_belowI V8)
 have cE := HEFH.out V8.drew gh ch2 (HP9.out.below (drew_belowI V8)).bel (HWH9.out.below (drew_belowI V8))
 go_upto_region 15 with fail
 go_cut [25] (fun v wq => v = .int .u64 XH ∧ Below V8.heap.size V8 wq)
 case first =>
  as_aux_lemma =>
   go_region_held3 (fun x => x.cell? ⟨KL + 1, 0, none⟩ = some (.slice (some ⟨g, o, none⟩) q cap) ∧ x.cell? ⟨KL + 1, 1, none⟩ = some (.slice (some ⟨gh, 0, none⟩) q ch2) ∧ x.cell? ⟨KL + 1, 2, none⟩ = some (.int .u64 W1) ∧ x.cell? ⟨KL + 1, 3, none⟩ = some (.bool true) ∧ x.cell? ⟨ga, p, none⟩ = some (.int .u64 NU) ∧ x.cell? ⟨gb, p, none⟩ = some (.int .u64 DE) ∧ Below V8.heap.size V8 x ∧ V8.heap.size ≤ x.heap.size)
    (first | exact HS.out | exact HX.out | exact HY.out | exact HZ.out | assumption | exact Hc6.keep (by assumption) (by assumption))
    (first
    | (go_at_call 93; refine cE.mono ?_; rintro e x ⟨rfl, hx⟩; have HX : Hid (Hc6 V8 ⟨KL + 1, 0, none⟩ ⟨KL + 1, 1, none⟩ ⟨KL + 1, 2, none⟩ ⟨KL + 1, 3, none⟩ ⟨ga, p, none⟩ ⟨gb, p, none⟩ (.slice (some ⟨g, o, none⟩) q cap) (.slice (some ⟨gh, 0, none⟩) q ch2) (.int .u64 W1) (.bool true) (.int .u64 NU) (.int .u64 DE) x) := Hc6.keep HS.out hx)
    | (go_at_call 72; refine (cXH _).mono ?_; rintro e y ⟨rfl, hy⟩; have HY : Hid (Hc6 V8 ⟨KL + 1, 0, none⟩ ⟨KL + 1, 1, none⟩ ⟨KL + 1, 2, none⟩ ⟨KL + 1, 3, none⟩ ⟨ga, p, none⟩ ⟨gb, p, none⟩ (.slice (some ⟨g, o, none⟩) q cap) (.slice (some ⟨gh, 0, none⟩) q ch2) (.int .u64 W1) (.bool true) (.int .u64 NU) (.int .u64 DE) y) := Hc6.keep HX.out hy))
   all_goals
    have hb := HY.out.bel
    clear HX HS HVH2 HY cE cXH cBL cBH
    go_wp2
    go_meet
    exact ⟨rfl, hb⟩
 case rest =>
 obtain ⟨rfl, hb⟩ := hcut
 have HPA : Hid _ := HP9.out.below hb
 obtain ⟨V9, hV9⟩ : ∃ V9, wc = V9 := ⟨_, rfl⟩
 rw [hV9] at HPA
 rw [hV9]
 clear hV9 hb HS HVH2 cE cXH HP9 HWH9 HEFH HACS HND
 go_wp2_with fail
 refine (cBH _).mono ?_
 rintro e VA ⟨rfl, hbA⟩
 go_wp2_with fail
 refine (cBL _).mono ?_
 rintro e VB ⟨rfl, hbB⟩
 have HPB : Hid _ := (HPA.out.below hbA).below hbB
 clear cBH cBL hbA hbB HPA
 go_upto_region 18 with fail
 obtain ⟨e1, e2, e3, e4, e5⟩ := HEE.out
 have HV : Hid (Hc4 VB ⟨d, 3, none⟩ ⟨d, 5, none⟩ ⟨w.heap.size, 3, none⟩ ⟨w.heap.size, 1, none⟩ (.int .i64 c.age) (.int .i64 c.size) (.int .i64 j.su) (.int .i64 j.no) VB) := by
  have hk := HPB.out.idl.blk
  obtain ⟨_, j1, _, j3, _⟩ := Jb.cells HPB.out.job
  exact ⟨(cell_of (o := 3) hk rfl).1, (cell_of (o := 5) hk rfl).1, j3, j1, Below.refl _ _, Nat.le_refl _⟩
 have cM := rmuln (restV c now j) 9223372036854775808 HWR.out.1 ⟨by omega, by omega⟩
 go_cut [30] (fun b wq => ∃ gg : Nat, b = .pointer (some ⟨gg, 0, none⟩) ∧ wq.cell? ⟨gg, 0, none⟩ = some (.int .u64 (hiW (restV c now j * 9223372036854775808))) ∧ wq.cell? ⟨gg, 1, none⟩ = some (.int .u64 (loW (restV c now j * 9223372036854775808))) ∧ VB.heap.size ≤ gg ∧ Below VB.heap.size VB wq)
 case first =>
  as_aux_lemma =>
   generalize restV c now j = RV at *
   refine wp_region_last (S := (fun x' : World => x'.cell? ⟨d, 3, none⟩ = some (.int .i64 c.age) ∧ x'.cell? ⟨d, 5, none⟩ = some (.int .i64 c.size) ∧ x'.cell? ⟨w.heap.size, 3, none⟩ = some (.int .i64 j.su) ∧ x'.cell? ⟨w.heap.size, 1, none⟩ = some (.int .i64 j.no))) (L := 22) (by kernel_rfl) ?_
   obtain ⟨W0, hW0⟩ : ∃ W0, VB.drew = W0 := ⟨_, rfl⟩
   have BW0 : Below VB.heap.size VB W0 := by rw [← hW0]; exact drew_belowI VB
   rw [hW0]
   clear hW0
   have HSB : Hid (∀ x, Below VB.heap.size VB x → (fun x' : World => x'.cell? ⟨d, 3, none⟩ = some (.int .i64 c.age) ∧ x'.cell? ⟨d, 5, none⟩ = some (.int .i64 c.size) ∧ x'.cell? ⟨w.heap.size, 3, none⟩ = some (.int .i64 j.su) ∧ x'.cell? ⟨w.heap.size, 1, none⟩ = some (.int .i64 j.no)) x) := fun x hx => have h := Hc4.keep HV.out hx; ⟨h.1, h.2.1, h.2.2.1, h.2.2.2.1⟩
   have HSW0 := HSB.out _ BW0
   clear HV HPB
   refine last_take (i := 0) (v := ?v0k1) rfl (by kernel_rfl) (by kernel_rfl) (by kernel_rfl) (by kernel_rfl) rfl (fun _ _ _ h => h) (by rfl) HSW0 ?hy0k1 ?rest0k1
   case hy0k1 =>
    intro xx hSx
    go_simp
    try (with_reducible rfl)
   simp only [Act.put, List.setIfInBounds_toArray, List.set_cons_zero, List.set_cons_succ]
   refine last_take (i := 1) (v := ?v1k2) rfl (by kernel_rfl) (by kernel_rfl) (by kernel_rfl) (by kernel_rfl) rfl (fun _ _ _ h => h) (by rfl) HSW0 ?hy1k2 ?rest1k2
   case hy1k2 =>
    intro xx hSx
    go_simp
    try (with_reducible rfl)
   simp only [Act.put, List.setIfInBounds_toArray, List.set_cons_zero, List.set_cons_succ]
   refine last_take (i := 2) (v := ?v2k3) rfl (by kernel_rfl) (by kernel_rfl) (by kernel_rfl) (by kernel_rfl) rfl (fun _ _ _ h => h) (by rfl) HSW0 ?hy2k3 ?rest2k3
   case hy2k3 =>
    intro xx hSx
    go_simp
    try (with_reducible rfl)
   simp only [Act.put, List.setIfInBounds_toArray, List.set_cons_zero, List.set_cons_succ]
   refine last_take (i := 3) (v := ?v3k4) rfl (by kernel_rfl) (by kernel_rfl) (by kernel_rfl) (by kernel_rfl) rfl (fun _ _ _ h => h) (by rfl) HSW0 ?hy3k4 ?rest3k4
   case hy3k4 =>
    intro xx hSx
    go_simp
    try (with_reducible rfl)
   simp only [Act.put, List.setIfInBounds_toArray, List.set_cons_zero, List.set_cons_succ]
   refine last_take (i := 4) (v := ?v4k5) rfl (by kernel_rfl) (by kernel_rfl) (by kernel_rfl) (by kernel_rfl) rfl (fun _ _ _ h => h) (by rfl) HSW0 ?hy4k5 ?rest4k5
   case hy4k5 =>
    intro xx hSx
    obtain ⟨s0, s1, s2, s3⟩ := hSx
    go_simp
    try (with_reducible rfl)
   simp only [Act.put, List.setIfInBounds_toArray, List.set_cons_zero, List.set_cons_succ]
   refine last_take (i := 5) (v := ?v5k6) rfl (by kernel_rfl) (by kernel_rfl) (by kernel_rfl) (by kernel_rfl) rfl (fun _ _ _ h => h) (by rfl) HSW0 ?hy5k6 ?rest5k6
   case hy5k6 =>
    intro xx hSx
    go_simp
    try (with_reducible rfl)
   simp only [Act.put, List.setIfInBounds_toArray, List.set_cons_zero, List.set_cons_succ]
   refine last_take (i := 6) (v := ?v6k7) rfl (by kernel_rfl) (by kernel_rfl) (by kernel_rfl) (by kernel_rfl) rfl (fun _ _ _ h => h) (by rfl) HSW0 ?hy6k7 ?rest6k7
   case hy6k7 =>
    intro xx hSx
    go_simp
    try (with_reducible rfl)
   simp only [Act.put, List.setIfInBounds_toArray, List.set_cons_zero, List.set_cons_succ]
   refine last_take (i := 7) (v := ?v7k8) rfl (by kernel_rfl) (by kernel_rfl) (by kernel_rfl) (by kernel_rfl) rfl (fun _ _ _ h => h) (by rfl) HSW0 ?hy7k8 ?rest7k8
   case hy7k8 =>
    intro xx hSx
    obtain ⟨s0, s1, s2, s3⟩ := hSx
    go_simp
    try (with_reducible rfl)
   simp only [Act.put, List.setIfInBounds_toArray, List.set_cons_zero, List.set_cons_succ]
   refine last_take (i := 8) (v := ?v8k9) rfl (by kernel_rfl) (by kernel_rfl) (by kernel_rfl) (by kernel_rfl) rfl (fun _ _ _ h => h) (by rfl) HSW0 ?hy8k9 ?rest8k9
   case hy8k9 =>
    intro xx hSx
    go_simp
    try (with_reducible rfl)
   simp only [Act.put, List.setIfInBounds_toArray, List.set_cons_zero, List.set_cons_succ]
   refine last_take (i := 9) (v := ?v9k10) rfl (by kernel_rfl) (by kernel_rfl) (by kernel_rfl) (by kernel_rfl) rfl (fun _ _ _ h => h) (by rfl) HSW0 ?hy9k10 ?rest9k10
   case hy9k10 =>
    intro xx hSx
    go_simp
    try (with_reducible rfl)
   simp only [Act.put, List.setIfInBounds_toArray, List.set_cons_zero, List.set_cons_succ]
   refine last_take (i := 10) (v := ?v10k11) rfl (by kernel_rfl) (by kernel_rfl) (by kernel_rfl) (by kernel_rfl) rfl (fun _ _ _ h => h) (by rfl) HSW0 ?hy10k11 ?rest10k11
   case hy10k11 =>
    intro xx hSx
    go_simp
    try (with_reducible rfl)
   simp only [Act.put, List.setIfInBounds_toArray, List.set_cons_zero, List.set_cons_succ]
   refine last_take (i := 11) (v := ?v11k12) rfl (by kernel_rfl) (by kernel_rfl) (by kernel_rfl) (by kernel_rfl) rfl (fun _ _ _ h => h) (by rfl) HSW0 ?hy11k12 ?rest11k12
   case hy11k12 =>
    intro xx hSx
    go_simp
    try (with_reducible rfl)
   simp only [Act.put, List.setIfInBounds_toArray, List.set_cons_zero, List.set_cons_succ]
   refine last_take (i := 12) (v := ?v12k13) rfl (by kernel_rfl) (by kernel_rfl) (by kernel_rfl) (by kernel_rfl) rfl (fun _ _ _ h => h) (by rfl) HSW0 ?hy12k13 ?rest12k13
   case hy12k13 =>
    intro xx hSx
    go_simp
    try (with_reducible rfl)
   simp only [Act.put, List.setIfInBounds_toArray, List.set_cons_zero, List.set_cons_succ]
   refine last_take (i := 13) (v := ?v13k14) rfl (by kernel_rfl) (by kernel_rfl) (by kernel_rfl) (by kernel_rfl) rfl (fun _ _ _ h => h) (by rfl) HSW0 ?hy13k14 ?rest13k14
   case hy13k14 =>
    intro xx hSx
    go_simp
    try (with_reducible rfl)
   simp only [Act.put, List.setIfInBounds_toArray, List.set_cons_zero, List.set_cons_succ]
   refine last_take (i := 14) (v := ?v14k15) rfl (by kernel_rfl) (by kernel_rfl) (by kernel_rfl) (by kernel_rfl) rfl (fun _ _ _ h => h) (by rfl) HSW0 ?hy14k15 ?rest14k15
   case hy14k15 =>
    intro xx hSx
    obtain ⟨s0, s1, s2, s3⟩ := hSx
    go_simp
    try (with_reducible rfl)
   simp only [Act.put, List.setIfInBounds_toArray, List.set_cons_zero, List.set_cons_succ]
   refine last_take (i := 15) (v := ?v15k16) rfl (by kernel_rfl) (by kernel_rfl) (by kernel_rfl) (by kernel_rfl) rfl (fun _ _ _ h => h) (by rfl) HSW0 ?hy15k16 ?rest15k16
   case hy15k16 =>
    intro xx hSx
    go_simp
    try (with_reducible rfl)
   simp only [Act.put, List.setIfInBounds_toArray, List.set_cons_zero, List.set_cons_succ]
   refine last_take (i := 16) (v := ?v16k17) rfl (by kernel_rfl) (by kernel_rfl) (by kernel_rfl) (by kernel_rfl) rfl (fun _ _ _ h => h) (by rfl) HSW0 ?hy16k17 ?rest16k17
   case hy16k17 =>
    intro xx hSx
    obtain ⟨s0, s1, s2, s3⟩ := hSx
    go_simp
    try (with_reducible rfl)
   simp only [Act.put, List.setIfInBounds_toArray, List.set_cons_zero, List.set_cons_succ]
   refine last_take (i := 17) (v := ?v17k18) rfl (by kernel_rfl) (by kernel_rfl) (by kernel_rfl) (by kernel_rfl) rfl (fun _ _ _ h => h) (by rfl) HSW0 ?hy17k18 ?rest17k18
   case hy17k18 =>
    intro xx hSx
    go_simp
    try (with_reducible rfl)
   simp only [Act.put, List.setIfInBounds_toArray, List.set_cons_zero, List.set_cons_succ]
   refine last_take (i := 18) (v := ?v18k19) rfl (by kernel_rfl) (by kernel_rfl) (by kernel_rfl) (by kernel_rfl) rfl (fun _ _ _ h => h) (by rfl) HSW0 ?hy18k19 ?rest18k19
   case hy18k19 =>
    intro xx hSx
    go_simp
    try (with_reducible rfl)
   simp only [Act.put, List.setIfInBounds_toArray, List.set_cons_zero, List.set_cons_succ]
   refine last_take (i := 19) (v := ?v19k20) rfl (by kernel_rfl) (by kernel_rfl) (by kernel_rfl) (by kernel_rfl) rfl (fun _ _ _ h => h) (by rfl) HSW0 ?hy19k20 ?rest19k20
   case hy19k20 =>
    intro xx hSx
    go_simp
    try (with_reducible rfl)
   simp only [Act.put, List.setIfInBounds_toArray, List.set_cons_zero, List.set_cons_succ]
   refine last_few (i := 20) (l := [21]) (by kernel_rfl) (List.forall_mem_cons.2 ⟨⟨_, rfl, ?h20n21⟩, List.forall_mem_cons.2 ⟨⟨_, rfl, ?h21n21⟩, List.forall_mem_nil _⟩⟩)
   case h20n21 =>
    intro K hK
    go_simp
    go_at_call 25
    refine (cM _).mono ?_
    rintro e W1 ⟨rfl, bW1⟩
    have BW1 : Below VB.heap.size VB W1 := BW0.trans (bW1.mono BW0.size)
    have HSW1 := HSB.out _ BW1
    go_simp
    refine hK.out _ _ (fun _ => HSW1) (fun _ => ?_)
    clear hK K HSW0 bW1
    refine last_one (i := 21) (by kernel_rfl) rfl ?_
    intro K hK
    go_simp
    obtain ⟨b1, hb1⟩ : ∃ b1, W1.heap.size = b1 := ⟨_, rfl⟩
    obtain ⟨W2, hW2⟩ : ∃ W2, W1.alloc (.cells #[.int .u64 0, .int .u64 0] 68) = W2 := ⟨_, rfl⟩
    have nb1 : Bx W2 b1 (.int .u64 0) (.int .u64 0) := by rw [← hW2, ← hb1]; exact Bx.new W1 _ _ _
    have bW2 : Below W1.heap.size W1 W2 := by rw [← hW2]; exact (Below.refl _ _).alloc (Nat.le_refl _) _
    try rw [hb1]
    try rw [hW2]
    have BW2 : Below VB.heap.size VB W2 := BW1.trans (bW2.mono BW1.size)
    have gb1 : VB.heap.size ≤ b1 := by rw [← hb1]; exact BW1.size
    have HSW2 := HSB.out _ BW2
    refine hK.out _ _ (fun _ => HSW2) (fun _ => ?_)
    clear hK K hW2 hb1 HSW1 bW2
    refine last_one (i := 22) (by kernel_rfl) rfl ?_
    intro K hK
    have x0 := nb1.1
    have x1 := nb1.2.1
    have x2 := nb1.2.2.1
    have x3 := nb1.2.2.2
    go_simp
    obtain ⟨W3, hW3⟩ : ∃ W3, (W2.setCell ⟨b1, 0, none⟩ (.int .u64 (hiW (RV * 9223372036854775808)))).setCell ⟨b1, 1, none⟩ (.int .u64 (loW (RV * 9223372036854775808))) = W3 := ⟨_, rfl⟩
    have nb1 := set_two nb1 (.int .u64 (hiW (RV * 9223372036854775808))) (.int .u64 (loW (RV * 9223372036854775808)))
    have BW3 : Below VB.heap.size VB ((W2.setCell ⟨b1, 0, none⟩ (.int .u64 (hiW (RV * 9223372036854775808)))).setCell ⟨b1, 1, none⟩ (.int .u64 (loW (RV * 9223372036854775808)))) := (BW2.setCell gb1 (.int .u64 (hiW (RV * 9223372036854775808)))).setCell gb1 (.int .u64 (loW (RV * 9223372036854775808)))
    rw [hW3] at BW3 nb1
    try rw [hW3]
    refine hK.out _ _ (fun h => absurd rfl h) (fun _ => ?_)
    clear hK K x0 x1 x2 x3 hW3 HSW2
    refine last_done (by kernel_rfl) ?_ _
    have HF1 : Hid (Bx W3 b1 (.int .u64 (hiW (RV * 9223372036854775808))) (.int .u64 (loW (RV * 9223372036854775808)))) := nb1
    have HF2 : Hid (VB.heap.size ≤ b1) := gb1
    have HF3 : Hid (Below VB.heap.size VB W3) := BW3
    clear nb1 gb1 BW3 HSB
    go_wp2
    go_meet
    exact ⟨b1, rfl, HF1.out.1, HF1.out.2.1, HF2.out, HF3.out⟩
   case h21n21 =>
    intro K hK
    go_simp
    obtain ⟨b1, hb1⟩ : ∃ b1, W0.heap.size = b1 := ⟨_, rfl⟩
    obtain ⟨W1, hW1⟩ : ∃ W1, W0.alloc (.cells #[.int .u64 0, .int .u64 0] 68) = W1 := ⟨_, rfl⟩
    have nb1 : Bx W1 b1 (.int .u64 0) (.int .u64 0) := by rw [← hW1, ← hb1]; exact Bx.new W0 _ _ _
    have bW1 : Below W0.heap.size W0 W1 := by rw [← hW1]; exact (Below.refl _ _).alloc (Nat.le_refl _) _
    try rw [hb1]
    try rw [hW1]
    have BW1 : Below VB.heap.size VB W1 := BW0.trans (bW1.mono BW0.size)
    have gb1 : VB.heap.size ≤ b1 := by rw [← hb1]; exact BW0.size
    have HSW1 := HSB.out _ BW1
    refine hK.out _ _ (fun _ => HSW1) (fun _ => ?_)
    clear hK K hW1 hb1 HSW0 bW1
    refine last_one (i := 20) (by kernel_rfl) rfl ?_
    intro K hK
    go_simp
    go_at_call 25
    refine (cM _).mono ?_
    rintro e W2 ⟨rfl, bW2⟩
    have BW2 : Below VB.heap.size VB W2 := BW1.trans (bW2.mono BW1.size)
    have nb1 := nb1.below bW2
    have HSW2 := HSB.out _ BW2
    go_simp
    refine hK.out _ _ (fun _ => HSW2) (fun _ => ?_)
    clear hK K HSW1 bW2
    refine last_one (i := 22) (by kernel_rfl) rfl ?_
    intro K hK
    have x0 := nb1.1
    have x1 := nb1.2.1
    have x2 := nb1.2.2.1
    have x3 := nb1.2.2.2
    go_simp
    obtain ⟨W3, hW3⟩ : ∃ W3, (W2.setCell ⟨b1, 0, none⟩ (.int .u64 (hiW (RV * 9223372036854775808)))).setCell ⟨b1, 1, none⟩ (.int .u64 (loW (RV * 9223372036854775808))) = W3 := ⟨_, rfl⟩
    have nb1 := set_two nb1 (.int .u64 (hiW (RV * 9223372036854775808))) (.int .u64 (loW (RV * 9223372036854775808)))
    have BW3 : Below VB.heap.size VB ((W2.setCell ⟨b1, 0, none⟩ (.int .u64 (hiW (RV * 9223372036854775808)))).setCell ⟨b1, 1, none⟩ (.int .u64 (loW (RV * 9223372036854775808)))) := (BW2.setCell gb1 (.int .u64 (hiW (RV * 9223372036854775808)))).setCell gb1 (.int .u64 (loW (RV * 9223372036854775808)))
    rw [hW3] at BW3 nb1
    try rw [hW3]
    refine hK.out _ _ (fun h => absurd rfl h) (fun _ => ?_)
    clear hK K x0 x1 x2 x3 hW3 HSW2
    refine last_done (by kernel_rfl) ?_ _
    have HF1 : Hid (Bx W3 b1 (.int .u64 (hiW (RV * 9223372036854775808))) (.int .u64 (loW (RV * 9223372036854775808)))) := nb1
    have HF2 : Hid (VB.heap.size ≤ b1) := gb1
    have HF3 : Hid (Below VB.heap.size VB W3) := BW3
    clear nb1 gb1 BW3 HSB
    go_wp2
    go_meet
    exact ⟨b1, rfl, HF1.out.1, HF1.out.2.1, HF2.out, HF3.out⟩
 case rest =>
 obtain ⟨gg, rfl, gg0, gg1, hgg, hb⟩ := hcut
 have HPC : Hid _ := HPB.out.below hb
 have nR := HWR.out.2
 obtain ⟨XA, hXA⟩ : ∃ XA, Wd.addV (restV c now j * 9223372036854775808) (c.fair * FL) = XA := ⟨_, rfl⟩
 obtain ⟨XB, hXB⟩ : ∃ XB, Wd.addV (restV c now j * 9223372036854775808) (c.fair * FH) = XB := ⟨_, rfl⟩
 have HEQ : Hid (Wd.addV (restV c now j * 9223372036854775808) (c.fair * FL) = XA ∧ Wd.addV (restV c now j * 9223372036854775808) (c.fair * FH) = XB) := ⟨hXA, hXB⟩
 obtain ⟨RR, hRR⟩ : ∃ RR, restV c now j * 9223372036854775808 = RR := ⟨_, rfl⟩
 rw [hRR] at nR gg0 gg1 hXA hXB
 obtain ⟨VC, hVC⟩ : ∃ VC, wc = VC := ⟨_, rfl⟩
 rw [hVC] at HPC gg0 gg1
 rw [hVC]
 clear hVC hb HV cM e1 e2 e3 e4 e5 HEE HWR HPB hRR hgg
 have cM1 := rmuln c.fair FL HWF.out HFW.out.1
 have cM2 := rmuln c.fair FH HWF.out HFW.out.2
 have cA1 := raddn RR (c.fair * FL) nR (mul_num HWF.out HFW.out.1)
 have cA2 := raddn RR (c.fair * FH) nR (mul_num HWF.out HFW.out.2)
 rw [hXA] at cA1
 rw [hXB] at cA2
 clear hXA hXB
 obtain ⟨YA, hYA⟩ : ∃ YA, c.fair * FL = YA := ⟨_, rfl⟩
 obtain ⟨YB, hYB⟩ : ∃ YB, c.fair * FH = YB := ⟨_, rfl⟩
 rw [hYA] at cM1 cA1
 rw [hYB] at cM2 cA2
 clear hYA hYB
 obtain ⟨BA, hBA⟩ : ∃ BA, addB RR YA = BA := ⟨_, rfl⟩
 obtain ⟨BB, hBB⟩ : ∃ BB, addB RR YB = BB := ⟨_, rfl⟩
 rw [hBA] at cA1
 rw [hBB] at cA2
 clear hBA hBB
 have d4 := (cell_of (o := 4) HPC.out.idl.blk rfl).1
 have HV : Hid (Hc3 VC ⟨gg, 0, none⟩ ⟨gg, 1, none⟩ ⟨d, 4, none⟩ (.int .u64 (hiW RR)) (.int .u64 (loW RR)) (.int .i64 c.fair) VC) := ⟨gg0, gg1, d4, Below.refl _ _, Nat.le_refl _⟩
 clear gg0 gg1 d4
 go_upto_region 19 with fail
 go_cut [31] (fun b wq => ∃ gx : Nat, b = .pointer (some ⟨gx, 0, none⟩) ∧ wq.cell? ⟨gx, 0, none⟩ = some (.int .u64 (hiW XA)) ∧ wq.cell? ⟨gx, 1, none⟩ = some (.int .u64 (loW XA)) ∧ VC.heap.size ≤ gx ∧ Below VC.heap.size VC wq)
 case first =>
  as_aux_lemma =>
   refine wp_region_last (S := (fun x' : World => x'.cell? ⟨gg, 0, none⟩ = some (.int .u64 (hiW RR)) ∧ x'.cell? ⟨gg, 1, none⟩ = some (.int .u64 (loW RR)) ∧ x'.cell? ⟨d, 4, none⟩ = some (.int .i64 c.fair))) (L := 15) (by kernel_rfl) ?_
   obtain ⟨W0, hW0⟩ : ∃ W0, VC.drew = W0 := ⟨_, rfl⟩
   have BW0 : Below VC.heap.size VC W0 := by rw [← hW0]; exact drew_belowI VC
   rw [hW0]
   clear hW0
   have HSB : Hid (∀ x, Below VC.heap.size VC x → (fun x' : World => x'.cell? ⟨gg, 0, none⟩ = some (.int .u64 (hiW RR)) ∧ x'.cell? ⟨gg, 1, none⟩ = some (.int .u64 (loW RR)) ∧ x'.cell? ⟨d, 4, none⟩ = some (.int .i64 c.fair)) x) := fun x hx => have h := Hc3.keep HV.out hx; ⟨h.1, h.2.1, h.2.2.1⟩
   have HSW0 := HSB.out _ BW0
   clear HV HPC cM2 cA2
   refine last_take (i := 0) (v := ?v0k22) rfl (by kernel_rfl) (by kernel_rfl) (by kernel_rfl) (by kernel_rfl) rfl (fun _ _ _ h => h) (by rfl) HSW0 ?hy0k22 ?rest0k22
   case hy0k22 =>
    intro xx hSx
    obtain ⟨s0, s1, s2⟩ := hSx
    go_simp
    try (with_reducible rfl)
   simp only [Act.put, List.setIfInBounds_toArray, List.set_cons_zero, List.set_cons_succ]
   refine last_take (i := 1) (v := ?v1k23) rfl (by kernel_rfl) (by kernel_rfl) (by kernel_rfl) (by kernel_rfl) rfl (fun _ _ _ h => h) (by rfl) HSW0 ?hy1k23 ?rest1k23
   case hy1k23 =>
    intro xx hSx
    go_simp
    try (with_reducible rfl)
   simp only [Act.put, List.setIfInBounds_toArray, List.set_cons_zero, List.set_cons_succ]
   refine last_take (i := 2) (v := ?v2k24) rfl (by kernel_rfl) (by kernel_rfl) (by kernel_rfl) (by kernel_rfl) rfl (fun _ _ _ h => h) (by rfl) HSW0 ?hy2k24 ?rest2k24
   case hy2k24 =>
    intro xx hSx
    go_simp
    try (with_reducible rfl)
   simp only [Act.put, List.setIfInBounds_toArray, List.set_cons_zero, List.set_cons_succ]
   refine last_take (i := 3) (v := ?v3k25) rfl (by kernel_rfl) (by kernel_rfl) (by kernel_rfl) (by kernel_rfl) rfl (fun _ _ _ h => h) (by rfl) HSW0 ?hy3k25 ?rest3k25
   case hy3k25 =>
    intro xx hSx
    go_simp
    try (with_reducible rfl)
   simp only [Act.put, List.setIfInBounds_toArray, List.set_cons_zero, List.set_cons_succ]
   refine last_take (i := 4) (v := ?v4k26) rfl (by kernel_rfl) (by kernel_rfl) (by kernel_rfl) (by kernel_rfl) rfl (fun _ _ _ h => h) (by rfl) HSW0 ?hy4k26 ?rest4k26
   case hy4k26 =>
    intro xx hSx
    go_simp
    try (with_reducible rfl)
   simp only [Act.put, List.setIfInBounds_toArray, List.set_cons_zero, List.set_cons_succ]
   refine last_take (i := 5) (v := ?v5k27) rfl (by kernel_rfl) (by kernel_rfl) (by kernel_rfl) (by kernel_rfl) rfl (fun _ _ _ h => h) (by rfl) HSW0 ?hy5k27 ?rest5k27
   case hy5k27 =>
    intro xx hSx
    obtain ⟨s0, s1, s2⟩ := hSx
    go_simp
    try (with_reducible rfl)
   simp only [Act.put, List.setIfInBounds_toArray, List.set_cons_zero, List.set_cons_succ]
   refine last_take (i := 6) (v := ?v6k28) rfl (by kernel_rfl) (by kernel_rfl) (by kernel_rfl) (by kernel_rfl) rfl (fun _ _ _ h => h) (by rfl) HSW0 ?hy6k28 ?rest6k28
   case hy6k28 =>
    intro xx hSx
    go_simp
    try (with_reducible rfl)
   simp only [Act.put, List.setIfInBounds_toArray, List.set_cons_zero, List.set_cons_succ]
   refine last_take (i := 7) (v := ?v7k29) rfl (by kernel_rfl) (by kernel_rfl) (by kernel_rfl) (by kernel_rfl) rfl (fun _ _ _ h => h) (by rfl) HSW0 ?hy7k29 ?rest7k29
   case hy7k29 =>
    intro xx hSx
    go_simp
    try (with_reducible rfl)
   simp only [Act.put, List.setIfInBounds_toArray, List.set_cons_zero, List.set_cons_succ]
   refine last_few (i := 8) (l := [13]) (by kernel_rfl) (List.forall_mem_cons.2 ⟨⟨_, rfl, ?h8n30⟩, List.forall_mem_cons.2 ⟨⟨_, rfl, ?h13n30⟩, List.forall_mem_nil _⟩⟩)
   case h8n30 =>
    intro K hK
    go_simp
    go_at_call 25
    refine (cM1 _).mono ?_
    rintro e W1 ⟨rfl, bW1⟩
    have BW1 : Below VC.heap.size VC W1 := BW0.trans (bW1.mono BW0.size)
    have HSW1 := HSB.out _ BW1
    go_simp
    refine hK.out _ _ (fun _ => HSW1) (fun _ => ?_)
    clear hK K HSW0 bW1
    refine last_few (i := 9) (l := [13]) (by kernel_rfl) (List.forall_mem_cons.2 ⟨⟨_, rfl, ?h9n31⟩, List.forall_mem_cons.2 ⟨⟨_, rfl, ?h13n31⟩, List.forall_mem_nil _⟩⟩)
    case h9n31 =>
     intro K hK
     go_simp
     go_at_call 28
     refine (cA1 _).mono ?_
     rintro e W2 ⟨rfl, bW2⟩
     have BW2 : Below VC.heap.size VC W2 := BW1.trans (bW2.mono BW1.size)
     have HSW2 := HSB.out _ BW2
     go_simp
     refine hK.out _ _ (fun _ => HSW2) (fun _ => ?_)
     clear hK K HSW1 bW2
     refine last_take (i := 10) (v := ?v10k32) rfl (by kernel_rfl) (by kernel_rfl) (by kernel_rfl) (by kernel_rfl) rfl (fun _ _ _ h => h) (by rfl) HSW2 ?hy10k32 ?rest10k32
     case hy10k32 =>
      intro xx hSx
      go_simp
      try (with_reducible rfl)
     simp only [Act.put, List.setIfInBounds_toArray, List.set_cons_zero, List.set_cons_succ]
     refine last_take (i := 11) (v := ?v11k33) rfl (by kernel_rfl) (by kernel_rfl) (by kernel_rfl) (by kernel_rfl) rfl (fun _ _ _ h => h) (by rfl) HSW2 ?hy11k33 ?rest11k33
     case hy11k33 =>
      intro xx hSx
      go_simp
      try (with_reducible rfl)
     simp only [Act.put, List.setIfInBounds_toArray, List.set_cons_zero, List.set_cons_succ]
     refine last_take (i := 12) (v := ?v12k34) rfl (by kernel_rfl) (by kernel_rfl) (by kernel_rfl) (by kernel_rfl) rfl (fun _ _ _ h => h) (by rfl) HSW2 ?hy12k34 ?rest12k34
     case hy12k34 =>
      intro xx hSx
      go_simp
      try (with_reducible rfl)
     simp only [Act.put, List.setIfInBounds_toArray, List.set_cons_zero, List.set_cons_succ]
     refine last_one (i := 13) (by kernel_rfl) rfl ?_
     intro K hK
     go_simp
     obtain ⟨b1, hb1⟩ : ∃ b1, W2.heap.size = b1 := ⟨_, rfl⟩
     obtain ⟨W3, hW3⟩ : ∃ W3, W2.alloc (.cells #[.int .u64 0, .int .u64 0] 68) = W3 := ⟨_, rfl⟩
     have nb1 : Bx W3 b1 (.int .u64 0) (.int .u64 0) := by rw [← hW3, ← hb1]; exact Bx.new W2 _ _ _
     have bW3 : Below W2.heap.size W2 W3 := by rw [← hW3]; exact (Below.refl _ _).alloc (Nat.le_refl _) _
     try rw [hb1]
     try rw [hW3]
     have BW3 : Below VC.heap.size VC W3 := BW2.trans (bW3.mono BW2.size)
     have gb1 : VC.heap.size ≤ b1 := by rw [← hb1]; exact BW2.size
     have HSW3 := HSB.out _ BW3
     refine hK.out _ _ (fun _ => HSW3) (fun _ => ?_)
     clear hK K hW3 hb1 HSW2 bW3
     refine last_one (i := 14) (by kernel_rfl) rfl ?_
     intro K hK
     have x0 := nb1.1
     have x1 := nb1.2.1
     have x2 := nb1.2.2.1
     have x3 := nb1.2.2.2
     go_simp
     obtain ⟨W4, hW4⟩ : ∃ W4, (W3.setCell ⟨b1, 0, none⟩ (.int .u64 (hiW XA))).setCell ⟨b1, 1, none⟩ (.int .u64 (loW XA)) = W4 := ⟨_, rfl⟩
     have nb1 := set_two nb1 (.int .u64 (hiW XA)) (.int .u64 (loW XA))
     have BW4 : Below VC.heap.size VC ((W3.setCell ⟨b1, 0, none⟩ (.int .u64 (hiW XA))).setCell ⟨b1, 1, none⟩ (.int .u64 (loW XA))) := (BW3.setCell gb1 (.int .u64 (hiW XA))).setCell gb1 (.int .u64 (loW XA))
     rw [hW4] at BW4 nb1
     try rw [hW4]
     have HSW4 := HSB.out _ BW4
     refine hK.out _ _ (fun _ => HSW4) (fun _ => ?_)
     clear hK K x0 x1 x2 x3 hW4 HSW3
     refine last_one (i := 15) (by kernel_rfl) rfl ?_
     intro K hK
     go_simp
     refine hK.out _ _ (fun h => absurd rfl h) (fun _ => ?_)
     clear hK K
     refine last_done (by kernel_rfl) ?_ _
     have HF1 : Hid (Bx W4 b1 (.int .u64 (hiW XA)) (.int .u64 (loW XA))) := nb1
     have HF2 : Hid (VC.heap.size ≤ b1) := gb1
     have HF3 : Hid (Below VC.heap.size VC W4) := BW4
     clear nb1 gb1 BW4 HSB
     go_wp2
     go_meet
     exact ⟨b1, rfl, HF1.out.1, HF1.out.2.1, HF2.out, HF3.out⟩
    case h13n31 =>
     intro K hK
     go_simp
     obtain ⟨b1, hb1⟩ : ∃ b1, W1.heap.size = b1 := ⟨_, rfl⟩
     obtain ⟨W2, hW2⟩ : ∃ W2, W1.alloc (.cells #[.int .u64 0, .int .u64 0] 68) = W2 := ⟨_, rfl⟩
     have nb1 : Bx W2 b1 (.int .u64 0) (.int .u64 0) := by rw [← hW2, ← hb1]; exact Bx.new W1 _ _ _
     have bW2 : Below W1.heap.size W1 W2 := by rw [← hW2]; exact (Below.refl _ _).alloc (Nat.le_refl _) _
     try rw [hb1]
     try rw [hW2]
     have BW2 : Below VC.heap.size VC W2 := BW1.trans (bW2.mono BW1.size)
     have gb1 : VC.heap.size ≤ b1 := by rw [← hb1]; exact BW1.size
     have HSW2 := HSB.out _ BW2
     refine hK.out _ _ (fun _ => HSW2) (fun _ => ?_)
     clear hK K hW2 hb1 HSW1 bW2
     refine last_one (i := 9) (by kernel_rfl) rfl ?_
     intro K hK
     go_simp
     go_at_call 28
     refine (cA1 _).mono ?_
     rintro e W3 ⟨rfl, bW3⟩
     have BW3 : Below VC.heap.size VC W3 := BW2.trans (bW3.mono BW2.size)
     have nb1 := nb1.below bW3
     have HSW3 := HSB.out _ BW3
     go_simp
     refine hK.out _ _ (fun _ => HSW3) (fun _ => ?_)
     clear hK K HSW2 bW3
     refine last_take (i := 10) (v := ?v10k35) rfl (by kernel_rfl) (by kernel_rfl) (by kernel_rfl) (by kernel_rfl) rfl (fun _ _ _ h => h) (by rfl) HSW3 ?hy10k35 ?rest10k35
     case hy10k35 =>
      intro xx hSx
      go_simp
      try (with_reducible rfl)
     simp only [Act.put, List.setIfInBounds_toArray, List.set_cons_zero, List.set_cons_succ]
     refine last_take (i := 11) (v := ?v11k36) rfl (by kernel_rfl) (by kernel_rfl) (by kernel_rfl) (by kernel_rfl) rfl (fun _ _ _ h => h) (by rfl) HSW3 ?hy11k36 ?rest11k36
     case hy11k36 =>
      intro xx hSx
      go_simp
      try (with_reducible rfl)
     simp only [Act.put, List.setIfInBounds_toArray, List.set_cons_zero, List.set_cons_succ]
     refine last_take (i := 12) (v := ?v12k37) rfl (by kernel_rfl) (by kernel_rfl) (by kernel_rfl) (by kernel_rfl) rfl (fun _ _ _ h => h) (by rfl) HSW3 ?hy12k37 ?rest12k37
     case hy12k37 =>
      intro xx hSx
      go_simp
      try (with_reducible rfl)
     simp only [Act.put, List.setIfInBounds_toArray, List.set_cons_zero, List.set_cons_succ]
     refine last_one (i := 14) (by kernel_rfl) rfl ?_
     intro K hK
     have x0 := nb1.1
     have x1 := nb1.2.1
     have x2 := nb1.2.2.1
     have x3 := nb1.2.2.2
     go_simp
     obtain ⟨W4, hW4⟩ : ∃ W4, (W3.setCell ⟨b1, 0, none⟩ (.int .u64 (hiW XA))).setCell ⟨b1, 1, none⟩ (.int .u64 (loW XA)) = W4 := ⟨_, rfl⟩
     have nb1 := set_two nb1 (.int .u64 (hiW XA)) (.int .u64 (loW XA))
     have BW4 : Below VC.heap.size VC ((W3.setCell ⟨b1, 0, none⟩ (.int .u64 (hiW XA))).setCell ⟨b1, 1, none⟩ (.int .u64 (loW XA))) := (BW3.setCell gb1 (.int .u64 (hiW XA))).setCell gb1 (.int .u64 (loW XA))
     rw [hW4] at BW4 nb1
     try rw [hW4]
     have HSW4 := HSB.out _ BW4
     refine hK.out _ _ (fun _ => HSW4) (fun _ => ?_)
     clear hK K x0 x1 x2 x3 hW4 HSW3
     refine last_one (i := 15) (by kernel_rfl) rfl ?_
     intro K hK
     go_simp
     refine hK.out _ _ (fun h => absurd rfl h) (fun _ => ?_)
     clear hK K
     refine last_done (by kernel_rfl) ?_ _
     have HF1 : Hid (Bx W4 b1 (.int .u64 (hiW XA)) (.int .u64 (loW XA))) := nb1
     have HF2 : Hid (VC.heap.size ≤ b1) := gb1
     have HF3 : Hid (Below VC.heap.size VC W4) := BW4
     clear nb1 gb1 BW4 HSB
     go_wp2
     go_meet
     exact ⟨b1, rfl, HF1.out.1, HF1.out.2.1, HF2.out, HF3.out⟩
   case h13n30 =>
    intro K hK
    go_simp
    obtain ⟨b1, hb1⟩ : ∃ b1, W0.heap.size = b1 := ⟨_, rfl⟩
    obtain ⟨W1, hW1⟩ : ∃ W1, W0.alloc (.cells #[.int .u64 0, .int .u64 0] 68) = W1 := ⟨_, rfl⟩
    have nb1 : Bx W1 b1 (.int .u64 0) (.int .u64 0) := by rw [← hW1, ← hb1]; exact Bx.new W0 _ _ _
    have bW1 : Below W0.heap.size W0 W1 := by rw [← hW1]; exact (Below.refl _ _).alloc (Nat.le_refl _) _
    try rw [hb1]
    try rw [hW1]
    have BW1 : Below VC.heap.size VC W1 := BW0.trans (bW1.mono BW0.size)
    have gb1 : VC.heap.size ≤ b1 := by rw [← hb1]; exact BW0.size
    have HSW1 := HSB.out _ BW1
    refine hK.out _ _ (fun _ => HSW1) (fun _ => ?_)
    clear hK K hW1 hb1 HSW0 bW1
    refine last_one (i := 8) (by kernel_rfl) rfl ?_
    intro K hK
    go_simp
    go_at_call 25
    refine (cM1 _).mono ?_
    rintro e W2 ⟨rfl, bW2⟩
    have BW2 : Below VC.heap.size VC W2 := BW1.trans (bW2.mono BW1.size)
    have nb1 := nb1.below bW2
    have HSW2 := HSB.out _ BW2
    go_simp
    refine hK.out _ _ (fun _ => HSW2) (fun _ => ?_)
    clear hK K HSW1 bW2
    refine last_one (i := 9) (by kernel_rfl) rfl ?_
    intro K hK
    go_simp
    go_at_call 28
    refine (cA1 _).mono ?_
    rintro e W3 ⟨rfl, bW3⟩
    have BW3 : Below VC.heap.size VC W3 := BW2.trans (bW3.mono BW2.size)
    have nb1 := nb1.below bW3
    have HSW3 := HSB.out _ BW3
    go_simp
    refine hK.out _ _ (fun _ => HSW3) (fun _ => ?_)
    clear hK K HSW2 bW3
    refine last_take (i := 10) (v := ?v10k38) rfl (by kernel_rfl) (by kernel_rfl) (by kernel_rfl) (by kernel_rfl) rfl (fun _ _ _ h => h) (by rfl) HSW3 ?hy10k38 ?rest10k38
    case hy10k38 =>
     intro xx hSx
     go_simp
     try (with_reducible rfl)
    simp only [Act.put, List.setIfInBounds_toArray, List.set_cons_zero, List.set_cons_succ]
    refine last_take (i := 11) (v := ?v11k39) rfl (by kernel_rfl) (by kernel_rfl) (by kernel_rfl) (by kernel_rfl) rfl (fun _ _ _ h => h) (by rfl) HSW3 ?hy11k39 ?rest11k39
    case hy11k39 =>
     intro xx hSx
     go_simp
     try (with_reducible rfl)
    simp only [Act.put, List.setIfInBounds_toArray, List.set_cons_zero, List.set_cons_succ]
    refine last_take (i := 12) (v := ?v12k40) rfl (by kernel_rfl) (by kernel_rfl) (by kernel_rfl) (by kernel_rfl) rfl (fun _ _ _ h => h) (by rfl) HSW3 ?hy12k40 ?rest12k40
    case hy12k40 =>
     intro xx hSx
     go_simp
     try (with_reducible rfl)
    simp only [Act.put, List.setIfInBounds_toArray, List.set_cons_zero, List.set_cons_succ]
    refine last_one (i := 14) (by kernel_rfl) rfl ?_
    intro K hK
    have x0 := nb1.1
    have x1 := nb1.2.1
    have x2 := nb1.2.2.1
    have x3 := nb1.2.2.2
    go_simp
    obtain ⟨W4, hW4⟩ : ∃ W4, (W3.setCell ⟨b1, 0, none⟩ (.int .u64 (hiW XA))).setCell ⟨b1, 1, none⟩ (.int .u64 (loW XA)) = W4 := ⟨_, rfl⟩
    have nb1 := set_two nb1 (.int .u64 (hiW XA)) (.int .u64 (loW XA))
    have BW4 : Below VC.heap.size VC ((W3.setCell ⟨b1, 0, none⟩ (.int .u64 (hiW XA))).setCell ⟨b1, 1, none⟩ (.int .u64 (loW XA))) := (BW3.setCell gb1 (.int .u64 (hiW XA))).setCell gb1 (.int .u64 (loW XA))
    rw [hW4] at BW4 nb1
    try rw [hW4]
    have HSW4 := HSB.out _ BW4
    refine hK.out _ _ (fun _ => HSW4) (fun _ => ?_)
    clear hK K x0 x1 x2 x3 hW4 HSW3
    refine last_one (i := 15) (by kernel_rfl) rfl ?_
    intro K hK
    go_simp
    refine hK.out _ _ (fun h => absurd rfl h) (fun _ => ?_)
    clear hK K
    refine last_done (by kernel_rfl) ?_ _
    have HF1 : Hid (Bx W4 b1 (.int .u64 (hiW XA)) (.int .u64 (loW XA))) := nb1
    have HF2 : Hid (VC.heap.size ≤ b1) := gb1
    have HF3 : Hid (Below VC.heap.size VC W4) := BW4
    clear nb1 gb1 BW4 HSB
    go_wp2
    go_meet
    exact ⟨b1, rfl, HF1.out.1, HF1.out.2.1, HF2.out, HF3.out⟩
 case rest =>
 obtain ⟨gx, rfl, gx0, gx1, hgx, hb⟩ := hcut
 have HPD : Hid _ := HPC.out.below hb
 have HV2 := Hc3.keep HV.out hb
 have HVD : Hid (Hc3 wc ⟨gg, 0, none⟩ ⟨gg, 1, none⟩ ⟨d, 4, none⟩ (.int .u64 (hiW RR)) (.int .u64 (loW RR)) (.int .i64 c.fair) wc) := ⟨HV2.1, HV2.2.1, HV2.2.2.1, Below.refl _ _, Nat.le_refl _⟩
 have HGX : Hid (wc.cell? ⟨gx, 0, none⟩ = some (.int .u64 (hiW XA)) ∧ wc.cell? ⟨gx, 1, none⟩ = some (.int .u64 (loW XA)) ∧ w.heap.size + 4 ≤ gx) := ⟨gx0, gx1, by have := HPC.out.big; omega⟩
 obtain ⟨VD, hVD⟩ : ∃ VD, wc = VD := ⟨_, rfl⟩
 rw [hVD] at HPD HVD HGX
 rw [hVD]
 clear hVD hb HV HV2 cM1 cA1 HPC gx0 gx1 hgx
 go_upto_region 20 with fail
 go_cut [33] (fun b wq => ∃ gy : Nat, b = .pointer (some ⟨gy, 0, none⟩) ∧ wq.cell? ⟨gy, 0, none⟩ = some (.int .u64 (hiW XB)) ∧ wq.cell? ⟨gy, 1, none⟩ = some (.int .u64 (loW XB)) ∧ VD.heap.size ≤ gy ∧ Below VD.heap.size VD wq)
 case first =>
  as_aux_lemma =>
   refine wp_region_last (S := (fun x' : World => x'.cell? ⟨gg, 0, none⟩ = some (.int .u64 (hiW RR)) ∧ x'.cell? ⟨gg, 1, none⟩ = some (.int .u64 (loW RR)) ∧ x'.cell? ⟨d, 4, none⟩ = some (.int .i64 c.fair))) (L := 15) (by kernel_rfl) ?_
   obtain ⟨W0, hW0⟩ : ∃ W0, VD.drew = W0 := ⟨_, rfl⟩
   have BW0 : Below VD.heap.size VD W0 := by rw [← hW0]; exact drew_belowI VD
   rw [hW0]
   clear hW0
   have HSB : Hid (∀ x, Below VD.heap.size VD x → (fun x' : World => x'.cell? ⟨gg, 0, none⟩ = some (.int .u64 (hiW RR)) ∧ x'.cell? ⟨gg, 1, none⟩ = some (.int .u64 (loW RR)) ∧ x'.cell? ⟨d, 4, none⟩ = some (.int .i64 c.fair)) x) := fun x hx => have h := Hc3.keep HVD.out hx; ⟨h.1, h.2.1, h.2.2.1⟩
   have HSW0 := HSB.out _ BW0
   clear HVD HPD HGX
   refine last_take (i := 0) (v := ?v0k41) rfl (by kernel_rfl) (by kernel_rfl) (by kernel_rfl) (by kernel_rfl) rfl (fun _ _ _ h => h) (by rfl) HSW0 ?hy0k41 ?rest0k41
   case hy0k41 =>
    intro xx hSx
    obtain ⟨s0, s1, s2⟩ := hSx
    go_simp
    try (with_reducible rfl)
   simp only [Act.put, List.setIfInBounds_toArray, List.set_cons_zero, List.set_cons_succ]
   refine last_take (i := 1) (v := ?v1k42) rfl (by kernel_rfl) (by kernel_rfl) (by kernel_rfl) (by kernel_rfl) rfl (fun _ _ _ h => h) (by rfl) HSW0 ?hy1k42 ?rest1k42
   case hy1k42 =>
    intro xx hSx
    go_simp
    try (with_reducible rfl)
   simp only [Act.put, List.setIfInBounds_toArray, List.set_cons_zero, List.set_cons_succ]
   refine last_take (i := 2) (v := ?v2k43) rfl (by kernel_rfl) (by kernel_rfl) (by kernel_rfl) (by kernel_rfl) rfl (fun _ _ _ h => h) (by rfl) HSW0 ?hy2k43 ?rest2k43
   case hy2k43 =>
    intro xx hSx
    go_simp
    try (with_reducible rfl)
   simp only [Act.put, List.setIfInBounds_toArray, List.set_cons_zero, List.set_cons_succ]
   refine last_take (i := 3) (v := ?v3k44) rfl (by kernel_rfl) (by kernel_rfl) (by kernel_rfl) (by kernel_rfl) rfl (fun _ _ _ h => h) (by rfl) HSW0 ?hy3k44 ?rest3k44
   case hy3k44 =>
    intro xx hSx
    go_simp
    try (with_reducible rfl)
   simp only [Act.put, List.setIfInBounds_toArray, List.set_cons_zero, List.set_cons_succ]
   refine last_take (i := 4) (v := ?v4k45) rfl (by kernel_rfl) (by kernel_rfl) (by kernel_rfl) (by kernel_rfl) rfl (fun _ _ _ h => h) (by rfl) HSW0 ?hy4k45 ?rest4k45
   case hy4k45 =>
    intro xx hSx
    go_simp
    try (with_reducible rfl)
   simp only [Act.put, List.setIfInBounds_toArray, List.set_cons_zero, List.set_cons_succ]
   refine last_take (i := 5) (v := ?v5k46) rfl (by kernel_rfl) (by kernel_rfl) (by kernel_rfl) (by kernel_rfl) rfl (fun _ _ _ h => h) (by rfl) HSW0 ?hy5k46 ?rest5k46
   case hy5k46 =>
    intro xx hSx
    obtain ⟨s0, s1, s2⟩ := hSx
    go_simp
    try (with_reducible rfl)
   simp only [Act.put, List.setIfInBounds_toArray, List.set_cons_zero, List.set_cons_succ]
   refine last_take (i := 6) (v := ?v6k47) rfl (by kernel_rfl) (by kernel_rfl) (by kernel_rfl) (by kernel_rfl) rfl (fun _ _ _ h => h) (by rfl) HSW0 ?hy6k47 ?rest6k47
   case hy6k47 =>
    intro xx hSx
    go_simp
    try (with_reducible rfl)
   simp only [Act.put, List.setIfInBounds_toArray, List.set_cons_zero, List.set_cons_succ]
   refine last_take (i := 7) (v := ?v7k48) rfl (by kernel_rfl) (by kernel_rfl) (by kernel_rfl) (by kernel_rfl) rfl (fun _ _ _ h => h) (by rfl) HSW0 ?hy7k48 ?rest7k48
   case hy7k48 =>
    intro xx hSx
    go_simp
    try (with_reducible rfl)
   simp only [Act.put, List.setIfInBounds_toArray, List.set_cons_zero, List.set_cons_succ]
   refine last_few (i := 8) (l := [13]) (by kernel_rfl) (List.forall_mem_cons.2 ⟨⟨_, rfl, ?h8n49⟩, List.forall_mem_cons.2 ⟨⟨_, rfl, ?h13n49⟩, List.forall_mem_nil _⟩⟩)
   case h8n49 =>
    intro K hK
    go_simp
    go_at_call 25
    refine (cM2 _).mono ?_
    rintro e W1 ⟨rfl, bW1⟩
    have BW1 : Below VD.heap.size VD W1 := BW0.trans (bW1.mono BW0.size)
    have HSW1 := HSB.out _ BW1
    go_simp
    refine hK.out _ _ (fun _ => HSW1) (fun _ => ?_)
    clear hK K HSW0 bW1
    refine last_few (i := 9) (l := [13]) (by kernel_rfl) (List.forall_mem_cons.2 ⟨⟨_, rfl, ?h9n50⟩, List.forall_mem_cons.2 ⟨⟨_, rfl, ?h13n50⟩, List.forall_mem_nil _⟩⟩)
    case h9n50 =>
     intro K hK
     go_simp
     go_at_call 28
     refine (cA2 _).mono ?_
     rintro e W2 ⟨rfl, bW2⟩
     have BW2 : Below VD.heap.size VD W2 := BW1.trans (bW2.mono BW1.size)
     have HSW2 := HSB.out _ BW2
     go_simp
     refine hK.out _ _ (fun _ => HSW2) (fun _ => ?_)
     clear hK K HSW1 bW2
     refine last_take (i := 10) (v := ?v10k51) rfl (by kernel_rfl) (by kernel_rfl) (by kernel_rfl) (by kernel_rfl) rfl (fun _ _ _ h => h) (by rfl) HSW2 ?hy10k51 ?rest10k51
     case hy10k51 =>
      intro xx hSx
      go_simp
      try (with_reducible rfl)
     simp only [Act.put, List.setIfInBounds_toArray, List.set_cons_zero, List.set_cons_succ]
     refine last_take (i := 11) (v := ?v11k52) rfl (by kernel_rfl) (by kernel_rfl) (by kernel_rfl) (by kernel_rfl) rfl (fun _ _ _ h => h) (by rfl) HSW2 ?hy11k52 ?rest11k52
     case hy11k52 =>
      intro xx hSx
      go_simp
      try (with_reducible rfl)
     simp only [Act.put, List.setIfInBounds_toArray, List.set_cons_zero, List.set_cons_succ]
     refine last_take (i := 12) (v := ?v12k53) rfl (by kernel_rfl) (by kernel_rfl) (by kernel_rfl) (by kernel_rfl) rfl (fun _ _ _ h => h) (by rfl) HSW2 ?hy12k53 ?rest12k53
     case hy12k53 =>
      intro xx hSx
      go_simp
      try (with_reducible rfl)
     simp only [Act.put, List.setIfInBounds_toArray, List.set_cons_zero, List.set_cons_succ]
     refine last_one (i := 13) (by kernel_rfl) rfl ?_
     intro K hK
     go_simp
     obtain ⟨b1, hb1⟩ : ∃ b1, W2.heap.size = b1 := ⟨_, rfl⟩
     obtain ⟨W3, hW3⟩ : ∃ W3, W2.alloc (.cells #[.int .u64 0, .int .u64 0] 68) = W3 := ⟨_, rfl⟩
     have nb1 : Bx W3 b1 (.int .u64 0) (.int .u64 0) := by rw [← hW3, ← hb1]; exact Bx.new W2 _ _ _
     have bW3 : Below W2.heap.size W2 W3 := by rw [← hW3]; exact (Below.refl _ _).alloc (Nat.le_refl _) _
     try rw [hb1]
     try rw [hW3]
     have BW3 : Below VD.heap.size VD W3 := BW2.trans (bW3.mono BW2.size)
     have gb1 : VD.heap.size ≤ b1 := by rw [← hb1]; exact BW2.size
     have HSW3 := HSB.out _ BW3
     refine hK.out _ _ (fun _ => HSW3) (fun _ => ?_)
     clear hK K hW3 hb1 HSW2 bW3
     refine last_one (i := 14) (by kernel_rfl) rfl ?_
     intro K hK
     have x0 := nb1.1
     have x1 := nb1.2.1
     have x2 := nb1.2.2.1
     have x3 := nb1.2.2.2
     go_simp
     obtain ⟨W4, hW4⟩ : ∃ W4, (W3.setCell ⟨b1, 0, none⟩ (.int .u64 (hiW XB))).setCell ⟨b1, 1, none⟩ (.int .u64 (loW XB)) = W4 := ⟨_, rfl⟩
     have nb1 := set_two nb1 (.int .u64 (hiW XB)) (.int .u64 (loW XB))
     have BW4 : Below VD.heap.size VD ((W3.setCell ⟨b1, 0, none⟩ (.int .u64 (hiW XB))).setCell ⟨b1, 1, none⟩ (.int .u64 (loW XB))) := (BW3.setCell gb1 (.int .u64 (hiW XB))).setCell gb1 (.int .u64 (loW XB))
     rw [hW4] at BW4 nb1
     try rw [hW4]
     have HSW4 := HSB.out _ BW4
     refine hK.out _ _ (fun _ => HSW4) (fun _ => ?_)
     clear hK K x0 x1 x2 x3 hW4 HSW3
     refine last_one (i := 15) (by kernel_rfl) rfl ?_
     intro K hK
     go_simp
     refine hK.out _ _ (fun h => absurd rfl h) (fun _ => ?_)
     clear hK K
     refine last_done (by kernel_rfl) ?_ _
     have HF1 : Hid (Bx W4 b1 (.int .u64 (hiW XB)) (.int .u64 (loW XB))) := nb1
     have HF2 : Hid (VD.heap.size ≤ b1) := gb1
     have HF3 : Hid (Below VD.heap.size VD W4) := BW4
     clear nb1 gb1 BW4 HSB
     go_wp2
     go_meet
     exact ⟨b1, rfl, HF1.out.1, HF1.out.2.1, HF2.out, HF3.out⟩
    case h13n50 =>
     intro K hK
     go_simp
     obtain ⟨b1, hb1⟩ : ∃ b1, W1.heap.size = b1 := ⟨_, rfl⟩
     obtain ⟨W2, hW2⟩ : ∃ W2, W1.alloc (.cells #[.int .u64 0, .int .u64 0] 68) = W2 := ⟨_, rfl⟩
     have nb1 : Bx W2 b1 (.int .u64 0) (.int .u64 0) := by rw [← hW2, ← hb1]; exact Bx.new W1 _ _ _
     have bW2 : Below W1.heap.size W1 W2 := by rw [← hW2]; exact (Below.refl _ _).alloc (Nat.le_refl _) _
     try rw [hb1]
     try rw [hW2]
     have BW2 : Below VD.heap.size VD W2 := BW1.trans (bW2.mono BW1.size)
     have gb1 : VD.heap.size ≤ b1 := by rw [← hb1]; exact BW1.size
     have HSW2 := HSB.out _ BW2
     refine hK.out _ _ (fun _ => HSW2) (fun _ => ?_)
     clear hK K hW2 hb1 HSW1 bW2
     refine last_one (i := 9) (by kernel_rfl) rfl ?_
     intro K hK
     go_simp
     go_at_call 28
     refine (cA2 _).mono ?_
     rintro e W3 ⟨rfl, bW3⟩
     have BW3 : Below VD.heap.size VD W3 := BW2.trans (bW3.mono BW2.size)
     have nb1 := nb1.below bW3
     have HSW3 := HSB.out _ BW3
     go_simp
     refine hK.out _ _ (fun _ => HSW3) (fun _ => ?_)
     clear hK K HSW2 bW3
     refine last_take (i := 10) (v := ?v10k54) rfl (by kernel_rfl) (by kernel_rfl) (by kernel_rfl) (by kernel_rfl) rfl (fun _ _ _ h => h) (by rfl) HSW3 ?hy10k54 ?rest10k54
     case hy10k54 =>
      intro xx hSx
      go_simp
      try (with_reducible rfl)
     simp only [Act.put, List.setIfInBounds_toArray, List.set_cons_zero, List.set_cons_succ]
     refine last_take (i := 11) (v := ?v11k55) rfl (by kernel_rfl) (by kernel_rfl) (by kernel_rfl) (by kernel_rfl) rfl (fun _ _ _ h => h) (by rfl) HSW3 ?hy11k55 ?rest11k55
     case hy11k55 =>
      intro xx hSx
      go_simp
      try (with_reducible rfl)
     simp only [Act.put, List.setIfInBounds_toArray, List.set_cons_zero, List.set_cons_succ]
     refine last_take (i := 12) (v := ?v12k56) rfl (by kernel_rfl) (by kernel_rfl) (by kernel_rfl) (by kernel_rfl) rfl (fun _ _ _ h => h) (by rfl) HSW3 ?hy12k56 ?rest12k56
     case hy12k56 =>
      intro xx hSx
      go_simp
      try (with_reducible rfl)
     simp only [Act.put, List.setIfInBounds_toArray, List.set_cons_zero, List.set_cons_succ]
     refine last_one (i := 14) (by kernel_rfl) rfl ?_
     intro K hK
     have x0 := nb1.1
     have x1 := nb1.2.1
     have x2 := nb1.2.2.1
     have x3 := nb1.2.2.2
     go_simp
     obtain ⟨W4, hW4⟩ : ∃ W4, (W3.setCell ⟨b1, 0, none⟩ (.int .u64 (hiW XB))).setCell ⟨b1, 1, none⟩ (.int .u64 (loW XB)) = W4 := ⟨_, rfl⟩
     have nb1 := set_two nb1 (.int .u64 (hiW XB)) (.int .u64 (loW XB))
     have BW4 : Below VD.heap.size VD ((W3.setCell ⟨b1, 0, none⟩ (.int .u64 (hiW XB))).setCell ⟨b1, 1, none⟩ (.int .u64 (loW XB))) := (BW3.setCell gb1 (.int .u64 (hiW XB))).setCell gb1 (.int .u64 (loW XB))
     rw [hW4] at BW4 nb1
     try rw [hW4]
     have HSW4 := HSB.out _ BW4
     refine hK.out _ _ (fun _ => HSW4) (fun _ => ?_)
     clear hK K x0 x1 x2 x3 hW4 HSW3
     refine last_one (i := 15) (by kernel_rfl) rfl ?_
     intro K hK
     go_simp
     refine hK.out _ _ (fun h => absurd rfl h) (fun _ => ?_)
     clear hK K
     refine last_done (by kernel_rfl) ?_ _
     have HF1 : Hid (Bx W4 b1 (.int .u64 (hiW XB)) (.int .u64 (loW XB))) := nb1
     have HF2 : Hid (VD.heap.size ≤ b1) := gb1
     have HF3 : Hid (Below VD.heap.size VD W4) := BW4
     clear nb1 gb1 BW4 HSB
     go_wp2
     go_meet
     exact ⟨b1, rfl, HF1.out.1, HF1.out.2.1, HF2.out, HF3.out⟩
   case h13n49 =>
    intro K hK
    go_simp
    obtain ⟨b1, hb1⟩ : ∃ b1, W0.heap.size = b1 := ⟨_, rfl⟩
    obtain ⟨W1, hW1⟩ : ∃ W1, W0.alloc (.cells #[.int .u64 0, .int .u64 0] 68) = W1 := ⟨_, rfl⟩
    have nb1 : Bx W1 b1 (.int .u64 0) (.int .u64 0) := by rw [← hW1, ← hb1]; exact Bx.new W0 _ _ _
    have bW1 : Below W0.heap.size W0 W1 := by rw [← hW1]; exact (Below.refl _ _).alloc (Nat.le_refl _) _
    try rw [hb1]
    try rw [hW1]
    have BW1 : Below VD.heap.size VD W1 := BW0.trans (bW1.mono BW0.size)
    have gb1 : VD.heap.size ≤ b1 := by rw [← hb1]; exact BW0.size
    have HSW1 := HSB.out _ BW1
    refine hK.out _ _ (fun _ => HSW1) (fun _ => ?_)
    clear hK K hW1 hb1 HSW0 bW1
    refine last_one (i := 8) (by kernel_rfl) rfl ?_
    intro K hK
    go_simp
    go_at_call 25
    refine (cM2 _).mono ?_
    rintro e W2 ⟨rfl, bW2⟩
    have BW2 : Below VD.heap.size VD W2 := BW1.trans (bW2.mono BW1.size)
    have nb1 := nb1.below bW2
    have HSW2 := HSB.out _ BW2
    go_simp
    refine hK.out _ _ (fun _ => HSW2) (fun _ => ?_)
    clear hK K HSW1 bW2
    refine last_one (i := 9) (by kernel_rfl) rfl ?_
    intro K hK
    go_simp
    go_at_call 28
    refine (cA2 _).mono ?_
    rintro e W3 ⟨rfl, bW3⟩
    have BW3 : Below VD.heap.size VD W3 := BW2.trans (bW3.mono BW2.size)
    have nb1 := nb1.below bW3
    have HSW3 := HSB.out _ BW3
    go_simp
    refine hK.out _ _ (fun _ => HSW3) (fun _ => ?_)
    clear hK K HSW2 bW3
    refine last_take (i := 10) (v := ?v10k57) rfl (by kernel_rfl) (by kernel_rfl) (by kernel_rfl) (by kernel_rfl) rfl (fun _ _ _ h => h) (by rfl) HSW3 ?hy10k57 ?rest10k57
    case hy10k57 =>
     intro xx hSx
     go_simp
     try (with_reducible rfl)
    simp only [Act.put, List.setIfInBounds_toArray, List.set_cons_zero, List.set_cons_succ]
    refine last_take (i := 11) (v := ?v11k58) rfl (by kernel_rfl) (by kernel_rfl) (by kernel_rfl) (by kernel_rfl) rfl (fun _ _ _ h => h) (by rfl) HSW3 ?hy11k58 ?rest11k58
    case hy11k58 =>
     intro xx hSx
     go_simp
     try (with_reducible rfl)
    simp only [Act.put, List.setIfInBounds_toArray, List.set_cons_zero, List.set_cons_succ]
    refine last_take (i := 12) (v := ?v12k59) rfl (by kernel_rfl) (by kernel_rfl) (by kernel_rfl) (by kernel_rfl) rfl (fun _ _ _ h => h) (by rfl) HSW3 ?hy12k59 ?rest12k59
    case hy12k59 =>
     intro xx hSx
     go_simp
     try (with_reducible rfl)
    simp only [Act.put, List.setIfInBounds_toArray, List.set_cons_zero, List.set_cons_succ]
    refine last_one (i := 14) (by kernel_rfl) rfl ?_
    intro K hK
    have x0 := nb1.1
    have x1 := nb1.2.1
    have x2 := nb1.2.2.1
    have x3 := nb1.2.2.2
    go_simp
    obtain ⟨W4, hW4⟩ : ∃ W4, (W3.setCell ⟨b1, 0, none⟩ (.int .u64 (hiW XB))).setCell ⟨b1, 1, none⟩ (.int .u64 (loW XB)) = W4 := ⟨_, rfl⟩
    have nb1 := set_two nb1 (.int .u64 (hiW XB)) (.int .u64 (loW XB))
    have BW4 : Below VD.heap.size VD ((W3.setCell ⟨b1, 0, none⟩ (.int .u64 (hiW XB))).setCell ⟨b1, 1, none⟩ (.int .u64 (loW XB))) := (BW3.setCell gb1 (.int .u64 (hiW XB))).setCell gb1 (.int .u64 (loW XB))
    rw [hW4] at BW4 nb1
    try rw [hW4]
    have HSW4 := HSB.out _ BW4
    refine hK.out _ _ (fun _ => HSW4) (fun _ => ?_)
    clear hK K x0 x1 x2 x3 hW4 HSW3
    refine last_one (i := 15) (by kernel_rfl) rfl ?_
    intro K hK
    go_simp
    refine hK.out _ _ (fun h => absurd rfl h) (fun _ => ?_)
    clear hK K
    refine last_done (by kernel_rfl) ?_ _
    have HF1 : Hid (Bx W4 b1 (.int .u64 (hiW XB)) (.int .u64 (loW XB))) := nb1
    have HF2 : Hid (VD.heap.size ≤ b1) := gb1
    have HF3 : Hid (Below VD.heap.size VD W4) := BW4
    clear nb1 gb1 BW4 HSB
    go_wp2
    go_meet
    exact ⟨b1, rfl, HF1.out.1, HF1.out.2.1, HF2.out, HF3.out⟩
 case rest =>
 obtain ⟨gy, rfl, gy0, gy1, hgy, hb⟩ := hcut
 have HPE : Hid _ := HPD.out.below hb
 have gx0 := cellB hb HGX.out.1
 have gx1 := cellB hb HGX.out.2.1
 obtain ⟨VE, hVE⟩ : ∃ VE, wc = VE := ⟨_, rfl⟩
 rw [hVE] at HPE gx0 gx1 gy0 gy1
 rw [hVE]
 have HGB : Hid (w.heap.size + 4 ≤ gx ∧ w.heap.size + 4 ≤ gy) := ⟨HGX.out.2.2, by have := HPD.out.big; omega⟩
 clear hVE hb HVD cM2 cA2 HPD HGX hgy
 have cO := rof_num 9223372036854775808 ⟨by omega, by omega⟩
 obtain ⟨x0, x1, x2, x3⟩ := HPE.out.r1
 obtain ⟨y0, y1, y2, y3⟩ := HPE.out.r2
 obtain ⟨z0, z1, z2, z3⟩ := HPE.out.r3
 go_upto_region 21 with fail
 refine wp_region_last (S := (fun x' : World => x'.cell? ⟨gx, 0, none⟩ = some (.int .u64 (hiW XA)) ∧ x'.cell? ⟨gx, 1, none⟩ = some (.int .u64 (loW XA)) ∧ x'.cell? ⟨gy, 0, none⟩ = some (.int .u64 (hiW XB)) ∧ x'.cell? ⟨gy, 1, none⟩ = some (.int .u64 (loW XB)))) (L := 5) (by kernel_rfl) ?_
 have hPU := HPE.out.below (drew_belowI VE)
 have hq := (show (fun x' : World => x'.cell? ⟨gx, 0, none⟩ = some (.int .u64 (hiW XA)) ∧ x'.cell? ⟨gx, 1, none⟩ = some (.int .u64 (loW XA)) ∧ x'.cell? ⟨gy, 0, none⟩ = some (.int .u64 (hiW XB)) ∧ x'.cell? ⟨gy, 1, none⟩ = some (.int .u64 (loW XB))) VE.drew from ⟨gx0, gx1, gy0, gy1⟩)
 obtain ⟨U, hU⟩ : ∃ U, VE.drew = U := ⟨_, rfl⟩
 rw [hU] at hPU hq
 rw [hU]
 clear hU x0 x1 x2 x3 y0 y1 y2 y3 z0 z1 z2 z3 gx0 gx1 gy0 gy1 HPE
 have HS0 : (fun x' : World => x'.cell? ⟨gx, 0, none⟩ = some (.int .u64 (hiW XA)) ∧ x'.cell? ⟨gx, 1, none⟩ = some (.int .u64 (loW XA)) ∧ x'.cell? ⟨gy, 0, none⟩ = some (.int .u64 (hiW XB)) ∧ x'.cell? ⟨gy, 1, none⟩ = some (.int .u64 (loW XB))) U := hq
 have HPU : Hid _ := hPU
 clear hq hPU
 refine last_take (i := 0) (v := ?v0) rfl (by kernel_rfl) (by kernel_rfl) (by kernel_rfl) (by kernel_rfl) rfl (fun _ _ _ h => h) (by rfl) HS0 ?hy0 ?rest0
 case hy0 =>
  intro xx hSx
  obtain ⟨s1, s2, s3, s4⟩ := hSx
  go_simp
  try (with_reducible rfl)
 simp only [Act.put, List.setIfInBounds_toArray, List.set_cons_zero, List.set_cons_succ]
 refine last_take (i := 1) (v := ?v1) rfl (by kernel_rfl) (by kernel_rfl) (by kernel_rfl) (by kernel_rfl) rfl (fun _ _ _ h => h) (by rfl) HS0 ?hy1 ?rest1
 case hy1 =>
  intro xx hSx
  obtain ⟨s1, s2, s3, s4⟩ := hSx
  go_simp
  try (with_reducible rfl)
 simp only [Act.put, List.setIfInBounds_toArray, List.set_cons_zero, List.set_cons_succ]
 refine last_one (i := 2) (by kernel_rfl) rfl ?_
 intro K hK
 refine step_of rfl _ rfl (.int .u64 9223372036854775808) rfl _ (cO U) ?_
 rintro e x ⟨rfl, hx⟩
 refine ⟨_, rfl, ?_⟩
 have HSx : (fun x' : World => x'.cell? ⟨gx, 0, none⟩ = some (.int .u64 (hiW XA)) ∧ x'.cell? ⟨gx, 1, none⟩ = some (.int .u64 (loW XA)) ∧ x'.cell? ⟨gy, 0, none⟩ = some (.int .u64 (hiW XB)) ∧ x'.cell? ⟨gy, 1, none⟩ = some (.int .u64 (loW XB))) x := ⟨cellB hx HS0.1, cellB hx HS0.2.1, cellB hx HS0.2.2.1, cellB hx HS0.2.2.2⟩
 have HPX : Hid _ := HPU.out.below hx
 refine hK.out _ _ (fun _ => HSx) (fun _ => ?_)
 clear hK K HS0 HPU hx cO
 obtain ⟨x0, x1, x2, x3⟩ := HPX.out.r1
 obtain ⟨y0, y1, y2, y3⟩ := HPX.out.r2
 obtain ⟨z0, z1, z2, z3⟩ := HPX.out.r3
 have HMM : Hid ((gx ≠ w.heap.size + 1 ∧ gy ≠ w.heap.size + 1) ∧ (gx ≠ w.heap.size + 1 + 1 ∧ gy ≠ w.heap.size + 1 + 1)) := by
  have h1 := HGB.out.1
  have h2 := HGB.out.2
  exact ⟨⟨by omega, by omega⟩, ⟨by omega, by omega⟩⟩
 refine last_one (i := 3) (by kernel_rfl) rfl ?_
 intro K hK
 go_simp
 have HS1 := four_far (p := .int .u64 (hiW XA)) (q := .int .u64 (loW XA)) HMM.out.1.1 HMM.out.1.2 HSx
 refine hK.out _ _ (fun _ => HS1) (fun _ => ?_)
 clear hK K
 refine last_one (i := 4) (by kernel_rfl) rfl ?_
 intro K hK
 go_simp
 have HS2 := four_far (p := .int .u64 (hiW XB)) (q := .int .u64 (loW XB)) HMM.out.2.1 HMM.out.2.2 HS1
 refine hK.out _ _ (fun _ => HS2) (fun _ => ?_)
 clear hK K
 refine last_one (i := 5) (by kernel_rfl) rfl ?_
 intro K hK
 go_simp
 refine hK.out _ _ (fun h => absurd rfl h) (fun _ => ?_)
 clear hK K HS1 HS2 HSx
 refine last_done (by kernel_rfl) ?_ _
 have HZ : Hid _ := (((HPX.out.set1 (hiW XA) (loW XA)).set2 (hiW XB) (loW XB)).set3 (hiW 9223372036854775808) (loW 9223372036854775808)).bel
 clear HPX
 go_wp2
 refine bodyPost_ret (v := .tuple #[nuV XA, nuV XB, nuV 9223372036854775808]) (by simp [results, Tryz.results47, go_sem, *]) rfl ⟨by rw [HEQ.out.1, HEQ.out.2], HZ.out⟩
theorem rprio_any {c : Cf} (hck : chkZ c = 0) {B : Nat} {w : World} {d : Nat} {v1 v2 : Value} {L : List Bd} (h : RIdl c B w d v1 v2 L) {ao : Option Addr} {l : List Ac} {cap : Nat} (hA : AcsAt w ao l) (hn : l.length * 48 ≤ 140737488355328) (now : Int) (j : Jb) :
  Calls Tryz.prog 47 #[.pointer (some ⟨d, 0, none⟩), .slice ao l.length cap, .int .i64 now, jbV j] w fun e w' => e = .returned (.tuple #[nuV (prLo c l L now j), nuV (prHi c l L now j), nuV (prDe c l L now j)]) ∧ Below w.heap.size w w' := by
 cases hp : prOk c l L now j with
 | true =>
  obtain ⟨e1, e2, e3⟩ := pr_yes hp
  obtain ⟨h1, h2, h3⟩ := ok_parts hp
  rw [e1, e2, e3]
  exact rprio_yes hck h hA hn now j h1 h2 h3
 | false =>
  obtain ⟨e1, e2, e3⟩ := pr_no hp
  rw [e1, e2, e3]
  by_cases h1 : loadE l = 0
  ·exact rprio_no2 h hA hn now j h1 hp
  ·exact rprio_no1 h hA hn now j h1
end Go.Proofs.YtdkbmligaodpmaaGreatDoor
