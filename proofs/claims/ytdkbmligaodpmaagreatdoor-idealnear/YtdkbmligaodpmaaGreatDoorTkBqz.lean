/-
 LAYER 16, the statements' own functions: ticks (made by gen16tk.py).
-/
import Derived.Test.YtdkbmligaodpmaaGreatDoorTkAqz
import Derived.Test.YtdkbmligaodpmaaGreatDoorXihz
namespace Go.Proofs.YtdkbmligaodpmaaGreatDoor
open Go.RowKit Wd Tr Cg Ld

structure TkS (c : Cf) (B : Nat) (w0 w1 wr : World) (gu d : Nat) (v : Value) (s : Tk) : Prop where
 us : UsC wr gu s.us
 ob : Idl c B wr d v s.bs
 chg : Chg (fun k => IK d v k ∨ k = gu) w1 wr
 bel : Below B w0 wr
 gb : B ≤ gu
section
variable {c : Cf} {B : Nat} {w0 w1 wr x y : World} {gu d : Nat} {v : Value} {s : Tk}
theorem TkS.tag (h : TkS c B w0 w1 wr gu d v s) : ¬ IK d v gu := fun e => by
 obtain ⟨cs, t, h1, h2⟩ := h.ob.tag e
 have h3 := tags_apart h1 (show wr.heap[gu]? = _ from h.us)
 rcases h2 with rfl | rfl <;> exact absurd h3 (by decide)
theorem TkS.act {us' : List Int} {k : Nat} {u : Int} {bs' : List Bd} {l' : Int} (h : TkS c B w0 w1 wr gu d v s) (hB : B ≤ wr.heap.size) (b : Below wr.heap.size wr x) (hu : s.us.set k u = us') (ob : Idl c B y d v bs') (cc : Chg (IK d v) (x.setCell ⟨gu, k, none⟩ (.int .u64 u)) y) : TkS c B w0 w1 y gu d v ⟨l', us', bs'⟩ := by
 subst hu
 have hn := h.tag
 have c1 : Chg (fun k => IK d v k ∨ k = gu) w1 (x.setCell ⟨gu, k, none⟩ (.int .u64 u)) := (h.chg.trans (Chg.of_below b (fun _ => False)) (fun _ _ e => e.elim)).setCell _ _ (.inl (.inr rfl))
 have b1 : Below B w0 (x.setCell ⟨gu, k, none⟩ (.int .u64 u)) := (h.bel.trans (b.mono hB)).setCell h.gb _
 refine ⟨UsC.chg cc (UsC.set (UsC.below b h.us) k u) hn, ob, c1.trans cc (fun _ _ e => .inl e), cc.below b1 (by have := b1.size; have := h.bel.size; have := b.size; simp; omega) (fun i e => h.ob.low i e), h.gb⟩
theorem TkS.wrote {us' : List Int} {k : Nat} {u : Int} {l' : Int} (h : TkS c B w0 w1 wr gu d v s) (hB : B ≤ wr.heap.size) (b : Below wr.heap.size wr x) (hu : s.us.set k u = us') : TkS c B w0 w1 (x.setCell ⟨gu, k, none⟩ (.int .u64 u)) gu d v ⟨l', us', s.bs⟩ := by
 have hn := h.tag
 exact h.act hB b hu ((h.ob.below b).chg ((Chg.refl (fun j => j = gu) x).setCell ⟨gu, k, none⟩ (.int .u64 u) (.inl rfl)) (fun i hi e => hn (by rw [← show i = gu from e]; exact hi))) (Chg.refl _ _)
theorem TkS.own {bs' : List Bd} (h : TkS c B w0 w1 wr gu d v s) (hB : B ≤ wr.heap.size) (ob : Idl c B y d v bs') (cc : Chg (IK d v) wr y) : TkS c B w0 w1 y gu d v ⟨s.left, s.us, bs'⟩ :=
 ⟨UsC.chg cc h.us h.tag, ob, h.chg.trans cc (fun _ _ e => .inl e), cc.below h.bel hB (fun i e => h.ob.low i e), h.gb⟩
theorem TkS.left {l' : Int} (h : TkS c B w0 w1 wr gu d v s) : TkS c B w0 w1 wr gu d v { s with left := l' } := ⟨h.us, h.ob, h.chg, h.bel, h.gb⟩
end
set_option maxRecDepth 20000 in
set_option maxHeartbeats 8000000 in
theorem ticks_any {c : Cf} (hck : chkZ c = 0) {many : Nat} (hm1 : 1 ≤ many) (hm64 : many ≤ 64) {B : Nat} {w0 w : World} {d : Nat} {v : Value} (hI : Idl c B w d v (List.replicate many zeB)) (hbw : Below B w0 w) (hw0 : B ≤ w0.heap.size) {ao : Option Addr} {ts : List Tc} {cap : Nat} (hH : ∀ x, Below B w0 x → TcsAt x ao ts) (htl : ts.length ≤ 140737488355328) :
  Calls Tryz.prog 22 #[cfV c, .int .i64 (many : Int), .slice ao ts.length cap, .pointer (some ⟨d, 0, none⟩)] w fun e w' => ∃ gu, e = .returned (.tuple #[.slice (some ⟨gu, 0, none⟩) many many, .bool true]) ∧ UsC w' gu (tkA c many (hisV ts) (min ts.length 2000)).us ∧ Idl c B w' d v (tkA c many (hisV ts) (min ts.length 2000)).bs ∧ Below B w0 w' ∧ w.heap.size ≤ gu ∧ Chg (IK d v) w w' := by
 obtain ⟨r, hmz⟩ := chk_yes hck
 have hBw := hbw.size
 obtain ⟨N, hN⟩ : ∃ N, ts.length = N := ⟨_, rfl⟩
 have HN : Hid (ts.length = N) := hN
 have HIN : Hid (∀ t ps k, (∃ K B, All K B many (inA many ps { tkA c many (hisV ts) t with left := c.nodes } k) ∧ B ≤ 9223372036854775808) ∧ 0 ≤ (inA many ps { tkA c many (hisV ts) t with left := c.nodes } k).left ∧ (inA many ps { tkA c many (hisV ts) t with left := c.nodes } k).left ≤ c.nodes) := fun t ps k => tick_in_ok hck many (hisV ts) t ps k
 have HH : Hid (∀ x, Below B w0 x → TcsAt x ao ts) := hH
 have HR : Hid (Rng c) := r
 have hn0 := r.n0; have hn1 := r.n1; have hp0 := r.p0; have hp1 := r.p1
 have cF := rfactor_yes r
 have hFB := frs_box c
 have HFD : Hid (0 ≤ frs c ∧ frs c ≤ 9223372036854775808) := ⟨hFB.1, hFB.2.1⟩
 have hSt := St.new w c
 obtain ⟨w2, hw2⟩ : ∃ w2, w.alloc (.cells #[.int .i64 c.nodes, .int .i64 c.queue, .int .i64 c.limit, .int .i64 c.age, .int .i64 c.fair, .int .i64 c.size, .int .i64 c.period, .int .i64 c.half] 23) = w2 := ⟨_, rfl⟩
 rw [hw2] at hSt
 obtain ⟨w3, hmk, hus, hb3, hz3⟩ := make_us w2 hm64
 have hSt3 : St w w.heap.size c w3 := keepW hSt hb3
 have HI3 : Hid (Idl c B w3 d v (List.replicate many zeB)) := hI.below hSt3.bel
 have HLT : Hid (∀ k, IK d v k → k < w.heap.size) := hI.lt
 have hz2 : w.heap.size + 1 ≤ w2.heap.size := by rw [← hw2]; simp
 have HUS : Hid (UsC w3 w2.heap.size (List.replicate many 0)) := hus
 have HBB : Hid (Below B w0 w3) := hbw.trans (hSt3.bel.mono (by have := hw0; omega))
 have HST : Hid (St w w.heap.size c w3) := hSt3
 unfold cfV at *
 rw [hN] at htl ⊢
 clear hI hus hb3 hSt3 hH hbw r hck hmz hFB hN
 obtain ⟨gu, hgu⟩ : ∃ gu, w2.heap.size = gu := ⟨_, rfl⟩
 have HGU : Hid (w.heap.size < gu ∧ B ≤ gu ∧ gu < w3.heap.size) := (show w.heap.size < gu ∧ B ≤ gu ∧ gu < w3.heap.size by omega)
 rw [hgu] at HUS hmk
 clear hgu hz3 hz2
 obtain ⟨T, hT⟩ : ∃ T, min N 2000 = T := ⟨_, rfl⟩
 rw [hT]
 have hTN : T ≤ N := by omega
 have hT2 : T ≤ 2000 := by omega
 have HTT : Hid (T = N ∨ T = 2000) := (show T = N ∨ T = 2000 by omega)
 clear hT
 go_enter Tryz.func22, Tryz.ntmps22
 obtain ⟨s0, s1, s2, s3, s4, s5, s6, s7, hB, hz⟩ := HST.out
 go_wp2_with fail
 refine (cF _).mono ?_
 rintro e w4 ⟨rfl, b4⟩
 have HSt4 : Hid (St w w.heap.size c w4) := keepW HST.out b4
 have hchain : Below w.heap.size w w4 := HSt4.out.bel
 have hT0 : TkS c B w0 w4 w4 gu d v (tkA c many (hisV ts) 0) := ⟨UsC.below b4 HUS.out, HI3.out.below b4, Chg.refl _ _, HBB.out.trans (b4.mono (by have := HBB.out.size; omega)), HGU.out.2.1⟩
 have HT0 : Hid _ := hT0
 have HG4 : Hid (gu < w4.heap.size ∧ B ≤ w4.heap.size) := (show gu < w4.heap.size ∧ B ≤ w4.heap.size by have := HGU.out; have := b4.size; omega)
 have HBW4 : Hid (Below w.heap.size w w4) := hchain
 have HNK : Hid (∀ k, (IK d v k ∨ k = gu) → k ≠ w.heap.size) := fun k hk e => by
  rcases hk with hk | hk
  ·have := HLT.out k hk; omega
  ·have := HGU.out.1; omega
 clear s0 s1 s2 s3 s4 s5 s6 s7 hB hz b4 cF HST HI3 HUS HBB hT0 hchain hmk hw2 hSt
 have HCB : Hid (∀ wr, Chg (fun k => IK d v k ∨ k = gu) w4 wr → wr.cell? ⟨w.heap.size, 0, none⟩ = some (.int .i64 c.nodes) ∧ wr.cell? ⟨w.heap.size, 6, none⟩ = some (.int .i64 c.period)) := fun wr hc => by
  obtain ⟨s0, s1, s2, s3, s4, s5, s6, s7, _, _⟩ := HSt4.out
  exact ⟨hc.cell s0 (fun e => HNK.out _ e rfl), hc.cell s6 (fun e => HNK.out _ e rfl)⟩
 clear HSt4
 go_wp2
 go_loopg [13] T (fun gk x wr => ∃ t : Nat, t + gk = T ∧ x = .int .i64 t ∧ TkS c B w0 w4 wr gu d v (tkA c many (hisV ts) t))
 case atStart => exact ⟨0, by omega, rfl, HT0.out⟩
 case round =>
  clear HT0
  obtain ⟨t, ht, rfl, hS⟩ := hrel
  obtain ⟨cb0, cb6⟩ := HCB.out wr hS.chg
  by_cases hlt : t < T
  ·have hlt' : (t : Int) < N := by omega
   have hlt2 : (t : Int) < 2000 := by omega
   obtain ⟨⟨gh, oh, hao, hcl⟩, hok⟩ := HH.out wr hS.bel
   obtain rfl := hao (by rw [HN.out]; omega)
   obtain ⟨tc, htc⟩ : ∃ tc, ts[t]? = some tc := ⟨_, List.getElem?_eq_getElem (by rw [HN.out]; omega)⟩
   have hoc := hok tc (List.mem_of_getElem? htc)
   have HPS : Hid ((hisV ts).getD t [] = tc.xs.zip tc.ys) := his_at htc
   have HTC : Hid (ts[t]? = some tc) := htc
   have HIA : Hid ((∀ x ∈ tc.xs, I64 x) ∧ (∀ x ∈ tc.ys, I64 x)) := ⟨hoc.ia, hoc.in_⟩
   have hla := hoc.la
   have hln := hoc.ln
   obtain ⟨LA, hLA⟩ : ∃ LA, tc.xs.length = LA := ⟨_, rfl⟩
   obtain ⟨LN, hLN⟩ : ∃ LN, tc.ys.length = LN := ⟨_, rfl⟩
   rw [hLA] at hla
   rw [hLN] at hln
   have HLL : Hid (tc.xs.length = LA ∧ tc.ys.length = LN) := ⟨hLA, hLN⟩
   have HPL : Hid ((tc.xs.zip tc.ys).length = min LA LN) := (show (tc.xs.zip tc.ys).length = min LA LN by rw [List.length_zip, hLA, hLN])
   obtain ⟨PN, hPN⟩ : ∃ PN, min LA LN = PN := ⟨_, rfl⟩
   rw [hPN] at HPL
   have hPA : PN ≤ LA := by omega
   have hPB : PN ≤ LN := by omega
   have HPQ : Hid (PN = LA ∨ PN = LN) := (show PN = LA ∨ PN = LN by omega)
   have HI0 : Hid (TkS c B w0 w4 wr gu d v (inA many (tc.xs.zip tc.ys) { tkA c many (hisV ts) t with left := c.nodes } 0)) := hS.left
   have HTKV : Hid (tkA c many (hisV ts) (t + 1) = (if ((t : Int) + 1) % c.period = 0 then fdT c (inA many (tc.xs.zip tc.ys) { tkA c many (hisV ts) t with left := c.nodes } PN) else inA many (tc.xs.zip tc.ys) { tkA c many (hisV ts) t with left := c.nodes } PN)) := by
    show tkV c many t ((hisV ts).getD t []) (tkA c many (hisV ts) t) = _
    unfold tkV
    rw [HPS.out, HPL.out]
   have HINT : Hid _ := HIN.out t (tc.xs.zip tc.ys)
   have HSL : Hid (({ tkA c many (hisV ts) t with left := c.nodes } : Tk).left = c.nodes) := rfl
   generalize hs0 : ({ tkA c many (hisV ts) t with left := c.nodes } : Tk) = s0 at *
   clear hS hao hcl hok htc hoc hLA hLN hPN hs0 HPS cb6
   go_wp2
   clear cb0
   go_loopg [14, 15] PN (fun gk x y wr => ∃ k : Nat, k + gk = PN ∧ x = .int .i64 (inA many (tc.xs.zip tc.ys) s0 k).left ∧ y = .int .i64 k ∧ TkS c B w0 w4 wr gu d v (inA many (tc.xs.zip tc.ys) s0 k))
   case atStart => exact ⟨0, by omega, by show _ = Value.int .i64 s0.left; rw [HSL.out], rfl, HI0.out⟩
   case round =>
    clear HI0
    obtain ⟨k, hk, rfl, rfl, hS⟩ := hrel
    obtain ⟨⟨gh', oh', hao, hcl⟩, hok⟩ := HH.out wr hS.bel
    have hgo := hao (by rw [HN.out]; omega)
    obtain ⟨rfl, rfl⟩ : gh = gh' ∧ oh = oh' := by injection hgo with e; injection e with e1 e2; exact ⟨e1, e2⟩
    obtain ⟨tc0, tc1⟩ := hcl t tc HTC.out
    rw [HLL.out.1] at tc0
    rw [HLL.out.2] at tc1
    have hoc := hok tc (List.mem_of_getElem? HTC.out)
    by_cases hltk : k < PN
    ·have hka : (k : Int) < LA := by omega
     have hkn : (k : Int) < LN := by omega
     obtain ⟨a0, ha0⟩ : ∃ a0, tc.xs[k]? = some a0 := ⟨_, List.getElem?_eq_getElem (by rw [HLL.out.1]; omega)⟩
     obtain ⟨n0, hn0'⟩ : ∃ n0, tc.ys[k]? = some n0 := ⟨_, List.getElem?_eq_getElem (by rw [HLL.out.2]; omega)⟩
     have hz := zip_at ha0 hn0'
     obtain ⟨ga, oa, hga, hca⟩ := hoc.a
     obtain ⟨gn, on', hgn, hcn⟩ := hoc.n
     rw [hga (by rw [HLL.out.1]; omega)] at tc0
     rw [hgn (by rw [HLL.out.2]; omega)] at tc1
     have xa := hca k a0 ha0
     have xn := hcn k n0 hn0'
     have ia := HIA.out.1 a0 (List.mem_of_getElem? ha0)
     have in' := HIA.out.2 n0 (List.mem_of_getElem? hn0')
     obtain ⟨⟨K, BB, hAll, hBBm⟩, hl0, hl1⟩ := HINT.out k
     have hstep : inA many (tc.xs.zip tc.ys) s0 (k + 1) = stK many (inA many (tc.xs.zip tc.ys) s0 k) (a0, n0) := by
      show stK _ _ _ = _
      rw [hz]
     obtain ⟨S, hSS⟩ : ∃ S, inA many (tc.xs.zip tc.ys) s0 k = S := ⟨_, rfl⟩
     rw [hSS] at hS hAll hl0 hl1 hstep ⊢
     have cP1 := fun x => pick_any (x := n0) (n := S.left + 1) in' (by omega) x
     obtain ⟨q0, q1⟩ := pk_box (c := n0) (n := S.left + 1) (by omega)
     have HSP : Hid (inA many (tc.xs.zip tc.ys) s0 (k + 1) = stK many S (a0, n0)) := hstep
     by_cases hm : many ≤ 1
     ·have hmI : ¬ (1 : Int) < many := by omega
      have HSTK : Hid (stK many S (a0, n0) = S) := show stK many S (a0, n0) = S from if_pos hm
      have HS2 : Hid _ := hS
      clear hS hAll hBBm hca hcn ha0 hn0' hga hgn ia in' hstep hSS hz hoc hok hcl hgo hao xa
      generalize hNN : pkV n0 (S.left + 1) = NN at *
      clear hNN
      go_wp2_with fail
      refine (cP1 _).mono ?_
      rintro e y ⟨rfl, hyy⟩
      obtain rfl := hyy.symm
      clear cP1 xn tc0 tc1
      go_wp2
      go_roundg (PN - (k + 1))
      case measure => omega
      case rel => exact ⟨k + 1, by omega, by rw [HSP.out, HSTK.out], rfl, by rw [HSP.out, HSTK.out]; exact HS2.out⟩
     ·have hmI : (1 : Int) < many := by omega
      obtain ⟨r0, r1⟩ := pk_box (c := a0) (n := ((many : Int) - 1)) (by omega)
      have cP2 := fun x => pick_any (x := a0) (n := ((many : Int) - 1)) ia (by omega) x
      obtain ⟨A, hA⟩ : ∃ A : Nat, 1 + pkV a0 ((many : Int) - 1) = (A : Int) := ⟨(1 + pkV a0 ((many : Int) - 1)).toNat, by omega⟩
      have hA1 : (A : Int) < many := by omega
      have hA0 : 1 ≤ A := by omega
      have hAc : Tr.acV many a0 = A := by unfold Tr.acV; omega
      have hlu : A < S.us.length := by rw [hAll.lu]; omega
      have hlb : A < S.bs.length := by rw [hAll.lb]; omega
      obtain ⟨u, hu⟩ : ∃ u, S.us[A]? = some u := ⟨_, List.getElem?_eq_getElem hlu⟩
      obtain ⟨bb, hbb⟩ : ∃ bb, S.bs[A]? = some bb := ⟨_, List.getElem?_eq_getElem hlb⟩
      have hnr := hAll.nr A u bb hu hbb
      have hwu : Word u := ⟨hnr.u0, by have := hnr.ub; omega⟩
      generalize hNN : pkV n0 (S.left + 1) = NN at *
      have HSTK : Hid (stK many S (a0, n0) = ⟨S.left - NN, S.us.set A (chU u NN), S.bs.set A (chB bb NN)⟩) := by
       show stK many S (a0, n0) = _
       unfold stK
       rw [if_neg (by omega)]
       simp only [hAc, hNN, List.getD_eq_getElem?_getD, hu, hbb, Option.getD_some]
      obtain ⟨x1, fx1⟩ := hS.us.at hu
      have cC := rcharge_any (n := NN) hwu (by omega) (by omega)
      have hA2 : ((A : Int) == 0) = false := by simp; omega
      have HBWR : Hid (B ≤ wr.heap.size) := Nat.le_trans HG4.out.2 hS.chg.size
      have HCH : Hid (∀ x, Below wr.heap.size wr x → Calls Tryz.prog 13 #[.pointer (some ⟨d, 0, none⟩), .int .i64 (A : Int), .int .i64 NN] (x.setCell ⟨gu, A, none⟩ (.int .u64 (chU u NN))) fun e w' => e = .returned (.int .i64 0) ∧ TkS c B w0 w4 w' gu d v ⟨S.left - NN, S.us.set A (chU u NN), S.bs.set A (chB bb NN)⟩) := fun x hx => by
       have h1 := hS.wrote (l' := S.left - NN) HBWR.out hx (k := A) (u := chU u NN) rfl
       have h2 := icharge_any HR.out h1.ob (A : Int) NN
       obtain ⟨e1, e2⟩ := chg_yes (N := c.nodes) (L := S.bs) (k := A) (b := bb) (n := NN) hbb (by omega) (by omega)
       rw [e1, e2] at h2
       refine h2.mono ?_
       rintro e y ⟨rfl, o1, c1⟩
       exact ⟨rfl, h1.own (by have := h1.bel.size; have := HBWR.out; have := hx.size; simp; omega) o1 c1⟩
      have HCU : Hid (∀ x, Below wr.heap.size wr x → x.cell? ⟨gu, A, none⟩ = some (.int .u64 u) ∧ x.frozen? ⟨gu, A, none⟩ = false) := fun x hx => (UsC.below hx hS.us).at hu
      clear hS hAll hBBm hu hbb hnr hwu hlu hlb hAc hNN hca hcn ha0 hn0' hga hgn ia in' hstep hSS hz hoc hok hcl hgo hao r0 r1
      go_wp2_with fail
      refine (cP1 _).mono ?_
      rintro e y ⟨rfl, hyy⟩
      obtain rfl := hyy.symm
      go_wp2_with fail
      refine (cP2 _).mono ?_
      rintro e y ⟨rfl, hyy⟩
      obtain rfl := hyy.symm
      go_wp2_with fail
      refine (cC _).mono ?_
      rintro e x ⟨rfl, hx⟩
      obtain ⟨x2, fx2⟩ := HCU.out x hx
      have cH := HCH.out x hx
      clear x1 fx1 cC cP1 cP2 HCU HCH hx xa xn tc0 tc1
      go_wp2_with fail
      refine cH.mono ?_
      rintro e y ⟨rfl, hS2⟩
      have HS2 : Hid _ := hS2
      clear hS2 cH x2 fx2
      go_wp2
      go_roundg (PN - (k + 1))
      case measure => omega
      case rel => exact ⟨k + 1, by omega, by rw [HSP.out, HSTK.out], rfl, by rw [HSP.out, HSTK.out]; exact HS2.out⟩
    ·have HSE : Hid (TkS c B w0 w4 wr gu d v (inA many (tc.xs.zip tc.ys) s0 PN)) := by
      obtain rfl : k = PN := by omega
      exact hS
     obtain rfl : k = PN := by omega
     obtain ⟨⟨K, BB, hAll, hBBm⟩, hl0, hl1⟩ := HINT.out k
     obtain ⟨S, hSS⟩ : ∃ S, inA many (tc.xs.zip tc.ys) s0 k = S := ⟨_, rfl⟩
     rw [hSS] at HSE hAll hl0 hl1 HTKV ⊢
     have HAL : Hid (∀ j u, S.us[j]? = some u → Word u) := fun j u hu => by
      have hj := (List.getElem?_eq_some_iff.1 hu).1
      obtain ⟨bb, hbb⟩ : ∃ bb, S.bs[j]? = some bb := ⟨_, List.getElem?_eq_getElem (by rw [hAll.lb, ← hAll.lu]; exact hj)⟩
      have hnr := hAll.nr j u bb hu hbb
      exact ⟨hnr.u0, by have := hnr.ub; omega⟩
     have HLU : Hid (S.us.length = many) := hAll.lu
     obtain ⟨_, cb6⟩ := HCB.out wr hS.chg
     have hpz : ¬ c.period = 0 := by omega
     clear hS hcl hok hoc hSS hAll hBBm HINT hgo hao
     by_cases hfade : ((t : Int) + 1) % c.period = 0
     ·have htm : ((t : Int) + 1).tmod c.period = 0 := by rw [Int.tmod_eq_emod_of_nonneg (by omega)]; exact hfade
      rw [if_pos hfade] at HTKV
      rcases HPQ.out with hpq | hpq
      ·have g1 : ¬ (k : Int) < LA := by omega
       clear hpq
       go_wp2
       clear tc0 tc1 cb6 g1
       go_loopg [19] many (fun gk x wr => ∃ j : Nat, j + gk = many ∧ x = .int .i64 j ∧ TkS c B w0 w4 wr gu d v ⟨S.left, fuJ (frs c) S.us j, S.bs⟩)
       case atStart => exact ⟨0, by omega, rfl, by rw [fuJ_zero]; exact HSE.out⟩
       case round =>
        obtain ⟨j, hj, rfl, hS⟩ := hrel
        have HBWR : Hid (B ≤ wr.heap.size) := Nat.le_trans HG4.out.2 hS.chg.size
        by_cases hltj : j < many
        ·have hltj' : (j : Int) < many := by omega
         obtain ⟨u, hu⟩ : ∃ u, S.us[j]? = some u := ⟨_, List.getElem?_eq_getElem (by rw [HLU.out]; exact hltj)⟩
         have hju := fuJ_at (f := frs c) hu
         obtain ⟨x1, fx1⟩ := hS.us.at hju
         have cC := rfade_any (HAL.out j u hu) HFD.out.1 HFD.out.2
         have HCU : Hid (∀ x, Below wr.heap.size wr x → (x.cell? ⟨gu, j, none⟩ = some (.int .u64 u) ∧ x.frozen? ⟨gu, j, none⟩ = false) ∧ TkS c B w0 w4 (x.setCell ⟨gu, j, none⟩ (.int .u64 (fdU (frs c) u))) gu d v ⟨S.left, fuJ (frs c) S.us (j + 1), S.bs⟩) := fun x hx => ⟨(UsC.below hx hS.us).at hju, hS.wrote HBWR.out hx (fuJ_set hu)⟩
         clear hS hu hju
         generalize hFU : fdU (frs c) u = FU at *
         go_wp2_with fail
         refine (cC _).mono ?_
         rintro e x ⟨rfl, hx⟩
         obtain ⟨⟨x2, fx2⟩, hS2⟩ := HCU.out x hx
         have HS2 : Hid _ := hS2
         clear x1 fx1 cC HCU hx hS2
         go_wp2
         go_roundg (many - (j + 1))
         case measure => omega
         case rel => exact ⟨j + 1, by omega, rfl, HS2.out⟩
        ·obtain rfl : j = many := by omega
         have HSF : Hid (TkS c B w0 w4 wr gu d v ⟨S.left, S.us.map (fdU (frs c)), S.bs⟩) := by
          have hS9 := hS
          have e9 : fuJ (frs c) S.us j = S.us.map (fdU (frs c)) := by rw [← fuJ_all, HLU.out]
          rw [e9] at hS9
          exact hS9
         have cX := ifade_any (c := c) HSF.out.ob
         clear hS
         go_wp2_with fail
         refine cX.mono ?_
         rintro e y ⟨rfl, o1, c1⟩
         have HS2 : Hid (TkS c B w0 w4 y gu d v (fdT c S)) := HSF.out.own HBWR.out o1 c1
         clear o1 c1 cX HSF
         go_wp2
         go_roundg (T - (t + 1))
         case measure => omega
         case rel => exact ⟨t + 1, by omega, rfl, by rw [HTKV.out]; exact HS2.out⟩
      ·by_cases g2 : k < LA
       ·have g1 : (k : Int) < LA := by omega
        have g3 : ¬ (k : Int) < LN := by omega
        clear hpq g2
        go_wp2
        clear tc0 tc1 cb6 g1
        go_loopg [19] many (fun gk x wr => ∃ j : Nat, j + gk = many ∧ x = .int .i64 j ∧ TkS c B w0 w4 wr gu d v ⟨S.left, fuJ (frs c) S.us j, S.bs⟩)
        case atStart => exact ⟨0, by omega, rfl, by rw [fuJ_zero]; exact HSE.out⟩
        case round =>
         obtain ⟨j, hj, rfl, hS⟩ := hrel
         have HBWR : Hid (B ≤ wr.heap.size) := Nat.le_trans HG4.out.2 hS.chg.size
         by_cases hltj : j < many
         ·have hltj' : (j : Int) < many := by omega
          obtain ⟨u, hu⟩ : ∃ u, S.us[j]? = some u := ⟨_, List.getElem?_eq_getElem (by rw [HLU.out]; exact hltj)⟩
          have hju := fuJ_at (f := frs c) hu
          obtain ⟨x1, fx1⟩ := hS.us.at hju
          have cC := rfade_any (HAL.out j u hu) HFD.out.1 HFD.out.2
          have HCU : Hid (∀ x, Below wr.heap.size wr x → (x.cell? ⟨gu, j, none⟩ = some (.int .u64 u) ∧ x.frozen? ⟨gu, j, none⟩ = false) ∧ TkS c B w0 w4 (x.setCell ⟨gu, j, none⟩ (.int .u64 (fdU (frs c) u))) gu d v ⟨S.left, fuJ (frs c) S.us (j + 1), S.bs⟩) := fun x hx => ⟨(UsC.below hx hS.us).at hju, hS.wrote HBWR.out hx (fuJ_set hu)⟩
          clear hS hu hju
          generalize hFU : fdU (frs c) u = FU at *
          go_wp2_with fail
          refine (cC _).mono ?_
          rintro e x ⟨rfl, hx⟩
          obtain ⟨⟨x2, fx2⟩, hS2⟩ := HCU.out x hx
          have HS2 : Hid _ := hS2
          clear x1 fx1 cC HCU hx hS2
          go_wp2
          go_roundg (many - (j + 1))
          case measure => omega
          case rel => exact ⟨j + 1, by omega, rfl, HS2.out⟩
         ·obtain rfl : j = many := by omega
          have HSF : Hid (TkS c B w0 w4 wr gu d v ⟨S.left, S.us.map (fdU (frs c)), S.bs⟩) := by
           have hS9 := hS
           have e9 : fuJ (frs c) S.us j = S.us.map (fdU (frs c)) := by rw [← fuJ_all, HLU.out]
           rw [e9] at hS9
           exact hS9
          have cX := ifade_any (c := c) HSF.out.ob
          clear hS
          go_wp2_with fail
          refine cX.mono ?_
          rintro e y ⟨rfl, o1, c1⟩
          have HS2 : Hid (TkS c B w0 w4 y gu d v (fdT c S)) := HSF.out.own HBWR.out o1 c1
          clear o1 c1 cX HSF
          go_wp2
          go_roundg (T - (t + 1))
          case measure => omega
          case rel => exact ⟨t + 1, by omega, rfl, by rw [HTKV.out]; exact HS2.out⟩
       ·have g1 : ¬ (k : Int) < LA := by omega
        clear hpq g2
        go_wp2
        clear tc0 tc1 cb6 g1
        go_loopg [19] many (fun gk x wr => ∃ j : Nat, j + gk = many ∧ x = .int .i64 j ∧ TkS c B w0 w4 wr gu d v ⟨S.left, fuJ (frs c) S.us j, S.bs⟩)
        case atStart => exact ⟨0, by omega, rfl, by rw [fuJ_zero]; exact HSE.out⟩
        case round =>
         obtain ⟨j, hj, rfl, hS⟩ := hrel
         have HBWR : Hid (B ≤ wr.heap.size) := Nat.le_trans HG4.out.2 hS.chg.size
         by_cases hltj : j < many
         ·have hltj' : (j : Int) < many := by omega
          obtain ⟨u, hu⟩ : ∃ u, S.us[j]? = some u := ⟨_, List.getElem?_eq_getElem (by rw [HLU.out]; exact hltj)⟩
          have hju := fuJ_at (f := frs c) hu
          obtain ⟨x1, fx1⟩ := hS.us.at hju
          have cC := rfade_any (HAL.out j u hu) HFD.out.1 HFD.out.2
          have HCU : Hid (∀ x, Below wr.heap.size wr x → (x.cell? ⟨gu, j, none⟩ = some (.int .u64 u) ∧ x.frozen? ⟨gu, j, none⟩ = false) ∧ TkS c B w0 w4 (x.setCell ⟨gu, j, none⟩ (.int .u64 (fdU (frs c) u))) gu d v ⟨S.left, fuJ (frs c) S.us (j + 1), S.bs⟩) := fun x hx => ⟨(UsC.below hx hS.us).at hju, hS.wrote HBWR.out hx (fuJ_set hu)⟩
          clear hS hu hju
          generalize hFU : fdU (frs c) u = FU at *
          go_wp2_with fail
          refine (cC _).mono ?_
          rintro e x ⟨rfl, hx⟩
          obtain ⟨⟨x2, fx2⟩, hS2⟩ := HCU.out x hx
          have HS2 : Hid _ := hS2
          clear x1 fx1 cC HCU hx hS2
          go_wp2
          go_roundg (many - (j + 1))
          case measure => omega
          case rel => exact ⟨j + 1, by omega, rfl, HS2.out⟩
         ·obtain rfl : j = many := by omega
          have HSF : Hid (TkS c B w0 w4 wr gu d v ⟨S.left, S.us.map (fdU (frs c)), S.bs⟩) := by
           have hS9 := hS
           have e9 : fuJ (frs c) S.us j = S.us.map (fdU (frs c)) := by rw [← fuJ_all, HLU.out]
           rw [e9] at hS9
           exact hS9
          have cX := ifade_any (c := c) HSF.out.ob
          clear hS
          go_wp2_with fail
          refine cX.mono ?_
          rintro e y ⟨rfl, o1, c1⟩
          have HS2 : Hid (TkS c B w0 w4 y gu d v (fdT c S)) := HSF.out.own HBWR.out o1 c1
          clear o1 c1 cX HSF
          go_wp2
          go_roundg (T - (t + 1))
          case measure => omega
          case rel => exact ⟨t + 1, by omega, rfl, by rw [HTKV.out]; exact HS2.out⟩
     ·have htm : ¬ ((t : Int) + 1).tmod c.period = 0 := by rw [Int.tmod_eq_emod_of_nonneg (by omega)]; exact hfade
      rw [if_neg hfade] at HTKV
      have htq : ((((t : Int) + 1).tmod c.period) == 0) = false := by simp [htm]
      have htq2 : ((((t : Int) + 1) % c.period) == 0) = false := by simp [hfade]
      rcases HPQ.out with hpq | hpq
      ·have g1 : ¬ (k : Int) < LA := by omega
       clear hpq
       go_wp2
       go_roundg (T - (t + 1))
       case measure => omega
       case rel => exact ⟨t + 1, by omega, rfl, by rw [HTKV.out]; exact HSE.out⟩
      ·by_cases g2 : k < LA
       ·have g1 : (k : Int) < LA := by omega
        have g3 : ¬ (k : Int) < LN := by omega
        clear hpq g2
        go_wp2
        go_roundg (T - (t + 1))
        case measure => omega
        case rel => exact ⟨t + 1, by omega, rfl, by rw [HTKV.out]; exact HSE.out⟩
       ·have g1 : ¬ (k : Int) < LA := by omega
        clear hpq g2
        go_wp2
        go_roundg (T - (t + 1))
        case measure => omega
        case rel => exact ⟨t + 1, by omega, rfl, by rw [HTKV.out]; exact HSE.out⟩
  ·obtain rfl : t = T := by omega
   have HSE : Hid _ := hS
   clear hS cb0 cb6
   rcases HTT.out with hx | hx
   ·have g1 : ¬ (t : Int) < N := by omega
    clear hx
    go_wp2
    go_ret2
    exact ⟨gu, rfl, HSE.out.us, HSE.out.ob, HSE.out.bel, Nat.le_of_lt HGU.out.1, (Chg.of_below HBW4.out _).trans HSE.out.chg (fun i hi e => e.elim (fun x => x) (fun x => by have := HGU.out.1; omega))⟩
   ·by_cases g2 : t < N
    ·have g1 : (t : Int) < N := by omega
     have g3 : ¬ (t : Int) < 2000 := by omega
     clear hx g2
     go_wp2
     go_ret2
     exact ⟨gu, rfl, HSE.out.us, HSE.out.ob, HSE.out.bel, Nat.le_of_lt HGU.out.1, (Chg.of_below HBW4.out _).trans HSE.out.chg (fun i hi e => e.elim (fun x => x) (fun x => by have := HGU.out.1; omega))⟩
    ·have g1 : ¬ (t : Int) < N := by omega
     clear hx g2
     go_wp2
     go_ret2
     exact ⟨gu, rfl, HSE.out.us, HSE.out.ob, HSE.out.bel, Nat.le_of_lt HGU.out.1, (Chg.of_below HBW4.out _).trans HSE.out.chg (fun i hi e => e.elim (fun x => x) (fun x => by have := HGU.out.1; omega))⟩
end Go.Proofs.YtdkbmligaodpmaaGreatDoor
