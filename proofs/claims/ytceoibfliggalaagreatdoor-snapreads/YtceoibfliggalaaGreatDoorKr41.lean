/-
  TEXTS: NcB, NcC.
-/
import Derived.Test.YtceoibfliggalaaGreatDoorKr28
namespace Go.Proofs.YtceoibfliggalaaGreatDoor
open Go.RowKit Wd Tr Cg Ld
theorem rtab_of {w w':World} (h:Tab w) (e:w'.heap[0]?=w.heap[0]?):Tab w':=fun j hj=>by
 have:=h j hj
 unfold World.cell? at this ⊢
 simp only at this ⊢
 rw [e]
 exact this
theorem tab_lt {w:World} (h:Tab w):0<w.heap.size:=World.block_lt_of_cell? w ⟨0,0,none⟩ (h 0 (by decide))
theorem Tab.low {w w':World} (h:Tab w) (b:Below w.heap.size w w'):Tab w':=rtab_of h (b.block _ (tab_lt h))
theorem led_zero {n f:Int} {B:Nat} {W:World} {d:Nat} {v:Value} {us:List Int} (h:Lr.Led n f B W d v us):Lr.Led n f 0 W d v us:=⟨h.blk,Lr.own_base h.row (Nat.zero_le _),Nat.zero_le _,h.wds,h.few⟩
theorem Tryz.infJz:(Tryz.prog.info? 55).map (fun i=>(i.zero,i.size,i.bytes))=some (some (.agg #[.int .i64 0,.int .i64 0,.int .i64 0,.int .i64 0,.int .i64 0,.int .i64 0,.int .i64 0,.slice none 0 0]),8,80):=by kernel_rfl
set_option maxRecDepth 20000 in
set_option maxHeartbeats 400000 in
theorem copies_none {w:World} {jo:Option Addr} {cj:Nat}:Calls Tryz.prog 94 #[.slice jo 0 cj] w fun e w'=>e=.returned (.slice (some ⟨w.heap.size,0,none⟩) 0 0)∧Below w.heap.size w w':=by
 obtain⟨i0,hi0,hz0,hz1,hz2⟩:=info_parts Tryz.infJz
 have hmk:=run_makeSlice (P:=Tryz.prog) w 25 55 i0 _ Tryz.underlying25 hi0 hz0 .i64 .i64 0 0 (by omega) (Int.le_refl _) (by rw [hz1];simp) (by rw [hz2];omega) (by omega)
 obtain⟨w1,hw1⟩:∃w1,w.alloc (.cells (madeCells (Value.cells (.agg #[.int .i64 0,.int .i64 0,.int .i64 0,.int .i64 0,.int .i64 0,.int .i64 0,.int .i64 0,.slice none 0 0])) (Int.toNat 0*i0.size)) 55)=w1:=⟨_,rfl⟩
 rw [hw1]at hmk
 have HB:Hid (Below w.heap.size w w1):=by show Below w.heap.size w w1;rw [← hw1];exact(Below.refl _ _).alloc (Nat.le_refl _) _
 simp only [Int.toNat_zero]at hmk
 clear hw1
 go_enter Tryz.func94,Tryz.ntmps94
 go_wp2
 clear hmk
 go_loopg [4,5,11] 0 (fun gk u u2 p wr=>p=.int .i64 0∧w1=wr)
 case atStart=>exact⟨rfl,rfl⟩
 case round=>
  obtain⟨rfl,rfl⟩:=hrel
  go_wp2
  go_ret
  exact⟨rfl,HB.out⟩
set_option maxRecDepth 20000 in
theorem agnew_any {w:World}:Calls Tryz.prog 95 #[] w fun e w'=>∃a:Nat,e=.returned (.pointer (some ⟨a,0,none⟩))∧Below w.heap.size w w':=by
 have hmm:= @run_makeMap Tryz.prog
 go_enter Tryz.func95,Tryz.ntmps95
 go_wp2
 go_ret
 exact⟨_,rfl,((Below.refl _ _).alloc (Nat.le_refl _) _).alloc (by simp) _⟩
theorem share5 {G Q:Nat→Nat→Nat→Nat→World→Prop} {C:Prop} (main:Hid (∀a b c d e,G a b c d e→Q a b c d e)→C) (fin:∀a b c d e,G a b c d e→Q a b c d e):C:=main fin
structure NwB (w4:World) (c:Cf) (t d bb gj wm a x:Nat) (V:World):Prop where
 bel:Below w4.heap.size w4 V
 blk:V.heap[x]?=some (.cells (coreC c 0 t d (some ⟨gj,0,none⟩) 0 0 (-1) wm a bb) 137 (0,0))
def BxB (W:World) (b:Nat) (c:Cf) (ao:Option Addr) (n ca:Nat) (jo:Option Addr) (cj:Nat):Prop:=W.heap[b]?=some (.cells (stC c 0 (.slice ao n ca) (.slice jo 0 cj) (-1)) 27 (0,0))
theorem BxB.below {W W':World} {b:Nat} {c:Cf} {ao jo:Option Addr} {n ca cj:Nat} (h:BxB W b c ao n ca jo cj) (k:Below W.heap.size W W'):BxB W' b c ao n ca jo cj:=(k.block b (Array.getElem?_eq_some_iff.1 (show W.heap[b]?=_ from h)).1).trans (show W.heap[b]?=_ from h)
theorem BxB.cell {W:World} {b:Nat} {c:Cf} {ao jo:Option Addr} {n ca cj:Nat} (h:BxB W b c ao n ca jo cj) {k:Nat} {v:Value} (hv:(stC c 0 (.slice ao n ca) (.slice jo 0 cj) (-1))[k]?=some v):W.cell? ⟨b,k,none⟩=some v:=cells_at (show W.heap[b]?=_ from h) hv
set_option maxRecDepth 20000 in
set_option maxHeartbeats 2000000 in
theorem standing_any {w:World} {c:Cf} {ao:Option Addr} {la:List Ac} {ca:Nat} {jo:Option Addr} {cj:Nat} (hA:AcsAt w ao la) (hld:loadE la=0) (hck:chkZ c=0) (hs:∀a∈la,a.nm.size≤maxLen) (hus:Lr.Lg.Wds (usL la)) (hl:la.length≤64) (hc:la.length≤ca) (hrt:Tab w) (hn1:1≤c.nodes) (hn2:c.nodes≤256):
  Calls Tryz.prog 41 #[.agg (stC c 0 (.slice ao la.length ca) (.slice jo 0 cj) (-1))] w fun e w'=>∃x:Nat,e=.returned (.pointer (some ⟨x,0,none⟩))∧(∃P,Ck w' x c 0 (-1) la P∧P.n=0)∧Below w.heap.size w w':=by
 obtain⟨W,hW⟩:∃W,w.alloc (.cells #[.int .i64 c.nodes,.int .i64 c.queue,.int .i64 c.limit,.int .i64 c.age,.int .i64 c.fair,.int .i64 c.size,.int .i64 c.period,.int .i64 c.half,.int .i64 0,.slice ao la.length ca,.slice jo 0 cj,.int .i64 (-1)] 27)=W:=⟨_,rfl⟩
 have bW:Below w.heap.size w W:=by rw [← hW];exact(Below.refl _ _).alloc (Nat.le_refl _) _
 have hzW:W.heap.size=w.heap.size+1:=by rw [← hW];simp
 have hG:BxB W w.heap.size c ao la.length ca jo cj:=by rw [← hW];exact heap_alloc_new w _
 have q9:W.cell? ⟨w.heap.size,9,none⟩=some (.slice ao la.length ca):=hG.cell rfl
 have hld1:=pload_any (w:=W) (c:=ca) (hA.below bW) hs (by omega) hc
 have HTB:Hid (∀ {V:World},Below w.heap.size w V→Tab V):=fun {V} b=>hrt.low b
 have HUS:Hid (∀ {V:World},Below w.heap.size w V→_):=fun {V} b=>usagesOf_any (w:=V) (ca:=ca) (hA.below b) hl
 have hul:(usL la).length=la.length:=us_len la
 have HLN:Hid (∀(V:World) (g:Nat),Below w.heap.size w V→RowF V g la.length (usF la)→Calls Tryz.prog 91 #[.agg #[.int .i64 c.nodes,.int .i64 c.queue,.int .i64 c.limit,.int .i64 c.age,.int .i64 c.fair,.int .i64 c.size,.int .i64 c.period,.int .i64 c.half],.slice (some ⟨g,0,none⟩) la.length la.length] V fun e w'=>∃d v,e=.returned (.tuple #[.pointer (some ⟨d,0,none⟩),.int .i64 0])∧Lr.Led c.nodes (Lr.facZ c) V.heap.size w' d v (usL la)∧Below V.heap.size V w'):=fun V g b hR=>by
  have hq:=Lr.new_led (w:=V) (ao:=some ⟨g,0,none⟩) (cp:=la.length) hck (l:=usL la) (HTB.out b) ⟨g,0,fun _=>rfl,fun k n hk=>by
   have hk':=(List.getElem?_eq_some_iff.1 hk).1
   rw [hul]at hk'
   rw [Nat.zero_add,hR.cell hk']
   unfold usL at hk
   rw [List.getElem?_map]at hk
   unfold usF
   cases ha:la[k]? with
   | none=>rw [ha]at hk;cases hk
   | some a=>rw [ha]at hk;cases hk;rfl⟩ hus (fun e=>by cases e) (by rw [hul];exact hl)
  rw [hul]at hq
  exact hq
 have hnn:((c.nodes.toNat:Nat):Int)=c.nodes:=by omega
 have HNN:Hid (∀V:World,Calls Tryz.prog 93 #[.int .i64 c.nodes] V fun e w'=>e=.returned (.tuple #[.pointer (some ⟨V.heap.size,0,none⟩),.int .i64 0])∧Below V.heap.size V w'):=fun V=>by
  have hq:=Nd.new_yes c.nodes.toNat V (by omega) (by omega)
  rw [hnn]at hq
  exact hq.mono fun e w' h=>⟨h.1,h.2.2⟩
 have HB:Hid _:=bW
 have HG:Hid _:=hG
 have HZW:Hid _:=hzW
 clear hA hs hus hc hrt hck bW hG hzW hul hnn
 unfold stC
 go_enter Tryz.func41,Tryz.ntmps41
 go_upto_region 2 with(go_at_call 90;refine hld1.mono ?_;rintro e w1 hLP;obtain⟨hyes,_,b1⟩:=hLP;obtain⟨t,rfl,hT⟩:=hyes hld)
 have HT1:Hid (Tree (fun _=>True) w1 t (la.map plainAc) (kidB (la.map plainAc))):=hT.mono (fun j hj h=>trivial)
 have HB1:Hid (Below w.heap.size w w1.drew):=(HB.out.trans (b1.mono HB.out.size)).trans ((drew_below' w1).mono (Nat.le_trans HB.out.size b1.size))
 have HG1:Hid (BxB w1.drew w.heap.size c ao la.length ca jo cj):=BxB.below (BxB.below HG.out b1) (drew_below' w1)
 clear hT b1 hld1 q9 hyes
 refine wp_region_last (S:=(Below w1.drew.heap.size w1.drew)) (L:=99) (by kernel_rfl) ?_
 have HSW0:(Below w1.drew.heap.size w1.drew) (w1.drew):=Below.refl _ _
 have HF:Hid (∀xx:World,(Below w1.drew.heap.size w1.drew) xx→xx.cell? ⟨w.heap.size,0,none⟩=some (.int .i64 c.nodes)∧xx.cell? ⟨w.heap.size,1,none⟩=some (.int .i64 c.queue)∧xx.cell? ⟨w.heap.size,2,none⟩=some (.int .i64 c.limit)∧xx.cell? ⟨w.heap.size,3,none⟩=some (.int .i64 c.age)∧xx.cell? ⟨w.heap.size,4,none⟩=some (.int .i64 c.fair)∧xx.cell? ⟨w.heap.size,5,none⟩=some (.int .i64 c.size)∧xx.cell? ⟨w.heap.size,6,none⟩=some (.int .i64 c.period)∧xx.cell? ⟨w.heap.size,7,none⟩=some (.int .i64 c.half)∧xx.cell? ⟨w.heap.size,9,none⟩=some (.slice ao la.length ca)∧True):=fun xx hSx=>by have hbx:=BxB.below HG1.out hSx;exact⟨BxB.cell hbx rfl,BxB.cell hbx rfl,BxB.cell hbx rfl,BxB.cell hbx rfl,BxB.cell hbx rfl,BxB.cell hbx rfl,BxB.cell hbx rfl,BxB.cell hbx rfl,BxB.cell hbx rfl,trivial⟩
 refine tk 0 HSW0 (h:=?_)
 refine tk 1 HSW0 (h:=?_)
 refine tk 2 HSW0 (h:=?_)
 refine tk 3 HSW0 (h:=?_)
 refine last_one (i:=4) (by kernel_rfl) rfl ?_
 intro K hK
 go_simp
 go_at_call 92
 refine(HUS.out HB1.out).mono ?_
 rintro e w2 ⟨rfl,hR2,b2⟩
 have HB2:Hid (Below w.heap.size w w2):=HB1.out.trans (b2.mono HB1.out.size)
 have HSw2:(Below w1.drew.heap.size w1.drew) w2:=b2
 go_simp
 refine hK.out _ _ (fun _=>HSw2) (fun _=>?_)
 clear hK K HSW0
 refine last_one (i:=5) (by kernel_rfl) rfl ?_
 intro K hK
 go_simp
 go_at_call 91
 refine(HLN.out _ _ HB2.out hR2).mono ?_
 rintro e w3 ⟨d,v3,rfl,hL3,b3⟩
 have HSw3:(Below w1.drew.heap.size w1.drew) w3:=Below.trans HSw2 (Below.mono b3 (Below.size HSw2))
 go_simp
 refine hK.out _ _ (fun _=>HSw3) (fun _=>?_)
 clear hK K HSw2
 refine tk 6 HSw3 (h:=?_)
 refine tk 7 HSw3 (h:=?_)
 refine tk 8 HSw3 (h:=?_)
 refine tk 9 HSw3 (h:=?_)
 refine tk 10 HSw3 (h:=?_)
 refine last_done (by kernel_rfl) ?_ _
 have HB3:Hid (Below w.heap.size w w3):=HB1.out.trans (Below.mono HSw3 HB1.out.size)
 have HG3:Hid (BxB w3 w.heap.size c ao la.length ca jo cj):=BxB.below HG1.out HSw3
 have HL3:Hid (LedS w3 d c (usL la)):=⟨v3,led_zero hL3⟩
 have HT3:Hid _:=Tree.below (Tree.below HT1.out (drew_below' w1)) HSw3
 have q0:w3.cell? ⟨w.heap.size,0,none⟩=some (.int .i64 c.nodes):=BxB.cell HG3.out rfl
 have hnw:=HNN.out w3
 clear HSw3 hR2 b2 b3 hL3
 go_upto_region 4 with(go_at_call 93;refine hnw.mono ?_;rintro e w4 ⟨rfl,b4⟩)
 have b4':Below w3.heap.size w3 w4.drew:=b4.trans ((drew_below' w4).mono b4.size)
 have HB4:Hid (Below w.heap.size w w4.drew):=HB3.out.trans (b4'.mono HB3.out.size)
 have HG4:Hid (BxB w4.drew w.heap.size c ao la.length ca jo cj):=BxB.below HG3.out b4'
 have HL4:Hid _:=LedS.below HL3.out b4'
 have HT4:Hid _:=Tree.below HT3.out b4'
 clear b4 b4' q0 hnw HL3 HT3 HT1
 apply share5 (G:=fun gj wm a x V=>NwB w4.drew c t d w3.heap.size gj wm a x V)
 case main=>
  intro HFIN
  refine wp_region_last (S:=(Below w4.drew.heap.size w4.drew)) (L:=99) (by kernel_rfl) ?_
  have HSW0:(Below w4.drew.heap.size w4.drew) (w4.drew):=Below.refl _ _
  have HF:Hid (∀xx:World,(Below w4.drew.heap.size w4.drew) xx→xx.cell? ⟨w.heap.size,0,none⟩=some (.int .i64 c.nodes)∧xx.cell? ⟨w.heap.size,1,none⟩=some (.int .i64 c.queue)∧xx.cell? ⟨w.heap.size,2,none⟩=some (.int .i64 c.limit)∧xx.cell? ⟨w.heap.size,3,none⟩=some (.int .i64 c.age)∧xx.cell? ⟨w.heap.size,4,none⟩=some (.int .i64 c.fair)∧xx.cell? ⟨w.heap.size,5,none⟩=some (.int .i64 c.size)∧xx.cell? ⟨w.heap.size,6,none⟩=some (.int .i64 c.period)∧xx.cell? ⟨w.heap.size,7,none⟩=some (.int .i64 c.half)∧xx.cell? ⟨w.heap.size,8,none⟩=some (.int .i64 0)∧xx.cell? ⟨w.heap.size,10,none⟩=some (.slice jo 0 cj)∧xx.cell? ⟨w.heap.size,11,none⟩=some (.int .i64 (-1))∧True):=fun xx hSx=>by have hbx:=BxB.below HG4.out hSx;exact⟨BxB.cell hbx rfl,BxB.cell hbx rfl,BxB.cell hbx rfl,BxB.cell hbx rfl,BxB.cell hbx rfl,BxB.cell hbx rfl,BxB.cell hbx rfl,BxB.cell hbx rfl,BxB.cell hbx rfl,BxB.cell hbx rfl,BxB.cell hbx rfl,trivial⟩
  refine tk 0 HSW0 (h:=?_)
  refine tk 1 HSW0 (h:=?_)
  refine tk 2 HSW0 (h:=?_)
  refine tk 3 HSW0 (h:=?_)
  refine tk 4 HSW0 (h:=?_)
  refine tk 5 HSW0 (h:=?_)
  refine tk 6 HSW0 (h:=?_)
  refine tk 7 HSW0 (h:=?_)
  refine tk 9 HSW0 (h:=?_)
  refine tk 10 HSW0 (h:=?_)
  refine tk 13 HSW0 (h:=?_)
  refine last_few (i:=8) (l:= [11]) (by kernel_rfl) (List.forall_mem_cons.2 ⟨⟨_,rfl,?h8n21⟩,List.forall_mem_cons.2 ⟨⟨_,rfl,?h11n21⟩,List.forall_mem_nil _⟩⟩)
  case h8n21=>
   intro K hK
   go_simp
   go_at_call 94
   refine copies_none.mono ?_
   rintro e w5 ⟨rfl,b5⟩
   have HSw5:(Below w4.drew.heap.size w4.drew) w5:=Below.trans HSW0 (Below.mono b5 (Below.size HSW0))
   obtain⟨gj,hgj⟩:∃gj,w4.heap.size=gj:=⟨_,rfl⟩
   go_simp
   refine hK.out _ _ (fun _=>HSw5) (fun _=>?_)
   clear hK K
   refine last_few (i:=11) (l:= [12]) (by kernel_rfl) (List.forall_mem_cons.2 ⟨⟨_,rfl,?h11n22⟩,List.forall_mem_cons.2 ⟨⟨_,rfl,?h12n22⟩,List.forall_mem_nil _⟩⟩)
   case h11n22=>
    intro K hK
    have hmm:= @run_makeMap Tryz.prog
    go_simp
    clear hmm
    obtain⟨wm,hwm⟩:∃wm,w5.heap.size=wm:=⟨_,rfl⟩
    obtain⟨w6,hw6⟩:∃w6,w5.alloc (.map #[] 0)=w6:=⟨_,rfl⟩
    have b6:Below w5.heap.size w5 w6:=by rw [← hw6];exact(Below.refl _ _).alloc (Nat.le_refl _) _
    try rw [hw6]
    try rw [hwm]
    have HSw6:(Below w4.drew.heap.size w4.drew) w6:=Below.trans HSw5 (Below.mono b6 (Below.size HSw5))
    clear hw6
    refine hK.out _ _ (fun _=>HSw6) (fun _=>?_)
    clear hK K
    refine last_one (i:=12) (by kernel_rfl) rfl ?_
    intro K hK
    go_simp
    go_at_call 95
    refine agnew_any.mono ?_
    rintro e w7 ⟨a,rfl,b7⟩
    have HSw7:(Below w4.drew.heap.size w4.drew) w7:=Below.trans HSw6 (Below.mono b7 (Below.size HSw6))
    go_simp
    refine hK.out _ _ (fun _=>HSw7) (fun _=>?_)
    clear hK K
    have HF:Hid (∀xx:World,(Below w4.drew.heap.size w4.drew) xx→xx.cell? ⟨w.heap.size,0,none⟩=some (.int .i64 c.nodes)∧xx.cell? ⟨w.heap.size,1,none⟩=some (.int .i64 c.queue)∧xx.cell? ⟨w.heap.size,2,none⟩=some (.int .i64 c.limit)∧xx.cell? ⟨w.heap.size,3,none⟩=some (.int .i64 c.age)∧xx.cell? ⟨w.heap.size,4,none⟩=some (.int .i64 c.fair)∧xx.cell? ⟨w.heap.size,5,none⟩=some (.int .i64 c.size)∧xx.cell? ⟨w.heap.size,6,none⟩=some (.int .i64 c.period)∧xx.cell? ⟨w.heap.size,7,none⟩=some (.int .i64 c.half)∧xx.cell? ⟨w.heap.size,8,none⟩=some (.int .i64 0)∧xx.cell? ⟨w.heap.size,10,none⟩=some (.slice jo 0 cj)∧xx.cell? ⟨w.heap.size,11,none⟩=some (.int .i64 (-1))∧True):=fun xx hSx=>by have hbx:=BxB.below HG4.out hSx;exact⟨BxB.cell hbx rfl,BxB.cell hbx rfl,BxB.cell hbx rfl,BxB.cell hbx rfl,BxB.cell hbx rfl,BxB.cell hbx rfl,BxB.cell hbx rfl,BxB.cell hbx rfl,BxB.cell hbx rfl,BxB.cell hbx rfl,BxB.cell hbx rfl,trivial⟩
    refine tk 14 HSw7 (h:=?_)
    refine last_one (i:=15) (by kernel_rfl) rfl ?_
    intro K hK
    go_simp
    obtain⟨x,hx⟩:∃x,w7.heap.size=x:=⟨_,rfl⟩
    obtain⟨w8,hw8⟩:∃w8,w7.alloc (.cells #[.int .i64 c.nodes,.int .i64 c.queue,.int .i64 c.limit,.int .i64 c.age,.int .i64 c.fair,.int .i64 c.size,.int .i64 c.period,.int .i64 c.half,.int .i64 0,.pointer (some ⟨t,0,none⟩),.pointer (some ⟨d,0,none⟩),.slice (some ⟨gj,0,none⟩) 0 0,.int .i64 (-1),.map (some wm),.pointer (some ⟨a,0,none⟩),.pointer (some ⟨w3.heap.size,0,none⟩)] 137)=w8:=⟨_,rfl⟩
    have b8:Below w7.heap.size w7 w8:=by rw [← hw8];exact(Below.refl _ _).alloc (Nat.le_refl _) _
    try rw [hw8]
    try rw [hx]
    have HSw8:(Below w4.drew.heap.size w4.drew) w8:=Below.trans HSw7 (Below.mono b8 (Below.size HSw7))
    have HBK:Hid (w8.heap[x]?=some (.cells (coreC c 0 t d (some ⟨gj,0,none⟩) 0 0 (-1) wm a w3.heap.size) 137 (0,0))):=by show w8.heap[x]?=_;rw [← hw8,←hx];exact heap_alloc_new w7 _
    clear hw8
    refine hK.out _ _ (fun _=>HSw8) (fun _=>?_)
    clear hK K
    refine tk 16 HSw8 (h:=?_)
    refine last_done (by kernel_rfl) ?_ _
    exact HFIN.out gj wm a x w8 ⟨HSw8,HBK.out⟩
   case h12n22=>
    intro K hK
    go_simp
    go_at_call 95
    refine agnew_any.mono ?_
    rintro e w7 ⟨a,rfl,b7⟩
    have HSw7:(Below w4.drew.heap.size w4.drew) w7:=Below.trans HSw5 (Below.mono b7 (Below.size HSw5))
    go_simp
    refine hK.out _ _ (fun _=>HSw7) (fun _=>?_)
    clear hK K
    refine last_one (i:=11) (by kernel_rfl) rfl ?_
    intro K hK
    have hmm:= @run_makeMap Tryz.prog
    go_simp
    clear hmm
    obtain⟨wm,hwm⟩:∃wm,w7.heap.size=wm:=⟨_,rfl⟩
    obtain⟨w6,hw6⟩:∃w6,w7.alloc (.map #[] 0)=w6:=⟨_,rfl⟩
    have b6:Below w7.heap.size w7 w6:=by rw [← hw6];exact(Below.refl _ _).alloc (Nat.le_refl _) _
    try rw [hw6]
    try rw [hwm]
    have HSw6:(Below w4.drew.heap.size w4.drew) w6:=Below.trans HSw7 (Below.mono b6 (Below.size HSw7))
    clear hw6
    refine hK.out _ _ (fun _=>HSw6) (fun _=>?_)
    clear hK K
    have HF:Hid (∀xx:World,(Below w4.drew.heap.size w4.drew) xx→xx.cell? ⟨w.heap.size,0,none⟩=some (.int .i64 c.nodes)∧xx.cell? ⟨w.heap.size,1,none⟩=some (.int .i64 c.queue)∧xx.cell? ⟨w.heap.size,2,none⟩=some (.int .i64 c.limit)∧xx.cell? ⟨w.heap.size,3,none⟩=some (.int .i64 c.age)∧xx.cell? ⟨w.heap.size,4,none⟩=some (.int .i64 c.fair)∧xx.cell? ⟨w.heap.size,5,none⟩=some (.int .i64 c.size)∧xx.cell? ⟨w.heap.size,6,none⟩=some (.int .i64 c.period)∧xx.cell? ⟨w.heap.size,7,none⟩=some (.int .i64 c.half)∧xx.cell? ⟨w.heap.size,8,none⟩=some (.int .i64 0)∧xx.cell? ⟨w.heap.size,10,none⟩=some (.slice jo 0 cj)∧xx.cell? ⟨w.heap.size,11,none⟩=some (.int .i64 (-1))∧True):=fun xx hSx=>by have hbx:=BxB.below HG4.out hSx;exact⟨BxB.cell hbx rfl,BxB.cell hbx rfl,BxB.cell hbx rfl,BxB.cell hbx rfl,BxB.cell hbx rfl,BxB.cell hbx rfl,BxB.cell hbx rfl,BxB.cell hbx rfl,BxB.cell hbx rfl,BxB.cell hbx rfl,BxB.cell hbx rfl,trivial⟩
    refine tk 14 HSw6 (h:=?_)
    refine last_one (i:=15) (by kernel_rfl) rfl ?_
    intro K hK
    go_simp
    obtain⟨x,hx⟩:∃x,w6.heap.size=x:=⟨_,rfl⟩
    obtain⟨w8,hw8⟩:∃w8,w6.alloc (.cells #[.int .i64 c.nodes,.int .i64 c.queue,.int .i64 c.limit,.int .i64 c.age,.int .i64 c.fair,.int .i64 c.size,.int .i64 c.period,.int .i64 c.half,.int .i64 0,.pointer (some ⟨t,0,none⟩),.pointer (some ⟨d,0,none⟩),.slice (some ⟨gj,0,none⟩) 0 0,.int .i64 (-1),.map (some wm),.pointer (some ⟨a,0,none⟩),.pointer (some ⟨w3.heap.size,0,none⟩)] 137)=w8:=⟨_,rfl⟩
    have b8:Below w6.heap.size w6 w8:=by rw [← hw8];exact(Below.refl _ _).alloc (Nat.le_refl _) _
    try rw [hw8]
    try rw [hx]
    have HSw8:(Below w4.drew.heap.size w4.drew) w8:=Below.trans HSw6 (Below.mono b8 (Below.size HSw6))
    have HBK:Hid (w8.heap[x]?=some (.cells (coreC c 0 t d (some ⟨gj,0,none⟩) 0 0 (-1) wm a w3.heap.size) 137 (0,0))):=by show w8.heap[x]?=_;rw [← hw8,←hx];exact heap_alloc_new w6 _
    clear hw8
    refine hK.out _ _ (fun _=>HSw8) (fun _=>?_)
    clear hK K
    refine tk 16 HSw8 (h:=?_)
    refine last_done (by kernel_rfl) ?_ _
    exact HFIN.out gj wm a x w8 ⟨HSw8,HBK.out⟩
  case h11n21=>
   intro K hK
   have hmm:= @run_makeMap Tryz.prog
   go_simp
   clear hmm
   obtain⟨wm,hwm⟩:∃wm,w4.heap.size=wm:=⟨_,rfl⟩
   obtain⟨w6,hw6⟩:∃w6,(w4.alloc (.map #[] 0)).drew=w6:=⟨_,rfl⟩
   have b6:Below w4.drew.heap.size w4.drew w6:=by rw [← hw6];exact(show Below w4.heap.size w4.drew (w4.drew.alloc _)from(Below.refl w4.heap.size w4.drew).alloc (show w4.heap.size≤w4.drew.heap.size from Nat.le_refl _) _)
   try rw [hw6]
   try rw [hwm]
   have HSw6:(Below w4.drew.heap.size w4.drew) w6:=Below.trans HSW0 (Below.mono b6 (Below.size HSW0))
   clear hw6
   refine hK.out _ _ (fun _=>HSw6) (fun _=>?_)
   clear hK K
   refine last_one (i:=8) (by kernel_rfl) rfl ?_
   intro K hK
   go_simp
   go_at_call 94
   refine copies_none.mono ?_
   rintro e w5 ⟨rfl,b5⟩
   have HSw5:(Below w4.drew.heap.size w4.drew) w5:=Below.trans HSw6 (Below.mono b5 (Below.size HSw6))
   obtain⟨gj,hgj⟩:∃gj,w6.heap.size=gj:=⟨_,rfl⟩
   go_simp
   refine hK.out _ _ (fun _=>HSw5) (fun _=>?_)
   clear hK K
   refine last_one (i:=12) (by kernel_rfl) rfl ?_
   intro K hK
   go_simp
   go_at_call 95
   refine agnew_any.mono ?_
   rintro e w7 ⟨a,rfl,b7⟩
   have HSw7:(Below w4.drew.heap.size w4.drew) w7:=Below.trans HSw5 (Below.mono b7 (Below.size HSw5))
   go_simp
   refine hK.out _ _ (fun _=>HSw7) (fun _=>?_)
   clear hK K
   have HF:Hid (∀xx:World,(Below w4.drew.heap.size w4.drew) xx→xx.cell? ⟨w.heap.size,0,none⟩=some (.int .i64 c.nodes)∧xx.cell? ⟨w.heap.size,1,none⟩=some (.int .i64 c.queue)∧xx.cell? ⟨w.heap.size,2,none⟩=some (.int .i64 c.limit)∧xx.cell? ⟨w.heap.size,3,none⟩=some (.int .i64 c.age)∧xx.cell? ⟨w.heap.size,4,none⟩=some (.int .i64 c.fair)∧xx.cell? ⟨w.heap.size,5,none⟩=some (.int .i64 c.size)∧xx.cell? ⟨w.heap.size,6,none⟩=some (.int .i64 c.period)∧xx.cell? ⟨w.heap.size,7,none⟩=some (.int .i64 c.half)∧xx.cell? ⟨w.heap.size,8,none⟩=some (.int .i64 0)∧xx.cell? ⟨w.heap.size,10,none⟩=some (.slice jo 0 cj)∧xx.cell? ⟨w.heap.size,11,none⟩=some (.int .i64 (-1))∧True):=fun xx hSx=>by have hbx:=BxB.below HG4.out hSx;exact⟨BxB.cell hbx rfl,BxB.cell hbx rfl,BxB.cell hbx rfl,BxB.cell hbx rfl,BxB.cell hbx rfl,BxB.cell hbx rfl,BxB.cell hbx rfl,BxB.cell hbx rfl,BxB.cell hbx rfl,BxB.cell hbx rfl,BxB.cell hbx rfl,trivial⟩
   refine tk 14 HSw7 (h:=?_)
   refine last_one (i:=15) (by kernel_rfl) rfl ?_
   intro K hK
   go_simp
   obtain⟨x,hx⟩:∃x,w7.heap.size=x:=⟨_,rfl⟩
   obtain⟨w8,hw8⟩:∃w8,w7.alloc (.cells #[.int .i64 c.nodes,.int .i64 c.queue,.int .i64 c.limit,.int .i64 c.age,.int .i64 c.fair,.int .i64 c.size,.int .i64 c.period,.int .i64 c.half,.int .i64 0,.pointer (some ⟨t,0,none⟩),.pointer (some ⟨d,0,none⟩),.slice (some ⟨gj,0,none⟩) 0 0,.int .i64 (-1),.map (some wm),.pointer (some ⟨a,0,none⟩),.pointer (some ⟨w3.heap.size,0,none⟩)] 137)=w8:=⟨_,rfl⟩
   have b8:Below w7.heap.size w7 w8:=by rw [← hw8];exact(Below.refl _ _).alloc (Nat.le_refl _) _
   try rw [hw8]
   try rw [hx]
   have HSw8:(Below w4.drew.heap.size w4.drew) w8:=Below.trans HSw7 (Below.mono b8 (Below.size HSw7))
   have HBK:Hid (w8.heap[x]?=some (.cells (coreC c 0 t d (some ⟨gj,0,none⟩) 0 0 (-1) wm a w3.heap.size) 137 (0,0))):=by show w8.heap[x]?=_;rw [← hw8,←hx];exact heap_alloc_new w7 _
   clear hw8
   refine hK.out _ _ (fun _=>HSw8) (fun _=>?_)
   clear hK K
   refine tk 16 HSw8 (h:=?_)
   refine last_done (by kernel_rfl) ?_ _
   exact HFIN.out gj wm a x w8 ⟨HSw8,HBK.out⟩
 case fin=>
  intro gj wm a x V hG
  have hx11:V.cell? ⟨x,11,none⟩=some (.slice (some ⟨gj,0,none⟩) 0 0):=cells_at hG.blk rfl
  have HGV:Hid _:=hG
  clear hG
  go_wp2
  go_loopg [10,11,55] 0 (fun gk u u2 p wr=>p=.int .i64 0∧V=wr)
  case atStart=>exact⟨rfl,rfl⟩
  case round=>
   obtain⟨rfl,rfl⟩:=hrel
   go_wp2
   go_ret
   have hbV:=HGV.out.bel
   exact⟨x,rfl,⟨⟨t,d,some ⟨gj,0,none⟩,0,0,wm,a,w3.heap.size⟩,⟨HGV.out.blk,Tree.below HT4.out hbV,LedS.below HL4.out hbV⟩,rfl⟩,HB4.out.trans (hbV.mono HB4.out.size)⟩
end Go.Proofs.YtceoibfliggalaaGreatDoor
namespace Go.Proofs.YtceoibfliggalaaGreatDoor
open Go.RowKit Wd Tr Cg Ld
section
variable {w:World} {x:Nat} {c:Cf} {now hd:Int} {la:List Ac} {P:Pt}
set_option maxRecDepth 20000 in
set_option maxHeartbeats 2000000 in
theorem state_none (h:Ck w x c now hd la P) (hn:P.n=0) (hw:Wf (la.map plainAc)) (hl0:la≠ []) (hmany:la.length≤1000000):
  Calls Tryz.prog 44 #[.pointer (some ⟨x,0,none⟩)] w fun e w'=>∃u,∃g:Nat,e=.returned (.agg (stC c now u (.slice (some ⟨g,0,none⟩) 0 0) hd))∧w'.ownsRow w.heap.size 52 5 u la.length (flatA la)∧Below w.heap.size w w':=by
 obtain⟨W,hW⟩:∃W,w.alloc (.cells #[.int .i64 0,.int .i64 0,.int .i64 0,.int .i64 0,.int .i64 0,.int .i64 0,.int .i64 0,.int .i64 0,.int .i64 0,.slice none 0 0,.slice none 0 0,.int .i64 0] 27)=W:=⟨_,rfl⟩
 have bW:Below w.heap.size w W:=by rw [← hW];exact(Below.refl _ _).alloc (Nat.le_refl _) _
 have hzW:W.heap.size=w.heap.size+1:=by rw [← hW];simp
 have hG:W.heap[w.heap.size]?=some (.cells #[.int .i64 0,.int .i64 0,.int .i64 0,.int .i64 0,.int .i64 0,.int .i64 0,.int .i64 0,.int .i64 0,.int .i64 0,.slice none 0 0,.slice none 0 0,.int .i64 0] 27 (0,0)):=by rw [← hW];exact heap_alloc_new w _
 have hseen:=seen_any (h.below bW) hw hl0 hmany
 rw [hn]at hseen
 unfold stC at hseen
 have H:Hid _:=h
 have HB:Hid _:=bW
 have HG:Hid _:=hG
 have HZW:Hid _:=hzW
 clear h bW hG hzW hw hl0 hmany hn
 go_enter Tryz.func44,Tryz.ntmps44
 go_upto_region 2 with(go_at_call 102;refine hseen.mono ?_;rintro e w1 ⟨u1,rfl,hrow1,b1⟩;obtain⟨ua,uc,rfl⟩:=sl_shape hrow1)
 obtain⟨W2,hW2⟩:∃W2,w1.alloc (.cells #[.int .i64 c.nodes,.int .i64 c.queue,.int .i64 c.limit,.int .i64 c.age,.int .i64 c.fair,.int .i64 c.size,.int .i64 c.period,.int .i64 c.half,.int .i64 now,.slice ua la.length uc,.slice P.jo 0 P.cap,.int .i64 hd] 27)=W2:=⟨_,rfl⟩
 have b2:Below w1.heap.size w1 W2:=by rw [← hW2];exact(Below.refl _ _).alloc (Nat.le_refl _) _
 have hz2:W2.heap.size=w1.heap.size+1:=by rw [← hW2];simp
 have hG2:W2.heap[w1.heap.size]?=some (.cells (stC c now (.slice ua la.length uc) (.slice P.jo 0 P.cap) hd) 27 (0,0)):=by rw [← hW2];exact heap_alloc_new w1 _
 have c10:W2.cell? ⟨w1.heap.size,10,none⟩=some (.slice P.jo 0 P.cap):=cells_at hG2 rfl
 have hz1:W.heap.size≤w1.heap.size:=b1.size
 have B2:Below w.heap.size w W2:=(HB.out.trans (b1.mono HB.out.size)).trans (b2.mono (Nat.le_trans HB.out.size b1.size))
 have hcop:=copies_none (w:=W2) (jo:=P.jo) (cj:=P.cap)
 have HG2:Hid _:=hG2
 have HROW:Hid _:=row_kept hrow1 b2
 have HB2:Hid _:=B2
 have HGW:Hid (W2.heap[w.heap.size]?=some (.cells #[.int .i64 0,.int .i64 0,.int .i64 0,.int .i64 0,.int .i64 0,.int .i64 0,.int .i64 0,.int .i64 0,.int .i64 0,.slice none 0 0,.slice none 0 0,.int .i64 0] 27 (0,0))):=(b2.block _ (by have:=HZW.out;omega)).trans ((b1.block _ (by have:=HZW.out;omega)).trans HG.out)
 have hrl:∀k,(Value.slice ua la.length uc).ownBlock=some k→w.heap.size+1<k∧k<w1.heap.size:=fun k hk=>by have:=World.ownsRow.lt hrow1 k hk;have:=HZW.out;omega
 have HRL:Hid _:=hrl
 have hzo:w.heap.size+1≤w1.heap.size:=by have:=HZW.out;omega
 clear hrow1 b1 b2 B2 hG2 hseen hrl
 try rw [hW2]
 go_upto_region 3 with(go_at_call 94;refine hcop.mono ?_;rintro e w3 ⟨rfl,bc3⟩;have hg3:=(bc3.block w1.heap.size (by omega)).trans HG2.out;have k10:w3.cell? ⟨w1.heap.size,10,none⟩=some (.slice P.jo 0 P.cap):=cells_at hg3 rfl;have f10:w3.frozen? ⟨w1.heap.size,10,none⟩=false:=frozen_at hg3;have HG3:Hid _:=hg3;have HC3:Hid _:=bc3;clear bc3 hg3 c10)
 have hGV:(w3.setCell ⟨w1.heap.size,10,none⟩ (.slice (some ⟨w1.heap.size+1,0,none⟩) 0 0)).heap[w1.heap.size]?=some (.cells (stC c now (.slice ua la.length uc) (.slice (some ⟨w1.heap.size+1,0,none⟩) 0 0) hd) 27 (0,0)):=heap_setCell_same w3 w1.heap.size 10 _ _ _ HG3.out
 have oV:∀j,j≠w1.heap.size→(w3.setCell ⟨w1.heap.size,10,none⟩ (.slice (some ⟨w1.heap.size+1,0,none⟩) 0 0)).heap[j]?=w3.heap[j]?:=fun j hj=>Below.heap_setCell _ _ _ _ (by simpa using hj)
 have zV:(w3.setCell ⟨w1.heap.size,10,none⟩ (.slice (some ⟨w1.heap.size+1,0,none⟩) 0 0)).heap.size=w3.heap.size:=World.size_setCell ..
 have b3:=HC3.out
 have z3:W2.heap.size≤w3.heap.size:=b3.size
 have HRV:Hid ((w3.setCell ⟨w1.heap.size,10,none⟩ (.slice (some ⟨w1.heap.size+1,0,none⟩) 0 0)).heap[w.heap.size]?=some (.cells #[.int .i64 0,.int .i64 0,.int .i64 0,.int .i64 0,.int .i64 0,.int .i64 0,.int .i64 0,.int .i64 0,.int .i64 0,.slice none 0 0,.slice none 0 0,.int .i64 0] 27 (0,0))):=(oV _ (by omega)).trans ((b3.block _ (by omega)).trans HGW.out)
 have HBV:Hid (Below w.heap.size w (w3.setCell ⟨w1.heap.size,10,none⟩ (.slice (some ⟨w1.heap.size+1,0,none⟩) 0 0))):=(HB2.out.trans (b3.mono HB2.out.size)).setCell (p:=⟨w1.heap.size,10,none⟩) (by show w.heap.size≤w1.heap.size;omega) _
 have HOV:Hid _:=oV
 have HZV:Hid _:=zV
 clear oV zV k10 f10 b3
 generalize w3.setCell ⟨w1.heap.size,10,none⟩ (.slice (some ⟨w1.heap.size+1,0,none⟩) 0 0)=V at *
 have k0:V.cell? ⟨w1.heap.size,0,none⟩=some (.int .i64 c.nodes):=cells_at hGV rfl
 have k1:V.cell? ⟨w1.heap.size,1,none⟩=some (.int .i64 c.queue):=cells_at hGV rfl
 have k2:V.cell? ⟨w1.heap.size,2,none⟩=some (.int .i64 c.limit):=cells_at hGV rfl
 have k3:V.cell? ⟨w1.heap.size,3,none⟩=some (.int .i64 c.age):=cells_at hGV rfl
 have k4:V.cell? ⟨w1.heap.size,4,none⟩=some (.int .i64 c.fair):=cells_at hGV rfl
 have k5:V.cell? ⟨w1.heap.size,5,none⟩=some (.int .i64 c.size):=cells_at hGV rfl
 have k6:V.cell? ⟨w1.heap.size,6,none⟩=some (.int .i64 c.period):=cells_at hGV rfl
 have k7:V.cell? ⟨w1.heap.size,7,none⟩=some (.int .i64 c.half):=cells_at hGV rfl
 have k8:V.cell? ⟨w1.heap.size,8,none⟩=some (.int .i64 now):=cells_at hGV rfl
 have k9:V.cell? ⟨w1.heap.size,9,none⟩=some (.slice ua la.length uc):=cells_at hGV rfl
 have k10:V.cell? ⟨w1.heap.size,10,none⟩=some (.slice (some ⟨w1.heap.size+1,0,none⟩) 0 0):=cells_at hGV rfl
 have k11:V.cell? ⟨w1.heap.size,11,none⟩=some (.int .i64 hd):=cells_at hGV rfl
 clear hGV
 go_wp2_with (refine wpList_store_row rfl 27 (.tmp 2) (.tmp 10) rfl w.heap.size (stC c now (.slice ua la.length uc) (.slice (some ⟨w1.heap.size+1,0,none⟩) 0 0) hd) (by simp [Act.eval]) (by simp [Act.eval,stC]) 27 _ HRV.out Tryz.infS rfl (by simp [stC,Value.oneCell']) ?_)
 have ow:∀j,j≠w1.heap.size→j≠w.heap.size→(V.setRow w.heap.size (stC c now (.slice ua la.length uc) (.slice (some ⟨w1.heap.size+1,0,none⟩) 0 0) hd)).heap[j]?=w3.heap[j]?:=fun j h1 h2=>(setRow_other _ _ j _ h2).trans (HOV.out j h1)
 refine ret_st Tryz.results44 rfl rfl HRV.out rfl ⟨_,w1.heap.size+1,rfl,?_,?_⟩
 ·have hr:=row_of HROW.out (fun k hk=>(ow k (by have:=(HRL.out k hk).2;omega) (by have:=(HRL.out k hk).1;omega)).trans (HC3.out.block k (by have:=(HRL.out k hk).2;omega)))
  exact Lr.own_base hr (by have:=HZW.out;omega)
 ·exact Chg.below (chg_row (K:=fun k=>k=w.heap.size) (Chg.refl _ V) (.inl rfl) _) HBV.out HBV.out.size (fun i hi=>by omega)
end
namespace Tr
theorem wf_new:Wf [rootAc] where
 root:=rfl
 len:=by decide
 row i a h hi:=by
  cases i with
  | zero=>omega
  | succ i=>simp at h
 uniq i j a b ha hb _:=by
  cases i with
  | zero=>
   cases j with
   | zero=>rfl
   | succ j=>simp at hb
  | succ i=>simp at ha
 deep i hi:=by
  cases i with
  | zero=>exact⟨0,by decide,rfl⟩
  | succ i=>simp at hi
end Tr
namespace Cg
theorem chk_rng {c:Cf} (h:chkZ c=0):Rng c:=by
 unfold chkZ at h
 by_cases hr:Rng c
 ·exact hr
 ·rw [if_pos hr]at h;omega
end Cg
theorem load_root:loadE [rootAc]=0:=by decide
set_option maxRecDepth 20000 in
set_option maxHeartbeats 1500000 in
theorem new_good {w:World} {c:Cf} (h:chkZ c=0) (hrt:Tab w):Calls Tryz.prog 23 #[cfV c] w fun e w'=>∃x:Nat,e=.returned (.tuple #[.pointer (some ⟨x,0,none⟩),.int .i64 0])∧(∃P,Ck w' x c 0 (-1) [rootAc] P∧P.n=0)∧Below w.heap.size w w':=by
 obtain⟨W,hW⟩:∃W,w.alloc (.cells #[.int .i64 c.nodes,.int .i64 c.queue,.int .i64 c.limit,.int .i64 c.age,.int .i64 c.fair,.int .i64 c.size,.int .i64 c.period,.int .i64 c.half] 23)=W:=⟨_,rfl⟩
 have bW:Below w.heap.size w W:=by rw [← hW];exact(Below.refl _ _).alloc (Nat.le_refl _) _
 have hG:W.heap[w.heap.size]?=some (.cells #[.int .i64 c.nodes,.int .i64 c.queue,.int .i64 c.limit,.int .i64 c.age,.int .i64 c.fair,.int .i64 c.size,.int .i64 c.period,.int .i64 c.half] 23 (0,0)):=by rw [← hW];exact heap_alloc_new w _
 have q0:W.cell? ⟨w.heap.size,0,none⟩=some (.int .i64 c.nodes):=cells_at hG rfl
 have q1:W.cell? ⟨w.heap.size,1,none⟩=some (.int .i64 c.queue):=cells_at hG rfl
 have q2:W.cell? ⟨w.heap.size,2,none⟩=some (.int .i64 c.limit):=cells_at hG rfl
 have q3:W.cell? ⟨w.heap.size,3,none⟩=some (.int .i64 c.age):=cells_at hG rfl
 have q4:W.cell? ⟨w.heap.size,4,none⟩=some (.int .i64 c.fair):=cells_at hG rfl
 have q5:W.cell? ⟨w.heap.size,5,none⟩=some (.int .i64 c.size):=cells_at hG rfl
 have q6:W.cell? ⟨w.heap.size,6,none⟩=some (.int .i64 c.period):=cells_at hG rfl
 have q7:W.cell? ⟨w.heap.size,7,none⟩=some (.int .i64 c.half):=cells_at hG rfl
 have hck:=pcheck_any c W
 rw [h]at hck
 have r:=chk_rng h
 have HST:Hid (∀ {V:World} {B:Nat} {u:Value},Below w.heap.size w V→V.ownsRow B 52 5 u [rootAc].length (flatA [rootAc])→∃ua uc,u=.slice ua 1 uc∧Calls Tryz.prog 41 #[.agg (stC c 0 (.slice ua 1 uc) (.slice none 0 0) (-1))] V fun e w'=>∃x:Nat,e=.returned (.pointer (some ⟨x,0,none⟩))∧(∃P,Ck w' x c 0 (-1) [rootAc] P∧P.n=0)∧Below V.heap.size V w'):=fun {V B u} b hr=>by
  obtain⟨ua,uc,rfl,hA,_⟩:=acs_row hr
  have hca: [rootAc].length≤uc:=by
   rcases hr.2 with⟨e,h0⟩ | ⟨g,cp,cur,e,hb,hg,h1,h2,h3,h4⟩
   ·rw [h0];exact Nat.zero_le _
   ·injection e with e1 e2 e3
    omega
  refine⟨ua,uc,rfl,?_⟩
  exact standing_any (la:= [rootAc]) hA load_root h (fun a ha=>by simp at ha;subst ha;exact(by decide:rootAc.nm.size≤maxLen)) (fun u hu=>by simp [usL]at hu;subst hu;exact⟨Int.le_refl _,by decide⟩) (by decide) hca (hrt.low b) r.n0 r.n1
 unfold cfV at *
 have HB:Hid _:=bW
 have HG:Hid _:=hG
 clear h bW hG hrt r
 go_enter Tryz.func23,Tryz.ntmps23
 go_upto_region 4 with(go_at_call 40;refine hck.mono ?_;rintro e w1 ⟨rfl,b1⟩)
 have HB1:Hid (Below w.heap.size w w1.drew):=(HB.out.trans (b1.mono HB.out.size)).trans ((drew_below' w1).mono (Nat.le_trans HB.out.size b1.size))
 have hzW:w.heap.size<W.heap.size:=by rw [← hW];simp
 have HG1:Hid (w1.drew.heap[w.heap.size]?=some (.cells #[.int .i64 c.nodes,.int .i64 c.queue,.int .i64 c.limit,.int .i64 c.age,.int .i64 c.fair,.int .i64 c.size,.int .i64 c.period,.int .i64 c.half] 23 (0,0))):=(b1.block _ hzW).trans HG.out
 have hz1:w.heap.size<w1.drew.heap.size:=Nat.lt_of_lt_of_le hzW b1.size
 clear b1 hck q0 q1 q2 q3 q4 q5 q6 q7
 refine wp_region_last (S:=(Below w1.drew.heap.size w1.drew)) (L:=99) (by kernel_rfl) ?_
 have HSW0:(Below w1.drew.heap.size w1.drew) (w1.drew):=Below.refl _ _
 have HF:Hid (∀xx:World,(Below w1.drew.heap.size w1.drew) xx→xx.cell? ⟨w.heap.size,0,none⟩=some (.int .i64 c.nodes)∧xx.cell? ⟨w.heap.size,1,none⟩=some (.int .i64 c.queue)∧xx.cell? ⟨w.heap.size,2,none⟩=some (.int .i64 c.limit)∧xx.cell? ⟨w.heap.size,3,none⟩=some (.int .i64 c.age)∧xx.cell? ⟨w.heap.size,4,none⟩=some (.int .i64 c.fair)∧xx.cell? ⟨w.heap.size,5,none⟩=some (.int .i64 c.size)∧xx.cell? ⟨w.heap.size,6,none⟩=some (.int .i64 c.period)∧xx.cell? ⟨w.heap.size,7,none⟩=some (.int .i64 c.half)∧True):=fun xx hSx=>⟨cells_at ((Below.block hSx _ hz1).trans HG1.out) rfl,cells_at ((Below.block hSx _ hz1).trans HG1.out) rfl,cells_at ((Below.block hSx _ hz1).trans HG1.out) rfl,cells_at ((Below.block hSx _ hz1).trans HG1.out) rfl,cells_at ((Below.block hSx _ hz1).trans HG1.out) rfl,cells_at ((Below.block hSx _ hz1).trans HG1.out) rfl,cells_at ((Below.block hSx _ hz1).trans HG1.out) rfl,cells_at ((Below.block hSx _ hz1).trans HG1.out) rfl,trivial⟩
 refine tk 0 HSW0 (h:=?_)
 refine last_one (i:=1) (by kernel_rfl) rfl ?_
 intro K hK
 go_simp
 go_at_call 42
 refine(tnew _).mono ?_
 rintro e w2 ⟨t2,rfl,hT2,b2⟩
 have HSw2:(Below w1.drew.heap.size w1.drew) w2:=b2
 go_simp
 refine hK.out _ _ (fun _=>HSw2) (fun _=>?_)
 clear hK K HSW0
 refine last_one (i:=2) (by kernel_rfl) rfl ?_
 intro K hK
 go_simp
 go_at_call 43
 refine(tlist hT2 wf_new).mono ?_
 rintro e w3 ⟨u3,rfl,hr3,b3⟩
 obtain⟨ua,uc,rfl,hst⟩:=HST.out (HB1.out.trans (Below.mono (Below.trans HSw2 (Below.mono b3 (Below.size HSw2))) HB1.out.size)) hr3
 unfold stC at hst
 have HSw3:(Below w1.drew.heap.size w1.drew) w3:=Below.trans HSw2 (Below.mono b3 (Below.size HSw2))
 go_simp
 refine hK.out _ _ (fun _=>HSw3) (fun _=>?_)
 clear hK K HSw2
 refine tk 3 HSw3 (h:=?_)
 refine last_one (i:=4) (by kernel_rfl) rfl ?_
 intro K hK
 go_simp
 go_at_call 41
 refine(hst).mono ?_
 rintro e w5 ⟨x,rfl,hcr,b5⟩
 have HSw5:(Below w1.drew.heap.size w1.drew) w5:=Below.trans HSw3 (Below.mono b5 (Below.size HSw3))
 go_simp
 refine hK.out _ _ (fun _=>HSw5) (fun _=>?_)
 clear hK K
 refine tk 5 HSw5 (h:=?_)
 refine tk 6 HSw5 (h:=?_)
 refine last_done (by kernel_rfl) ?_ _
 have B5:=HB1.out.trans (Below.mono HSw5 HB1.out.size)
 have hz5:=Below.size HSw3
 have HCR:Hid _:=hcr
 clear HSw5 hcr
 go_wp2
 go_ret2
 exact⟨x,rfl,HCR.out,B5⟩
end Go.Proofs.YtceoibfliggalaaGreatDoor
