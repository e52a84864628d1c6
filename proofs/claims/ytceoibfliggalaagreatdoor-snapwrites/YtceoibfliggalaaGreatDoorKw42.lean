/-
  TEXTS: SnT, SnU, SnV.
-/
import Derived.Test.YtceoibfliggalaaGreatDoorKw38
import Derived.Test.YtceoibfliggalaaGreatDoorKw41
namespace Go.Proofs.YtceoibfliggalaaGreatDoor
open Go.RowKit Wd Tr Cg Ld Lg
def GetP (w:World) (r:List UInt8) (e:Ending) (w':World):Prop:=∃c now hd gA gJ,∃qs:List Pj,(rd2 r).1= [c.nodes,c.queue,c.limit,c.age,c.fair,c.size,c.period,c.half,now,hd]∧qs.map Pj.v=(rd6 r).1∧(if rd7 r=none then e=.returned (.tuple #[.agg #[.int .i64 0,.int .i64 0,.int .i64 0,.int .i64 0,.int .i64 0,.int .i64 0,.int .i64 0,.int .i64 0,.int .i64 0,.slice none 0 0,.slice none 0 0,.int .i64 0],.int .i64 190])else if auditV (chkZ c) ⟨c,now,(rd4 r).1,qs.map Pj.v,hd⟩=0 then e=.returned (.tuple #[.agg (stC c now (.slice (some ⟨gA,0,none⟩) (rd4 r).1.length (rd4 r).1.length) (.slice (some ⟨gJ,0,none⟩) qs.length qs.length) hd),.int .i64 0])∧RdS w' w.heap.size gA gJ (rd4 r).1 qs else e=.returned (.tuple #[.agg #[.int .i64 0,.int .i64 0,.int .i64 0,.int .i64 0,.int .i64 0,.int .i64 0,.int .i64 0,.int .i64 0,.int .i64 0,.slice none 0 0,.slice none 0 0,.int .i64 0],.int .i64 191]))∧Below w.heap.size w w'
theorem RdS.below {W W':World} {lo gA gJ:Nat} {la:List Ac} {qs:List Pj} (h:RdS W lo gA gJ la qs) (b:∀k,lo≤k→k<W.heap.size→W'.heap[k]?=W.heap[k]?) {lo':Nat} (hl:lo'≤lo):RdS W' lo' gA gJ la qs:=by
 have ha:=(Array.getElem?_eq_some_iff.1 h.acs).1
 have hj:=(Array.getElem?_eq_some_iff.1 h.jobs).1
 refine⟨(b gA h.la_lo ha).trans h.acs,(b gJ h.lj_lo hj).trans h.jobs,fun q hq=>?_,Nat.le_trans hl h.la_lo,Nat.le_trans hl h.lj_lo⟩
 obtain⟨g,e1,e2,e3,e4⟩:=h.sets q hq
 exact⟨g,e1,e2,Nat.le_trans hl e3,(b g e3 (Array.getElem?_eq_some_iff.1 e4).1).trans e4⟩
set_option maxRecDepth 20000 in
set_option maxHeartbeats 2000000 in
theorem get_any {w:World} {ao:Option Addr} {r:List UInt8} {c0:Nat} (hb:∃g o,(0<r.length→ao=some ⟨g,o,none⟩)∧∀k b,r[k]?=some b→w.cell? ⟨g,o+k,none⟩=some (.int .u8 (b.toNat:Int))) (hc:r.length≤c0) (hn:ao=none→c0=0) (hl:r.length≤140737488355328):
  Calls Tryz.prog 17 #[.slice ao r.length c0] w (GetP w r):=by
 obtain⟨W0,hW0⟩:∃W0,w.alloc (.cells #[.int .i64 0,.int .i64 0,.int .i64 0,.int .i64 0,.int .i64 0,.int .i64 0,.int .i64 0,.int .i64 0,.int .i64 0,.slice none 0 0,.slice none 0 0,.int .i64 0] 27)=W0:=⟨_,rfl⟩
 have b0:Below w.heap.size w W0:=by rw [← hW0];exact(Below.refl _ _).alloc (Nat.le_refl _) _
 have z0:W0.heap.size=w.heap.size+1:=by rw [← hW0];simp
 have hg0:W0.heap[w.heap.size]?=some (.cells #[.int .i64 0,.int .i64 0,.int .i64 0,.int .i64 0,.int .i64 0,.int .i64 0,.int .i64 0,.int .i64 0,.int .i64 0,.slice none 0 0,.slice none 0 0,.int .i64 0] 27 (0,0)):=by rw [← hW0];exact heap_alloc_new w _
 have hrd:Calls Tryz.prog 33 #[.slice ao r.length c0] W0 (ReadP W0 r):=read_any (by obtain⟨g,o,p1,p2⟩:=hb;exact⟨g,o,p1,fun k b hk=>cellB b0 (p2 k b hk)⟩) hc hn (by omega)
 have HL:Hid _:=hl
 have HB0:Hid _:=b0
 have HG0:Hid _:=hg0
 obtain⟨q,hq⟩:∃q,r.length=q:=⟨_,rfl⟩
 rw [hq]at hrd ⊢
 have HQ:Hid _:=hq
 clear hb hc hn hl b0 hg0 hq
 go_enter Tryz.func17,Tryz.ntmps17
 go_upto_region 2 with(go_at_call 33;refine(show Calls _ _ _ _ _ from hrd).mono ?_;rintro e w1 ⟨c,now,hd,gA,gJ,b,qs,rfl,hH,hQ,hB,hS,hb1⟩;have HS:Hid _:=hS;have HB1:Hid _:=hb1;have HH:Hid _:=hH;have HQS:Hid _:=hQ;have HB:Hid _:=hB;obtain⟨nA,hnA⟩:∃n,(rd4 r).1.length=n:=⟨_,rfl⟩;obtain⟨nJ,hnJ⟩:∃n,qs.length=n:=⟨_,rfl⟩;rw [hnA,hnJ];have HNA:Hid _:=hnA;have HNJ:Hid _:=hnJ;clear hS hb1 hH hQ hB hnA hnJ;unfold stC)
 obtain⟨W2,hW2⟩:∃W2,w1.alloc (.cells #[.int .i64 c.nodes,.int .i64 c.queue,.int .i64 c.limit,.int .i64 c.age,.int .i64 c.fair,.int .i64 c.size,.int .i64 c.period,.int .i64 c.half,.int .i64 now,.slice (some ⟨gA,0,none⟩) nA nA,.slice (some ⟨gJ,0,none⟩) nJ nJ,.int .i64 hd] 27)=W2:=⟨_,rfl⟩
 have b2:Below w1.heap.size w1 W2:=by rw [← hW2];exact(Below.refl _ _).alloc (Nat.le_refl _) _
 have z2:W2.heap.size=w1.heap.size+1:=by rw [← hW2];simp
 have hg2:W2.heap[w1.heap.size]?=some (.cells #[.int .i64 c.nodes,.int .i64 c.queue,.int .i64 c.limit,.int .i64 c.age,.int .i64 c.fair,.int .i64 c.size,.int .i64 c.period,.int .i64 c.half,.int .i64 now,.slice (some ⟨gA,0,none⟩) nA nA,.slice (some ⟨gJ,0,none⟩) nJ nJ,.int .i64 hd] 27 (0,0)):=by rw [← hW2];exact heap_alloc_new w1 _
 have zw1:W0.heap.size≤w1.heap.size:=HB1.out.size
 have HR2:Hid (W2.heap[w.heap.size]?=some (.cells #[.int .i64 0,.int .i64 0,.int .i64 0,.int .i64 0,.int .i64 0,.int .i64 0,.int .i64 0,.int .i64 0,.int .i64 0,.slice none 0 0,.slice none 0 0,.int .i64 0] 27 (0,0))):=(b2.block _ (by omega)).trans ((HB1.out.block _ (by omega)).trans HG0.out)
 have HBB:Hid (Below w.heap.size w W2):=(HB0.out.trans (HB1.out.mono (by omega))).trans (b2.mono (by omega))
 have hS2:RdS W2 W0.heap.size gA gJ (rd4 r).1 qs:=RdS.below HS.out (fun k _ hk=>b2.block k hk) (Nat.le_refl _)
 have HS2:Hid _:=hS2
 have HG2:Hid _:=hg2
 rw [hW2]
 clear hW2 b2 hg2 hS2 HS HB1 HB0 HG0 hrd
 cases b with
 | false=>
  have hr7:rd7 r=none:=Classical.byContradiction fun e=>by simpa using HB.out.2 e
  have HR7:Hid _:=hr7
  clear hr7
  go_wp2_with (refine wpList_store_row rfl 27 (.tmp 2) (.tmp 13) rfl w.heap.size #[.int .i64 0,.int .i64 0,.int .i64 0,.int .i64 0,.int .i64 0,.int .i64 0,.int .i64 0,.int .i64 0,.int .i64 0,.slice none 0 0,.slice none 0 0,.int .i64 0] (by simp [Act.eval]) (by simp [Act.eval]) 27 _ HR2.out Tryz.infS rfl (by simp [Value.oneCell']) ?_)
  refine ret_st2 Tryz.results17 rfl rfl rfl HR2.out rfl ⟨c,now,hd,gA,gJ,qs,HH.out,HQS.out,?_,?_⟩
  ·rw [if_pos HR7.out];rfl
  ·exact Chg.below (chg_row (K:=fun k=>k=w.heap.size) (Chg.refl _ W2) (.inl rfl) _) HBB.out HBB.out.size (fun i hi=>by have:i=w.heap.size:=hi;omega)
 | true=>
  have hr7:rd7 r≠none:=HB.out.1 rfl
  have hbk:=read_back hr7 HH.out
  rw [← HQS.out]at hbk
  obtain⟨hin,hwt⟩:=st_read (c:=c) (now:=now) (hd:=hd) HS2.out (by rw [hbk];exact HL.out) (show ∀a∈(rd4 r).1,Word a.us from acs_us _ _)
  have hck:=check_any W2 c now (some ⟨gA,0,none⟩) (rd4 r).1 (rd4 r).1.length (some ⟨gJ,0,none⟩) qs qs.length hd hin hwt
  unfold stL at hck
  rw [HNA.out,HNJ.out]at hck
  obtain⟨v,hv⟩:∃v,auditV (chkZ c) ⟨c,now,(rd4 r).1,qs.map Pj.v,hd⟩=v:=⟨_,rfl⟩
  rw [hv]at hck
  have HV:Hid _:=hv
  have HR7:Hid _:=hr7
  have HCK:Hid _:=hck
  have p0:W2.cell? ⟨w1.heap.size,0,none⟩=some (.int .i64 c.nodes):=cells_at HG2.out rfl
  have p1:W2.cell? ⟨w1.heap.size,1,none⟩=some (.int .i64 c.queue):=cells_at HG2.out rfl
  have p2:W2.cell? ⟨w1.heap.size,2,none⟩=some (.int .i64 c.limit):=cells_at HG2.out rfl
  have p3:W2.cell? ⟨w1.heap.size,3,none⟩=some (.int .i64 c.age):=cells_at HG2.out rfl
  have p4:W2.cell? ⟨w1.heap.size,4,none⟩=some (.int .i64 c.fair):=cells_at HG2.out rfl
  have p5:W2.cell? ⟨w1.heap.size,5,none⟩=some (.int .i64 c.size):=cells_at HG2.out rfl
  have p6:W2.cell? ⟨w1.heap.size,6,none⟩=some (.int .i64 c.period):=cells_at HG2.out rfl
  have p7:W2.cell? ⟨w1.heap.size,7,none⟩=some (.int .i64 c.half):=cells_at HG2.out rfl
  have p8:W2.cell? ⟨w1.heap.size,8,none⟩=some (.int .i64 now):=cells_at HG2.out rfl
  have p9:W2.cell? ⟨w1.heap.size,9,none⟩=some (.slice (some ⟨gA,0,none⟩) nA nA):=cells_at HG2.out rfl
  have p10:W2.cell? ⟨w1.heap.size,10,none⟩=some (.slice (some ⟨gJ,0,none⟩) nJ nJ):=cells_at HG2.out rfl
  have p11:W2.cell? ⟨w1.heap.size,11,none⟩=some (.int .i64 hd):=cells_at HG2.out rfl
  clear hr7 hbk hin hwt hck hv
  by_cases v0:v=0
  ·subst v0
   go_wp2_with (first
    | (go_at_call 27;refine(show Calls _ _ _ _ _ from HCK.out).mono ?_;rintro e w3 ⟨rfl,hb3⟩;have HB3:Hid _:=hb3;have q0:w3.cell? ⟨w1.heap.size,0,none⟩=some (.int .i64 c.nodes):=cells_at ((hb3.block _ (by omega)).trans HG2.out) rfl;have q1:w3.cell? ⟨w1.heap.size,1,none⟩=some (.int .i64 c.queue):=cells_at ((hb3.block _ (by omega)).trans HG2.out) rfl;have q2:w3.cell? ⟨w1.heap.size,2,none⟩=some (.int .i64 c.limit):=cells_at ((hb3.block _ (by omega)).trans HG2.out) rfl;have q3:w3.cell? ⟨w1.heap.size,3,none⟩=some (.int .i64 c.age):=cells_at ((hb3.block _ (by omega)).trans HG2.out) rfl;have q4:w3.cell? ⟨w1.heap.size,4,none⟩=some (.int .i64 c.fair):=cells_at ((hb3.block _ (by omega)).trans HG2.out) rfl;have q5:w3.cell? ⟨w1.heap.size,5,none⟩=some (.int .i64 c.size):=cells_at ((hb3.block _ (by omega)).trans HG2.out) rfl;have q6:w3.cell? ⟨w1.heap.size,6,none⟩=some (.int .i64 c.period):=cells_at ((hb3.block _ (by omega)).trans HG2.out) rfl;have q7:w3.cell? ⟨w1.heap.size,7,none⟩=some (.int .i64 c.half):=cells_at ((hb3.block _ (by omega)).trans HG2.out) rfl;have q8:w3.cell? ⟨w1.heap.size,8,none⟩=some (.int .i64 now):=cells_at ((hb3.block _ (by omega)).trans HG2.out) rfl;have q9:w3.cell? ⟨w1.heap.size,9,none⟩=some (.slice (some ⟨gA,0,none⟩) nA nA):=cells_at ((hb3.block _ (by omega)).trans HG2.out) rfl;have q10:w3.cell? ⟨w1.heap.size,10,none⟩=some (.slice (some ⟨gJ,0,none⟩) nJ nJ):=cells_at ((hb3.block _ (by omega)).trans HG2.out) rfl;have q11:w3.cell? ⟨w1.heap.size,11,none⟩=some (.int .i64 hd):=cells_at ((hb3.block _ (by omega)).trans HG2.out) rfl;have HR3:Hid _:=(hb3.block _ (by omega)).trans HR2.out;clear hb3)
    | (refine wpList_store_row rfl 27 (.tmp 2) (.tmp 18) rfl w.heap.size #[.int .i64 c.nodes,.int .i64 c.queue,.int .i64 c.limit,.int .i64 c.age,.int .i64 c.fair,.int .i64 c.size,.int .i64 c.period,.int .i64 c.half,.int .i64 now,.slice (some ⟨gA,0,none⟩) nA nA,.slice (some ⟨gJ,0,none⟩) nJ nJ,.int .i64 hd] (by simp [Act.eval]) (by simp [Act.eval]) 27 _ HR3.out Tryz.infS rfl (by simp [Value.oneCell']) ?_))
   refine ret_st2 Tryz.results17 rfl rfl rfl HR3.out rfl ⟨c,now,hd,gA,gJ,qs,HH.out,HQS.out,?_,?_⟩
   ·rw [if_neg HR7.out,if_pos HV.out]
    refine⟨by rw [HNA.out,HNJ.out];rfl,RdS.below HS2.out (fun k h1 h2=>(setRow_other _ _ _ _ (by omega)).trans (HB3.out.block k h2)) (by omega)⟩
   ·exact Chg.below (chg_row (K:=fun k=>k=w.heap.size) (Chg.refl _ w3) (.inl rfl) _) (HBB.out.trans (HB3.out.mono HBB.out.size)) (HBB.out.trans (HB3.out.mono HBB.out.size)).size (fun i hi=>by have:i=w.heap.size:=hi;omega)
  ·go_wp2_with (first
    | (go_at_call 27;refine(show Calls _ _ _ _ _ from HCK.out).mono ?_;rintro e w3 ⟨rfl,hb3⟩;have HB3:Hid _:=hb3;have HR3:Hid _:=(hb3.block _ (by omega)).trans HR2.out;clear hb3)
    | (refine wpList_store_row rfl 27 (.tmp 2) (.tmp 17) rfl w.heap.size #[.int .i64 0,.int .i64 0,.int .i64 0,.int .i64 0,.int .i64 0,.int .i64 0,.int .i64 0,.int .i64 0,.int .i64 0,.slice none 0 0,.slice none 0 0,.int .i64 0] (by simp [Act.eval]) (by simp [Act.eval]) 27 _ HR3.out Tryz.infS rfl (by simp [Value.oneCell']) ?_))
   refine ret_st2 Tryz.results17 rfl rfl rfl HR3.out rfl ⟨c,now,hd,gA,gJ,qs,HH.out,HQS.out,?_,?_⟩
   ·rw [if_neg HR7.out,if_neg (by rw [HV.out];exact v0)];rfl
   ·exact Chg.below (chg_row (K:=fun k=>k=w.heap.size) (Chg.refl _ w3) (.inl rfl) _) (HBB.out.trans (HB3.out.mono HBB.out.size)) (HBB.out.trans (HB3.out.mono HBB.out.size)).size (fun i hi=>by have:i=w.heap.size:=hi;omega)
end Go.Proofs.YtceoibfliggalaaGreatDoor
namespace Go.Proofs.YtceoibfliggalaaGreatDoor
open Go.RowKit Wd Tr Cg Ld Lg
set_option maxRecDepth 20000 in
set_option maxHeartbeats 2000000 in
theorem load_none {w:World} {c:Cf} {ao:Option Addr} {la:List Ac} {ca:Nat} {jo:Option Addr} {cj:Nat} (h:StIn w ao la ca jo [] cj) (hwt:wtN la []≤281474976710656) (hok:auditV (chkZ c) ⟨c,0,la,[], -1⟩=0) (hld:loadE la=0) (hck:chkZ c=0) (hus:Lr.Lg.Wds (usL la)) (hl:la.length≤64) (hrt:Tab w) (hn1:1≤c.nodes) (hn2:c.nodes≤256):
  Calls Tryz.prog 45 #[.agg #[.int .i64 c.nodes,.int .i64 c.queue,.int .i64 c.limit,.int .i64 c.age,.int .i64 c.fair,.int .i64 c.size,.int .i64 c.period,.int .i64 c.half,.int .i64 0,.slice ao la.length ca,.slice jo 0 cj,.int .i64 (-1)]] w fun e w'=>(∃x:Nat,e=.returned (.tuple #[.pointer (some ⟨x,0,none⟩),.int .i64 0]))∧Below w.heap.size w w':=by
 obtain⟨W,hW⟩:∃W,w.alloc (.cells #[.int .i64 c.nodes,.int .i64 c.queue,.int .i64 c.limit,.int .i64 c.age,.int .i64 c.fair,.int .i64 c.size,.int .i64 c.period,.int .i64 c.half,.int .i64 0,.slice ao la.length ca,.slice jo 0 cj,.int .i64 (-1)] 27)=W:=⟨_,rfl⟩
 have bW:Below w.heap.size w W:=by rw [← hW];exact(Below.refl _ _).alloc (Nat.le_refl _) _
 have zW:W.heap.size=w.heap.size+1:=by rw [← hW];simp
 have hg:W.heap[w.heap.size]?=some (.cells #[.int .i64 c.nodes,.int .i64 c.queue,.int .i64 c.limit,.int .i64 c.age,.int .i64 c.fair,.int .i64 c.size,.int .i64 c.period,.int .i64 c.half,.int .i64 0,.slice ao la.length ca,.slice jo 0 cj,.int .i64 (-1)] 27 (0,0)):=by rw [← hW];exact heap_alloc_new w _
 have hk:=check_any W c 0 ao la ca jo [] cj (-1) (h.below bW) hwt
 rw [show List.map Pj.v []= []from rfl,hok]at hk
 unfold stL at hk
 have HSD:Hid (∀x,Below W.heap.size W x→Calls Tryz.prog 41 #[.agg #[.int .i64 c.nodes,.int .i64 c.queue,.int .i64 c.limit,.int .i64 c.age,.int .i64 c.fair,.int .i64 c.size,.int .i64 c.period,.int .i64 c.half,.int .i64 0,.slice ao la.length ca,.slice jo 0 cj,.int .i64 (-1)]] x fun e w'=>∃x:Nat,e=.returned (.pointer (some ⟨x,0,none⟩))∧Below W.heap.size W w'):=fun x hx=>(standing_any (jo:=jo) (cj:=cj) (((h.below bW).below hx).acs) hld hck h.nm hus hl h.cap ((hrt.below bW).below hx) hn1 hn2).mono (fun e w' k=>by obtain⟨y,e1,_,e3⟩:=k;exact⟨y,e1,hx.trans (e3.mono hx.size)⟩)
 have HCK:Hid _:=hk
 have HG:Hid _:=hg
 have HBW:Hid _:=bW
 have p0:W.cell? ⟨w.heap.size,0,none⟩=some (.int .i64 c.nodes):=cells_at hg rfl
 have p1:W.cell? ⟨w.heap.size,1,none⟩=some (.int .i64 c.queue):=cells_at hg rfl
 have p2:W.cell? ⟨w.heap.size,2,none⟩=some (.int .i64 c.limit):=cells_at hg rfl
 have p3:W.cell? ⟨w.heap.size,3,none⟩=some (.int .i64 c.age):=cells_at hg rfl
 have p4:W.cell? ⟨w.heap.size,4,none⟩=some (.int .i64 c.fair):=cells_at hg rfl
 have p5:W.cell? ⟨w.heap.size,5,none⟩=some (.int .i64 c.size):=cells_at hg rfl
 have p6:W.cell? ⟨w.heap.size,6,none⟩=some (.int .i64 c.period):=cells_at hg rfl
 have p7:W.cell? ⟨w.heap.size,7,none⟩=some (.int .i64 c.half):=cells_at hg rfl
 have p8:W.cell? ⟨w.heap.size,8,none⟩=some (.int .i64 0):=cells_at hg rfl
 have p9:W.cell? ⟨w.heap.size,9,none⟩=some (.slice ao la.length ca):=cells_at hg rfl
 have p10:W.cell? ⟨w.heap.size,10,none⟩=some (.slice jo 0 cj):=cells_at hg rfl
 have p11:W.cell? ⟨w.heap.size,11,none⟩=some (.int .i64 (-1)):=cells_at hg rfl
 clear h hwt hok hld hck hus hl hrt hn1 hn2 bW hg hk
 go_enter Tryz.func45,Tryz.ntmps45
 go_wp2_with (first
  | (go_at_call 27;refine(show Calls _ _ _ _ _ from HCK.out).mono ?_;rintro e w1 ⟨rfl,hb1⟩;have HB1:Hid _:=hb1;have q0:w1.cell? ⟨w.heap.size,0,none⟩=some (.int .i64 c.nodes):=cells_at ((hb1.block _ (by omega)).trans HG.out) rfl;have q1:w1.cell? ⟨w.heap.size,1,none⟩=some (.int .i64 c.queue):=cells_at ((hb1.block _ (by omega)).trans HG.out) rfl;have q2:w1.cell? ⟨w.heap.size,2,none⟩=some (.int .i64 c.limit):=cells_at ((hb1.block _ (by omega)).trans HG.out) rfl;have q3:w1.cell? ⟨w.heap.size,3,none⟩=some (.int .i64 c.age):=cells_at ((hb1.block _ (by omega)).trans HG.out) rfl;have q4:w1.cell? ⟨w.heap.size,4,none⟩=some (.int .i64 c.fair):=cells_at ((hb1.block _ (by omega)).trans HG.out) rfl;have q5:w1.cell? ⟨w.heap.size,5,none⟩=some (.int .i64 c.size):=cells_at ((hb1.block _ (by omega)).trans HG.out) rfl;have q6:w1.cell? ⟨w.heap.size,6,none⟩=some (.int .i64 c.period):=cells_at ((hb1.block _ (by omega)).trans HG.out) rfl;have q7:w1.cell? ⟨w.heap.size,7,none⟩=some (.int .i64 c.half):=cells_at ((hb1.block _ (by omega)).trans HG.out) rfl;have q8:w1.cell? ⟨w.heap.size,8,none⟩=some (.int .i64 0):=cells_at ((hb1.block _ (by omega)).trans HG.out) rfl;have q9:w1.cell? ⟨w.heap.size,9,none⟩=some (.slice ao la.length ca):=cells_at ((hb1.block _ (by omega)).trans HG.out) rfl;have q10:w1.cell? ⟨w.heap.size,10,none⟩=some (.slice jo 0 cj):=cells_at ((hb1.block _ (by omega)).trans HG.out) rfl;have q11:w1.cell? ⟨w.heap.size,11,none⟩=some (.int .i64 (-1)):=cells_at ((hb1.block _ (by omega)).trans HG.out) rfl;clear hb1)
  | (go_at_call 41;refine(show Calls _ _ _ _ _ from HSD.out _ HB1.out).mono ?_;rintro e w2 ⟨y,rfl,hb2⟩))
 go_ret2
 exact⟨⟨y,rfl⟩,HBW.out.trans (hb2.mono (by omega))⟩
end Go.Proofs.YtceoibfliggalaaGreatDoor
namespace Go.Proofs.YtceoibfliggalaaGreatDoor
open Go.RowKit Wd Tr Cg Ld Lg
theorem acs_own {W:World} {B:Nat} {ao:Option Addr} {l:List Ac} {cap:Nat} (h:W.ownsRow B 52 5 (.slice ao l.length cap) l.length (flatA l)):AcsAt W ao l:=by
 obtain⟨ao',cap',e,_,h0,h1⟩:=own_val h
 cases e
 cases ao with
 | none=>exact⟨0,0,fun hp=>by have:=(h0 rfl).1;omega,fun k n hn=>by have:=(List.getElem?_eq_some_iff.1 hn).1;have:=(h0 rfl).1;omega⟩
 | some a=>
  obtain⟨g,rfl,_,_⟩:=h1 a rfl
  refine⟨g,0,fun _=>rfl,fun k a ha=>?_⟩
  obtain⟨e0,e1,e2,e3,e4⟩:=flatA_at l k a ha
  have hc:=fun j u (hu:(flatA l)[j]?=some u)=>(show W.cell? ⟨g,0+j,none⟩=some u by have:=h.cells (g:=g) rfl j u hu;rwa [Addr.add_lit]at this)
  exact⟨hc _ _ e0,hc _ _ e1,hc _ _ e2,hc _ _ e3,hc _ _ e4⟩
set_option maxRecDepth 20000 in
set_option maxHeartbeats 2000000 in
theorem save_none {w:World} {x:Nat} {c:Cf} {now hd:Int} {la:List Ac} {P:Pt} (h:Ck w x c now hd la P) (hn:P.n=0) (hw:Wf (la.map plainAc)) (hl0:la≠ []) (hmany:la.length≤1000000) (hu:∀a∈la,Word a.us) (hnm:∀a∈la,a.nm.size≤maxLen) (hok:auditV (chkZ c) ⟨c,now,la,[],hd⟩=0) (hz:(stB ⟨c,now,la,[],hd⟩).length≤2200000000):
  Calls Tryz.prog 25 #[.pointer (some ⟨x,0,none⟩)] w fun e w'=>(∃B,e=.returned (.slice (some ⟨B,0,none⟩) (stB ⟨c,now,la,[],hd⟩).length (stB ⟨c,now,la,[],hd⟩).length)∧w.heap.size≤B∧w'.heap[B]?=some (.cells (Lib.byteCells (stB ⟨c,now,la,[],hd⟩)).toArray 5 (0,0)))∧Below w.heap.size w w':=by
 have hst:=state_none h hn hw hl0 hmany
 have HPUT:Hid (∀x,∀(ao:Option Addr) (ca g:Nat),x.ownsRow w.heap.size 52 5 (.slice ao la.length ca) la.length (flatA la)→Calls Tryz.prog 11 #[.agg (stC c now (.slice ao la.length ca) (.slice (some ⟨g,0,none⟩) 0 0) hd)] x fun e w'=>(∃B,e=.returned (.tuple #[.slice (some ⟨B,0,none⟩) (stB ⟨c,now,la,[],hd⟩).length (stB ⟨c,now,la,[],hd⟩).length,.int .i64 0])∧x.heap.size≤B∧w'.heap[B]?=some (.cells (Lib.byteCells (stB ⟨c,now,la,[],hd⟩)).toArray 5 (0,0)))∧Below x.heap.size x w'):=fun x ao ca g hrow=>by
  obtain⟨ao',cap',e,hcap,h0,_⟩:=own_val hrow
  cases e
  refine(put_any (ps:= []) (cj:=0) (jo:=some ⟨g,0,none⟩) c now hd ⟨acs_own hrow,fun n a ha=>hu a (List.mem_of_getElem? ha),hnm,by omega,hcap,fun e=>⟨List.length_eq_zero_iff.1 (h0 e).1,(h0 e).2⟩,⟨⟨0,0,fun hp=>by simp at hp,fun k j hj=>by simp at hj⟩,fun p hp=>absurd hp List.not_mem_nil⟩,by simp,Nat.le_refl _,nofun,fun p hp=>absurd hp List.not_mem_nil,fun p hp=>absurd hp List.not_mem_nil,fun p hp=>absurd hp List.not_mem_nil⟩ (by unfold wtN;show la.length+0+0≤_;omega) hz).mono fun e w' k=>?_
  unfold PutP at k
  exact⟨by have k1:=k.1;rwa [if_pos (show auditV (chkZ c) ⟨c,now,la,List.map Pj.v [],hd⟩=0 from hok)]at k1,k.2⟩
 clear h hn hw hl0 hmany hu hnm hok hz
 go_enter Tryz.func25,Tryz.ntmps25
 go_wp2_with (first
  | (go_at_call 44;refine(show Calls _ _ _ _ _ from hst).mono ?_;rintro e w1 ⟨u,g,rfl,hrow,hb1⟩;obtain⟨ao,ca,rfl,_,_,_⟩:=own_val hrow;have hput:=HPUT.out w1 ao ca g hrow;have HB1:Hid _:=hb1;have HPT:Hid _:=hput;clear hb1 hrow hput)
  | (go_at_call 11;refine(show Calls _ _ _ _ _ from HPT.out).mono ?_;rintro e w2 ⟨⟨B,rfl,hB,hG⟩,hb2⟩))
 go_ret
 have:=HB1.out.size
 exact⟨⟨B,rfl,by omega,hG⟩,HB1.out.trans (hb2.mono (by omega))⟩
end Go.Proofs.YtceoibfliggalaaGreatDoor
