/-
  TEXTS: SnS, SnT.
-/
import Derived.Test.YtceoibfliggalaaGreatDoorKr32
import Derived.Test.YtceoibfliggalaaGreatDoorKr39
namespace Go.Proofs.YtceoibfliggalaaGreatDoor
open Go.RowKit Wd Tr Cg Ld Lg
theorem acs_many:∀la:List Ac,la.length*40≤(la.flatMap acB).length
 | []=>Nat.le_refl _
 | a::la=>by
  have:=acs_many la
  rw [List.flatMap_cons,List.length_append,ac_len,List.length_cons]
  omega
theorem acs_nm:∀ {la:List Ac} {a:Ac},a∈la→a.nm.size≤(la.flatMap acB).length
 | b::la,a,h=>by
  rw [List.flatMap_cons,List.length_append,ac_len]
  rcases List.mem_cons.1 h with rfl | h
  ·omega
  ·have:=acs_nm h
   omega
theorem jbs_many:∀qs:List Pj,qs.length*64+setsN qs*8≤((qs.map Pj.v).flatMap jbB).length
 | []=>Nat.le_refl _
 | q::qs=>by
  have:=jbs_many qs
  rw [List.map_cons,List.flatMap_cons,List.length_append,jb_len,List.length_cons]
  show (qs.length+1)*64+(q.v.set.length+setsN qs)*8≤_
  omega
theorem acs_us:∀(k:Nat) (s:RS),∀a∈(acsF k s).1,Word a.us
 | 0,_,_,h=>absurd h List.not_mem_nil
 | k+1,s,a,h=>by
  rcases List.mem_cons.1 (show a∈(acF s).1::(acsF k (acF s).2).1 from h)with rfl | h
  ·show Word ((numsF 4 (acS s).2).1.getD 3 0 % 18446744073709551616)
   unfold Word
   omega
  ·exact acs_us k _ a h
theorem acs_at {W:World} {g:Nat} {la:List Ac} (h:W.heap[g]?=some (.cells (flatA la).toArray 52 (0,0))):AcsAt W (some ⟨g,0,none⟩) la:=by
 refine⟨g,0,fun _=>rfl,fun k a ha=>?_⟩
 obtain⟨e0,e1,e2,e3,e4⟩:=flatA_at la k a ha
 have hc:=fun j u (hu:(flatA la)[j]?=some u)=>(show W.cell? ⟨g,0+j,none⟩=some u by rw [Nat.zero_add];exact cells_at h (by simpa using hu))
 exact⟨hc _ _ e0,hc _ _ e1,hc _ _ e2,hc _ _ e3,hc _ _ e4⟩
theorem jbs_at {W:World} {g:Nat} {qs:List Pj} (h:W.heap[g]?=some (.cells (flatJ qs).toArray 55 (0,0))) (hl:qs.length≤140737488355328):JobsAt W (some ⟨g,0,none⟩) (qs.map Pj.jb):=
 jobs_own (B:=0) (cap:=qs.length) ⟨flatJ_len qs,.inr ⟨g,qs.length,_,rfl,Nat.zero_le _,h,Nat.le_refl _,by unfold maxLen;omega,by simp [flatJ_len],by rw [← flatJ_len];simp⟩⟩
theorem ints_at {W:World} {g:Nat} {l:List Int} (h:W.heap[g]?=some (.cells (l.map (Value.int .i64)).toArray 3 (0,0))):IntsAt W (some ⟨g,0,none⟩) l:=by
 refine⟨g,0,fun _=>rfl,fun k n hn=>?_⟩
 rw [Nat.zero_add]
 exact cells_at h (by simp [hn])
theorem st_parts (s:Sv):(stB s).length=105+(s.la.flatMap acB).length+(s.js.flatMap jbB).length:=by
 rw [st_len]
 unfold szA szJ
 rw [List.take_length,List.take_length]
theorem st_read {W:World} {lo gA gJ:Nat} {c:Cf} {now hd:Int} {la:List Ac} {qs:List Pj} (h:RdS W lo gA gJ la qs) (hl:(stB ⟨c,now,la,qs.map Pj.v,hd⟩).length≤140737488355328) (hu:∀a∈la,Word a.us):
  StIn W (some ⟨gA,0,none⟩) la la.length (some ⟨gJ,0,none⟩) qs qs.length∧wtN la qs≤281474976710656:=by
 rw [st_parts]at hl
 simp only at hl
 have h1:=acs_many la
 have h2:=jbs_many qs
 have hs:∀p∈qs,p.v.set.length≤setsN qs:=fun p hp=>sets_mem hp
 refine⟨⟨acs_at h.acs,fun n a ha=>hu a (List.mem_of_getElem? ha),fun a ha=>?_,by omega,Nat.le_refl _,nofun,⟨jbs_at h.jobs (by omega),fun p hp=>?_⟩,by omega,Nat.le_refl _,nofun,fun p hp=>?_,fun p hp=>?_,fun p hp e=>?_⟩,?_⟩
 ·have:=acs_nm ha
  unfold maxLen
  omega
 ·obtain ⟨g,e1,e2,_,e4⟩:=h.sets p hp
  rw [e1]
  exact ints_at e4
 ·have:=hs p hp
  omega
 ·obtain ⟨g,e1,e2,_,e4⟩:=h.sets p hp
  omega
 ·obtain ⟨g,e1,e2,_,e4⟩:=h.sets p hp
  rw [e1]at e
  cases e
 ·unfold wtN
  omega
end Go.Proofs.YtceoibfliggalaaGreatDoor
namespace Go.Proofs.YtceoibfliggalaaGreatDoor
open Go.RowKit Wd Tr Cg Ld Lg
def GetP (w:World) (r:List UInt8) (e:Ending) (w':World):Prop:=∃c now hd gA gJ,∃qs:List Pj,(rd2 r).1= [c.nodes,c.queue,c.limit,c.age,c.fair,c.size,c.period,c.half,now,hd]∧qs.map Pj.v=(rd6 r).1∧(if rd7 r=none then e=.returned (.tuple #[.agg #[.int .i64 0,.int .i64 0,.int .i64 0,.int .i64 0,.int .i64 0,.int .i64 0,.int .i64 0,.int .i64 0,.int .i64 0,.slice none 0 0,.slice none 0 0,.int .i64 0],.int .i64 190])else if auditV (chkZ c) ⟨c,now,(rd4 r).1,qs.map Pj.v,hd⟩=0 then e=.returned (.tuple #[.agg (stC c now (.slice (some ⟨gA,0,none⟩) (rd4 r).1.length (rd4 r).1.length) (.slice (some ⟨gJ,0,none⟩) qs.length qs.length) hd),.int .i64 0])∧RdS w' w.heap.size gA gJ (rd4 r).1 qs else e=.returned (.tuple #[.agg #[.int .i64 0,.int .i64 0,.int .i64 0,.int .i64 0,.int .i64 0,.int .i64 0,.int .i64 0,.int .i64 0,.int .i64 0,.slice none 0 0,.slice none 0 0,.int .i64 0],.int .i64 191]))∧Below w.heap.size w w'
theorem RdS.below {W W':World} {lo gA gJ:Nat} {la:List Ac} {qs:List Pj} (h:RdS W lo gA gJ la qs) (b:∀k,lo≤k→k<W.heap.size→W'.heap[k]?=W.heap[k]?) {lo':Nat} (hl:lo'≤lo):RdS W' lo' gA gJ la qs:=by
 have ha:=(Array.getElem?_eq_some_iff.1 h.acs).1
 have hj:=(Array.getElem?_eq_some_iff.1 h.jobs).1
 refine⟨(b gA h.la_lo ha).trans h.acs,(b gJ h.lj_lo hj).trans h.jobs,fun q hq=>?_,Nat.le_trans hl h.la_lo,Nat.le_trans hl h.lj_lo,h.nx⟩
 obtain⟨g,e1,e2,e3,e4⟩:=h.sets q hq
 exact⟨g,e1,e2,Nat.le_trans hl e3,(b g e3 (Array.getElem?_eq_some_iff.1 e4).1).trans e4⟩
set_option maxRecDepth 20000 in
set_option maxHeartbeats 2000000 in
theorem get_any {w:World} {ao:Option Addr} {r:List UInt8} {c0:Nat} (hb:∃g o,(0<r.length→ao=some ⟨g,o,none⟩)∧∀k b,r[k]?=some b→w.cell? ⟨g,o+k,none⟩=some (.int .u8 (b.toNat:Int))) (hc:r.length≤c0) (hn:ao=none→c0=0) (hl:r.length≤140737488355328):
  Calls Tryz.prog 17 #[.slice ao r.length c0] w (GetP w r):=by
 obtain⟨W0,hW0⟩:∃W0,w.alloc (.cells #[.int .i64 0,.int .i64 0,.int .i64 0,.int .i64 0,.int .i64 0,.int .i64 0,.int .i64 0,.int .i64 0,.int .i64 0,.slice none 0 0,.slice none 0 0,.int .i64 0] 27)=W0:=⟨_,rfl⟩
 have b0:Below w.heap.size w W0:=by rw [← hW0];exact(Below.refl _ _).alloc (Nat.le_refl _) _
 have z0:W0.heap.size=w.heap.size+1:=by rw [← hW0];simp
 have hg0:W0.heap[w.heap.size]?=some (.cells #[.int .i64 0,.int .i64 0,.int .i64 0,.int .i64 0,.int .i64 0,.int .i64 0,.int .i64 0,.int .i64 0,.int .i64 0,.slice none 0 0,.slice none 0 0,.int .i64 0] 27 (0,0)):=by rw [← hW0];exact heap_alloc_new w _
 have hrd:Calls Tryz.prog 33 #[.slice ao r.length c0] W0 (ReadP W0 r):=read_any (by obtain⟨g,o,p1,p2⟩:=hb;exact⟨g,o,p1,fun k b hk=>cellB b0 (p2 k b hk)⟩) hc hn (by omega)
 have HL:Hid _:=hl
 have HB0:Hid _:=b0
 have HG0:Hid _:=hg0
 obtain⟨q,hq⟩:∃q,r.length=q:=⟨_,rfl⟩
 rw [hq]at hrd ⊢
 have HQ:Hid _:=hq
 clear hb hc hn hl b0 hg0 hq
 go_enter Tryz.func17,Tryz.ntmps17
 go_upto_region 2 with(go_at_call 33;refine(show Calls _ _ _ _ _ from hrd).mono ?_;rintro e w1 ⟨c,now,hd,gA,gJ,b,qs,rfl,hH,hQ,hB,hS,hb1⟩;have HS:Hid _:=hS;have HB1:Hid _:=hb1;have HH:Hid _:=hH;have HQS:Hid _:=hQ;have HB:Hid _:=hB;obtain⟨nA,hnA⟩:∃n,(rd4 r).1.length=n:=⟨_,rfl⟩;obtain⟨nJ,hnJ⟩:∃n,qs.length=n:=⟨_,rfl⟩;rw [hnA,hnJ];have HNA:Hid _:=hnA;have HNJ:Hid _:=hnJ;clear hS hb1 hH hQ hB hnA hnJ;unfold stC)
 obtain⟨W2,hW2⟩:∃W2,w1.alloc (.cells #[.int .i64 c.nodes,.int .i64 c.queue,.int .i64 c.limit,.int .i64 c.age,.int .i64 c.fair,.int .i64 c.size,.int .i64 c.period,.int .i64 c.half,.int .i64 now,.slice (some ⟨gA,0,none⟩) nA nA,.slice (some ⟨gJ,0,none⟩) nJ nJ,.int .i64 hd] 27)=W2:=⟨_,rfl⟩
 have b2:Below w1.heap.size w1 W2:=by rw [← hW2];exact(Below.refl _ _).alloc (Nat.le_refl _) _
 have z2:W2.heap.size=w1.heap.size+1:=by rw [← hW2];simp
 have hg2:W2.heap[w1.heap.size]?=some (.cells #[.int .i64 c.nodes,.int .i64 c.queue,.int .i64 c.limit,.int .i64 c.age,.int .i64 c.fair,.int .i64 c.size,.int .i64 c.period,.int .i64 c.half,.int .i64 now,.slice (some ⟨gA,0,none⟩) nA nA,.slice (some ⟨gJ,0,none⟩) nJ nJ,.int .i64 hd] 27 (0,0)):=by rw [← hW2];exact heap_alloc_new w1 _
 have zw1:W0.heap.size≤w1.heap.size:=HB1.out.size
 have HR2:Hid (W2.heap[w.heap.size]?=some (.cells #[.int .i64 0,.int .i64 0,.int .i64 0,.int .i64 0,.int .i64 0,.int .i64 0,.int .i64 0,.int .i64 0,.int .i64 0,.slice none 0 0,.slice none 0 0,.int .i64 0] 27 (0,0))):=(b2.block _ (by omega)).trans ((HB1.out.block _ (by omega)).trans HG0.out)
 have HBB:Hid (Below w.heap.size w W2):=(HB0.out.trans (HB1.out.mono (by omega))).trans (b2.mono (by omega))
 have hS2:RdS W2 W0.heap.size gA gJ (rd4 r).1 qs:=RdS.below HS.out (fun k _ hk=>b2.block k hk) (Nat.le_refl _)
 have HS2:Hid _:=hS2
 have HG2:Hid _:=hg2
 rw [hW2]
 clear hW2 b2 hg2 hS2 HS HB1 HB0 HG0 hrd
 cases b with
 | false=>
  have hr7:rd7 r=none:=Classical.byContradiction fun e=>by simpa using HB.out.2 e
  have HR7:Hid _:=hr7
  clear hr7
  go_wp2_with (refine wpList_store_row rfl 27 (.tmp 2) (.tmp 13) rfl w.heap.size #[.int .i64 0,.int .i64 0,.int .i64 0,.int .i64 0,.int .i64 0,.int .i64 0,.int .i64 0,.int .i64 0,.int .i64 0,.slice none 0 0,.slice none 0 0,.int .i64 0] (by simp [Act.eval]) (by simp [Act.eval]) 27 _ HR2.out Tryz.infS rfl (by simp [Value.oneCell']) ?_)
  refine ret_st2 Tryz.results17 rfl rfl rfl HR2.out rfl ⟨c,now,hd,gA,gJ,qs,HH.out,HQS.out,?_,?_⟩
  ·rw [if_pos HR7.out];rfl
  ·exact Chg.below (chg_row (K:=fun k=>k=w.heap.size) (Chg.refl _ W2) (.inl rfl) _) HBB.out HBB.out.size (fun i hi=>by have:i=w.heap.size:=hi;omega)
 | true=>
  have hr7:rd7 r≠none:=HB.out.1 rfl
  have hbk:=read_back hr7 HH.out
  rw [← HQS.out]at hbk
  obtain⟨hin,hwt⟩:=st_read (c:=c) (now:=now) (hd:=hd) HS2.out (by rw [hbk];exact HL.out) (show ∀a∈(rd4 r).1,Word a.us from acs_us _ _)
  have hck:=check_any W2 c now (some ⟨gA,0,none⟩) (rd4 r).1 (rd4 r).1.length (some ⟨gJ,0,none⟩) qs qs.length hd hin hwt
  unfold stL at hck
  rw [HNA.out,HNJ.out]at hck
  obtain⟨v,hv⟩:∃v,auditV (chkZ c) ⟨c,now,(rd4 r).1,qs.map Pj.v,hd⟩=v:=⟨_,rfl⟩
  rw [hv]at hck
  have HV:Hid _:=hv
  have HR7:Hid _:=hr7
  have HCK:Hid _:=hck
  have p0:W2.cell? ⟨w1.heap.size,0,none⟩=some (.int .i64 c.nodes):=cells_at HG2.out rfl
  have p1:W2.cell? ⟨w1.heap.size,1,none⟩=some (.int .i64 c.queue):=cells_at HG2.out rfl
  have p2:W2.cell? ⟨w1.heap.size,2,none⟩=some (.int .i64 c.limit):=cells_at HG2.out rfl
  have p3:W2.cell? ⟨w1.heap.size,3,none⟩=some (.int .i64 c.age):=cells_at HG2.out rfl
  have p4:W2.cell? ⟨w1.heap.size,4,none⟩=some (.int .i64 c.fair):=cells_at HG2.out rfl
  have p5:W2.cell? ⟨w1.heap.size,5,none⟩=some (.int .i64 c.size):=cells_at HG2.out rfl
  have p6:W2.cell? ⟨w1.heap.size,6,none⟩=some (.int .i64 c.period):=cells_at HG2.out rfl
  have p7:W2.cell? ⟨w1.heap.size,7,none⟩=some (.int .i64 c.half):=cells_at HG2.out rfl
  have p8:W2.cell? ⟨w1.heap.size,8,none⟩=some (.int .i64 now):=cells_at HG2.out rfl
  have p9:W2.cell? ⟨w1.heap.size,9,none⟩=some (.slice (some ⟨gA,0,none⟩) nA nA):=cells_at HG2.out rfl
  have p10:W2.cell? ⟨w1.heap.size,10,none⟩=some (.slice (some ⟨gJ,0,none⟩) nJ nJ):=cells_at HG2.out rfl
  have p11:W2.cell? ⟨w1.heap.size,11,none⟩=some (.int .i64 hd):=cells_at HG2.out rfl
  clear hr7 hbk hin hwt hck hv
  by_cases v0:v=0
  ·subst v0
   go_wp2_with (first
    | (go_at_call 27;refine(show Calls _ _ _ _ _ from HCK.out).mono ?_;rintro e w3 ⟨rfl,hb3⟩;have HB3:Hid _:=hb3;have q0:w3.cell? ⟨w1.heap.size,0,none⟩=some (.int .i64 c.nodes):=cells_at ((hb3.block _ (by omega)).trans HG2.out) rfl;have q1:w3.cell? ⟨w1.heap.size,1,none⟩=some (.int .i64 c.queue):=cells_at ((hb3.block _ (by omega)).trans HG2.out) rfl;have q2:w3.cell? ⟨w1.heap.size,2,none⟩=some (.int .i64 c.limit):=cells_at ((hb3.block _ (by omega)).trans HG2.out) rfl;have q3:w3.cell? ⟨w1.heap.size,3,none⟩=some (.int .i64 c.age):=cells_at ((hb3.block _ (by omega)).trans HG2.out) rfl;have q4:w3.cell? ⟨w1.heap.size,4,none⟩=some (.int .i64 c.fair):=cells_at ((hb3.block _ (by omega)).trans HG2.out) rfl;have q5:w3.cell? ⟨w1.heap.size,5,none⟩=some (.int .i64 c.size):=cells_at ((hb3.block _ (by omega)).trans HG2.out) rfl;have q6:w3.cell? ⟨w1.heap.size,6,none⟩=some (.int .i64 c.period):=cells_at ((hb3.block _ (by omega)).trans HG2.out) rfl;have q7:w3.cell? ⟨w1.heap.size,7,none⟩=some (.int .i64 c.half):=cells_at ((hb3.block _ (by omega)).trans HG2.out) rfl;have q8:w3.cell? ⟨w1.heap.size,8,none⟩=some (.int .i64 now):=cells_at ((hb3.block _ (by omega)).trans HG2.out) rfl;have q9:w3.cell? ⟨w1.heap.size,9,none⟩=some (.slice (some ⟨gA,0,none⟩) nA nA):=cells_at ((hb3.block _ (by omega)).trans HG2.out) rfl;have q10:w3.cell? ⟨w1.heap.size,10,none⟩=some (.slice (some ⟨gJ,0,none⟩) nJ nJ):=cells_at ((hb3.block _ (by omega)).trans HG2.out) rfl;have q11:w3.cell? ⟨w1.heap.size,11,none⟩=some (.int .i64 hd):=cells_at ((hb3.block _ (by omega)).trans HG2.out) rfl;have HR3:Hid _:=(hb3.block _ (by omega)).trans HR2.out;clear hb3)
    | (refine wpList_store_row rfl 27 (.tmp 2) (.tmp 18) rfl w.heap.size #[.int .i64 c.nodes,.int .i64 c.queue,.int .i64 c.limit,.int .i64 c.age,.int .i64 c.fair,.int .i64 c.size,.int .i64 c.period,.int .i64 c.half,.int .i64 now,.slice (some ⟨gA,0,none⟩) nA nA,.slice (some ⟨gJ,0,none⟩) nJ nJ,.int .i64 hd] (by simp [Act.eval]) (by simp [Act.eval]) 27 _ HR3.out Tryz.infS rfl (by simp [Value.oneCell']) ?_))
   refine ret_st2 Tryz.results17 rfl rfl rfl HR3.out rfl ⟨c,now,hd,gA,gJ,qs,HH.out,HQS.out,?_,?_⟩
   ·rw [if_neg HR7.out,if_pos HV.out]
    refine⟨by rw [HNA.out,HNJ.out];rfl,RdS.below HS2.out (fun k h1 h2=>(setRow_other _ _ _ _ (by omega)).trans (HB3.out.block k h2)) (by omega)⟩
   ·exact Chg.below (chg_row (K:=fun k=>k=w.heap.size) (Chg.refl _ w3) (.inl rfl) _) (HBB.out.trans (HB3.out.mono HBB.out.size)) (HBB.out.trans (HB3.out.mono HBB.out.size)).size (fun i hi=>by have:i=w.heap.size:=hi;omega)
  ·go_wp2_with (first
    | (go_at_call 27;refine(show Calls _ _ _ _ _ from HCK.out).mono ?_;rintro e w3 ⟨rfl,hb3⟩;have HB3:Hid _:=hb3;have HR3:Hid _:=(hb3.block _ (by omega)).trans HR2.out;clear hb3)
    | (refine wpList_store_row rfl 27 (.tmp 2) (.tmp 17) rfl w.heap.size #[.int .i64 0,.int .i64 0,.int .i64 0,.int .i64 0,.int .i64 0,.int .i64 0,.int .i64 0,.int .i64 0,.int .i64 0,.slice none 0 0,.slice none 0 0,.int .i64 0] (by simp [Act.eval]) (by simp [Act.eval]) 27 _ HR3.out Tryz.infS rfl (by simp [Value.oneCell']) ?_))
   refine ret_st2 Tryz.results17 rfl rfl rfl HR3.out rfl ⟨c,now,hd,gA,gJ,qs,HH.out,HQS.out,?_,?_⟩
   ·rw [if_neg HR7.out,if_neg (by rw [HV.out];exact v0)];rfl
   ·exact Chg.below (chg_row (K:=fun k=>k=w.heap.size) (Chg.refl _ w3) (.inl rfl) _) (HBB.out.trans (HB3.out.mono HBB.out.size)) (HBB.out.trans (HB3.out.mono HBB.out.size)).size (fun i hi=>by have:i=w.heap.size:=hi;omega)
end Go.Proofs.YtceoibfliggalaaGreatDoor
