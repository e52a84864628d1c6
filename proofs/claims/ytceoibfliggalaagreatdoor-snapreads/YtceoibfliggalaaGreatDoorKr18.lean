/-
  TEXTS: SnD, SnE.
-/
import Derived.Test.YtceoibfliggalaaGreatDoorKr17
import Derived.Test.YtceoibfliggalaaGreatDoorKr14
namespace Go.Proofs.YtceoibfliggalaaGreatDoor
open Go.RowKit Wd Tr Cg Ld Lg
def szA (la:List Ac) (k:Nat):Nat:=((la.take k).flatMap acB).length
def szJ (js:List Jv) (k:Nat):Nat:=((js.take k).flatMap jbB).length
theorem szA_next {la:List Ac} {k:Nat} {a:Ac} (h:la[k]?=some a):szA la (k+1)=szA la k+(40+a.nm.size):=by
 unfold szA
 rw [List.take_add_one,h,Option.toList_some,List.flatMap_append,List.length_append]
 simp [ac_len]
theorem szJ_next {js:List Jv} {k:Nat} {j:Jv} (h:js[k]?=some j):szJ js (k+1)=szJ js k+(64+j.set.length*8):=by
 unfold szJ
 rw [List.take_add_one,h,Option.toList_some,List.flatMap_append,List.length_append]
 simp [jb_len]
theorem szA_le (la:List Ac) (k:Nat):szA la k≤szA la la.length:=by
 unfold szA
 rw [List.take_length]
 have:=congrArg (fun l=>(List.flatMap acB l).length) (List.take_append_drop k la)
 simp only [List.flatMap_append,List.length_append]at this
 omega
theorem szJ_le (js:List Jv) (k:Nat):szJ js k≤szJ js js.length:=by
 unfold szJ
 rw [List.take_length]
 have:=congrArg (fun l=>(List.flatMap jbB l).length) (List.take_append_drop k js)
 simp only [List.flatMap_append,List.length_append]at this
 omega
theorem st_len (s:Sv):(stB s).length=105+szA s.la s.la.length+szJ s.js s.js.length:=by
 unfold stB hdsB szA szJ
 rw [List.take_length,List.take_length]
 simp only [List.length_append,be8_len,nums_len]
 simp [markB]
 omega
set_option maxRecDepth 20000 in
set_option maxHeartbeats 2000000 in
theorem sizeOf_any {w:World} (c:Cf) (now:Int) {ao:Option Addr} {la:List Ac} {ca:Nat} {jo:Option Addr} {ps:List Pj} {cj:Nat} (hd:Int) (h:StIn w ao la ca jo ps cj) (hz:105+szA la la.length+szJ (ps.map Pj.v) ps.length≤2200000000):
  Calls Tryz.prog 55 #[.agg (stL c now ao la.length ca jo ps.length cj hd)] w fun e w'=>e=.returned (.int .i64 ((105+szA la la.length+szJ (ps.map Pj.v) ps.length:Nat):Int))∧Below w.heap.size w w':=by
 obtain⟨g,o,hg,hrow⟩:=row_at h.jobs
 obtain⟨ga,oa,hga,hca⟩:=h.acs
 have HROW:Hid (∀x,Below w.heap.size w x→∀(k:Nat) (q:Pj),ps[k]?=some q→JbAt x g (o+k*8) q.jb):=hrow
 have HACS:Hid _:=hca
 have HSL:Hid (∀p∈ps,p.v.set.length*8≤140737488355328):=h.sl
 have hl1:=h.l48
 have hl2:=h.l80
 obtain⟨L,hL⟩:∃L,la.length=L:=⟨_,rfl⟩
 obtain⟨N,hN⟩:∃N,ps.length=N:=⟨_,rfl⟩
 have HLL:Hid (la.length=L):=hL
 have HNN:Hid (ps.length=N):=hN
 have HA:Hid (∀k,szA la k≤szA la la.length):=szA_le la
 have HJ:Hid (∀k,szJ (ps.map Pj.v) k≤szJ (ps.map Pj.v) ps.length):=fun k=>by have:=szJ_le (ps.map Pj.v) k;rwa [List.length_map]at this
 rw [hL]at hl1 hga hz ⊢
 rw [hN]at hl2 hg hz ⊢
 have HG:Hid (0<N→jo=some ⟨g,o,none⟩):=hg
 have HGA:Hid (0<L→ao=some ⟨ga,oa,none⟩):=hga
 clear h hrow hg hga hca hL hN
 obtain⟨SA,hSA⟩:∃SA,szA la L=SA:=⟨_,rfl⟩
 obtain⟨SJ,hSJ⟩:∃SJ,szJ (ps.map Pj.v) N=SJ:=⟨_,rfl⟩
 rw [HLL.out,hSA]at HA
 rw [HNN.out,hSJ]at HJ
 rw [hSA,hSJ]at hz ⊢
 have HSA:Hid _:=hSA
 have HSJ:Hid _:=hSJ
 clear hSA hSJ
 unfold stL
 obtain⟨W,hW⟩:∃W,w.alloc (.cells #[.int .i64 c.nodes,.int .i64 c.queue,.int .i64 c.limit,.int .i64 c.age,.int .i64 c.fair,.int .i64 c.size,.int .i64 c.period,.int .i64 c.half,.int .i64 now,.slice ao L ca,.slice jo N cj,.int .i64 hd] 27)=W:=⟨_,rfl⟩
 have bW:Below w.heap.size w W:=by rw [← hW];exact(Below.refl _ w).alloc (Nat.le_refl _) _
 have hzW:w.heap.size<W.heap.size:=by rw [← hW];simp
 have hGW:W.heap[w.heap.size]?=some (.cells #[.int .i64 c.nodes,.int .i64 c.queue,.int .i64 c.limit,.int .i64 c.age,.int .i64 c.fair,.int .i64 c.size,.int .i64 c.period,.int .i64 c.half,.int .i64 now,.slice ao L ca,.slice jo N cj,.int .i64 hd] 27 (0,0)):=by rw [← hW];exact heap_alloc_new w _
 have c9:W.cell? ⟨w.heap.size,9,none⟩=some (.slice ao L ca):=cells_at hGW rfl
 have HBW:Hid _:=bW
 have HGW:Hid _:=hGW
 clear bW hGW
 go_enter Tryz.func55,Tryz.ntmps55
 go_wp2
 clear hW c9
 go_loopg [3,5,11] L (fun gk p3 u pk wr=>∃(i:Nat),i+gk=L∧pk=.int .i64 i∧p3=.int .i64 ((105+szA la i:Nat):Int)∧Below W.heap.size W wr)
 case atStart=>exact⟨0,by omega,rfl,by simp [szA],Below.refl _ _⟩
 case round=>
  obtain⟨i,hi,rfl,rfl,bR⟩:=hrel
  by_cases hlt:i<L
  ·have hlt':(i:Int)<L:=by omega
   obtain⟨a,ha⟩:∃a,la[i]?=some a:=⟨_,List.getElem?_eq_getElem (by rw [HLL.out];exact hlt)⟩
   obtain rfl:=HGA.out (by omega)
   obtain⟨a0,a1,a2,a3,a4⟩:=(HACS.out i a ha).below (HBW.out.trans (bR.mono HBW.out.size))
   obtain⟨W2,hW2⟩:∃W2,wr.alloc (.cells #[.string a.nm,.int .i64 a.pa,.int .i64 a.sh,.bool a.cl,.int .u64 a.us] 52)=W2:=⟨_,rfl⟩
   have b2:Below wr.heap.size wr W2:=by rw [← hW2];exact(Below.refl _ _).alloc (Nat.le_refl _) _
   have k0:W2.cell? ⟨wr.heap.size,0,none⟩=some (.string a.nm):=by rw [← hW2];exact cells_at (heap_alloc_new wr _) rfl
   have hn:=szA_next ha
   have hb:=HA.out (i+1)
   rw [hn]at hb
   have HN:Hid _:=hn
   have HB2:Hid _:=bR.trans (b2.mono bR.size)
   generalize szA la i=s at *
   have hw1:IntKind.i64.wrap (40+(a.nm.size:Int))=40+(a.nm.size:Int):=by rw [IntKind.wrap_i64];omega
   have hw2:IntKind.i64.wrap (((105+s:Nat):Int)+(40+(a.nm.size:Int)))=((105+s:Nat):Int)+(40+(a.nm.size:Int)):=by rw [IntKind.wrap_i64];omega
   clear hn bR b2 ha
   go_wp2
   go_roundg (L - (i+1))
   case measure=>omega
   case rel=>exact⟨i+1,by omega,by go_num,by rw [HN.out];congr 1;omega,HB2.out⟩
  ·have hlt':¬(i:Int)<L:=by omega
   obtain rfl:i=L:=by omega
   rw [HSA.out]
   generalize wr=V at *
   have c10:V.cell? ⟨w.heap.size,10,none⟩=some (.slice jo N cj):=cells_at ((bR.block _ hzW).trans HGW.out) rfl
   have HBR:Hid _:=bR
   clear bR
   go_wp2
   clear c10
   go_loopg [3,7,25] N (fun gk p3 u pk wx=>∃(k:Nat),k+gk=N∧pk=.int .i64 k∧p3=.int .i64 ((105+SA+szJ (ps.map Pj.v) k:Nat):Int)∧Below V.heap.size V wx)
   case atStart=>exact⟨0,by omega,rfl,by simp [szJ],Below.refl _ _⟩
   case round=>
    obtain⟨k,hk,rfl,rfl,bX⟩:=hrel
    by_cases hlk:k<N
    ·have hlk':(k:Int)<N:=by omega
     obtain⟨p,hp⟩:∃p,ps[k]?=some p:=⟨_,List.getElem?_eq_getElem (by rw [HNN.out];exact hlk)⟩
     obtain rfl:=HG.out (by omega)
     have BX:Below w.heap.size w wr:=HBW.out.trans ((HBR.out.trans (bX.mono HBR.out.size)).mono HBW.out.size)
     have hj:=HROW.out _ BX k p hp
     have d0:wr.cell? ⟨g,o+k*8,none⟩=some (.int .i64 p.v.ac):=hj.ac
     have d1:wr.cell? ⟨g,o+k*8+1,none⟩=some (.int .i64 p.v.nd):=hj.nd
     have d2:wr.cell? ⟨g,o+k*8+2,none⟩=some (.int .i64 p.v.lm):=hj.lm
     have d3:wr.cell? ⟨g,o+k*8+3,none⟩=some (.int .i64 p.v.sb):=hj.sb
     have d4:wr.cell? ⟨g,o+k*8+4,none⟩=some (.int .i64 p.v.st):=hj.st
     have d5:wr.cell? ⟨g,o+k*8+5,none⟩=some (.int .i64 p.v.sr):=hj.sr
     have d6:wr.cell? ⟨g,o+k*8+6,none⟩=some (.int .i64 p.v.en):=hj.en
     have d7:wr.cell? ⟨g,o+k*8+7,none⟩=some (.slice p.sa p.v.set.length p.sc):=hj.se
     obtain⟨W2,hW2⟩:∃W2,wr.alloc (.cells #[.int .i64 p.v.ac,.int .i64 p.v.nd,.int .i64 p.v.lm,.int .i64 p.v.sb,.int .i64 p.v.st,.int .i64 p.v.sr,.int .i64 p.v.en,.slice p.sa p.v.set.length p.sc] 55)=W2:=⟨_,rfl⟩
     have b2:Below wr.heap.size wr W2:=by rw [← hW2];exact(Below.refl _ _).alloc (Nat.le_refl _) _
     have k7:W2.cell? ⟨wr.heap.size,7,none⟩=some (.slice p.sa p.v.set.length p.sc):=by rw [← hW2];exact cells_at (heap_alloc_new wr _) rfl
     have hn:=szJ_next (js:=ps.map Pj.v) (k:=k) (j:=p.v) (by rw [List.getElem?_map,hp];rfl)
     have hb:=HJ.out (k+1)
     rw [hn]at hb
     have HN:Hid _:=hn
     have HB2:Hid _:=bX.trans (b2.mono bX.size)
     generalize szJ (ps.map Pj.v) k=s at *
     have hw1:IntKind.i64.wrap ((p.v.set.length:Int)*8)=(p.v.set.length:Int)*8:=by rw [IntKind.wrap_i64];omega
     have hw2:IntKind.i64.wrap (64+(p.v.set.length:Int)*8)=64+(p.v.set.length:Int)*8:=by rw [IntKind.wrap_i64];omega
     have hw3:IntKind.i64.wrap (((105+SA+s:Nat):Int)+(64+(p.v.set.length:Int)*8))=((105+SA+s:Nat):Int)+(64+(p.v.set.length:Int)*8):=by rw [IntKind.wrap_i64];omega
     clear hn bX b2 hp hj BX
     go_wp2
     go_roundg (N - (k+1))
     case measure=>omega
     case rel=>exact⟨k+1,by omega,by go_num,by rw [HN.out];congr 1;omega,HB2.out⟩
    ·have hlk':¬(k:Int)<N:=by omega
     obtain rfl:k=N:=by omega
     rw [HSJ.out]
     have HBX:Hid _:=bX
     clear bX
     go_wp2
     go_ret
     exact⟨rfl,HBW.out.trans ((HBR.out.trans (HBX.out.mono HBR.out.size)).mono HBW.out.size)⟩
end Go.Proofs.YtceoibfliggalaaGreatDoor
namespace Go.Proofs.YtceoibfliggalaaGreatDoor
open Go.RowKit Wd Tr Cg Ld Lg
theorem Tryz.infBz:(Tryz.prog.info? 5).map (fun i=>(i.zero,i.size,i.bytes))=some (some (.int .u8 0),1,1):=by kernel_rfl
theorem make_u8 (w:World) {n:Nat} (hn:n≤2200000000):∃w',(Instr.makeSlice 35 (.int .i64 (n:Int)) (.int .i64 (n:Int))).run Tryz.prog w=.ok (.slice (some ⟨w.heap.size,0,none⟩) n n) w'∧(∃rest:List Value,w'.heap[w.heap.size]?=some (.cells rest.toArray 5 (0,0))∧rest.length=n)∧Below w.heap.size w w'∧w'.heap.size=w.heap.size+1:=by
 obtain⟨i0,hi0,hz0,hz1,hz2⟩:=info_parts Tryz.infBz
 have hmk:=run_make (P:=Tryz.prog) w 35 5 i0 _ Tryz.underlying35 hi0 hz0 .i64 .i64 (n:Int) (n:Int) (by omega) (Int.le_refl _) (by rw [hz2];omega) (by omega)
 simp only [Int.toNat_natCast,hz1]at hmk
 refine⟨_,hmk,⟨(madeCells (Value.int .u8 0).cells (n*1)).toList,?_,?_⟩,(Below.refl _ _).alloc (Nat.le_refl _) _,by simp⟩
 ·rw [Array.toArray_toList]
  exact heap_alloc_new w _
 ·simp [madeCells]
theorem wr_low {w V W:World} {x B:Nat} (b:Below w.heap.size w V) (c:Chg (fun k=>k=x∨k=B) V W) (hx:w.heap.size≤x) (hB:w.heap.size≤B):Below w.heap.size w W:=c.below b b.size (fun i hi=>by rcases hi with e | e<;>omega)
set_option maxRecDepth 20000 in
set_option maxHeartbeats 4000000 in
theorem written_any {w:World} (c:Cf) (now:Int) {ao:Option Addr} {la:List Ac} {ca:Nat} {jo:Option Addr} {ps:List Pj} {cj:Nat} (hd:Int) (h:StIn w ao la ca jo ps cj) (hz:(stB ⟨c,now,la,ps.map Pj.v,hd⟩).length≤2200000000):
  Calls Tryz.prog 28 #[.agg (stL c now ao la.length ca jo ps.length cj hd)] w fun e w'=>∃B,e=.returned (.slice (some ⟨B,0,none⟩) (stB ⟨c,now,la,ps.map Pj.v,hd⟩).length (stB ⟨c,now,la,ps.map Pj.v,hd⟩).length)∧w.heap.size≤B∧w'.heap[B]?=some (.cells (Lib.byteCells (stB ⟨c,now,la,ps.map Pj.v,hd⟩)).toArray 5 (0,0))∧Below w.heap.size w w':=by
 have hlen:=st_len ⟨c,now,la,ps.map Pj.v,hd⟩
 simp only [List.length_map]at hlen
 have HS:Hid (∀ {x:World},Below w.heap.size w x→StIn x ao la ca jo ps cj):=fun b=>h.below b
 have HSZ:Hid (∀ {x:World},Below w.heap.size w x→_):=fun {x} b=>sizeOf_any c now hd (h.below b) (by rw [← hlen];exact hz)
 obtain⟨g,o,hg,hrow⟩:=row_at h.jobs
 obtain⟨ga,oa,hga,hca⟩:=h.acs
 have HROW:Hid (∀x,Below w.heap.size w x→∀(k:Nat) (q:Pj),ps[k]?=some q→JbAt x g (o+k*8) q.jb):=hrow
 have HSETS:Hid (∀x,Below w.heap.size w x→∀p∈ps,IntsAt x p.sa p.v.set):=fun x b p hp=>(h.jobs.below b).sets p hp
 have HACS:Hid _:=hca
 have HSL:Hid (∀p∈ps,p.v.set.length*8≤140737488355328):=h.sl
 have HSN:Hid (∀p∈ps,∀g o k,p.sa=some ⟨g,o,k⟩→0<p.v.set.length→g<w.heap.size):=fun p hp g o k e h0=>by
  obtain⟨g',o',h1,h2⟩:=h.jobs.sets p hp
  have e1:=h1 h0
  rw [e]at e1
  cases e1
  have:=World.block_lt_of_cell? w _ (h2 0 _ (List.getElem?_eq_getElem h0))
  exact this
 have hl1:=h.l48
 have hl2:=h.l80
 have EST:Hid (stB ⟨c,now,la,ps.map Pj.v,hd⟩=markB++(hdsB c now hd++(be8 la.length++(la.flatMap acB++(be8 ps.length++(ps.map Pj.v).flatMap jbB))))):=by show _=_;unfold stB;rw [List.length_map]
 obtain⟨L,hL⟩:∃L,la.length=L:=⟨_,rfl⟩
 obtain⟨N,hN⟩:∃N,ps.length=N:=⟨_,rfl⟩
 have HLL:Hid (la.length=L):=hL
 have HNN:Hid (ps.length=N):=hN
 rw [hL,hN]at hlen HSZ EST
 rw [hL]at hl1 hga ⊢
 rw [hN]at hl2 hg ⊢
 have HG:Hid (0<N→jo=some ⟨g,o,none⟩):=hg
 have HGA:Hid (0<L→ao=some ⟨ga,oa,none⟩):=hga
 clear h hrow hg hga hca hL hN
 generalize stB ⟨c,now,la,ps.map Pj.v,hd⟩=S at *
 obtain⟨M,hM⟩:∃M,S.length=M:=⟨_,rfl⟩
 rw [hM]at hz hlen ⊢
 rw [← hlen]at HSZ
 have HLN:Hid _:=hlen
 have HM:Hid _:=hM
 clear hlen hM
 unfold stL at *
 obtain⟨W,hW⟩:∃W,w.alloc (.cells #[.int .i64 c.nodes,.int .i64 c.queue,.int .i64 c.limit,.int .i64 c.age,.int .i64 c.fair,.int .i64 c.size,.int .i64 c.period,.int .i64 c.half,.int .i64 now,.slice ao L ca,.slice jo N cj,.int .i64 hd] 27)=W:=⟨_,rfl⟩
 have bW:Below w.heap.size w W:=by rw [← hW];exact(Below.refl _ w).alloc (Nat.le_refl _) _
 have hzW:w.heap.size<W.heap.size:=by rw [← hW];simp
 have hGW:W.heap[w.heap.size]?=some (.cells #[.int .i64 c.nodes,.int .i64 c.queue,.int .i64 c.limit,.int .i64 c.age,.int .i64 c.fair,.int .i64 c.size,.int .i64 c.period,.int .i64 c.half,.int .i64 now,.slice ao L ca,.slice jo N cj,.int .i64 hd] 27 (0,0)):=by rw [← hW];exact heap_alloc_new w _
 have c0:W.cell? ⟨w.heap.size,0,none⟩=some (.int .i64 c.nodes):=cells_at hGW rfl
 have c1:W.cell? ⟨w.heap.size,1,none⟩=some (.int .i64 c.queue):=cells_at hGW rfl
 have c2:W.cell? ⟨w.heap.size,2,none⟩=some (.int .i64 c.limit):=cells_at hGW rfl
 have c3:W.cell? ⟨w.heap.size,3,none⟩=some (.int .i64 c.age):=cells_at hGW rfl
 have c4:W.cell? ⟨w.heap.size,4,none⟩=some (.int .i64 c.fair):=cells_at hGW rfl
 have c5:W.cell? ⟨w.heap.size,5,none⟩=some (.int .i64 c.size):=cells_at hGW rfl
 have c6:W.cell? ⟨w.heap.size,6,none⟩=some (.int .i64 c.period):=cells_at hGW rfl
 have c7:W.cell? ⟨w.heap.size,7,none⟩=some (.int .i64 c.half):=cells_at hGW rfl
 have c8:W.cell? ⟨w.heap.size,8,none⟩=some (.int .i64 now):=cells_at hGW rfl
 have c9:W.cell? ⟨w.heap.size,9,none⟩=some (.slice ao L ca):=cells_at hGW rfl
 have c10:W.cell? ⟨w.heap.size,10,none⟩=some (.slice jo N cj):=cells_at hGW rfl
 have c11:W.cell? ⟨w.heap.size,11,none⟩=some (.int .i64 hd):=cells_at hGW rfl
 have hsz:=HSZ.out bW
 have HBW:Hid _:=bW
 have HGW:Hid _:=hGW
 clear bW hGW
 go_enter Tryz.func28,Tryz.ntmps28
 go_upto_region 3 with(go_at_call 55;refine hsz.mono ?_;rintro e w1 ⟨rfl,b1⟩;obtain⟨w2,hmk,⟨rest,hrest,hrl⟩,b2,hz2⟩:=make_u8 w1 hz;have HRE:Hid _:=hrest;have HRL:Hid _:=hrl;have HB1:Hid _:=b1;have HB2:Hid _:=b2;clear b1 b2 hrest hrl)
 have B2:Below w.heap.size w w2:=(HBW.out.trans (HB1.out.mono HBW.out.size)).trans (HB2.out.mono (Nat.le_trans HBW.out.size HB1.out.size))
 have zz:w.heap.size<w1.heap.size:=Nat.lt_of_lt_of_le hzW HB1.out.size
 obtain⟨V,hV⟩:∃V,w2.alloc (.cells #[.slice (some ⟨w1.heap.size,0,none⟩) M M] 83)=V:=⟨_,rfl⟩
 have bV:Below w2.heap.size w2 V:=by rw [← hV];exact(Below.refl _ w2).alloc (Nat.le_refl _) _
 have hxV:V.heap[w1.heap.size+1]?=some (.cells #[.slice (some ⟨w1.heap.size,0,none⟩) M M] 83 (0,0)):=by rw [← hV,←hz2];exact heap_alloc_new w2 _
 have BV:Below w.heap.size w V:=B2.trans (bV.mono B2.size)
 have hgV:V.heap[w.heap.size]?=some (.cells #[.int .i64 c.nodes,.int .i64 c.queue,.int .i64 c.limit,.int .i64 c.age,.int .i64 c.fair,.int .i64 c.size,.int .i64 c.period,.int .i64 c.half,.int .i64 now,.slice ao L ca,.slice jo N cj,.int .i64 hd] 27 (0,0)):=(bV.block _ (by omega)).trans ((HB2.out.block _ zz).trans ((HB1.out.block _ hzW).trans HGW.out))
 have hWr:Wr V (w1.heap.size+1) w1.heap.size M []:=⟨⟨0,by simpa using hxV,Nat.zero_le _,fun _=>rfl⟩,⟨rest,by simpa [Lib.byteCells]using (bV.block w1.heap.size (by omega)).trans HRE.out,by simpa using HRL.out⟩,by omega⟩
 have hxw:w.heap.size<w1.heap.size+1∧w.heap.size<w1.heap.size:=by omega
 try rw [hV]
 try rw [hz2]
 clear c0 c1 c2 c3 c4 c5 c6 c7 c8 c9 c10 c11 hmk hV bV hxV B2 HB1 HB2 HRE HRL hsz hz2
 generalize w1.heap.size=B at *
 generalize B+1=x at *
 have htx:=text_any hWr ⟨#[98,97,99,107,102,105,108,108,49]⟩ (by have:=HLN.out;show 0+9≤M;omega)
 have e0:([]:List UInt8)++(⟨#[98,97,99,107,102,105,108,108,49]⟩:ByteArray).data.toList=markB:=rfl
 rw [e0]at htx
 have HBV:Hid _:=BV
 have HGV:Hid _:=hgV
 clear hWr BV hgV e0
 have HVW:Hid _:=HBV.out
 go_upto_region 4 with(go_at_call 56;refine htx.mono ?_;rintro e w3 ⟨rfl,hW3,hC3⟩)
 have hg3:=wk_blk hC3 (by omega) HGV.out
 have c0:w3.cell? ⟨w.heap.size,0,none⟩=some (.int .i64 c.nodes):=cells_at hg3 rfl
 have c1:w3.cell? ⟨w.heap.size,1,none⟩=some (.int .i64 c.queue):=cells_at hg3 rfl
 have c2:w3.cell? ⟨w.heap.size,2,none⟩=some (.int .i64 c.limit):=cells_at hg3 rfl
 have c3:w3.cell? ⟨w.heap.size,3,none⟩=some (.int .i64 c.age):=cells_at hg3 rfl
 have c4:w3.cell? ⟨w.heap.size,4,none⟩=some (.int .i64 c.fair):=cells_at hg3 rfl
 have c5:w3.cell? ⟨w.heap.size,5,none⟩=some (.int .i64 c.size):=cells_at hg3 rfl
 have c6:w3.cell? ⟨w.heap.size,6,none⟩=some (.int .i64 c.period):=cells_at hg3 rfl
 have c7:w3.cell? ⟨w.heap.size,7,none⟩=some (.int .i64 c.half):=cells_at hg3 rfl
 have c8:w3.cell? ⟨w.heap.size,8,none⟩=some (.int .i64 now):=cells_at hg3 rfl
 have c9:w3.cell? ⟨w.heap.size,9,none⟩=some (.slice ao L ca):=cells_at hg3 rfl
 have c10:w3.cell? ⟨w.heap.size,10,none⟩=some (.slice jo N cj):=cells_at hg3 rfl
 have c11:w3.cell? ⟨w.heap.size,11,none⟩=some (.int .i64 hd):=cells_at hg3 rfl
 have hhd:=whead_any hW3 c now hd (.slice ao L ca) (.slice jo N cj) (by have:=HLN.out;show 9+80≤M;omega)
 have HC3:Hid _:=hC3
 clear hW3 hC3 hg3 htx
 go_upto_region 5 with(go_at_call 57;refine hhd.mono ?_;rintro e w4 ⟨rfl,hW4,hC4⟩)
 clear c0 c1 c2 c3 c4 c5 c6 c7 c8 c9 c10 c11 hhd
 have hC4':=HC3.out.trans hC4 (fun _ _ e=>e)
 have c9:w4.cell? ⟨w.heap.size,9,none⟩=some (.slice ao L ca):=cells_at (wk_blk hC4' (by omega) HGV.out) rfl
 have el1:(markB++hdsB c now hd).length=89:=by unfold hdsB;rw [List.length_append,nums_len];rfl
 have hn1:=number_any hW4 (L:Int) (by rw [el1];have:=HLN.out;omega)
 have HC4:Hid _:=hC4'
 clear hW4 hC4 hC4' HC3
 go_upto_region 6 with(go_at_call 58;refine hn1.mono ?_;rintro e w5 ⟨rfl,hW5,hC5⟩)
 clear c9 hn1
 have hC5':=HC4.out.trans hC5 (fun _ _ e=>e)
 have c9:w5.cell? ⟨w.heap.size,9,none⟩=some (.slice ao L ca):=cells_at (wk_blk hC5' (by omega) HGV.out) rfl
 obtain⟨P2,hP2⟩:∃P,markB++hdsB c now hd++be8 (L:Int)=P:=⟨_,rfl⟩
 have hp2:P2.length=97:=by rw [← hP2,List.length_append,el1,be8_len]
 rw [hP2]at hW5
 have HP2:Hid _:=hP2
 have HC5:Hid _:=hC5'
 have HW5:Hid _:=hW5
 have HA:Hid (∀k,szA la k≤szA la L):=by have:=szA_le la;rw [HLL.out]at this;exact this
 have HJ:Hid (∀k,szJ (ps.map Pj.v) k≤szJ (ps.map Pj.v) N):=fun k=>by have:=szJ_le (ps.map Pj.v) k;rwa [List.length_map,HNN.out]at this
 clear hW5 hC5 hC5' hP2 HC4 el1
 go_wp2
 clear c9
 go_loopg [6,24] L (fun gk u pk wr=>∃(i:Nat),i+gk=L∧pk=.int .i64 i∧Wr wr x B M (P2++(la.take i).flatMap acB)∧Chg (fun k=>k=x∨k=B) V wr)
 case atStart=>exact⟨0,by omega,rfl,by simpa using HW5.out,HC5.out⟩
 case round=>
  obtain⟨i,hi,rfl,hWi,hCi⟩:=hrel
  have hlo:=wr_low HBV.out hCi (by omega) (by omega)
  by_cases hlt:i<L
  ·have hlt':(i:Int)<L:=by omega
   obtain⟨a,ha⟩:∃a,la[i]?=some a:=⟨_,List.getElem?_eq_getElem (by rw [HLL.out];exact hlt)⟩
   obtain rfl:=HGA.out (by omega)
   obtain⟨a0,a1,a2,a3,a4⟩:=(HACS.out i a ha).below hlo
   obtain⟨W2,hW2⟩:∃W2,wr.alloc (.cells #[.string a.nm,.int .i64 a.pa,.int .i64 a.sh,.bool a.cl,.int .u64 a.us] 52)=W2:=⟨_,rfl⟩
   have b2:Below wr.heap.size wr W2:=by rw [← hW2];exact(Below.refl _ _).alloc (Nat.le_refl _) _
   have hg2:W2.heap[wr.heap.size]?=some (.cells #[.string a.nm,.int .i64 a.pa,.int .i64 a.sh,.bool a.cl,.int .u64 a.us] 52 (0,0)):=by rw [← hW2];exact heap_alloc_new wr _
   have k0:W2.cell? ⟨wr.heap.size,0,none⟩=some (.string a.nm):=cells_at hg2 rfl
   have k1:W2.cell? ⟨wr.heap.size,1,none⟩=some (.int .i64 a.pa):=cells_at hg2 rfl
   have k2:W2.cell? ⟨wr.heap.size,2,none⟩=some (.int .i64 a.sh):=cells_at hg2 rfl
   have k3:W2.cell? ⟨wr.heap.size,3,none⟩=some (.bool a.cl):=cells_at hg2 rfl
   have k4:W2.cell? ⟨wr.heap.size,4,none⟩=some (.int .u64 a.us):=cells_at hg2 rfl
   have hsz:=HA.out (i+1)
   rw [szA_next ha]at hsz
   have hac:=waccount_any (hWi.keep b2) a (by rw [List.length_append,hp2];have:=HLN.out;show 97+szA la i+(40+a.nm.size)≤M;omega)
   have ea:P2++(la.take i).flatMap acB++acB a=P2++(la.take (i+1)).flatMap acB:=by rw [List.take_add_one,ha,Option.toList_some,List.flatMap_append,List.append_assoc];simp
   rw [ea]at hac
   have HCi:Hid _:=hCi.trans (Chg.of_below b2 _) (fun _ _ e=>e)
   clear hWi hCi hlo b2 hg2 ha ea hsz
   go_wp2_with (go_at_call 59;refine hac.mono ?_;rintro e w6 ⟨rfl,hW6,hC6⟩;have HW6:Hid _:=hW6;have HC6:Hid _:=hC6;clear hW6 hC6)
   go_roundg (L - (i+1))
   case measure=>omega
   case rel=>exact⟨i+1,by omega,by go_num,HW6.out,HCi.out.trans HC6.out (fun _ _ e=>e)⟩
  ·have hlt':¬(i:Int)<L:=by omega
   obtain rfl:i=L:=by omega
   rw [← HLL.out,List.take_length]at hWi
   generalize wr=V3 at *
   have c10:V3.cell? ⟨w.heap.size,10,none⟩=some (.slice jo N cj):=cells_at (wk_blk hCi (by omega) HGV.out) rfl
   have ela:(P2++la.flatMap acB).length=97+szA la i:=by rw [List.length_append,hp2,←HLL.out];unfold szA;rw [List.take_length]
   have hn2:=number_any hWi (N:Int) (by rw [ela];have:=HLN.out;omega)
   have HCi:Hid _:=hCi
   clear hWi hCi hlo
   go_upto_region 12 with(go_at_call 58;refine hn2.mono ?_;rintro e w7 ⟨rfl,hW7,hC7⟩)
   clear c10 hn2
   have hC7':=HCi.out.trans hC7 (fun _ _ e=>e)
   have c10:w7.cell? ⟨w.heap.size,10,none⟩=some (.slice jo N cj):=cells_at (wk_blk hC7' (by omega) HGV.out) rfl
   obtain⟨P3,hP3⟩:∃P,P2++la.flatMap acB++be8 (N:Int)=P:=⟨_,rfl⟩
   have hp3:P3.length=105+szA la i:=by rw [← hP3,List.length_append,ela,be8_len];omega
   rw [hP3]at hW7
   have HP3:Hid _:=hP3
   have HC7:Hid _:=hC7'
   have HW7:Hid _:=hW7
   clear hW7 hC7 hC7' hP3 HCi ela
   go_wp2
   clear c10
   go_loopg [8,38] N (fun gk u pk wr=>∃(k:Nat),k+gk=N∧pk=.int .i64 k∧Wr wr x B M (P3++((ps.map Pj.v).take k).flatMap jbB)∧Chg (fun k=>k=x∨k=B) V wr)
   case atStart=>exact⟨0,by omega,rfl,by simpa using HW7.out,HC7.out⟩
   case round=>
    obtain⟨k,hk,rfl,hWk,hCk⟩:=hrel
    have hlo:=wr_low HBV.out hCk (by omega) (by omega)
    by_cases hlk:k<N
    ·have hlk':(k:Int)<N:=by omega
     obtain⟨p,hp⟩:∃p,ps[k]?=some p:=⟨_,List.getElem?_eq_getElem (by rw [HNN.out];exact hlk)⟩
     have hpm:=List.mem_of_getElem? hp
     obtain rfl:=HG.out (by omega)
     have hj:=HROW.out _ hlo k p hp
     have d0:wr.cell? ⟨g,o+k*8,none⟩=some (.int .i64 p.v.ac):=hj.ac
     have d1:wr.cell? ⟨g,o+k*8+1,none⟩=some (.int .i64 p.v.nd):=hj.nd
     have d2:wr.cell? ⟨g,o+k*8+2,none⟩=some (.int .i64 p.v.lm):=hj.lm
     have d3:wr.cell? ⟨g,o+k*8+3,none⟩=some (.int .i64 p.v.sb):=hj.sb
     have d4:wr.cell? ⟨g,o+k*8+4,none⟩=some (.int .i64 p.v.st):=hj.st
     have d5:wr.cell? ⟨g,o+k*8+5,none⟩=some (.int .i64 p.v.sr):=hj.sr
     have d6:wr.cell? ⟨g,o+k*8+6,none⟩=some (.int .i64 p.v.en):=hj.en
     have d7:wr.cell? ⟨g,o+k*8+7,none⟩=some (.slice p.sa p.v.set.length p.sc):=hj.se
     obtain⟨W2,hW2⟩:∃W2,wr.alloc (.cells #[.int .i64 p.v.ac,.int .i64 p.v.nd,.int .i64 p.v.lm,.int .i64 p.v.sb,.int .i64 p.v.st,.int .i64 p.v.sr,.int .i64 p.v.en,.slice p.sa p.v.set.length p.sc] 55)=W2:=⟨_,rfl⟩
     have b2:Below wr.heap.size wr W2:=by rw [← hW2];exact(Below.refl _ _).alloc (Nat.le_refl _) _
     have hg2:W2.heap[wr.heap.size]?=some (.cells #[.int .i64 p.v.ac,.int .i64 p.v.nd,.int .i64 p.v.lm,.int .i64 p.v.sb,.int .i64 p.v.st,.int .i64 p.v.sr,.int .i64 p.v.en,.slice p.sa p.v.set.length p.sc] 55 (0,0)):=by rw [← hW2];exact heap_alloc_new wr _
     have k0:W2.cell? ⟨wr.heap.size,0,none⟩=some (.int .i64 p.v.ac):=cells_at hg2 rfl
     have k1:W2.cell? ⟨wr.heap.size,1,none⟩=some (.int .i64 p.v.nd):=cells_at hg2 rfl
     have k2:W2.cell? ⟨wr.heap.size,2,none⟩=some (.int .i64 p.v.lm):=cells_at hg2 rfl
     have k3:W2.cell? ⟨wr.heap.size,3,none⟩=some (.int .i64 p.v.sb):=cells_at hg2 rfl
     have k4:W2.cell? ⟨wr.heap.size,4,none⟩=some (.int .i64 p.v.st):=cells_at hg2 rfl
     have k5:W2.cell? ⟨wr.heap.size,5,none⟩=some (.int .i64 p.v.sr):=cells_at hg2 rfl
     have k6:W2.cell? ⟨wr.heap.size,6,none⟩=some (.int .i64 p.v.en):=cells_at hg2 rfl
     have k7:W2.cell? ⟨wr.heap.size,7,none⟩=some (.slice p.sa p.v.set.length p.sc):=cells_at hg2 rfl
     have hpk:(ps.map Pj.v)[k]?=some p.v:=by rw [List.getElem?_map,hp];rfl
     have hsz:=HJ.out (k+1)
     rw [szJ_next hpk]at hsz
     have hjb:=wjob_any (sc:=p.sc) (hWk.keep b2) p.v (HSETS.out W2 (hlo.trans (b2.mono hlo.size)) p hpm) (fun h0 g' o' k' e=>by have:=HSN.out p hpm g' o' k' e h0;omega) (by have:=HSL.out p hpm;omega) (by rw [List.length_append,hp3];have:=HLN.out;show 105+szA la i+szJ (ps.map Pj.v) k+(64+p.v.set.length*8)≤M;omega)
     have ej:P3++((ps.map Pj.v).take k).flatMap jbB++jbB p.v=P3++((ps.map Pj.v).take (k+1)).flatMap jbB:=by rw [List.take_add_one,hpk,Option.toList_some,List.flatMap_append,List.append_assoc];simp
     rw [ej]at hjb
     have HCk:Hid _:=hCk.trans (Chg.of_below b2 _) (fun _ _ e=>e)
     clear hWk hCk hlo b2 hg2 hp hpm ej hsz hpk hj
     go_wp2_with (go_at_call 60;refine hjb.mono ?_;rintro e w8 ⟨rfl,hW8,hC8⟩;have HW8:Hid _:=hW8;have HC8:Hid _:=hC8;clear hW8 hC8)
     go_roundg (N - (k+1))
     case measure=>omega
     case rel=>exact⟨k+1,by omega,by go_num,HW8.out,HCk.out.trans HC8.out (fun _ _ e=>e)⟩
    ·have hlk':¬(k:Int)<N:=by omega
     obtain rfl:k=N:=by omega
     rw [List.take_of_length_le (by rw [List.length_map,HNN.out];exact Nat.le_refl _)]at hWk
     have eS:P3++(ps.map Pj.v).flatMap jbB=S:=by
      rw [← HP3.out,←HP2.out,EST.out]
      simp only [List.append_assoc]
     rw [eS]at hWk
     have HWk:Hid _:=hWk
     have HLO:Hid _:=hlo
     clear hWk hCk hlo eS
     go_wp2
     go_ret
     obtain⟨rest,h1,h2⟩:=HWk.out.row
     have hr0:rest= []:=List.length_eq_zero_iff.1 (by rw [HM.out]at h2;omega)
     rw [hr0,List.append_nil]at h1
     exact⟨B,rfl,by omega,h1,HLO.out⟩
end Go.Proofs.YtceoibfliggalaaGreatDoor
