/-
  TEXTS: TaD, TaE, TbA, TbB.
-/
import Derived.Test.YtceoibfliggalaaGreatDoorKw21
import Derived.Test.YtceoibfliggalaaGreatDoorKw38
import Derived.Test.YtceoibfliggalaaGreatDoorKw20
import Derived.Lib.SlBytesConst
namespace Go.Proofs.YtceoibfliggalaaGreatDoor
open Go.RowKit Wd Tr Cg Ld Lg
theorem OwB.alloc {w:World} {B:Nat} {v:Value} {r:List UInt8} (h:OwB w B v r) {w':World} (b:Below w.heap.size w w'):OwB w' B v r:=row_stand h (fun k hk=>b.block k (World.ownsRow.lt h k hk).2)
theorem OwB.low {w:World} {B:Nat} {v:Value} {r:List UInt8} (h:OwB w B v r):∀k,v.ownBlock=some k→B≤k∧k<w.heap.size:=World.ownsRow.lt h
theorem OwB.grow {w w':World} {B:Nat} {v v':Value} {r:List UInt8} (h:OwB w B v r) (hB:B≤w.heap.size) (g:Gr w w' v v'):Below B w w':=g.below hB (fun k hk=>(h.low k hk).1)
theorem lit_ints {w:World} {l:List Int}:IntsAt (w.alloc (.cells (l.map (Value.int .i64)).toArray 3)) (some ⟨w.heap.size,0,none⟩) l:=by
 refine⟨w.heap.size,0,fun _=>rfl,fun k n hn=>?_⟩
 rw [Nat.zero_add]
 exact cells_at (heap_alloc_new w _) (by simp [hn])
theorem flit_any {w W:World} {B:Nat} {v:Value} {r:List UInt8} {l:List Int} {k:Nat} (hk:l.length=k) (hW:w.alloc (.cells (l.map (Value.int .i64)).toArray 3)=W) (h:Src w B v r) (hB:B≤w.heap.size) (hk0:0<l.length) (hl:r.length+l.length*8≤140737488355328):
  Calls Tryz.prog 61 #[v,.slice (some ⟨w.heap.size,0,none⟩) k k] W fun e w'=>∃v',e=.returned v'∧OwB w' B v' (r++numsB l)∧Gr w w' v v':=by
 subst hk
 have b:Below w.heap.size w W:=by rw [← hW];exact(Below.refl _ w).alloc (Nat.le_refl _) _
 have hA:IntsAt W (some ⟨w.heap.size,0,none⟩) l:=by rw [← hW];exact lit_ints
 refine(fnumbers_any (h.alloc b) (Nat.le_trans hB b.size) hA (fun g o s e _ hv=>?_) (.inl hk0) (by omega) hl).mono ?_
 ·cases e
  have:=h.low _ hv
  omega
 ·rintro e w' ⟨v',h1,h2,h3⟩
  exact⟨v',h1,h2,(gr_alloc b v).trans h3⟩
theorem ac_take {la:List Ac} {i:Nat} {a:Ac} (h:la[i]?=some a):(la.take (i+1)).flatMap acB=(la.take i).flatMap acB++acB a:=by
 obtain⟨hi,rfl⟩:=List.getElem?_eq_some_iff.1 h
 rw [List.take_succ_eq_append_getElem hi,List.flatMap_append]
 simp
theorem jb_take {js:List Jv} {i:Nat} {a:Jv} (h:js[i]?=some a):(js.take (i+1)).flatMap jbB=(js.take i).flatMap jbB++jbB a:=by
 obtain⟨hi,rfl⟩:=List.getElem?_eq_some_iff.1 h
 rw [List.take_succ_eq_append_getElem hi,List.flatMap_append]
 simp
theorem flat_take {α:Type} (f:α→List UInt8) (l:List α) (i:Nat):((l.take i).flatMap f).length≤(l.flatMap f).length:=by
 have:=congrArg List.length (congrArg (List.flatMap f) (List.take_append_drop i l))
 rw [List.flatMap_append,List.length_append]at this
 omega
set_option maxRecDepth 20000 in
set_option maxHeartbeats 4000000 in
theorem fbytes_any {w:World} (c:Cf) (now:Int) {ao:Option Addr} {la:List Ac} {ca:Nat} {jo:Option Addr} {ps:List Pj} {cj:Nat} (hd:Int) (h:StIn w ao la ca jo ps cj) (hz:(stB ⟨c,now,la,ps.map Pj.v,hd⟩).length≤2200000000):
  Calls Tryz.prog 29 #[.agg (stL c now ao la.length ca jo ps.length cj hd)] w fun e w'=>∃v,e=.returned v∧OwB w' w.heap.size v (stB ⟨c,now,la,ps.map Pj.v,hd⟩)∧Below w.heap.size w w':=by
 obtain⟨g,o,hg,hrow⟩:=row_at h.jobs
 obtain⟨ga,oa,hga,hca⟩:=h.acs
 have HROW:Hid (∀x,Below w.heap.size w x→∀(k:Nat) (q:Pj),ps[k]?=some q→JbAt x g (o+k*8) q.jb):=hrow
 have HSETS:Hid (∀x,Below w.heap.size w x→∀p∈ps,IntsAt x p.sa p.v.set):=fun x b p hp=>(h.jobs.below b).sets p hp
 have HACS:Hid (∀x,Below w.heap.size w x→∀(k:Nat) (a:Ac),la[k]?=some a→AcAt x ga (oa+k*5) a):=fun x b k a ha=>(hca k a ha).below b
 have HSN:Hid (∀p∈ps,∀g o k,p.sa=some ⟨g,o,k⟩→0<p.v.set.length→g<w.heap.size):=fun p hp g o k e h0=>by
  obtain⟨g',o',h1,h2⟩:=h.jobs.sets p hp
  have e1:=h1 h0
  rw [e]at e1
  cases e1
  exact World.block_lt_of_cell? w _ (h2 0 _ (List.getElem?_eq_getElem h0))
 have HSL:Hid (∀p∈ps,p.v.set.length*8≤140737488355328):=h.sl
 have HNM:Hid (∀a∈la,a.nm.size≤maxLen):=h.nm
 have HUS:Hid (∀(n:Nat) (a:Ac),la[n]?=some a→Word a.us):=h.us
 have hl1:=h.l48
 have hl2:=h.l80
 have hpt:=st_parts ⟨c,now,la,ps.map Pj.v,hd⟩
 have HST:Hid (stB ⟨c,now,la,ps.map Pj.v,hd⟩=markB++(hdsB c now hd++(be8 la.length++(la.flatMap acB++(be8 ps.length++(ps.map Pj.v).flatMap jbB))))):=by show _=_;unfold stB;rw [List.length_map]
 simp only at hpt
 rw [hpt]at hz
 obtain⟨L,hL⟩:∃L,la.length=L:=⟨_,rfl⟩
 obtain⟨N,hN⟩:∃N,ps.length=N:=⟨_,rfl⟩
 have HNN:Hid (ps.length=N):=hN
 have HLL:Hid (la.length=L):=hL
 rw [hL]at hl1 hga HST ⊢
 rw [hN]at hl2 hg HST ⊢
 have HG:Hid (0<N→jo=some ⟨g,o,none⟩):=hg
 have HGA:Hid (0<L→ao=some ⟨ga,oa,none⟩):=hga
 have HZ:Hid (105+(la.flatMap acB).length+((ps.map Pj.v).flatMap jbB).length≤2200000000):=hz
 generalize stB ⟨c,now,la,ps.map Pj.v,hd⟩=ST at *
 clear h hrow hg hga hca hL hN hpt hz
 unfold stL
 obtain⟨W0,hW0⟩:∃W0,w.alloc (.cells #[.int .i64 c.nodes,.int .i64 c.queue,.int .i64 c.limit,.int .i64 c.age,.int .i64 c.fair,.int .i64 c.size,.int .i64 c.period,.int .i64 c.half,.int .i64 now,.slice ao L ca,.slice jo N cj,.int .i64 hd] 27)=W0:=⟨_,rfl⟩
 have b0:Below w.heap.size w W0:=by rw [← hW0];exact(Below.refl _ w).alloc (Nat.le_refl _) _
 have z0:W0.heap.size=w.heap.size+1:=by rw [← hW0];simp
 have hbox:W0.heap[w.heap.size]?=some (.cells #[.int .i64 c.nodes,.int .i64 c.queue,.int .i64 c.limit,.int .i64 c.age,.int .i64 c.fair,.int .i64 c.size,.int .i64 c.period,.int .i64 c.half,.int .i64 now,.slice ao L ca,.slice jo N cj,.int .i64 hd] 27 (0,0)):=by rw [← hW0];exact heap_alloc_new w _
 have HCL:Hid (∀x:World,Below W0.heap.size W0 x→x.cell? ⟨w.heap.size,0,none⟩=some (.int .i64 c.nodes)∧x.cell? ⟨w.heap.size,1,none⟩=some (.int .i64 c.queue)∧x.cell? ⟨w.heap.size,2,none⟩=some (.int .i64 c.limit)∧x.cell? ⟨w.heap.size,3,none⟩=some (.int .i64 c.age)∧x.cell? ⟨w.heap.size,4,none⟩=some (.int .i64 c.fair)∧x.cell? ⟨w.heap.size,5,none⟩=some (.int .i64 c.size)∧x.cell? ⟨w.heap.size,6,none⟩=some (.int .i64 c.period)∧x.cell? ⟨w.heap.size,7,none⟩=some (.int .i64 c.half)∧x.cell? ⟨w.heap.size,8,none⟩=some (.int .i64 now)∧x.cell? ⟨w.heap.size,9,none⟩=some (.slice ao L ca)∧x.cell? ⟨w.heap.size,10,none⟩=some (.slice jo N cj)∧x.cell? ⟨w.heap.size,11,none⟩=some (.int .i64 hd)):=fun x b=>⟨cellB b (cells_at hbox rfl),cellB b (cells_at hbox rfl),cellB b (cells_at hbox rfl),cellB b (cells_at hbox rfl),cellB b (cells_at hbox rfl),cellB b (cells_at hbox rfl),cellB b (cells_at hbox rfl),cellB b (cells_at hbox rfl),cellB b (cells_at hbox rfl),cellB b (cells_at hbox rfl),cellB b (cells_at hbox rfl),cellB b (cells_at hbox rfl)⟩
 have HB0:Hid (Below w.heap.size w W0):=b0
 have HZ0:Hid (W0.heap.size=w.heap.size+1):=z0
 obtain⟨W1,hW1⟩:∃W1,W0.alloc (.cells #[.int .u8 98,.int .u8 97,.int .u8 99,.int .u8 107,.int .u8 102,.int .u8 105,.int .u8 108,.int .u8 108,.int .u8 49] 5 (9,10))=W1:=⟨_,rfl⟩
 have b1:Below W0.heap.size W0 W1:=by rw [← hW1];exact(Below.refl _ W0).alloc (Nat.le_refl _) _
 have z1:W1.heap.size=W0.heap.size+1:=by rw [← hW1];simp
 have HO1:Hid (Ful W1 (.slice (some ⟨W0.heap.size,0,none⟩) 9 9) markB):=⟨W0.heap.size,rfl,by rw [z1];omega,W0.heap.size,0,fun _=>rfl,fun k u hu=>by
  have hg1:W1.heap[W0.heap.size]?=some (.cells #[.int .u8 98,.int .u8 97,.int .u8 99,.int .u8 107,.int .u8 102,.int .u8 105,.int .u8 108,.int .u8 108,.int .u8 49] 5 (9,10)):=by rw [← hW1];exact heap_alloc_new W0 _
  rw [Nat.zero_add]
  refine cells_at hg1 ?_
  have e:(u8s markB)[k]?=some (Value.int .u8 (u.toNat:Int)):=by unfold u8s;rw [List.getElem?_map,hu];rfl
  rw [show (#[.int .u8 98,.int .u8 97,.int .u8 99,.int .u8 107,.int .u8 102,.int .u8 105,.int .u8 108,.int .u8 108,.int .u8 49]:Array Value)=(u8s markB).toArray from rfl]
  simpa using e⟩
 have hcv:(convert 35 35 (.slice (some ⟨W0.heap.size,0,none⟩) 9 9)).run Tryz.prog (W0.alloc (.cells #[.int .u8 98,.int .u8 97,.int .u8 99,.int .u8 107,.int .u8 102,.int .u8 105,.int .u8 108,.int .u8 108,.int .u8 49] 5))=.ok (.slice (some ⟨W0.heap.size,0,none⟩) 9 9) W1:=by rw [← hW1];exact Lib.run_convert_bytes_const W0 35 5 #[.int .u8 98,.int .u8 97,.int .u8 99,.int .u8 107,.int .u8 102,.int .u8 105,.int .u8 108,.int .u8 108,.int .u8 49] 9 9 Tryz.underlying35 Tryz.underlying5
 obtain⟨W2,hW2⟩:∃W2,W1.alloc (.cells #[.int .i64 c.nodes,.int .i64 c.queue,.int .i64 c.limit,.int .i64 c.age,.int .i64 c.fair,.int .i64 c.size,.int .i64 c.period,.int .i64 c.half] 23)=W2:=⟨_,rfl⟩
 have b2:Below W1.heap.size W1 W2:=by rw [← hW2];exact(Below.refl _ W1).alloc (Nat.le_refl _) _
 have HX2:Hid (Below W0.heap.size W0 W2):=b1.trans (b2.mono b1.size)
 have hb2:W2.heap[W1.heap.size]?=some (.cells #[.int .i64 c.nodes,.int .i64 c.queue,.int .i64 c.limit,.int .i64 c.age,.int .i64 c.fair,.int .i64 c.size,.int .i64 c.period,.int .i64 c.half] 23 (0,0)):=by rw [← hW2];exact heap_alloc_new W1 _
 have HO2:Hid (Src W2 W0.heap.size (.slice (some ⟨W0.heap.size,0,none⟩) 9 9) markB):=Src.alloc (.inr HO1.out) b2
 obtain⟨W3,hW3⟩:∃W3,W2.alloc (.cells #[.int .i64 c.nodes,.int .i64 c.queue,.int .i64 c.limit,.int .i64 c.age,.int .i64 c.fair,.int .i64 c.size,.int .i64 c.period,.int .i64 c.half,.int .i64 now,.int .i64 hd,.int .i64 (L:Int)] 3)=W3:=⟨_,rfl⟩
 have hli:=flit_any (l:= [c.nodes,c.queue,c.limit,c.age,c.fair,c.size,c.period,c.half,now,hd,(L:Int)]) rfl hW3 HO2.out HX2.out.size (Nat.succ_pos _) (by show 9+11*8≤_;decide)
 have HLI:Hid _:=hli
 clear hbox b0 z0 hli
 obtain⟨q0,q1,q2,q3,q4,q5,q6,q7,q8,q9,q10,q11⟩:=HCL.out W1 b1
 have HP0:Hid (markB++numsB [c.nodes,c.queue,c.limit,c.age,c.fair,c.size,c.period,c.half,now,hd,(L:Int)]=markB++(hdsB c now hd++be8 L)):=(show _=_ from rfl)
 have hp0:(markB++numsB [c.nodes,c.queue,c.limit,c.age,c.fair,c.size,c.period,c.half,now,hd,(L:Int)]).length=97:=rfl
 generalize markB++numsB [c.nodes,c.queue,c.limit,c.age,c.fair,c.size,c.period,c.half,now,hd,(L:Int)]=P0 at *
 have r0:W2.cell? ⟨W1.heap.size,0,none⟩=some (.int .i64 c.nodes):=cells_at hb2 rfl
 have r1:W2.cell? ⟨W1.heap.size,1,none⟩=some (.int .i64 c.queue):=cells_at hb2 rfl
 have r2:W2.cell? ⟨W1.heap.size,2,none⟩=some (.int .i64 c.limit):=cells_at hb2 rfl
 have r3:W2.cell? ⟨W1.heap.size,3,none⟩=some (.int .i64 c.age):=cells_at hb2 rfl
 have r4:W2.cell? ⟨W1.heap.size,4,none⟩=some (.int .i64 c.fair):=cells_at hb2 rfl
 have r5:W2.cell? ⟨W1.heap.size,5,none⟩=some (.int .i64 c.size):=cells_at hb2 rfl
 have r6:W2.cell? ⟨W1.heap.size,6,none⟩=some (.int .i64 c.period):=cells_at hb2 rfl
 have r7:W2.cell? ⟨W1.heap.size,7,none⟩=some (.int .i64 c.half):=cells_at hb2 rfl
 clear z1
 go_enter Tryz.func29,Tryz.ntmps29
 go_upto_region 3 with fail
 clear hcv
 clear q0 q1 q2 q3 q4 q5 q6 q7 q8 q9 q10 q11
 obtain⟨q0,q1,q2,q3,q4,q5,q6,q7,q8,q9,q10,q11⟩:=HCL.out W2 HX2.out
 go_upto_region 4 with(go_at_call 61;refine(show Calls _ _ _ _ _ from HLI.out).mono ?_;rintro e w4 ⟨v4,rfl,o4,g4⟩;have HO4:Hid (OwB w4 W0.heap.size v4 P0):=o4;have HX4:Hid (Below W0.heap.size W0 w4):=HX2.out.trans (g4.below HX2.out.size (fun k hk=>by cases hk;exact Nat.le_refl _));clear o4 g4)
 clear HLI HO1 HO2 hW0 hW1 hW2 hW3 b1 b2 hb2 HX2 r0 r1 r2 r3 r4 r5 r6 r7 q0 q1 q2 q3 q4 q5 q6 q7 q8 q9 q10 q11
 obtain⟨i0,hi0,hz00,hz01,hz02⟩:=info_parts Tryz.infBz
 go_wp2
 go_loopg [3,5] L (fun gk pv pk wr=>∃(i:Nat),i+gk=L∧pk=.int .i64 i∧OwB wr W0.heap.size pv (P0++(la.take i).flatMap acB)∧Below W0.heap.size W0 wr)
 case atStart=>exact⟨0,by omega,rfl,by rw [List.take_zero,List.flatMap_nil,List.append_nil];exact HO4.out,HX4.out⟩
 case round=>
  obtain⟨i,hi,rfl,ho,hx⟩:=hrel
  have HX:Hid (Below W0.heap.size W0 wr):=hx
  have HXw:Hid (Below w.heap.size w wr):=HB0.out.trans (hx.mono HB0.out.size)
  obtain⟨q0,q1,q2,q3,q4,q5,q6,q7,q8,q9,q10,q11⟩:=HCL.out wr hx
  by_cases hlt:i<L
  ·have hlt':(i:Int)<L:=by omega
   obtain⟨a,ha⟩:∃a,la[i]?=some a:=⟨_,List.getElem?_eq_getElem (by rw [HLL.out];exact hlt)⟩
   obtain rfl:=HGA.out (by omega)
   obtain⟨a0,a1,a2,a3,a4⟩:=HACS.out wr HXw.out i a ha
   obtain⟨rr,hrr⟩:∃rr,P0++(la.take i).flatMap acB=rr:=⟨_,rfl⟩
   have hrl:rr.length=97+((la.take i).flatMap acB).length:=by rw [← hrr,List.length_append,hp0]
   have hft:=flat_take acB la (i+1)
   rw [ac_take ha,List.length_append,ac_len]at hft
   have HRR:Hid (P0++(la.take (i+1)).flatMap acB=rr++acB a):=(show _=_ from by rw [ac_take ha,←List.append_assoc,hrr])
   rw [hrr]at ho
   have HO:Hid (OwB wr W0.heap.size u3 rr):=ho
   have hzz:=HZ.out
   have hlen:rr.length+40+a.nm.size≤2200000000:=by omega
   have husr:=HUS.out i a ha
   have HU:Hid (a.us % 18446744073709551616=a.us):=Int.emod_eq_of_lt husr.1 (by have:=husr.2;omega)
   have HNZ:Hid (0<rr.length):=(show 0<rr.length by omega)
   have HAB:Hid (acB a=be8 a.nm.size++(a.nm.data.toList++numsB [a.pa,a.sh,if a.cl then 1 else 0,a.us])):=rfl
   go_upto_region 8 with fail
   obtain⟨Wa,hWa⟩:∃Wa,wr.alloc (.cells #[.string a.nm,.int .i64 a.pa,.int .i64 a.sh,.bool a.cl,.int .u64 a.us] 52)=Wa:=⟨_,rfl⟩
   have ba:Below wr.heap.size wr Wa:=by rw [← hWa];exact(Below.refl _ wr).alloc (Nat.le_refl _) _
   have za:Wa.heap.size=wr.heap.size+1:=by rw [← hWa];simp
   have hga:Wa.heap[wr.heap.size]?=some (.cells #[.string a.nm,.int .i64 a.pa,.int .i64 a.sh,.bool a.cl,.int .u64 a.us] 52 (0,0)):=by rw [← hWa];exact heap_alloc_new wr _
   have HBX:Hid (∀ {x:World} {u:Value},Gr Wa x u3 u→x.cell? ⟨wr.heap.size,0,none⟩=some (.string a.nm)∧x.cell? ⟨wr.heap.size,1,none⟩=some (.int .i64 a.pa)∧x.cell? ⟨wr.heap.size,2,none⟩=some (.int .i64 a.sh)∧x.cell? ⟨wr.heap.size,3,none⟩=some (.bool a.cl)∧x.cell? ⟨wr.heap.size,4,none⟩=some (.int .u64 a.us)):=fun {x u} g=>by
    have hb:=(g.g.block wr.heap.size (by rw [za];omega) (fun e=>by have:=(ho.low _ e.symm).2;omega)).trans hga
    exact⟨cells_at hb rfl,cells_at hb rfl,cells_at hb rfl,cells_at hb rfl,cells_at hb rfl⟩
   have HOa:Hid (OwB Wa W0.heap.size u3 rr):=ho.alloc ba
   have HBa:Hid (W0.heap.size≤Wa.heap.size):=Nat.le_trans hx.size ba.size
   have HXa:Hid (Below W0.heap.size W0 Wa):=hx.trans (ba.mono hx.size)
   obtain⟨Wb,hWb⟩:∃Wb,Wa.alloc (.cells #[.int .i64 (a.nm.size:Int)] 3)=Wb:=⟨_,rfl⟩
   have hli:=flit_any (l:= [(a.nm.size:Int)]) rfl hWb (.inl HOa.out) HBa.out (Nat.succ_pos _) (by show rr.length+1*8≤_;omega)
   have HLI:Hid _:=hli
   have hgb:Gr Wa Wb u3 u3:=gr_alloc (by rw [← hWb];exact(Below.refl _ Wa).alloc (Nat.le_refl _) _) _
   obtain⟨g0,g1,g2,g3,g4⟩:=HBX.out (Gr.refl Wa u3)
   rw [hWa]
   clear ha hrr ho hx hft hzz husr ba hga hli hgb hrl hWa za a0 a1 a2 a3 a4 q0 q1 q2 q3 q4 q5 q6 q7 q8 q9 q10 q11
   go_upto_region 9 with(go_at_call 61;refine(show Calls _ _ _ _ _ from HLI.out).mono ?_;rintro e w5 ⟨v5,rfl,o5,g5⟩;have HO5:Hid (OwB w5 W0.heap.size v5 (rr++numsB [(a.nm.size:Int)])):=o5;have HG5:Hid (Gr Wa w5 u3 v5):=g5;clear o5 g5)
   clear g0 g1 g2 g3 g4 hWb
   obtain⟨f0,f1,f2,f3,f4⟩:=HBX.out HG5.out
   have HL5:Hid ((rr++numsB [(a.nm.size:Int)]).length=rr.length+8):=(show _=_ from by rw [List.length_append];rfl)
   have HW5:Hid (W0.heap.size≤w5.heap.size):=Nat.le_trans HBa.out HG5.out.g.size
   go_upto_region 10 with(at_builtin;refine wp_str_mv rfl (.tmp 58) (.tmp 60) 35 9 rfl W0.heap.size 5 i0 Tryz.underlying35 Tryz.underlying9 hi0 hz00 hz01 hz02 v5 _ _ rfl HO5.out a.nm rfl (by rw [HL5.out];omega) (by rw [HL5.out];exact Nat.le_trans (m:=2200000000) (by omega) (by decide)) (by rw [HL5.out];omega) HW5.out ?_;intro v6 w6 o6 g6 m6;rw [str_u8,←u8s_app,Lib.size_eq,←List.length_append]at o6;have HO6:Hid (OwB w6 W0.heap.size v6 (rr++numsB [(a.nm.size:Int)]++a.nm.data.toList)):=o6;have HG6:Hid (Gr Wa w6 u3 v6):=HG5.out.trans ⟨g6,m6.imp id fun e=>⟨_,e,Nat.le_refl _⟩⟩;clear o6 g6 m6)
   clear f0 f1 f2 f3 f4 HL5 HO5 HW5
   obtain⟨f0,f1,f2,f3,f4⟩:=HBX.out HG6.out
   obtain⟨R6,hR6⟩:∃R6,rr++numsB [(a.nm.size:Int)]++a.nm.data.toList=R6:=⟨_,rfl⟩
   have hl6:R6.length=rr.length+8+a.nm.size:=by rw [← hR6,List.length_append,List.length_append,←Lib.size_eq];rfl
   have HE6:Hid (rr++numsB [(a.nm.size:Int)]++a.nm.data.toList=R6):=hR6
   rw [hR6]at HO6
   clear hR6
   have HW6:Hid (W0.heap.size≤w6.heap.size):=Nat.le_trans HBa.out HG6.out.g.size
   have hc6:∃cl:Int,cl=(if a.cl=true then 1 else 0):=⟨_,rfl⟩
   obtain⟨cl,hcl⟩:=hc6
   obtain⟨Wc,hWc⟩:∃Wc,w6.alloc (.cells #[.int .i64 a.pa,.int .i64 a.sh,.int .i64 cl] 3)=Wc:=⟨_,rfl⟩
   have hlc:=flit_any (l:= [a.pa,a.sh,cl]) rfl hWc (.inl HO6.out) HW6.out (Nat.succ_pos _) (by show R6.length+3*8≤_;omega)
   have HLC:Hid _:=hlc
   have HCL1:Hid (cl=(if a.cl=true then 1 else 0)):=hcl
   clear hlc
   have hst:∀(x:World) (u:Value),True:=fun _ _=>trivial
   clear hst
   cases hac:a.cl with
   | true=>
    rw [hac]at hcl f3 HCL1
    simp only [if_pos]at hcl
    subst hcl
    go_upto_region 14 with(go_at_call 61;refine(show Calls _ _ _ _ _ from HLC.out).mono ?_;rintro e w7 ⟨v7,rfl,o7,g7⟩;have HO7:Hid (OwB w7 W0.heap.size v7 (R6++numsB [a.pa,a.sh,1])):=o7;have HG7:Hid (Gr Wa w7 u3 v7):=HG6.out.trans g7;clear o7 g7)
    clear f0 f1 f2 f3 f4 hWc
    obtain⟨f0,f1,f2,f3,f4⟩:=HBX.out HG7.out
    have hnu:=fnumber_any a.us (.inl HO7.out) (Nat.le_trans HBa.out HG7.out.g.size) (by rw [List.length_append,nums_len,hl6];show _+3*8+8≤_;omega)
    rw [HU.out]at hnu
    have HNU:Hid _:=hnu
    clear hnu
    go_wp2_with (go_at_call 62;refine(show Calls _ _ _ _ _ from HNU.out).mono ?_;rintro e w8 ⟨v8,rfl,o8,g8⟩;have HO8:Hid (OwB w8 W0.heap.size v8 (R6++numsB [a.pa,a.sh,1]++be8 a.us)):=o8;have HG8:Hid (Gr Wa w8 u3 v8):=HG7.out.trans g8;clear o8 g8)
    go_roundg (L - (i+1))
    case measure=>omega
    case rel=>
     refine⟨i+1,by omega,rfl,?_,HXa.out.trans (HOa.out.grow HBa.out HG8.out)⟩
     rw [HRR.out,HAB.out,hac]
     have e9:R6++numsB [a.pa,a.sh,1]++be8 a.us=rr++(be8 a.nm.size++(a.nm.data.toList++numsB [a.pa,a.sh,if true=true then 1 else 0,a.us])):=by
      rw [← HE6.out]
      simp [numsB]
     rw [← e9]
     exact HO8.out
   | false=>
    rw [hac]at hcl f3 HCL1
    simp only [Bool.false_eq_true,if_false]at hcl
    subst hcl
    go_upto_region 14 with(go_at_call 61;refine(show Calls _ _ _ _ _ from HLC.out).mono ?_;rintro e w7 ⟨v7,rfl,o7,g7⟩;have HO7:Hid (OwB w7 W0.heap.size v7 (R6++numsB [a.pa,a.sh,0])):=o7;have HG7:Hid (Gr Wa w7 u3 v7):=HG6.out.trans g7;clear o7 g7)
    clear f0 f1 f2 f3 f4 hWc
    obtain⟨f0,f1,f2,f3,f4⟩:=HBX.out HG7.out
    have hnu:=fnumber_any a.us (.inl HO7.out) (Nat.le_trans HBa.out HG7.out.g.size) (by rw [List.length_append,nums_len,hl6];show _+3*8+8≤_;omega)
    rw [HU.out]at hnu
    have HNU:Hid _:=hnu
    clear hnu
    go_wp2_with (go_at_call 62;refine(show Calls _ _ _ _ _ from HNU.out).mono ?_;rintro e w8 ⟨v8,rfl,o8,g8⟩;have HO8:Hid (OwB w8 W0.heap.size v8 (R6++numsB [a.pa,a.sh,0]++be8 a.us)):=o8;have HG8:Hid (Gr Wa w8 u3 v8):=HG7.out.trans g8;clear o8 g8)
    go_roundg (L - (i+1))
    case measure=>omega
    case rel=>
     refine⟨i+1,by omega,rfl,?_,HXa.out.trans (HOa.out.grow HBa.out HG8.out)⟩
     rw [HRR.out,HAB.out,hac]
     have e9:R6++numsB [a.pa,a.sh,0]++be8 a.us=rr++(be8 a.nm.size++(a.nm.data.toList++numsB [a.pa,a.sh,if false=true then 1 else 0,a.us])):=by
      rw [← HE6.out]
      simp [numsB]
     rw [← e9]
     exact HO8.out
  ·have hlt':¬(i:Int)<L:=by omega
   rw [List.take_of_length_le (by rw [HLL.out];omega)]at ho
   obtain⟨V1,hV1⟩:∃V1,wr=V1:=⟨_,rfl⟩
   rw [hV1]at ho HX HXw q9 q10 ⊢
   clear hV1 hx q0 q1 q2 q3 q4 q5 q6 q7 q8 q11
   obtain⟨P1,hP1⟩:∃P1,P0++la.flatMap acB=P1:=⟨_,rfl⟩
   have HP1:Hid (P0++la.flatMap acB=P1):=hP1
   have hl9:P1.length=97+(la.flatMap acB).length:=by rw [← hP1,List.length_append,hp0]
   rw [hP1]at ho
   have HO:Hid (OwB V1 W0.heap.size u3 P1):=ho
   have hzz:=HZ.out
   obtain⟨Wd,hWd⟩:∃Wd,V1.alloc (.cells #[.int .i64 (N:Int)] 3)=Wd:=⟨_,rfl⟩
   have hli:=flit_any (l:= [(N:Int)]) rfl hWd (.inl ho) HX.out.size (Nat.succ_pos _) (by show P1.length+1*8≤_;omega)
   have HLI:Hid _:=hli
   clear ho hli hP1
   go_upto_region 16 with(go_at_call 61;refine(show Calls _ _ _ _ _ from HLI.out).mono ?_;rintro e w9 ⟨v9,rfl,o9,g9⟩;have HO9:Hid (OwB w9 W0.heap.size v9 (P1++numsB [(N:Int)])):=o9;have HX9:Hid (Below W0.heap.size W0 w9):=HX.out.trans (HO.out.grow HX.out.size g9);clear o9 g9)
   clear hWd q9 q10 HLI
   obtain⟨P2,hP2⟩:∃P2,P1++numsB [(N:Int)]=P2:=⟨_,rfl⟩
   have HP2:Hid (P1++numsB [(N:Int)]=P2):=hP2
   have hl10:P2.length=105+(la.flatMap acB).length:=by rw [← hP2,List.length_append,nums_len,hl9];show _+1*8=_;omega
   rw [hP2]at HO9
   clear hP2 hl9
   go_wp2
   go_loopg [3,8] N (fun gk pv pk wr=>∃(j:Nat),j+gk=N∧pk=.int .i64 j∧OwB wr W0.heap.size pv (P2++((ps.map Pj.v).take j).flatMap jbB)∧Below W0.heap.size W0 wr)
   case atStart=>exact⟨0,by omega,rfl,by rw [List.take_zero,List.flatMap_nil,List.append_nil];exact HO9.out,HX9.out⟩
   case round=>
    obtain⟨j,hj,rfl,ho,hx⟩:=hrel
    have HX2:Hid (Below W0.heap.size W0 wr):=hx
    have HXw2:Hid (Below w.heap.size w wr):=HB0.out.trans (hx.mono HB0.out.size)
    obtain⟨q0,q1,q2,q3,q4,q5,q6,q7,q8,q9,q10,q11⟩:=HCL.out wr hx
    by_cases hjt:j<N
    ·have hjt':(j:Int)<N:=by omega
     obtain⟨p,hp⟩:∃p,ps[j]?=some p:=⟨_,List.getElem?_eq_getElem (by rw [HNN.out];exact hjt)⟩
     obtain rfl:=HG.out (by omega)
     have hpm:=List.mem_of_getElem? hp
     have hpv:(ps.map Pj.v)[j]?=some p.v:=by rw [List.getElem?_map,hp];rfl
     obtain⟨rr,hrr⟩:∃rr,P2++((ps.map Pj.v).take j).flatMap jbB=rr:=⟨_,rfl⟩
     have hrl:rr.length=P2.length+(((ps.map Pj.v).take j).flatMap jbB).length:=by rw [← hrr,List.length_append]
     have hft:=flat_take jbB (ps.map Pj.v) (j+1)
     rw [jb_take hpv,List.length_append,jb_len]at hft
     have HRR:Hid (P2++((ps.map Pj.v).take (j+1)).flatMap jbB=rr++jbB p.v):=(show _=_ from by rw [jb_take hpv,←List.append_assoc,hrr])
     rw [hrr]at ho
     have HO:Hid (OwB wr W0.heap.size u3 rr):=ho
     have hlen:rr.length+64+p.v.set.length*8≤2200000000:=by omega
     obtain⟨a0,a1,a2,a3,a4,a5,a6,a7⟩:=HROW.out wr HXw2.out j p hp
     have HSE:Hid (∀x,Below w.heap.size w x→IntsAt x p.sa p.v.set):=fun x b=>HSETS.out x b p hpm
     have HSG:Hid (∀g o k,p.sa=some ⟨g,o,k⟩→0<p.v.set.length→g<w.heap.size):=HSN.out p hpm
     have HJB:Hid (jbB p.v=numsB [p.v.ac,p.v.nd,p.v.lm,p.v.sb,p.v.st,p.v.sr,p.v.en]++(be8 p.v.set.length++numsB p.v.set)):=rfl
     clear hp hpm hpv hrr hft
     obtain⟨⟨ac,nd,lm,sb,st,sr,en,xs⟩,sa,sc⟩:=p
     dsimp only [Pj.jb]at a0 a1 a2 a3 a4 a5 a6 a7 HRR HSE HSG HJB hlen
     go_upto_region 20 with fail
     obtain⟨Wa,hWa⟩:∃Wa,wr.alloc (.cells #[.int .i64 ac,.int .i64 nd,.int .i64 lm,.int .i64 sb,.int .i64 st,.int .i64 sr,.int .i64 en,.slice sa xs.length sc] 55)=Wa:=⟨_,rfl⟩
     have ba:Below wr.heap.size wr Wa:=by rw [← hWa];exact(Below.refl _ wr).alloc (Nat.le_refl _) _
     have za:Wa.heap.size=wr.heap.size+1:=by rw [← hWa];simp
     have hga:Wa.heap[wr.heap.size]?=some (.cells #[.int .i64 ac,.int .i64 nd,.int .i64 lm,.int .i64 sb,.int .i64 st,.int .i64 sr,.int .i64 en,.slice sa xs.length sc] 55 (0,0)):=by rw [← hWa];exact heap_alloc_new wr _
     have HBX:Hid (∀ {x:World} {u:Value},Gr Wa x u3 u→x.cell? ⟨wr.heap.size,0,none⟩=some (.int .i64 ac)∧x.cell? ⟨wr.heap.size,1,none⟩=some (.int .i64 nd)∧x.cell? ⟨wr.heap.size,2,none⟩=some (.int .i64 lm)∧x.cell? ⟨wr.heap.size,3,none⟩=some (.int .i64 sb)∧x.cell? ⟨wr.heap.size,4,none⟩=some (.int .i64 st)∧x.cell? ⟨wr.heap.size,5,none⟩=some (.int .i64 sr)∧x.cell? ⟨wr.heap.size,6,none⟩=some (.int .i64 en)∧x.cell? ⟨wr.heap.size,7,none⟩=some (.slice sa xs.length sc)):=fun {x u} g=>by
      have hb:=(g.g.block wr.heap.size (by rw [za];omega) (fun e=>by have:=(ho.low _ e.symm).2;omega)).trans hga
      exact⟨cells_at hb rfl,cells_at hb rfl,cells_at hb rfl,cells_at hb rfl,cells_at hb rfl,cells_at hb rfl,cells_at hb rfl,cells_at hb rfl⟩
     have HOa:Hid (OwB Wa W0.heap.size u3 rr):=ho.alloc ba
     have HBa:Hid (W0.heap.size≤Wa.heap.size):=Nat.le_trans hx.size ba.size
     have HXa:Hid (Below W0.heap.size W0 Wa):=hx.trans (ba.mono hx.size)
     obtain⟨Wb,hWb⟩:∃Wb,Wa.alloc (.cells #[.int .i64 ac,.int .i64 nd,.int .i64 lm,.int .i64 sb,.int .i64 st,.int .i64 sr,.int .i64 en,.int .i64 (xs.length:Int)] 3)=Wb:=⟨_,rfl⟩
     have hli:=flit_any (l:= [ac,nd,lm,sb,st,sr,en,(xs.length:Int)]) rfl hWb (.inl HOa.out) HBa.out (Nat.succ_pos _) (by show rr.length+8*8≤_;omega)
     have HLI:Hid _:=hli
     obtain⟨g0,g1,g2,g3,g4,g5,g6,g7⟩:=HBX.out (Gr.refl Wa u3)
     rw [hWa]
     clear ho hx ba hga hli hrl hWa za a0 a1 a2 a3 a4 a5 a6 a7 q0 q1 q2 q3 q4 q5 q6 q7 q8 q9 q10 q11
     go_upto_region 21 with(go_at_call 61;refine(show Calls _ _ _ _ _ from HLI.out).mono ?_;rintro e w5 ⟨v5,rfl,o5,g5⟩;have HO5:Hid (OwB w5 W0.heap.size v5 (rr++numsB [ac,nd,lm,sb,st,sr,en,(xs.length:Int)])):=o5;have HG5:Hid (Gr Wa w5 u3 v5):=g5;clear o5 g5)
     clear g0 g1 g2 g3 g4 g5 g6 g7 hWb HLI
     obtain⟨f0,f1,f2,f3,f4,f5,f6,f7⟩:=HBX.out HG5.out
     have hxw5:Below w.heap.size w w5:=HB0.out.trans ((HXa.out.trans (HOa.out.grow HBa.out HG5.out)).mono HB0.out.size)
     have hl5:(rr++numsB [ac,nd,lm,sb,st,sr,en,(xs.length:Int)]).length=rr.length+64:=by rw [List.length_append,nums_len];rfl
     have hnu:=fnumbers_any (c:=sc) (.inl HO5.out) (Nat.le_trans HBa.out HG5.out.g.size) (HSE.out w5 hxw5) (fun g o s e h0 hv=>by have h1:=HSG.out g o s e h0;have h2:=(HO5.out.low _ hv).1;have h3:=HB0.out.size;have h4:=HZ0.out;omega) (.inr HO5.out) (by omega) (by rw [hl5];omega)
     have HNU:Hid _:=hnu
     clear hnu hxw5
     go_wp2_with (go_at_call 61;refine(show Calls _ _ _ _ _ from HNU.out).mono ?_;rintro e w8 ⟨v8,rfl,o8,g8⟩;have HO8:Hid (OwB w8 W0.heap.size v8 (rr++numsB [ac,nd,lm,sb,st,sr,en,(xs.length:Int)]++numsB xs)):=o8;have HG8:Hid (Gr Wa w8 u3 v8):=HG5.out.trans g8;clear o8 g8)
     go_roundg (N - (j+1))
     case measure=>omega
     case rel=>
      refine⟨j+1,by omega,rfl,?_,HXa.out.trans (HOa.out.grow HBa.out HG8.out)⟩
      rw [HRR.out,HJB.out]
      have e9:rr++numsB [ac,nd,lm,sb,st,sr,en,(xs.length:Int)]++numsB xs=rr++(numsB [ac,nd,lm,sb,st,sr,en]++(be8 xs.length++numsB xs)):=by simp [numsB]
      rw [← e9]
      exact HO8.out
    ·have hjt':¬(j:Int)<N:=by omega
     rw [List.take_of_length_le (by rw [List.length_map,HNN.out];omega)]at ho
     have HE:Hid (P2++(ps.map Pj.v).flatMap jbB=ST):=(show _=_ from by rw [HST.out,←HP2.out,←HP1.out,HP0.out];simp [numsB])
     rw [HE.out]at ho
     have HOE:Hid (OwB wr w.heap.size u3 ST):=World.ownsRow.mono ho HB0.out.size
     have HXE:Hid (Below w.heap.size w wr):=HXw2.out
     clear ho hx
     go_wp2
     go_ret
     exact⟨u3,rfl,HOE.out,HXE.out⟩
end Go.Proofs.YtceoibfliggalaaGreatDoor
namespace Go.Proofs.YtceoibfliggalaaGreatDoor
open Go.RowKit Wd Tr Cg Ld Lg
set_option maxRecDepth 20000 in
set_option maxHeartbeats 2000000 in
theorem fput_any {w:World} (c:Cf) (now:Int) {ao:Option Addr} {la:List Ac} {ca:Nat} {jo:Option Addr} {ps:List Pj} {cj:Nat} (hd:Int) (h:StIn w ao la ca jo ps cj) (h48:la.length*48≤140737488355328) (hz:(stB ⟨c,now,la,ps.map Pj.v,hd⟩).length≤2200000000):
  Calls Tryz.prog 12 #[.agg (stL c now ao la.length ca jo ps.length cj hd)] w fun e w'=>(if auditV (chkZ c) ⟨c,now,la,ps.map Pj.v,hd⟩=0 then ∃v,e=.returned (.tuple #[v,.int .i64 0])∧OwB w' w.heap.size v (stB ⟨c,now,la,ps.map Pj.v,hd⟩)else e=.returned (.tuple #[.slice none 0 0,.int .i64 191]))∧Below w.heap.size w w':=by
 obtain⟨W,hW⟩:∃W,w.alloc (.cells (stL c now ao la.length ca jo ps.length cj hd) 27)=W:=⟨_,rfl⟩
 have bW:Below w.heap.size w W:=by rw [← hW];exact(Below.refl _ w).alloc (Nat.le_refl _) _
 have hbox:W.heap[w.heap.size]?=some (.cells (stL c now ao la.length ca jo ps.length cj hd) 27 (0,0)):=by rw [← hW];exact heap_alloc_new w _
 unfold stL at hbox hW
 have HCL:Hid (∀x:World,Below W.heap.size W x→x.cell? ⟨w.heap.size,0,none⟩=some (.int .i64 c.nodes)∧x.cell? ⟨w.heap.size,1,none⟩=some (.int .i64 c.queue)∧x.cell? ⟨w.heap.size,2,none⟩=some (.int .i64 c.limit)∧x.cell? ⟨w.heap.size,3,none⟩=some (.int .i64 c.age)∧x.cell? ⟨w.heap.size,4,none⟩=some (.int .i64 c.fair)∧x.cell? ⟨w.heap.size,5,none⟩=some (.int .i64 c.size)∧x.cell? ⟨w.heap.size,6,none⟩=some (.int .i64 c.period)∧x.cell? ⟨w.heap.size,7,none⟩=some (.int .i64 c.half)∧x.cell? ⟨w.heap.size,8,none⟩=some (.int .i64 now)∧x.cell? ⟨w.heap.size,9,none⟩=some (.slice ao la.length ca)∧x.cell? ⟨w.heap.size,10,none⟩=some (.slice jo ps.length cj)∧x.cell? ⟨w.heap.size,11,none⟩=some (.int .i64 hd)):=fun x b=>⟨cellB b (cells_at hbox rfl),cellB b (cells_at hbox rfl),cellB b (cells_at hbox rfl),cellB b (cells_at hbox rfl),cellB b (cells_at hbox rfl),cellB b (cells_at hbox rfl),cellB b (cells_at hbox rfl),cellB b (cells_at hbox rfl),cellB b (cells_at hbox rfl),cellB b (cells_at hbox rfl),cellB b (cells_at hbox rfl),cellB b (cells_at hbox rfl)⟩
 have HUC:Hid (Calls Tryz.prog 21 #[.agg #[.int .i64 c.nodes,.int .i64 c.queue,.int .i64 c.limit,.int .i64 c.age,.int .i64 c.fair,.int .i64 c.size,.int .i64 c.period,.int .i64 c.half,.int .i64 now,.slice ao la.length ca,.slice jo ps.length cj,.int .i64 hd]] W fun e w'=>e=.returned (.int .i64 (auditV (chkZ c) ⟨c,now,la,ps.map Pj.v,hd⟩))∧Below W.heap.size W w'):=by
  have:=ucheck_any c now ca cj hd ((h.below bW).acs) ((h.below bW).us) h48 (h.below bW).jobs (by have:=h.l80;omega) h.jcap (fun p hp=>by have:=h.sl p hp;omega)
  unfold stL at this
  exact this
 have HBY:Hid (∀x,Below w.heap.size w x→Calls Tryz.prog 29 #[.agg #[.int .i64 c.nodes,.int .i64 c.queue,.int .i64 c.limit,.int .i64 c.age,.int .i64 c.fair,.int .i64 c.size,.int .i64 c.period,.int .i64 c.half,.int .i64 now,.slice ao la.length ca,.slice jo ps.length cj,.int .i64 hd]] x fun e w'=>∃v,e=.returned v∧OwB w' x.heap.size v (stB ⟨c,now,la,ps.map Pj.v,hd⟩)∧Below x.heap.size x w'):=fun x b=>by
  have:=fbytes_any c now hd (h.below b) hz
  unfold stL at this
  exact this
 have HBW:Hid (Below w.heap.size w W):=bW
 clear h h48 hz bW hbox
 unfold stL
 generalize auditV (chkZ c) ⟨c,now,la,ps.map Pj.v,hd⟩=AV at *
 generalize stB ⟨c,now,la,ps.map Pj.v,hd⟩=ST at *
 obtain⟨q0,q1,q2,q3,q4,q5,q6,q7,q8,q9,q10,q11⟩:=HCL.out W (Below.refl _ _)
 by_cases hv:AV=0
 ·subst hv
  simp only [↓reduceIte]
  go_enter Tryz.func12,Tryz.ntmps12
  go_upto_region 3 with(go_at_call 21;refine HUC.out.mono ?_;rintro e w1 ⟨rfl,b1⟩;have HB1:Hid (Below W.heap.size W w1):=b1;have HX1:Hid (Below w.heap.size w w1):=HBW.out.trans (b1.mono HBW.out.size);clear b1)
  clear hW q0 q1 q2 q3 q4 q5 q6 q7 q8 q9 q10 q11
  obtain⟨q0,q1,q2,q3,q4,q5,q6,q7,q8,q9,q10,q11⟩:=HCL.out w1 HB1.out
  go_wp2_with (go_at_call 29;refine(HBY.out w1 HX1.out).mono ?_;rintro e w2 ⟨v2,rfl,o2,b2⟩;have HO2:Hid (OwB w2 w.heap.size v2 ST):=World.ownsRow.mono o2 HX1.out.size;have HX2:Hid (Below w.heap.size w w2):=HX1.out.trans (b2.mono HX1.out.size);clear o2 b2)
  go_ret2
  exact⟨⟨v2,rfl,HO2.out⟩,HX2.out⟩
 ·have hne:(AV != 0)=true:=by simpa using hv
  simp only [if_neg hv]
  have HV:Hid (¬AV=0):=hv
  clear hv
  go_enter Tryz.func12,Tryz.ntmps12
  go_wp2_with (go_at_call 21;refine HUC.out.mono ?_;rintro e w1 ⟨rfl,b1⟩;have HX1:Hid (Below w.heap.size w w1):=HBW.out.trans (b1.mono HBW.out.size);clear b1)
  go_ret2
  exact⟨rfl,HX1.out⟩
end Go.Proofs.YtceoibfliggalaaGreatDoor
namespace Go.Proofs.YtceoibfliggalaaGreatDoor
open Go.RowKit Wd Tr Cg Lg
theorem lt_of_blk {W:World} {i:Nat} {o:Obj} (h:W.heap[i]?=some o):i<W.heap.size:=(Array.getElem?_eq_some_iff.1 h).1
theorem tag_ne {W:World} {B B' e e' sz sz' n n':Nat} {v v':Value} {xs xs':List Value} (h:W.ownsRow B e sz v n xs) (h':W.ownsRow B' e' sz' v' n' xs') (he:e≠e'):∀g,v.ownBlock=some g→v'.ownBlock≠some g:=by
 intro g hg hg'
 rcases h.2 with⟨rfl,_⟩ | ⟨b,cap,cur,rfl,_,h2,_⟩
 ·cases hg
 ·rcases h'.2 with⟨rfl,_⟩ | ⟨b',cap',cur',rfl,_,h2',_⟩
  ·cases hg'
  ·cases hg
   cases hg'
   rw [h2]at h2'
   cases h2'
   exact he rfl
theorem row_grown {W w':World} {B B' e e' sz sz' n n':Nat} {v v':Value} {xs xs':List Value} (h:W.ownsRow B e sz v n xs) (h':W.ownsRow B' e' sz' v' n' xs') (he:e≠e') (g:W.grownBy w' v'.ownBlock):w'.ownsRow B e sz v n xs:=
 row_stand h (fun k hk=>g.block k (h.lt k hk).2 (fun e2=>tag_ne h h' he k hk e2.symm))
theorem row_set {W:World} {B e sz n X:Nat} {v:Value} {xs:List Value} {cs:Array Value} {t:TypeId} {fz:Nat×Nat} (h:W.ownsRow B e sz v n xs) (hX:W.heap[X]?=some (.cells cs t fz)) (he:e≠t) (i:Nat) (u:Value):(W.setCell ⟨X,i,none⟩ u).ownsRow B e sz v n xs:=by
 refine row_stand h (fun k hk=>Below.heap_setCell _ _ _ _ (show k≠X from fun e2=>?_))
 subst e2
 rcases h.2 with⟨rfl,_⟩ | ⟨b,cap,cur,rfl,_,h2,_⟩
 ·cases hk
 ·cases hk
  rw [h2]at hX
  cases hX
  exact he rfl
theorem box_grown {W w':World} {B e sz n X:Nat} {v:Value} {xs:List Value} {cs:Array Value} {t:TypeId} {fz:Nat×Nat} (hX:W.heap[X]?=some (.cells cs t fz)) (h:W.ownsRow B e sz v n xs) (he:e≠t) (g:W.grownBy w' v.ownBlock):w'.heap[X]?=some (.cells cs t fz):=by
 refine(g.block X (lt_of_blk hX) (fun e2=>?_)).trans hX
 rcases h.2 with⟨rfl,_⟩ | ⟨b,cap,cur,rfl,_,h2,_⟩
 ·cases e2
 ·cases e2
  rw [h2]at hX
  cases hX
  exact he rfl
def markA:Ac:=⟨⟨#[109,97,114,107]⟩,0,0,false,0⟩
def markJ:Pj:=⟨⟨-77,0,0,0,0,0,0,[]⟩,none,0⟩
def slV (q:Pj):Value:=.slice q.sa (q.v.set.length+1) q.sc
theorem bel_grown {B e sz n C:Nat} {w W w':World} {v:Value} {xs:List Value} (b:Below C w W) (hB:C≤W.heap.size) (hC:C≤B) (r:W.ownsRow B e sz v n xs) (g:W.grownBy w' v.ownBlock):Below C w w':=
 ⟨g.os.trans b.os,g.tape.trans b.tape,g.output.trans b.output,Nat.le_trans b.size g.size,fun k hk=>(g.block k (Nat.lt_of_lt_of_le hk hB) (fun e=>by have:=(r.lt k e.symm).1;omega)).trans (b.block k hk)⟩
def setsW (b:Nat):List Value→Nat→World→World
 | [],_,W=>W
 | v::l,i,W=>setsW b l (i+1) (W.setCell ⟨b,i,none⟩ v)
def setsA:List Value→Nat→Array Value→Array Value
 | [],_,cs=>cs
 | v::l,i,cs=>setsA l (i+1) (cs.setIfInBounds i v)
theorem sets_blk (b:Nat) (t:TypeId):∀(l:List Value) (i:Nat) (W:World) (cs:Array Value),W.heap[b]?=some (.cells cs t (0,0))→(setsW b l i W).heap[b]?=some (.cells (setsA l i cs) t (0,0))
 | [],_,_,_,h=>h
 | v::l,i,W,cs,h=>sets_blk b t l (i+1) _ _ (heap_setCell_same W b i cs t v h)
theorem sets_bel {B b:Nat} {w:World} (hb:B≤b):∀(l:List Value) (i:Nat) (W:World),Below B w W→Below B w (setsW b l i W)
 | [],_,_,h=>h
 | v::l,i,_,h=>sets_bel hb l (i+1) _ (h.setCell (p:=⟨b,i,none⟩) hb v)
structure Lnd (w':World) (B:Nat) (la:List Ac) (va vj vs:Value) (js ss:List Pj):Prop where
 acc:w'.ownsRow B 52 5 va (la.length+1) (flatA (la++ [markA]))
 job:w'.ownsRow B 55 8 vj js.length (flatJ js)
 row:w'.ownsRow B 53 1 vs ss.length (ss.map slV)
 sets:∀q∈ss,w'.ownsRow B 3 1 (slV q) (q.v.set.length+1) (i64s (q.v.set++ [-77]))
theorem Lnd.stand {w w':World} {B:Nat} {la:List Ac} {va vj vs:Value} {js ss:List Pj} (h:Lnd w B la va vj vs js ss) (b:Below w.heap.size w w'):Lnd w' B la va vj vs js ss:=
 ⟨row_stand h.acc (fun k hk=>b.block k (h.acc.lt k hk).2),row_stand h.job (fun k hk=>b.block k (h.job.lt k hk).2),row_stand h.row (fun k hk=>b.block k (h.row.lt k hk).2),fun q hq=>row_stand (h.sets q hq) (fun k hk=>b.block k ((h.sets q hq).lt k hk).2)⟩
theorem Lnd.set {w:World} {B X:Nat} {la:List Ac} {va vj vs:Value} {js ss:List Pj} {cs:Array Value} (h:Lnd w B la va vj vs js ss) (hX:w.heap[X]?=some (.cells cs 33 (0,0))) (i:Nat) (u:Value):Lnd (w.setCell ⟨X,i,none⟩ u) B la va vj vs js ss:=
 ⟨row_set h.acc hX (by decide) i u,row_set h.job hX (by decide) i u,row_set h.row hX (by decide) i u,fun q hq=>row_set (h.sets q hq) hX (by decide) i u⟩
theorem Lnd.setAll {B b:Nat} {la:List Ac} {va vj vs:Value} {js ss:List Pj}:∀(l:List Value) (i:Nat) (w:World) (cs:Array Value),w.heap[b]?=some (.cells cs 33 (0,0))→Lnd w B la va vj vs js ss→Lnd (setsW b l i w) B la va vj vs js ss
 | [],_,_,_,_,h=>h
 | v::l,i,w,cs,hX,h=>Lnd.setAll l (i+1) _ _ (heap_setCell_same w b i cs 33 v hX) (h.set hX i v)
theorem Lnd.rowUp {w w':World} {B:Nat} {la:List Ac} {va vj vs vs':Value} {js ss:List Pj} {q:Pj} (h:Lnd w B la va vj vs js ss) (hs:w.ownsRow B 3 1 (slV q) (q.v.set.length+1) (i64s (q.v.set++ [-77]))) (g:w.grownBy w' vs.ownBlock) (r:w'.ownsRow B 53 1 vs' (ss.length+1) (ss.map slV++ [slV q])):Lnd w' B la va vj vs' js (ss++ [q]):=by
 refine⟨row_grown h.acc h.row (by decide) g,row_grown h.job h.row (by decide) g,by rw [List.map_append,List.length_append];exact r,fun p hp=>?_⟩
 rcases List.mem_append.1 hp with hp | hp
 ·exact row_grown (h.sets p hp) h.row (by decide) g
 ·obtain rfl:p=q:=by simpa using hp
  exact row_grown hs h.row (by decide) g
theorem Lnd.jobUp {w w':World} {B:Nat} {la:List Ac} {va vj vj' vs:Value} {js ss:List Pj} {q:Pj} (h:Lnd w B la va vj vs js ss) (g:w.grownBy w' vj.ownBlock) (r:w'.ownsRow B 55 8 vj' (js.length+1) (flatJ js++flatJ [q])):Lnd w' B la va vj' vs (js++ [q]) ss:=
 ⟨row_grown h.acc h.job (by decide) g,by rw [flatJ_app,List.length_append];exact r,row_grown h.row h.job (by decide) g,fun p hp=>row_grown (h.sets p hp) h.job (by decide) g⟩
structure Bx (w wr:World) (zs ss xs:Array Value):Prop where
 bel:Below w.heap.size w wr
 box:wr.heap[w.heap.size+2]?=some (.cells xs 33 (0,0))
 st:wr.heap[w.heap.size]?=some (.cells ss 27 (0,0))
 res:wr.heap[w.heap.size+1]?=some (.cells zs 33 (0,0))
theorem Bx.below {w wr w':World} {zs ss xs:Array Value} (h:Bx w wr zs ss xs) (b:Below wr.heap.size wr w'):Bx w w' zs ss xs:=
 ⟨h.bel.trans (b.mono h.bel.size),(b.block _ (lt_of_blk h.box)).trans h.box,(b.block _ (lt_of_blk h.st)).trans h.st,(b.block _ (lt_of_blk h.res)).trans h.res⟩
theorem Bx.grown {w wr w':World} {zs ss xs:Array Value} {e sz n:Nat} {v:Value} {l:List Value} (h:Bx w wr zs ss xs) (r:wr.ownsRow w.heap.size e sz v n l) (h1:e≠33) (h2:e≠27) (g:wr.grownBy w' v.ownBlock):Bx w w' zs ss xs:=
 ⟨bel_grown h.bel h.bel.size (Nat.le_refl _) r g,box_grown h.box r h1 g,box_grown h.st r h2 g,box_grown h.res r h1 g⟩
theorem Bx.set {w wr:World} {zs ss xs ys:Array Value} {i:Nat} {u:Value} (h:Bx w wr zs ss xs) (hy:(wr.setCell ⟨w.heap.size+2,i,none⟩ u).heap[w.heap.size+2]?=some (.cells ys 33 (0,0))):Bx w (wr.setCell ⟨w.heap.size+2,i,none⟩ u) zs ss ys:=
 ⟨h.bel.setCell (show w.heap.size≤w.heap.size+2 by omega) _,hy,(Below.heap_setCell _ _ _ _ (show w.heap.size≠w.heap.size+2 by omega)).trans h.st,(Below.heap_setCell _ _ _ _ (show w.heap.size+1≠w.heap.size+2 by omega)).trans h.res⟩
end Go.Proofs.YtceoibfliggalaaGreatDoor
namespace Go.Proofs.YtceoibfliggalaaGreatDoor
open Go.RowKit Wd Tr Cg Lg
theorem Tryz.infRow:(Tryz.prog.info? 53).map (fun i=>(i.zero,i.size,i.bytes))=some (some (.slice none 0 0),1,24):=by kernel_rfl
def lsC (c:Cf) (now:Int) (av jv:Value) (hd:Int) (va vj vs:Value):Array Value:= #[.int .i64 c.nodes,.int .i64 c.queue,.int .i64 c.limit,.int .i64 c.age,.int .i64 c.fair,.int .i64 c.size,.int .i64 c.period,.int .i64 c.half,.int .i64 now,av,jv,.int .i64 hd,va,vj,vs]
structure Lent (w':World) (B:Nat) (la:List Ac) (ps:List Pj) (ga ca gj cj:Nat) (vs:Value) (qs:List Pj):Prop where
 lnd:Lnd w' B la (.slice (some ⟨ga,0,none⟩) (la.length+1) ca) (.slice (some ⟨gj,0,none⟩) (ps.length+1) cj) vs (qs++ [markJ]) qs
 vals:qs.map Pj.v=ps.map Pj.v
theorem own_some {W:World} {B e sz n:Nat} {v:Value} {xs:List Value} (h:W.ownsRow B e sz v (n+1) xs):∃g cap,v=.slice (some ⟨g,0,none⟩) (n+1) cap∧n+1≤cap:=by
 rcases h.2 with⟨_,h0⟩ | ⟨g,cap,cur,h1,_,_,h3,_⟩
 ·omega
 ·exact ⟨g,cap,h1,h3⟩
set_option maxRecDepth 20000 in
set_option maxHeartbeats 8000000 in
theorem lend_any {w:World} (c:Cf) (now:Int) {ao:Option Addr} {la:List Ac} {ca:Nat} {jo:Option Addr} {ps:List Pj} {cj:Nat} (hd:Int) (h:StIn w ao la ca jo ps cj) (hla:la.length≤2147483647) (hps:ps.length≤2147483647) (hsl:∀p∈ps,p.v.set.length≤2147483647):
  Calls Tryz.prog 10 #[.agg (stL c now ao la.length ca jo ps.length cj hd)] w fun e w'=>∃ga ca' gj cj' vs qs,e=.returned (.agg (lsC c now (.slice (some ⟨ga,0,none⟩) la.length ca') (.slice (some ⟨gj,0,none⟩) ps.length cj') hd (.slice (some ⟨ga,0,none⟩) (la.length+1) ca') (.slice (some ⟨gj,0,none⟩) (ps.length+1) cj') vs))∧Lent w' w.heap.size la ps ga ca' gj cj' vs qs∧Below w.heap.size w w':=by
 obtain⟨i0,hi0,hz00,hz01,hz02⟩:=info_parts Tryz.inf52
 obtain⟨i1,hi1,hz10,hz11,hz12⟩:=info_parts Tryz.infInt17
 obtain⟨i2,hi2,hz20,hz21,hz22⟩:=info_parts Tryz.infJob
 obtain⟨i3,hi3,hz30,hz31,hz32⟩:=info_parts Tryz.infRow
 obtain⟨g,o,hg,hrow⟩:=row_at h.jobs
 have HROW:Hid (∀x,Below w.heap.size w x→∀(k:Nat) (q:Pj),ps[k]?=some q→JbAt x g (o+k*8) q.jb):=hrow
 have HSETS:Hid (∀x,Below w.heap.size w x→∀p∈ps,∀ad,p.sa=some ad→∀j u,(i64s p.v.set)[j]?=some u→x.cell? (ad.add j)=some u):=fun x hx p hp=>ints_flat ((h.jobs.sets p hp).below hx)
 have HSP:Hid (∀p∈ps,p.v.set.length≤2147483647∧(p.sa=none→p.v.set.length=0∧p.sc=0)):=fun p hp=>⟨hsl p hp,fun e=>by have:=h.snil p hp e;exact⟨by rw [this.1];rfl,this.2⟩⟩
 have hnil:ao=none→la.length=0∧ca=0:=fun e=>by have:=h.anil e;exact⟨by rw [this.1];rfl,this.2⟩
 have HFL:Hid (∀x,Below w.heap.size w x→∀ad,ao=some ad→∀j u,(flatA la)[j]?=some u→x.cell? (ad.add j)=some u):=fun x hx=>acs_flat (h.acs.below hx)
 have HLN:Hid ((flatA la).length=la.length*5):=flatA_len la
 obtain⟨L,hL⟩:∃L,la.length=L:=⟨_,rfl⟩
 obtain⟨N,hN⟩:∃N,ps.length=N:=⟨_,rfl⟩
 have HLL:Hid (la.length=L):=hL
 have HNN:Hid (ps.length=N):=hN
 rw [hL]at hla hnil HLN ⊢
 rw [hN]at hps hg ⊢
 have HG:Hid (0<N→jo=some ⟨g,o,none⟩):=hg
 clear h hrow hg hL hN hsl
 unfold stL
 obtain⟨A,hA⟩:∃A,w.alloc (.cells #[.int .i64 c.nodes,.int .i64 c.queue,.int .i64 c.limit,.int .i64 c.age,.int .i64 c.fair,.int .i64 c.size,.int .i64 c.period,.int .i64 c.half,.int .i64 now,.slice ao L ca,.slice jo N cj,.int .i64 hd] 27)=A:=⟨_,rfl⟩
 obtain⟨B,hB⟩:∃B,A.alloc (.cells #[.int .i64 0,.int .i64 0,.int .i64 0,.int .i64 0,.int .i64 0,.int .i64 0,.int .i64 0,.int .i64 0,.int .i64 0,.slice none 0 0,.slice none 0 0,.int .i64 0,.slice none 0 0,.slice none 0 0,.slice none 0 0] 33)=B:=⟨_,rfl⟩
 obtain⟨B0,hB0⟩:∃B0,B.alloc (.cells #[.int .i64 0,.int .i64 0,.int .i64 0,.int .i64 0,.int .i64 0,.int .i64 0,.int .i64 0,.int .i64 0,.int .i64 0,.slice none 0 0,.slice none 0 0,.int .i64 0,.slice none 0 0,.slice none 0 0,.slice none 0 0] 33)=B0:=⟨_,rfl⟩
 have zA:A.heap.size=w.heap.size+1:=by rw [← hA];simp
 have zB:B.heap.size=w.heap.size+2:=by rw [← hB];simp [zA]
 obtain⟨W,hW⟩:∃W,setsW B.heap.size [.int .i64 c.nodes,.int .i64 c.queue,.int .i64 c.limit,.int .i64 c.age,.int .i64 c.fair,.int .i64 c.size,.int .i64 c.period,.int .i64 c.half,.int .i64 now,.slice ao L ca,.slice jo N cj,.int .i64 hd,.slice none 0 0,.slice none 0 0,.slice none 0 0] 0 B0=W:=⟨_,rfl⟩
 have hW2:(((((((((((((((B0).setCell ⟨B.heap.size,0,none⟩ (.int .i64 c.nodes)).setCell ⟨B.heap.size,1,none⟩ (.int .i64 c.queue)).setCell ⟨B.heap.size,2,none⟩ (.int .i64 c.limit)).setCell ⟨B.heap.size,3,none⟩ (.int .i64 c.age)).setCell ⟨B.heap.size,4,none⟩ (.int .i64 c.fair)).setCell ⟨B.heap.size,5,none⟩ (.int .i64 c.size)).setCell ⟨B.heap.size,6,none⟩ (.int .i64 c.period)).setCell ⟨B.heap.size,7,none⟩ (.int .i64 c.half)).setCell ⟨B.heap.size,8,none⟩ (.int .i64 now)).setCell ⟨B.heap.size,9,none⟩ (.slice ao L ca)).setCell ⟨B.heap.size,10,none⟩ (.slice jo N cj)).setCell ⟨B.heap.size,11,none⟩ (.int .i64 hd)).setCell ⟨B.heap.size,12,none⟩ (.slice none 0 0)).setCell ⟨B.heap.size,13,none⟩ (.slice none 0 0)).setCell ⟨B.heap.size,14,none⟩ (.slice none 0 0)=W:=by rw [← hW];simp only [setsW,Nat.zero_add,Nat.reduceAdd]
 have bA:Below A.heap.size A B:=by rw [← hB];exact(Below.refl _ A).alloc (Nat.le_refl _) _
 have bB:Below B.heap.size B B0:=by rw [← hB0];exact(Below.refl _ B).alloc (Nat.le_refl _) _
 have bC:Below B.heap.size B W:=by rw [← hW];exact sets_bel (Nat.le_refl _) _ _ _ bB
 have bw:Below w.heap.size w A:=by rw [← hA];exact(Below.refl _ w).alloc (Nat.le_refl _) _
 have hb0:B0.heap[B.heap.size]?=some (.cells #[.int .i64 0,.int .i64 0,.int .i64 0,.int .i64 0,.int .i64 0,.int .i64 0,.int .i64 0,.int .i64 0,.int .i64 0,.slice none 0 0,.slice none 0 0,.int .i64 0,.slice none 0 0,.slice none 0 0,.slice none 0 0] 33 (0,0)):=by rw [← hB0];exact heap_alloc_new B _
 have hX:=sets_blk B.heap.size 33 [.int .i64 c.nodes,.int .i64 c.queue,.int .i64 c.limit,.int .i64 c.age,.int .i64 c.fair,.int .i64 c.size,.int .i64 c.period,.int .i64 c.half,.int .i64 now,.slice ao L ca,.slice jo N cj,.int .i64 hd,.slice none 0 0,.slice none 0 0,.slice none 0 0] 0 B0 #[.int .i64 0,.int .i64 0,.int .i64 0,.int .i64 0,.int .i64 0,.int .i64 0,.int .i64 0,.int .i64 0,.int .i64 0,.slice none 0 0,.slice none 0 0,.int .i64 0,.slice none 0 0,.slice none 0 0,.slice none 0 0] hb0
 rw [hW,zB]at hX
 simp only [setsA,List.setIfInBounds_toArray,List.set_cons_zero,List.set_cons_succ,Nat.zero_add,Nat.reduceAdd]at hX
 have HX0:Hid (Bx w W #[.int .i64 0,.int .i64 0,.int .i64 0,.int .i64 0,.int .i64 0,.int .i64 0,.int .i64 0,.int .i64 0,.int .i64 0,.slice none 0 0,.slice none 0 0,.int .i64 0,.slice none 0 0,.slice none 0 0,.slice none 0 0] #[.int .i64 c.nodes,.int .i64 c.queue,.int .i64 c.limit,.int .i64 c.age,.int .i64 c.fair,.int .i64 c.size,.int .i64 c.period,.int .i64 c.half,.int .i64 now,.slice ao L ca,.slice jo N cj,.int .i64 hd] #[.int .i64 c.nodes,.int .i64 c.queue,.int .i64 c.limit,.int .i64 c.age,.int .i64 c.fair,.int .i64 c.size,.int .i64 c.period,.int .i64 c.half,.int .i64 now,.slice ao L ca,.slice jo N cj,.int .i64 hd,.slice none 0 0,.slice none 0 0,.slice none 0 0]):=⟨bw.trans ((bA.mono (by omega)).trans (bC.mono (by omega))),hX,by rw [bC.block _ (by omega),bA.block _ (by omega),←hA];exact heap_alloc_new w _,by rw [bC.block _ (by omega),←zA,←hB];exact heap_alloc_new A _⟩
 have z0:B0.cell? ⟨B.heap.size,0,none⟩=some (.int .i64 0):=cells_at hb0 rfl
 have f0:B0.frozen? ⟨B.heap.size,0,none⟩=false:=frozen_at hb0
 have z1:B0.cell? ⟨B.heap.size,1,none⟩=some (.int .i64 0):=cells_at hb0 rfl
 have f1:B0.frozen? ⟨B.heap.size,1,none⟩=false:=frozen_at hb0
 have z2:B0.cell? ⟨B.heap.size,2,none⟩=some (.int .i64 0):=cells_at hb0 rfl
 have f2:B0.frozen? ⟨B.heap.size,2,none⟩=false:=frozen_at hb0
 have z3:B0.cell? ⟨B.heap.size,3,none⟩=some (.int .i64 0):=cells_at hb0 rfl
 have f3:B0.frozen? ⟨B.heap.size,3,none⟩=false:=frozen_at hb0
 have z4:B0.cell? ⟨B.heap.size,4,none⟩=some (.int .i64 0):=cells_at hb0 rfl
 have f4:B0.frozen? ⟨B.heap.size,4,none⟩=false:=frozen_at hb0
 have z5:B0.cell? ⟨B.heap.size,5,none⟩=some (.int .i64 0):=cells_at hb0 rfl
 have f5:B0.frozen? ⟨B.heap.size,5,none⟩=false:=frozen_at hb0
 have z6:B0.cell? ⟨B.heap.size,6,none⟩=some (.int .i64 0):=cells_at hb0 rfl
 have f6:B0.frozen? ⟨B.heap.size,6,none⟩=false:=frozen_at hb0
 have z7:B0.cell? ⟨B.heap.size,7,none⟩=some (.int .i64 0):=cells_at hb0 rfl
 have f7:B0.frozen? ⟨B.heap.size,7,none⟩=false:=frozen_at hb0
 have z8:B0.cell? ⟨B.heap.size,8,none⟩=some (.int .i64 0):=cells_at hb0 rfl
 have f8:B0.frozen? ⟨B.heap.size,8,none⟩=false:=frozen_at hb0
 have z9:B0.cell? ⟨B.heap.size,9,none⟩=some (.slice none 0 0):=cells_at hb0 rfl
 have f9:B0.frozen? ⟨B.heap.size,9,none⟩=false:=frozen_at hb0
 have z10:B0.cell? ⟨B.heap.size,10,none⟩=some (.slice none 0 0):=cells_at hb0 rfl
 have f10:B0.frozen? ⟨B.heap.size,10,none⟩=false:=frozen_at hb0
 have z11:B0.cell? ⟨B.heap.size,11,none⟩=some (.int .i64 0):=cells_at hb0 rfl
 have f11:B0.frozen? ⟨B.heap.size,11,none⟩=false:=frozen_at hb0
 have z12:B0.cell? ⟨B.heap.size,12,none⟩=some (.slice none 0 0):=cells_at hb0 rfl
 have f12:B0.frozen? ⟨B.heap.size,12,none⟩=false:=frozen_at hb0
 have z13:B0.cell? ⟨B.heap.size,13,none⟩=some (.slice none 0 0):=cells_at hb0 rfl
 have f13:B0.frozen? ⟨B.heap.size,13,none⟩=false:=frozen_at hb0
 have z14:B0.cell? ⟨B.heap.size,14,none⟩=some (.slice none 0 0):=cells_at hb0 rfl
 have f14:B0.frozen? ⟨B.heap.size,14,none⟩=false:=frozen_at hb0
 clear hb0
 have c9:W.cell? ⟨w.heap.size,9,none⟩=some (.slice ao L ca):=cells_at HX0.out.st rfl
 have c12:W.cell? ⟨w.heap.size+2,12,none⟩=some (.slice none 0 0):=cells_at HX0.out.box rfl
 have HC1:Hid (∀ad,ao=some ad→∀j u,(flatA la)[j]?=some u→W.cell? (ad.add j)=some u):=HFL.out W HX0.out.bel
 have hsb:B.heap[w.heap.size]?=some (.cells #[.int .i64 c.nodes,.int .i64 c.queue,.int .i64 c.limit,.int .i64 c.age,.int .i64 c.fair,.int .i64 c.size,.int .i64 c.period,.int .i64 c.half,.int .i64 now,.slice ao L ca,.slice jo N cj,.int .i64 hd] 27 (0,0)):=by rw [bA.block _ (by omega),←hA];exact heap_alloc_new w _
 have p0:B.cell? ⟨w.heap.size,0,none⟩=some (.int .i64 c.nodes):=cells_at hsb rfl
 have p1:B.cell? ⟨w.heap.size,1,none⟩=some (.int .i64 c.queue):=cells_at hsb rfl
 have p2:B.cell? ⟨w.heap.size,2,none⟩=some (.int .i64 c.limit):=cells_at hsb rfl
 have p3:B.cell? ⟨w.heap.size,3,none⟩=some (.int .i64 c.age):=cells_at hsb rfl
 have p4:B.cell? ⟨w.heap.size,4,none⟩=some (.int .i64 c.fair):=cells_at hsb rfl
 have p5:B.cell? ⟨w.heap.size,5,none⟩=some (.int .i64 c.size):=cells_at hsb rfl
 have p6:B.cell? ⟨w.heap.size,6,none⟩=some (.int .i64 c.period):=cells_at hsb rfl
 have p7:B.cell? ⟨w.heap.size,7,none⟩=some (.int .i64 c.half):=cells_at hsb rfl
 have p8:B.cell? ⟨w.heap.size,8,none⟩=some (.int .i64 now):=cells_at hsb rfl
 have p9:B.cell? ⟨w.heap.size,9,none⟩=some (.slice ao L ca):=cells_at hsb rfl
 have p10:B.cell? ⟨w.heap.size,10,none⟩=some (.slice jo N cj):=cells_at hsb rfl
 have p11:B.cell? ⟨w.heap.size,11,none⟩=some (.int .i64 hd):=cells_at hsb rfl
 clear hsb
 have HZA:Hid (A.heap.size=w.heap.size+1):=zA
 have HZB:Hid (B.heap.size=w.heap.size+2):=zB
 clear HFL zA zB bA bB bC bw
 obtain⟨zs,hzs⟩:∃zs:Array Value,zs= #[.int .i64 0,.int .i64 0,.int .i64 0,.int .i64 0,.int .i64 0,.int .i64 0,.int .i64 0,.int .i64 0,.int .i64 0,.slice none 0 0,.slice none 0 0,.int .i64 0,.slice none 0 0,.slice none 0 0,.slice none 0 0]:=⟨_,rfl⟩
 obtain⟨ss,hss⟩:∃ss:Array Value,ss= #[.int .i64 c.nodes,.int .i64 c.queue,.int .i64 c.limit,.int .i64 c.age,.int .i64 c.fair,.int .i64 c.size,.int .i64 c.period,.int .i64 c.half,.int .i64 now,.slice ao L ca,.slice jo N cj,.int .i64 hd]:=⟨_,rfl⟩
 rw [← hzs,←hss]at HX0
 have HZS:Hid (zs= #[.int .i64 0,.int .i64 0,.int .i64 0,.int .i64 0,.int .i64 0,.int .i64 0,.int .i64 0,.int .i64 0,.int .i64 0,.slice none 0 0,.slice none 0 0,.int .i64 0,.slice none 0 0,.slice none 0 0,.slice none 0 0]):=hzs
 have HSS:Hid (ss= #[.int .i64 c.nodes,.int .i64 c.queue,.int .i64 c.limit,.int .i64 c.age,.int .i64 c.fair,.int .i64 c.size,.int .i64 c.period,.int .i64 c.half,.int .i64 now,.slice ao L ca,.slice jo N cj,.int .i64 hd]):=hss
 clear hzs hss
 go_enter Tryz.func10,Tryz.ntmps10
 go_upto_region 2 with fail
 rw [HZA.out,HZB.out]
 clear hA hB hB0 hW hW2 z0 f0 z1 f1 z2 f2 z3 f3 z4 f4 z5 f5 z6 f6 z7 f7 z8 f8 z9 f9 z10 f10 z11 f11 z12 f12 z13 f13 z14 f14 p0 p1 p2 p3 p4 p5 p6 p7 p8 p9 p10 p11
 obtain⟨v0,hv0⟩:∃v0,Value.slice none 0 0=v0:=⟨_,rfl⟩
 have HR0:Hid (W.ownsRow w.heap.size 52 5 v0 0 []):=by show World.ownsRow _ _ _ _ _ _ _;rw [← hv0];exact own_nil _ _ _ _
 rw [hv0]at c12
 clear hv0
 go_upto_region 3 with(at_builtin;refine wpList_append_mv rfl (.tmp 10) (.tmp 12) 24 rfl w.heap.size 52 i0 _ 5 48 Tryz.underlying24 hi0 hz00 hz01 hz02 rfl (by decide) v0 0 [] rfl HR0.out ao L ca (flatA la) rfl hnil HLN.out HC1.out (flatA_one la) ?_ ?_ ?_ ?_;exact(Nat.le_trans (m:=35184372088832) (by omega) (by decide));omega;exact HX0.out.bel.size;intro v1 V o1 g1 m1;rw [Nat.zero_add,List.nil_append]at o1;obtain⟨a1,c1,rfl,_,_,_⟩:=own_val o1;have HO1:Hid (V.ownsRow w.heap.size 52 5 (.slice a1 L c1) L (flatA la)):=o1;have HV1:Hid (Bx w V zs ss #[.int .i64 c.nodes,.int .i64 c.queue,.int .i64 c.limit,.int .i64 c.age,.int .i64 c.fair,.int .i64 c.size,.int .i64 c.period,.int .i64 c.half,.int .i64 now,.slice ao L ca,.slice jo N cj,.int .i64 hd,.slice none 0 0,.slice none 0 0,.slice none 0 0]):=HX0.out.grown HR0.out (by decide) (by decide) g1;have x12:=cells_at (k:=12) HV1.out.box rfl;have f12:=frozen_at (k:=12) HV1.out.box;clear o1 g1 m1)
 have HX1:Hid (Bx w (V.setCell ⟨w.heap.size+2,12,none⟩ (.slice a1 L c1)) zs ss #[.int .i64 c.nodes,.int .i64 c.queue,.int .i64 c.limit,.int .i64 c.age,.int .i64 c.fair,.int .i64 c.size,.int .i64 c.period,.int .i64 c.half,.int .i64 now,.slice ao L ca,.slice jo N cj,.int .i64 hd,.slice a1 L c1,.slice none 0 0,.slice none 0 0]):=HV1.out.set (heap_setCell_same V (w.heap.size+2) 12 _ 33 _ HV1.out.box)
 have HA1:Hid ((V.setCell ⟨w.heap.size+2,12,none⟩ (.slice a1 L c1)).ownsRow w.heap.size 52 5 (.slice a1 L c1) L (flatA la)):=row_set HO1.out HV1.out.box (by decide) 12 _
 obtain⟨V1,hV1⟩:∃V1,V.setCell ⟨w.heap.size+2,12,none⟩ (.slice a1 L c1)=V1:=⟨_,rfl⟩
 rw [hV1]at HA1 HX1 ⊢
 clear hV1 x12 f12 c9 c12 HV1 HO1 HX0 HC1 HLN hnil HR0
 have d12:V1.cell? ⟨w.heap.size+2,12,none⟩=some (.slice a1 L c1):=cells_at HX1.out.box rfl
 obtain⟨V2,hV2⟩:∃V2,V1.alloc (.cells #[.string {data:= #[109,97,114,107]},.int .i64 0,.int .i64 0,.bool false,.int .u64 0] 52)=V2:=⟨_,rfl⟩
 have b2:Below V1.heap.size V1 V2:=by rw [← hV2];exact(Below.refl _ V1).alloc (Nat.le_refl _) _
 have HA2:Hid (V2.ownsRow w.heap.size 52 5 (.slice a1 L c1) L (flatA la)):=row_stand HA1.out (fun k hk=>b2.block k (HA1.out.lt k hk).2)
 have HX2:Hid (Bx w V2 zs ss #[.int .i64 c.nodes,.int .i64 c.queue,.int .i64 c.limit,.int .i64 c.age,.int .i64 c.fair,.int .i64 c.size,.int .i64 c.period,.int .i64 c.half,.int .i64 now,.slice ao L ca,.slice jo N cj,.int .i64 hd,.slice a1 L c1,.slice none 0 0,.slice none 0 0]):=HX1.out.below b2
 have HN2:Hid (∀ad,(some ⟨V1.heap.size,0,none⟩:Option Addr)=some ad→∀j u,(flatA [markA])[j]?=some u→V2.cell? (ad.add j)=some u):=fun ad e j u hu=>by cases e;rw [← hV2];exact new_cells V1 (flatA [markA]) 52 j u hu
 clear b2 HA1 HX1
 go_upto_region 4 with(at_builtin;refine wpList_append_mv rfl (.tmp 16) (.tmp 18) 24 rfl w.heap.size 52 i0 _ 5 48 Tryz.underlying24 hi0 hz00 hz01 hz02 rfl (by decide) (.slice a1 L c1) L (flatA la) rfl HA2.out (some ⟨V1.heap.size,0,none⟩) 1 1 (flatA [markA]) rfl (fun e=>by cases e) rfl HN2.out (flatA_one _) ?_ ?_ ?_ ?_;exact(Nat.le_trans (m:=35184372088832) (by omega) (by decide));omega;exact HX2.out.bel.size;intro va V3 o3 g3 m3;rw [← flatA_app]at o3;obtain⟨ga,ca',rfl,hca⟩:=own_some o3;have HCA:Hid (L+1≤ca'):=hca;have HO3:Hid (V3.ownsRow w.heap.size 52 5 (.slice (some ⟨ga,0,none⟩) (L+1) ca') (L+1) (flatA (la++ [markA]))):=o3;have HV3:Hid (Bx w V3 zs ss #[.int .i64 c.nodes,.int .i64 c.queue,.int .i64 c.limit,.int .i64 c.age,.int .i64 c.fair,.int .i64 c.size,.int .i64 c.period,.int .i64 c.half,.int .i64 now,.slice ao L ca,.slice jo N cj,.int .i64 hd,.slice a1 L c1,.slice none 0 0,.slice none 0 0]):=HX2.out.grown HA2.out (by decide) (by decide) g3;have x12:=cells_at (k:=12) HV3.out.box rfl;have f12:=frozen_at (k:=12) HV3.out.box;clear o3 g3 m3 hca)
 have HX4:Hid (Bx w (V3.setCell ⟨w.heap.size+2,12,none⟩ (.slice (some ⟨ga,0,none⟩) (L+1) ca')) zs ss #[.int .i64 c.nodes,.int .i64 c.queue,.int .i64 c.limit,.int .i64 c.age,.int .i64 c.fair,.int .i64 c.size,.int .i64 c.period,.int .i64 c.half,.int .i64 now,.slice ao L ca,.slice jo N cj,.int .i64 hd,.slice (some ⟨ga,0,none⟩) (L+1) ca',.slice none 0 0,.slice none 0 0]):=HV3.out.set (heap_setCell_same V3 (w.heap.size+2) 12 _ 33 _ HV3.out.box)
 have HL4:Hid (Lnd (V3.setCell ⟨w.heap.size+2,12,none⟩ (.slice (some ⟨ga,0,none⟩) (L+1) ca')) w.heap.size la (.slice (some ⟨ga,0,none⟩) (L+1) ca') (.slice none 0 0) (.slice none 0 0) [] []):=⟨by rw [HLL.out];exact row_set HO3.out HV3.out.box (by decide) 12 _,own_nil _ _ _ _,own_nil _ _ _ _,fun q hq=>by cases hq⟩
 obtain⟨V4,hV4⟩:∃V4,V3.setCell ⟨w.heap.size+2,12,none⟩ (.slice (some ⟨ga,0,none⟩) (L+1) ca')=V4:=⟨_,rfl⟩
 rw [hV4]at HX4 HL4 ⊢
 clear hV4 x12 f12 HV3 HO3 hV2 d12 HA2 HX2 HN2
 go_wp2
 go_loopg [4] N (fun gk pk wr=>∃(k:Nat) (qs:List Pj) (vj vs:Value),k+gk=N∧pk=.int .i64 k∧Bx w wr zs ss #[.int .i64 c.nodes,.int .i64 c.queue,.int .i64 c.limit,.int .i64 c.age,.int .i64 c.fair,.int .i64 c.size,.int .i64 c.period,.int .i64 c.half,.int .i64 now,.slice ao L ca,.slice jo N cj,.int .i64 hd,.slice (some ⟨ga,0,none⟩) (L+1) ca',vj,vs]∧Lnd wr w.heap.size la (.slice (some ⟨ga,0,none⟩) (L+1) ca') vj vs qs qs∧qs.length=k∧qs.map Pj.v=(ps.take k).map Pj.v)
 case atStart=>exact⟨0,[],_,_,by omega,rfl,HX4.out,HL4.out,rfl,rfl⟩
 case round=>
  obtain⟨k,qs,vj,vs,hk,rfl,hbx,hln,hql,hqv⟩:=hrel
  have HBX:Hid (Bx w wr zs ss #[.int .i64 c.nodes,.int .i64 c.queue,.int .i64 c.limit,.int .i64 c.age,.int .i64 c.fair,.int .i64 c.size,.int .i64 c.period,.int .i64 c.half,.int .i64 now,.slice ao L ca,.slice jo N cj,.int .i64 hd,.slice (some ⟨ga,0,none⟩) (L+1) ca',vj,vs]):=hbx
  have HLN:Hid (Lnd wr w.heap.size la (.slice (some ⟨ga,0,none⟩) (L+1) ca') vj vs qs qs):=hln
  have HQL:Hid (qs.length=k):=hql
  have HQV:Hid (qs.map Pj.v=(ps.take k).map Pj.v):=hqv
  clear hbx hln hql hqv HX4 HL4
  have e10:wr.cell? ⟨w.heap.size,10,none⟩=some (.slice jo N cj):=cells_at HBX.out.st (by rw [HSS.out];rfl)
  by_cases hlt:k<N
  ·have hlt':(k:Int)<N:=by omega
   obtain⟨p,hp⟩:∃p,ps[k]?=some p:=⟨_,List.getElem?_eq_getElem (by rw [HNN.out];exact hlt)⟩
   obtain rfl:=HG.out (by omega)
   obtain⟨d0,d1,d2,d3,d4,d5,d6,d7⟩:=HROW.out wr HBX.out.bel k p hp
   obtain⟨hp8,hpn⟩:=HSP.out p (List.mem_of_getElem? hp)
   have HPX:Hid (∀x,Below w.heap.size w x→∀ad,p.sa=some ad→∀j u,(i64s p.v.set)[j]?=some u→x.cell? (ad.add j)=some u):=fun x hx=>HSETS.out x hx p (List.mem_of_getElem? hp)
   have HPK:Hid (ps[k]?=some p):=hp
   clear hp
   obtain⟨⟨ac,nd,lm,sb,st,sr,en,xs⟩,sa,sc⟩:=p
   dsimp only [Pj.jb]at d0 d1 d2 d3 d4 d5 d6 d7 hp8 hpn HPX
   obtain⟨q,hq⟩:∃q,xs.length=q:=⟨_,rfl⟩
   rw [hq]at d7 hp8 hpn
   have HQX:Hid (xs.length=q):=hq
   have HQ1:Hid ((i64s xs).length=q*1):=(show _=_ from by rw [i64s_len,hq])
   clear hq
   obtain⟨w3,hw3⟩:∃w3,wr.alloc (.cells #[.int .i64 ac,.int .i64 nd,.int .i64 lm,.int .i64 sb,.int .i64 st,.int .i64 sr,.int .i64 en,.slice sa q sc] 55)=w3:=⟨_,rfl⟩
   obtain⟨w4,hw4⟩:∃w4,w3.alloc (.cells #[] 3)=w4:=⟨_,rfl⟩
   have z3:w3.heap.size=wr.heap.size+1:=by rw [← hw3];simp
   have b3:Below wr.heap.size wr w3:=by rw [← hw3];exact(Below.refl _ wr).alloc (Nat.le_refl _) _
   have b34:Below w3.heap.size w3 w4:=by rw [← hw4];exact(Below.refl _ w3).alloc (Nat.le_refl _) _
   have HB4:Hid (Below wr.heap.size wr w4):=b3.trans (b34.mono b3.size)
   have HJ4:Hid (w4.heap[wr.heap.size]?=some (.cells #[.int .i64 ac,.int .i64 nd,.int .i64 lm,.int .i64 sb,.int .i64 st,.int .i64 sr,.int .i64 en,.slice sa q sc] 55 (0,0))):=(show w4.heap[wr.heap.size]?=_ from by rw [b34.block _ (by omega),←hw3];exact heap_alloc_new wr _)
   have HR4:Hid (w4.ownsRow wr.heap.size 3 1 (.slice (some ⟨w3.heap.size,0,none⟩) 0 0) 0 []):=by show World.ownsRow _ _ _ _ _ _ _;rw [← hw4];exact World.ownsRow_made w3 #[] 0 (by omega) (by decide) rfl
   have j7:w4.cell? ⟨wr.heap.size,7,none⟩=some (.slice sa q sc):=cells_at HJ4.out rfl
   have HC4:Hid (∀ad,sa=some ad→∀j u,(i64s xs)[j]?=some u→w4.cell? (ad.add j)=some u):=HPX.out w4 (HBX.out.bel.trans (HB4.out.mono HBX.out.bel.size))
   clear z3 b3 b34
   go_upto_region 9 with fail
   generalize Value.slice (some ⟨w3.heap.size,0,none⟩) 0 0=v4 at HR4 ⊢
   go_upto_region 10 with(at_builtin;refine wpList_append_mv rfl (.tmp 34) (.tmp 36) 53 rfl wr.heap.size 3 i1 _ 1 8 Tryz.underlying53 hi1 hz10 hz11 hz12 rfl (by decide) v4 0 [] rfl HR4.out sa q sc (i64s xs) rfl hpn HQ1.out HC4.out (i64s_one xs) ?_ ?_ ?_ ?_;exact(Nat.le_trans (m:=35184372088832) (by omega) (by decide));omega;exact HB4.out.size;intro v5 w5 o5 g5 m5;rw [Nat.zero_add,List.nil_append]at o5;have HO5:Hid (w5.ownsRow wr.heap.size 3 1 v5 q (i64s xs)):=o5;have HB5:Hid (Below wr.heap.size wr w5):=bel_grown HB4.out HB4.out.size (Nat.le_refl _) HR4.out g5;have HJ5:Hid (w5.heap[wr.heap.size]?=some (.cells #[.int .i64 ac,.int .i64 nd,.int .i64 lm,.int .i64 sb,.int .i64 st,.int .i64 sr,.int .i64 en,.slice sa q sc] 55 (0,0))):=box_grown HJ4.out HR4.out (by decide) g5;clear o5 g5 m5)
   clear hw3 hw4 j7 d0 d1 d2 d3 d4 d5 d6 d7 HB4 HJ4 HR4 HC4 HPX HQ1
   obtain⟨w6,hw6⟩:∃w6,w5.alloc (.cells #[.int .i64 (-77)] 3)=w6:=⟨_,rfl⟩
   have b6:Below w5.heap.size w5 w6:=by rw [← hw6];exact(Below.refl _ w5).alloc (Nat.le_refl _) _
   have HO6:Hid (w6.ownsRow wr.heap.size 3 1 v5 q (i64s xs)):=row_stand HO5.out (fun k hk=>b6.block k (HO5.out.lt k hk).2)
   have HB6:Hid (Below wr.heap.size wr w6):=HB5.out.trans (b6.mono HB5.out.size)
   have HJ6:Hid (w6.heap[wr.heap.size]?=some (.cells #[.int .i64 ac,.int .i64 nd,.int .i64 lm,.int .i64 sb,.int .i64 st,.int .i64 sr,.int .i64 en,.slice sa q sc] 55 (0,0))):=(b6.block _ (lt_of_blk HJ5.out)).trans HJ5.out
   have HN6:Hid (∀ad,(some ⟨w5.heap.size,0,none⟩:Option Addr)=some ad→∀j u,(i64s [-77])[j]?=some u→w6.cell? (ad.add j)=some u):=fun ad e j u hu=>by cases e;rw [← hw6];exact new_cells w5 (i64s [-77]) 3 j u hu
   clear b6 HO5 HB5 HJ5
   go_upto_region 11 with(at_builtin;refine wpList_append_mv rfl (.tmp 38) (.tmp 39) 53 rfl wr.heap.size 3 i1 _ 1 8 Tryz.underlying53 hi1 hz10 hz11 hz12 rfl (by decide) v5 q (i64s xs) rfl HO6.out (some ⟨w5.heap.size,0,none⟩) 1 1 (i64s [-77]) rfl (fun e=>by cases e) rfl HN6.out (i64s_one _) ?_ ?_ ?_ ?_;exact(Nat.le_trans (m:=35184372088832) (by omega) (by decide));omega;exact HB6.out.size;intro v7 w7 o7 g7 m7;have HO7:Hid (w7.ownsRow wr.heap.size 3 1 v7 (q+1) (i64s (xs++ [-77]))):=(show World.ownsRow _ _ _ _ _ _ _ from by rw [show i64s (xs++ [-77])=i64s xs++i64s [-77]from by unfold i64s;rw [List.map_append]];exact o7);have HB7:Hid (Below wr.heap.size wr w7):=bel_grown HB6.out HB6.out.size (Nat.le_refl _) HO6.out g7;have HJ7:Hid (w7.heap[wr.heap.size]?=some (.cells #[.int .i64 ac,.int .i64 nd,.int .i64 lm,.int .i64 sb,.int .i64 st,.int .i64 sr,.int .i64 en,.slice sa q sc] 55 (0,0))):=box_grown HJ6.out HO6.out (by decide) g7;clear o7 g7 m7)
   clear hw6 HO6 HB6 HJ6 HN6
   obtain⟨gs,cs,rfl,hcs⟩:=own_some HO7.out
   have x7:=cells_at (k:=7) HJ7.out rfl
   have f7:=frozen_at (k:=7) HJ7.out
   have HJ8:Hid ((w7.setCell ⟨wr.heap.size,7,none⟩ (.slice (some ⟨gs,0,none⟩) q cs)).heap[wr.heap.size]?=some (.cells #[.int .i64 ac,.int .i64 nd,.int .i64 lm,.int .i64 sb,.int .i64 st,.int .i64 sr,.int .i64 en,.slice (some ⟨gs,0,none⟩) q cs] 55 (0,0))):=heap_setCell_same w7 wr.heap.size 7 _ 55 _ HJ7.out
   have HO8:Hid ((w7.setCell ⟨wr.heap.size,7,none⟩ (.slice (some ⟨gs,0,none⟩) q cs)).ownsRow wr.heap.size 3 1 (.slice (some ⟨gs,0,none⟩) (q+1) cs) (q+1) (i64s (xs++ [-77]))):=row_set HO7.out HJ7.out (by decide) 7 _
   have HB8:Hid (Below wr.heap.size wr (w7.setCell ⟨wr.heap.size,7,none⟩ (.slice (some ⟨gs,0,none⟩) q cs))):=HB7.out.setCell (Nat.le_refl _) _
   have HCS:Hid (q+1≤cs):=hcs
   have hw1:IntKind.i64.wrap (((q+1:Nat):Int) - 1)=(q:Int):=by rw [IntKind.wrap_i64];omega
   have hc1:(q:Int)≤cs:=by omega
   have hc2:(q:Int)≤((q+1:Nat):Int):=by omega
   have HQ2:Hid (xs.length+1=q+1):=(show _=_ from by rw [HQX.out])
   generalize q+1=q1 at *
   go_upto_region 12 with fail
   obtain⟨w8,hw8⟩:∃w8,w7.setCell ⟨wr.heap.size,7,none⟩ (.slice (some ⟨gs,0,none⟩) q cs)=w8:=⟨_,rfl⟩
   rw [hw8]at HJ8 HO8 HB8 ⊢
   clear hw8 x7 f7 hw1 hc1 hc2 HO7 HB7 HJ7 hcs
   have HX8:Hid (Bx w w8 zs ss #[.int .i64 c.nodes,.int .i64 c.queue,.int .i64 c.limit,.int .i64 c.age,.int .i64 c.fair,.int .i64 c.size,.int .i64 c.period,.int .i64 c.half,.int .i64 now,.slice ao L ca,.slice (some ⟨g,o,none⟩) N cj,.int .i64 hd,.slice (some ⟨ga,0,none⟩) (L+1) ca',vj,vs]):=HBX.out.below HB8.out
   have HL8:Hid (Lnd w8 w.heap.size la (.slice (some ⟨ga,0,none⟩) (L+1) ca') vj vs qs qs):=HLN.out.stand HB8.out
   have e14:w8.cell? ⟨w.heap.size+2,14,none⟩=some vs:=cells_at HX8.out.box rfl
   obtain⟨w9,hw9⟩:∃w9,w8.alloc (.cells #[.slice (some ⟨gs,0,none⟩) q1 cs] 53)=w9:=⟨_,rfl⟩
   have b9:Below w8.heap.size w8 w9:=by rw [← hw9];exact(Below.refl _ w8).alloc (Nat.le_refl _) _
   have HX9:Hid (Bx w w9 zs ss #[.int .i64 c.nodes,.int .i64 c.queue,.int .i64 c.limit,.int .i64 c.age,.int .i64 c.fair,.int .i64 c.size,.int .i64 c.period,.int .i64 c.half,.int .i64 now,.slice ao L ca,.slice (some ⟨g,o,none⟩) N cj,.int .i64 hd,.slice (some ⟨ga,0,none⟩) (L+1) ca',vj,vs]):=HX8.out.below b9
   have HL9:Hid (Lnd w9 w.heap.size la (.slice (some ⟨ga,0,none⟩) (L+1) ca') vj vs qs qs):=HL8.out.stand b9
   have HO9:Hid (w9.ownsRow w.heap.size 3 1 (.slice (some ⟨gs,0,none⟩) q1 cs) q1 (i64s (xs++ [-77]))):=World.ownsRow.mono (row_stand HO8.out (fun k hk=>b9.block k (HO8.out.lt k hk).2)) HBX.out.bel.size
   have HJ9:Hid (w9.heap[wr.heap.size]?=some (.cells #[.int .i64 ac,.int .i64 nd,.int .i64 lm,.int .i64 sb,.int .i64 st,.int .i64 sr,.int .i64 en,.slice (some ⟨gs,0,none⟩) q cs] 55 (0,0))):=(b9.block _ (lt_of_blk HJ8.out)).trans HJ8.out
   have HN9:Hid (∀ad,(some ⟨w8.heap.size,0,none⟩:Option Addr)=some ad→∀j u,([Value.slice (some ⟨gs,0,none⟩) q1 cs])[j]?=some u→w9.cell? (ad.add j)=some u):=fun ad e j u hu=>by cases e;rw [← hw9];exact new_cells w8 [Value.slice (some ⟨gs,0,none⟩) q1 cs] 53 j u hu
   have HQL2:Hid (qs.length<N):=(show _<_ from by rw [HQL.out];exact hlt)
   clear b9 HX8 HL8 HO8 HJ8 HB8
   go_upto_region 13 with(at_builtin;refine wpList_append_mv rfl (.tmp 48) (.tmp 50) 31 rfl w.heap.size 53 i3 _ 1 24 Tryz.underlying31 hi3 hz30 hz31 hz32 rfl (by decide) vs qs.length (qs.map slV) rfl HL9.out.row (some ⟨w8.heap.size,0,none⟩) 1 1 [Value.slice (some ⟨gs,0,none⟩) q1 cs] rfl (fun e=>by cases e) rfl HN9.out (by intro u hu;rw [List.mem_singleton]at hu;rw [hu];rfl) ?_ ?_ ?_ ?_;exact(Nat.le_trans (m:=35184372088832) (by have:=HQL2.out;omega) (by decide));have:=HQL2.out;omega;exact HX9.out.bel.size;intro v10 w10 o10 g10 m10;obtain⟨gr,cr,rfl,hcr⟩:=own_some o10;have HL10:Hid (Lnd w10 w.heap.size la (.slice (some ⟨ga,0,none⟩) (L+1) ca') vj (.slice (some ⟨gr,0,none⟩) (qs.length+1) cr) qs (qs++ [⟨⟨ac,nd,lm,sb,st,sr,en,xs⟩,some ⟨gs,0,none⟩,cs⟩])):=HL9.out.rowUp (q:=⟨⟨ac,nd,lm,sb,st,sr,en,xs⟩,some ⟨gs,0,none⟩,cs⟩) (by have:=HO9.out;rw [← HQ2.out]at this;exact this) g10 (by rw [← HQ2.out]at o10;exact o10);have HX10:Hid (Bx w w10 zs ss #[.int .i64 c.nodes,.int .i64 c.queue,.int .i64 c.limit,.int .i64 c.age,.int .i64 c.fair,.int .i64 c.size,.int .i64 c.period,.int .i64 c.half,.int .i64 now,.slice ao L ca,.slice (some ⟨g,o,none⟩) N cj,.int .i64 hd,.slice (some ⟨ga,0,none⟩) (L+1) ca',vj,vs]):=HX9.out.grown HL9.out.row (by decide) (by decide) g10;have HJ10:Hid (w10.heap[wr.heap.size]?=some (.cells #[.int .i64 ac,.int .i64 nd,.int .i64 lm,.int .i64 sb,.int .i64 st,.int .i64 sr,.int .i64 en,.slice (some ⟨gs,0,none⟩) q cs] 55 (0,0))):=box_grown HJ9.out HL9.out.row (by decide) g10;have x14:=cells_at (k:=14) HX10.out.box rfl;have f14:=frozen_at (k:=14) HX10.out.box;clear o10 g10 m10 hcr)
   have HX11:Hid (Bx w (w10.setCell ⟨w.heap.size+2,14,none⟩ (.slice (some ⟨gr,0,none⟩) (qs.length+1) cr)) zs ss #[.int .i64 c.nodes,.int .i64 c.queue,.int .i64 c.limit,.int .i64 c.age,.int .i64 c.fair,.int .i64 c.size,.int .i64 c.period,.int .i64 c.half,.int .i64 now,.slice ao L ca,.slice (some ⟨g,o,none⟩) N cj,.int .i64 hd,.slice (some ⟨ga,0,none⟩) (L+1) ca',vj,.slice (some ⟨gr,0,none⟩) (qs.length+1) cr]):=HX10.out.set (heap_setCell_same w10 (w.heap.size+2) 14 _ 33 _ HX10.out.box)
   have HL11:Hid (Lnd (w10.setCell ⟨w.heap.size+2,14,none⟩ (.slice (some ⟨gr,0,none⟩) (qs.length+1) cr)) w.heap.size la (.slice (some ⟨ga,0,none⟩) (L+1) ca') vj (.slice (some ⟨gr,0,none⟩) (qs.length+1) cr) qs (qs++ [⟨⟨ac,nd,lm,sb,st,sr,en,xs⟩,some ⟨gs,0,none⟩,cs⟩])):=HL10.out.set HX10.out.box 14 _
   have HJ11:Hid ((w10.setCell ⟨w.heap.size+2,14,none⟩ (.slice (some ⟨gr,0,none⟩) (qs.length+1) cr)).heap[wr.heap.size]?=some (.cells #[.int .i64 ac,.int .i64 nd,.int .i64 lm,.int .i64 sb,.int .i64 st,.int .i64 sr,.int .i64 en,.slice (some ⟨gs,0,none⟩) q cs] 55 (0,0))):=(Below.heap_setCell _ _ _ _ (show wr.heap.size≠w.heap.size+2 from by have:=lt_of_blk HBX.out.box;omega)).trans HJ10.out
   obtain⟨w11,hw11⟩:∃w11,w10.setCell ⟨w.heap.size+2,14,none⟩ (.slice (some ⟨gr,0,none⟩) (qs.length+1) cr)=w11:=⟨_,rfl⟩
   rw [hw11]at HX11 HL11 HJ11 ⊢
   clear hw11 x14 f14 e14 hw9 HX9 HL9 HJ9 HN9 HO9 HX10 HL10 HJ10
   have e13:w11.cell? ⟨w.heap.size+2,13,none⟩=some vj:=cells_at HX11.out.box rfl
   have n0:w11.cell? ⟨wr.heap.size,0,none⟩=some (.int .i64 ac):=cells_at HJ11.out rfl
   have n1:w11.cell? ⟨wr.heap.size,1,none⟩=some (.int .i64 nd):=cells_at HJ11.out rfl
   have n2:w11.cell? ⟨wr.heap.size,2,none⟩=some (.int .i64 lm):=cells_at HJ11.out rfl
   have n3:w11.cell? ⟨wr.heap.size,3,none⟩=some (.int .i64 sb):=cells_at HJ11.out rfl
   have n4:w11.cell? ⟨wr.heap.size,4,none⟩=some (.int .i64 st):=cells_at HJ11.out rfl
   have n5:w11.cell? ⟨wr.heap.size,5,none⟩=some (.int .i64 sr):=cells_at HJ11.out rfl
   have n6:w11.cell? ⟨wr.heap.size,6,none⟩=some (.int .i64 en):=cells_at HJ11.out rfl
   have n7:w11.cell? ⟨wr.heap.size,7,none⟩=some (.slice (some ⟨gs,0,none⟩) q cs):=cells_at HJ11.out rfl
   have hfl:flatJ [⟨⟨ac,nd,lm,sb,st,sr,en,xs⟩,some ⟨gs,0,none⟩,cs⟩]= [.int .i64 ac,.int .i64 nd,.int .i64 lm,.int .i64 sb,.int .i64 st,.int .i64 sr,.int .i64 en,.slice (some ⟨gs,0,none⟩) q cs]:=by simp only [flatJ];rw [HQX.out]
   have HFL2:Hid (flatJ [⟨⟨ac,nd,lm,sb,st,sr,en,xs⟩,some ⟨gs,0,none⟩,cs⟩]= [.int .i64 ac,.int .i64 nd,.int .i64 lm,.int .i64 sb,.int .i64 st,.int .i64 sr,.int .i64 en,.slice (some ⟨gs,0,none⟩) q cs]):=hfl
   clear hfl
   obtain⟨w12,hw12⟩:∃w12,w11.alloc (.cells #[.int .i64 ac,.int .i64 nd,.int .i64 lm,.int .i64 sb,.int .i64 st,.int .i64 sr,.int .i64 en,.slice (some ⟨gs,0,none⟩) q cs] 55)=w12:=⟨_,rfl⟩
   have b12:Below w11.heap.size w11 w12:=by rw [← hw12];exact(Below.refl _ w11).alloc (Nat.le_refl _) _
   have HX12:Hid (Bx w w12 zs ss #[.int .i64 c.nodes,.int .i64 c.queue,.int .i64 c.limit,.int .i64 c.age,.int .i64 c.fair,.int .i64 c.size,.int .i64 c.period,.int .i64 c.half,.int .i64 now,.slice ao L ca,.slice (some ⟨g,o,none⟩) N cj,.int .i64 hd,.slice (some ⟨ga,0,none⟩) (L+1) ca',vj,.slice (some ⟨gr,0,none⟩) (qs.length+1) cr]):=HX11.out.below b12
   have HL12:Hid (Lnd w12 w.heap.size la (.slice (some ⟨ga,0,none⟩) (L+1) ca') vj (.slice (some ⟨gr,0,none⟩) (qs.length+1) cr) qs (qs++ [⟨⟨ac,nd,lm,sb,st,sr,en,xs⟩,some ⟨gs,0,none⟩,cs⟩])):=HL11.out.stand b12
   have HN12:Hid (∀ad,(some ⟨w11.heap.size,0,none⟩:Option Addr)=some ad→∀j u,([.int .i64 ac,.int .i64 nd,.int .i64 lm,.int .i64 sb,.int .i64 st,.int .i64 sr,.int .i64 en,.slice (some ⟨gs,0,none⟩) q cs])[j]?=some u→w12.cell? (ad.add j)=some u):=fun ad e j u hu=>by cases e;rw [← hw12];exact new_cells w11 [.int .i64 ac,.int .i64 nd,.int .i64 lm,.int .i64 sb,.int .i64 st,.int .i64 sr,.int .i64 en,.slice (some ⟨gs,0,none⟩) q cs] 55 j u hu
   have HJ1:Hid (∀u∈([.int .i64 ac,.int .i64 nd,.int .i64 lm,.int .i64 sb,.int .i64 st,.int .i64 sr,.int .i64 en,.slice (some ⟨gs,0,none⟩) q cs]:List Value),u.oneCell'=true):=(show _ from by rw [← HFL2.out];exact flatJ_one _)
   clear b12 HX11 HL11 HJ11
   go_upto_region 6 with(at_builtin;refine wpList_append_mv rfl (.tmp 54) (.tmp 56) 25 rfl w.heap.size 55 i2 _ 8 80 Tryz.underlying25 hi2 hz20 hz21 hz22 rfl (by decide) vj qs.length (flatJ qs) rfl HL12.out.job (some ⟨w11.heap.size,0,none⟩) 1 1 [.int .i64 ac,.int .i64 nd,.int .i64 lm,.int .i64 sb,.int .i64 st,.int .i64 sr,.int .i64 en,.slice (some ⟨gs,0,none⟩) q cs] rfl (fun e=>by cases e) rfl HN12.out HJ1.out ?_ ?_ ?_ ?_;exact(Nat.le_trans (m:=35184372088832) (by have:=HQL2.out;omega) (by decide));have:=HQL2.out;omega;exact HX12.out.bel.size;intro v13 w13 o13 g13 m13;obtain⟨gj,cj',rfl,hcj⟩:=own_some o13;rw [← HFL2.out]at o13;have HL13:Hid (Lnd w13 w.heap.size la (.slice (some ⟨ga,0,none⟩) (L+1) ca') (.slice (some ⟨gj,0,none⟩) (qs.length+1) cj') (.slice (some ⟨gr,0,none⟩) (qs.length+1) cr) (qs++ [⟨⟨ac,nd,lm,sb,st,sr,en,xs⟩,some ⟨gs,0,none⟩,cs⟩]) (qs++ [⟨⟨ac,nd,lm,sb,st,sr,en,xs⟩,some ⟨gs,0,none⟩,cs⟩])):=HL12.out.jobUp g13 o13;have HX13:Hid (Bx w w13 zs ss #[.int .i64 c.nodes,.int .i64 c.queue,.int .i64 c.limit,.int .i64 c.age,.int .i64 c.fair,.int .i64 c.size,.int .i64 c.period,.int .i64 c.half,.int .i64 now,.slice ao L ca,.slice (some ⟨g,o,none⟩) N cj,.int .i64 hd,.slice (some ⟨ga,0,none⟩) (L+1) ca',vj,.slice (some ⟨gr,0,none⟩) (qs.length+1) cr]):=HX12.out.grown HL12.out.job (by decide) (by decide) g13;have x13:=cells_at (k:=13) HX13.out.box rfl;have f13:=frozen_at (k:=13) HX13.out.box;clear o13 g13 m13 hcj)
   have HX14:Hid (Bx w (w13.setCell ⟨w.heap.size+2,13,none⟩ (.slice (some ⟨gj,0,none⟩) (qs.length+1) cj')) zs ss #[.int .i64 c.nodes,.int .i64 c.queue,.int .i64 c.limit,.int .i64 c.age,.int .i64 c.fair,.int .i64 c.size,.int .i64 c.period,.int .i64 c.half,.int .i64 now,.slice ao L ca,.slice (some ⟨g,o,none⟩) N cj,.int .i64 hd,.slice (some ⟨ga,0,none⟩) (L+1) ca',.slice (some ⟨gj,0,none⟩) (qs.length+1) cj',.slice (some ⟨gr,0,none⟩) (qs.length+1) cr]):=HX13.out.set (heap_setCell_same w13 (w.heap.size+2) 13 _ 33 _ HX13.out.box)
   have HL14:Hid (Lnd (w13.setCell ⟨w.heap.size+2,13,none⟩ (.slice (some ⟨gj,0,none⟩) (qs.length+1) cj')) w.heap.size la (.slice (some ⟨ga,0,none⟩) (L+1) ca') (.slice (some ⟨gj,0,none⟩) (qs.length+1) cj') (.slice (some ⟨gr,0,none⟩) (qs.length+1) cr) (qs++ [⟨⟨ac,nd,lm,sb,st,sr,en,xs⟩,some ⟨gs,0,none⟩,cs⟩]) (qs++ [⟨⟨ac,nd,lm,sb,st,sr,en,xs⟩,some ⟨gs,0,none⟩,cs⟩])):=HL13.out.set HX13.out.box 13 _
   obtain⟨w14,hw14⟩:∃w14,w13.setCell ⟨w.heap.size+2,13,none⟩ (.slice (some ⟨gj,0,none⟩) (qs.length+1) cj')=w14:=⟨_,rfl⟩
   rw [hw14]at HX14 HL14 ⊢
   clear hw14 x13 f13 e13 n0 n1 n2 n3 n4 n5 n6 n7 hw12 HX12 HL12 HN12 HJ1 HFL2 HX13 HL13
   have HQ4:Hid ((qs++ [(⟨⟨ac,nd,lm,sb,st,sr,en,xs⟩,some ⟨gs,0,none⟩,cs⟩:Pj)]).map Pj.v=(ps.take (k+1)).map Pj.v):=by
    show _=_
    obtain⟨hk2,hpk⟩:=List.getElem?_eq_some_iff.1 HPK.out
    rw [List.map_append,HQV.out,List.take_succ_eq_append_getElem hk2,List.map_append,hpk]
    rfl
   go_wp2
   go_roundg (N - (k+1))
   case measure=>omega
   case rel=>exact⟨k+1,_,_,_,by omega,rfl,HX14.out,HL14.out,by rw [List.length_append,HQL.out];rfl,HQ4.out⟩
  ·obtain rfl:k=N:=by omega
   clear hlt
   obtain⟨av,cv,rfl,_,_,_⟩:=own_val HLN.out.row
   obtain⟨w2,hw2⟩:∃w2,wr.alloc (.cells #[.int .i64 (-77),.int .i64 0,.int .i64 0,.int .i64 0,.int .i64 0,.int .i64 0,.int .i64 0,.slice none 0 0] 55)=w2:=⟨_,rfl⟩
   have b2:Below wr.heap.size wr w2:=by rw [← hw2];exact(Below.refl _ wr).alloc (Nat.le_refl _) _
   have e13:wr.cell? ⟨w.heap.size+2,13,none⟩=some vj:=cells_at HBX.out.box rfl
   have HX2:Hid (Bx w w2 zs ss #[.int .i64 c.nodes,.int .i64 c.queue,.int .i64 c.limit,.int .i64 c.age,.int .i64 c.fair,.int .i64 c.size,.int .i64 c.period,.int .i64 c.half,.int .i64 now,.slice ao L ca,.slice jo k cj,.int .i64 hd,.slice (some ⟨ga,0,none⟩) (L+1) ca',vj,.slice av qs.length cv]):=HBX.out.below b2
   have HL2:Hid (Lnd w2 w.heap.size la (.slice (some ⟨ga,0,none⟩) (L+1) ca') vj (.slice av qs.length cv) qs qs):=HLN.out.stand b2
   have HN2:Hid (∀ad,(some ⟨wr.heap.size,0,none⟩:Option Addr)=some ad→∀j u,(flatJ [markJ])[j]?=some u→w2.cell? (ad.add j)=some u):=fun ad e j u hu=>by cases e;rw [← hw2];exact new_cells wr (flatJ [markJ]) 55 j u hu
   have HRW:Hid (w2.ownsRow w.heap.size 55 8 vj k (flatJ qs)):=(show World.ownsRow _ _ _ _ _ _ _ from by have:=HL2.out.job;rw [HQL.out]at this;exact this)
   clear b2
   go_upto_region 15 with(at_builtin;refine wpList_append_mv rfl (.tmp 60) (.tmp 62) 25 rfl w.heap.size 55 i2 _ 8 80 Tryz.underlying25 hi2 hz20 hz21 hz22 rfl (by decide) vj k (flatJ qs) rfl HRW.out (some ⟨wr.heap.size,0,none⟩) 1 1 (flatJ [markJ]) rfl (fun e=>by cases e) rfl HN2.out (flatJ_one _) ?_ ?_ ?_ ?_;exact(Nat.le_trans (m:=35184372088832) (by omega) (by decide));omega;exact HX2.out.bel.size;intro v3 w3 o3 g3 m3;obtain⟨gj,cj',rfl,hcj⟩:=own_some o3;have HCJ:Hid (k+1≤cj'):=hcj;have HL3:Hid (Lnd w3 w.heap.size la (.slice (some ⟨ga,0,none⟩) (L+1) ca') (.slice (some ⟨gj,0,none⟩) (k+1) cj') (.slice av qs.length cv) (qs++ [markJ]) qs):=(show Lnd _ _ _ _ _ _ _ _ from by have:=HL2.out.jobUp (q:=markJ) g3 (by rw [HQL.out];exact o3);exact this);have HX3:Hid (Bx w w3 zs ss #[.int .i64 c.nodes,.int .i64 c.queue,.int .i64 c.limit,.int .i64 c.age,.int .i64 c.fair,.int .i64 c.size,.int .i64 c.period,.int .i64 c.half,.int .i64 now,.slice ao L ca,.slice jo k cj,.int .i64 hd,.slice (some ⟨ga,0,none⟩) (L+1) ca',vj,.slice av qs.length cv]):=HX2.out.grown HL2.out.job (by decide) (by decide) g3;have x13:=cells_at (k:=13) HX3.out.box rfl;have f13:=frozen_at (k:=13) HX3.out.box;clear o3 g3 m3 hcj)
   have HX4:Hid (Bx w (w3.setCell ⟨w.heap.size+2,13,none⟩ (.slice (some ⟨gj,0,none⟩) (k+1) cj')) zs ss #[.int .i64 c.nodes,.int .i64 c.queue,.int .i64 c.limit,.int .i64 c.age,.int .i64 c.fair,.int .i64 c.size,.int .i64 c.period,.int .i64 c.half,.int .i64 now,.slice ao L ca,.slice jo k cj,.int .i64 hd,.slice (some ⟨ga,0,none⟩) (L+1) ca',.slice (some ⟨gj,0,none⟩) (k+1) cj',.slice av qs.length cv]):=HX3.out.set (heap_setCell_same w3 (w.heap.size+2) 13 _ 33 _ HX3.out.box)
   have HL4:Hid (Lnd (w3.setCell ⟨w.heap.size+2,13,none⟩ (.slice (some ⟨gj,0,none⟩) (k+1) cj')) w.heap.size la (.slice (some ⟨ga,0,none⟩) (L+1) ca') (.slice (some ⟨gj,0,none⟩) (k+1) cj') (.slice av qs.length cv) (qs++ [markJ]) qs):=HL3.out.set HX3.out.box 13 _
   obtain⟨X1,hX1⟩:∃X1,w3.setCell ⟨w.heap.size+2,13,none⟩ (.slice (some ⟨gj,0,none⟩) (k+1) cj')=X1:=⟨_,rfl⟩
   rw [hX1]at HX4 HL4 ⊢
   clear hX1 x13 f13 e13 e10 hw2 HX2 HL2 HN2 HRW HX3 HL3
   have u9:X1.cell? ⟨w.heap.size+2,9,none⟩=some (.slice ao L ca):=cells_at HX4.out.box rfl
   have u12:X1.cell? ⟨w.heap.size+2,12,none⟩=some (.slice (some ⟨ga,0,none⟩) (L+1) ca'):=cells_at HX4.out.box rfl
   have g9:X1.frozen? ⟨w.heap.size+2,9,none⟩=false:=frozen_at HX4.out.box
   have s9:X1.cell? ⟨w.heap.size,9,none⟩=some (.slice ao L ca):=cells_at HX4.out.st (by rw [HSS.out];rfl)
   have hl1:(L:Int)≤ca':=by have:=HCA.out;omega
   have hl2:(L:Int)≤((L+1:Nat):Int):=by omega
   have hl3:(0:Int)≤L:=by omega
   go_upto_region 16 with fail
   have HX5:Hid (Bx w (X1.setCell ⟨w.heap.size+2,9,none⟩ (.slice (some ⟨ga,0,none⟩) L ca')) zs ss #[.int .i64 c.nodes,.int .i64 c.queue,.int .i64 c.limit,.int .i64 c.age,.int .i64 c.fair,.int .i64 c.size,.int .i64 c.period,.int .i64 c.half,.int .i64 now,.slice (some ⟨ga,0,none⟩) L ca',.slice jo k cj,.int .i64 hd,.slice (some ⟨ga,0,none⟩) (L+1) ca',.slice (some ⟨gj,0,none⟩) (k+1) cj',.slice av qs.length cv]):=HX4.out.set (heap_setCell_same X1 (w.heap.size+2) 9 _ 33 _ HX4.out.box)
   have HL5:Hid (Lnd (X1.setCell ⟨w.heap.size+2,9,none⟩ (.slice (some ⟨ga,0,none⟩) L ca')) w.heap.size la (.slice (some ⟨ga,0,none⟩) (L+1) ca') (.slice (some ⟨gj,0,none⟩) (k+1) cj') (.slice av qs.length cv) (qs++ [markJ]) qs):=HL4.out.set HX4.out.box 9 _
   obtain⟨X2,hX2⟩:∃X2,X1.setCell ⟨w.heap.size+2,9,none⟩ (.slice (some ⟨ga,0,none⟩) L ca')=X2:=⟨_,rfl⟩
   rw [hX2]at HX5 HL5 ⊢
   clear hX2 u9 u12 g9 s9 hl1 hl2 HX4 HL4
   have u10:X2.cell? ⟨w.heap.size+2,10,none⟩=some (.slice jo k cj):=cells_at HX5.out.box rfl
   have u13:X2.cell? ⟨w.heap.size+2,13,none⟩=some (.slice (some ⟨gj,0,none⟩) (k+1) cj'):=cells_at HX5.out.box rfl
   have g10:X2.frozen? ⟨w.heap.size+2,10,none⟩=false:=frozen_at HX5.out.box
   have s10:X2.cell? ⟨w.heap.size,10,none⟩=some (.slice jo k cj):=cells_at HX5.out.st (by rw [HSS.out];rfl)
   have hl4:(k:Int)≤cj':=by have:=HCJ.out;omega
   have hl5:(k:Int)≤((k+1:Nat):Int):=by omega
   have hl6:(0:Int)≤k:=by omega
   go_upto_region 17 with fail
   have HX3:Hid (Bx w (X2.setCell ⟨w.heap.size+2,10,none⟩ (.slice (some ⟨gj,0,none⟩) k cj')) zs ss #[.int .i64 c.nodes,.int .i64 c.queue,.int .i64 c.limit,.int .i64 c.age,.int .i64 c.fair,.int .i64 c.size,.int .i64 c.period,.int .i64 c.half,.int .i64 now,.slice (some ⟨ga,0,none⟩) L ca',.slice (some ⟨gj,0,none⟩) k cj',.int .i64 hd,.slice (some ⟨ga,0,none⟩) (L+1) ca',.slice (some ⟨gj,0,none⟩) (k+1) cj',.slice av qs.length cv]):=HX5.out.set (heap_setCell_same X2 (w.heap.size+2) 10 _ 33 _ HX5.out.box)
   have HL3:Hid (Lnd (X2.setCell ⟨w.heap.size+2,10,none⟩ (.slice (some ⟨gj,0,none⟩) k cj')) w.heap.size la (.slice (some ⟨ga,0,none⟩) (L+1) ca') (.slice (some ⟨gj,0,none⟩) (k+1) cj') (.slice av qs.length cv) (qs++ [markJ]) qs):=HL5.out.set HX5.out.box 10 _
   obtain⟨X3,hX3⟩:∃X3,X2.setCell ⟨w.heap.size+2,10,none⟩ (.slice (some ⟨gj,0,none⟩) k cj')=X3:=⟨_,rfl⟩
   rw [hX3]at HX3 HL3 ⊢
   clear hX3 u10 u13 g10 s10 hl3 hl4 hl5 hl6 HX5 HL5
   have hres:X3.heap[w.heap.size+1]?=some (.cells #[.int .i64 0,.int .i64 0,.int .i64 0,.int .i64 0,.int .i64 0,.int .i64 0,.int .i64 0,.int .i64 0,.int .i64 0,.slice none 0 0,.slice none 0 0,.int .i64 0,.slice none 0 0,.slice none 0 0,.slice none 0 0] 33 (0,0)):=by rw [HX3.out.res,HZS.out]
   have q0:X3.cell? ⟨w.heap.size+2,0,none⟩=some (.int .i64 c.nodes):=cells_at HX3.out.box rfl
   have q1:X3.cell? ⟨w.heap.size+2,1,none⟩=some (.int .i64 c.queue):=cells_at HX3.out.box rfl
   have q2:X3.cell? ⟨w.heap.size+2,2,none⟩=some (.int .i64 c.limit):=cells_at HX3.out.box rfl
   have q3:X3.cell? ⟨w.heap.size+2,3,none⟩=some (.int .i64 c.age):=cells_at HX3.out.box rfl
   have q4:X3.cell? ⟨w.heap.size+2,4,none⟩=some (.int .i64 c.fair):=cells_at HX3.out.box rfl
   have q5:X3.cell? ⟨w.heap.size+2,5,none⟩=some (.int .i64 c.size):=cells_at HX3.out.box rfl
   have q6:X3.cell? ⟨w.heap.size+2,6,none⟩=some (.int .i64 c.period):=cells_at HX3.out.box rfl
   have q7:X3.cell? ⟨w.heap.size+2,7,none⟩=some (.int .i64 c.half):=cells_at HX3.out.box rfl
   have q8:X3.cell? ⟨w.heap.size+2,8,none⟩=some (.int .i64 now):=cells_at HX3.out.box rfl
   have q9:X3.cell? ⟨w.heap.size+2,9,none⟩=some (.slice (some ⟨ga,0,none⟩) L ca'):=cells_at HX3.out.box rfl
   have q10:X3.cell? ⟨w.heap.size+2,10,none⟩=some (.slice (some ⟨gj,0,none⟩) k cj'):=cells_at HX3.out.box rfl
   have q11:X3.cell? ⟨w.heap.size+2,11,none⟩=some (.int .i64 hd):=cells_at HX3.out.box rfl
   have q12:X3.cell? ⟨w.heap.size+2,12,none⟩=some (.slice (some ⟨ga,0,none⟩) (L+1) ca'):=cells_at HX3.out.box rfl
   have q13:X3.cell? ⟨w.heap.size+2,13,none⟩=some (.slice (some ⟨gj,0,none⟩) (k+1) cj'):=cells_at HX3.out.box rfl
   have q14:X3.cell? ⟨w.heap.size+2,14,none⟩=some (.slice av qs.length cv):=cells_at HX3.out.box rfl
   have r0:X3.cell? ⟨w.heap.size+1,0,none⟩=some (.int .i64 0):=cells_at hres rfl
   have f0:X3.frozen? ⟨w.heap.size+1,0,none⟩=false:=frozen_at hres
   have r1:X3.cell? ⟨w.heap.size+1,1,none⟩=some (.int .i64 0):=cells_at hres rfl
   have f1:X3.frozen? ⟨w.heap.size+1,1,none⟩=false:=frozen_at hres
   have r2:X3.cell? ⟨w.heap.size+1,2,none⟩=some (.int .i64 0):=cells_at hres rfl
   have f2:X3.frozen? ⟨w.heap.size+1,2,none⟩=false:=frozen_at hres
   have r3:X3.cell? ⟨w.heap.size+1,3,none⟩=some (.int .i64 0):=cells_at hres rfl
   have f3:X3.frozen? ⟨w.heap.size+1,3,none⟩=false:=frozen_at hres
   have r4:X3.cell? ⟨w.heap.size+1,4,none⟩=some (.int .i64 0):=cells_at hres rfl
   have f4:X3.frozen? ⟨w.heap.size+1,4,none⟩=false:=frozen_at hres
   have r5:X3.cell? ⟨w.heap.size+1,5,none⟩=some (.int .i64 0):=cells_at hres rfl
   have f5:X3.frozen? ⟨w.heap.size+1,5,none⟩=false:=frozen_at hres
   have r6:X3.cell? ⟨w.heap.size+1,6,none⟩=some (.int .i64 0):=cells_at hres rfl
   have f6:X3.frozen? ⟨w.heap.size+1,6,none⟩=false:=frozen_at hres
   have r7:X3.cell? ⟨w.heap.size+1,7,none⟩=some (.int .i64 0):=cells_at hres rfl
   have f7:X3.frozen? ⟨w.heap.size+1,7,none⟩=false:=frozen_at hres
   have r8:X3.cell? ⟨w.heap.size+1,8,none⟩=some (.int .i64 0):=cells_at hres rfl
   have f8:X3.frozen? ⟨w.heap.size+1,8,none⟩=false:=frozen_at hres
   have r9:X3.cell? ⟨w.heap.size+1,9,none⟩=some (.slice none 0 0):=cells_at hres rfl
   have f9:X3.frozen? ⟨w.heap.size+1,9,none⟩=false:=frozen_at hres
   have r10:X3.cell? ⟨w.heap.size+1,10,none⟩=some (.slice none 0 0):=cells_at hres rfl
   have f10:X3.frozen? ⟨w.heap.size+1,10,none⟩=false:=frozen_at hres
   have r11:X3.cell? ⟨w.heap.size+1,11,none⟩=some (.int .i64 0):=cells_at hres rfl
   have f11:X3.frozen? ⟨w.heap.size+1,11,none⟩=false:=frozen_at hres
   have r12:X3.cell? ⟨w.heap.size+1,12,none⟩=some (.slice none 0 0):=cells_at hres rfl
   have f12:X3.frozen? ⟨w.heap.size+1,12,none⟩=false:=frozen_at hres
   have r13:X3.cell? ⟨w.heap.size+1,13,none⟩=some (.slice none 0 0):=cells_at hres rfl
   have f13:X3.frozen? ⟨w.heap.size+1,13,none⟩=false:=frozen_at hres
   have r14:X3.cell? ⟨w.heap.size+1,14,none⟩=some (.slice none 0 0):=cells_at hres rfl
   have f14:X3.frozen? ⟨w.heap.size+1,14,none⟩=false:=frozen_at hres
   obtain⟨Y,hY⟩:∃Y,setsW (w.heap.size+1) [.int .i64 c.nodes,.int .i64 c.queue,.int .i64 c.limit,.int .i64 c.age,.int .i64 c.fair,.int .i64 c.size,.int .i64 c.period,.int .i64 c.half,.int .i64 now,.slice (some ⟨ga,0,none⟩) L ca',.slice (some ⟨gj,0,none⟩) k cj',.int .i64 hd,.slice (some ⟨ga,0,none⟩) (L+1) ca',.slice (some ⟨gj,0,none⟩) (k+1) cj',.slice av qs.length cv] 0 X3=Y:=⟨_,rfl⟩
   have hY2:(((((((((((((((X3).setCell ⟨w.heap.size+1,0,none⟩ (.int .i64 c.nodes)).setCell ⟨w.heap.size+1,1,none⟩ (.int .i64 c.queue)).setCell ⟨w.heap.size+1,2,none⟩ (.int .i64 c.limit)).setCell ⟨w.heap.size+1,3,none⟩ (.int .i64 c.age)).setCell ⟨w.heap.size+1,4,none⟩ (.int .i64 c.fair)).setCell ⟨w.heap.size+1,5,none⟩ (.int .i64 c.size)).setCell ⟨w.heap.size+1,6,none⟩ (.int .i64 c.period)).setCell ⟨w.heap.size+1,7,none⟩ (.int .i64 c.half)).setCell ⟨w.heap.size+1,8,none⟩ (.int .i64 now)).setCell ⟨w.heap.size+1,9,none⟩ (.slice (some ⟨ga,0,none⟩) L ca')).setCell ⟨w.heap.size+1,10,none⟩ (.slice (some ⟨gj,0,none⟩) k cj')).setCell ⟨w.heap.size+1,11,none⟩ (.int .i64 hd)).setCell ⟨w.heap.size+1,12,none⟩ (.slice (some ⟨ga,0,none⟩) (L+1) ca')).setCell ⟨w.heap.size+1,13,none⟩ (.slice (some ⟨gj,0,none⟩) (k+1) cj')).setCell ⟨w.heap.size+1,14,none⟩ (.slice av qs.length cv)=Y:=by rw [← hY];simp only [setsW,Nat.zero_add,Nat.reduceAdd]
   have hyb:=sets_blk (w.heap.size+1) 33 [.int .i64 c.nodes,.int .i64 c.queue,.int .i64 c.limit,.int .i64 c.age,.int .i64 c.fair,.int .i64 c.size,.int .i64 c.period,.int .i64 c.half,.int .i64 now,.slice (some ⟨ga,0,none⟩) L ca',.slice (some ⟨gj,0,none⟩) k cj',.int .i64 hd,.slice (some ⟨ga,0,none⟩) (L+1) ca',.slice (some ⟨gj,0,none⟩) (k+1) cj',.slice av qs.length cv] 0 X3 _ hres
   rw [hY]at hyb
   simp only [setsA,List.setIfInBounds_toArray,List.set_cons_zero,List.set_cons_succ,Nat.zero_add,Nat.reduceAdd]at hyb
   have HYB:Hid _:=hyb
   have HYL:Hid (Lnd Y w.heap.size la (.slice (some ⟨ga,0,none⟩) (L+1) ca') (.slice (some ⟨gj,0,none⟩) (k+1) cj') (.slice av qs.length cv) (qs++ [markJ]) qs):=(show Lnd _ _ _ _ _ _ _ _ from by rw [← hY];exact Lnd.setAll _ 0 X3 _ hres HL3.out)
   have HYW:Hid (Below w.heap.size w Y):=(show Below _ _ _ from by rw [← hY];exact sets_bel (by omega) _ 0 X3 HX3.out.bel)
   clear hres hY hyb
   go_wp2
   clear hY2 q0 r0 f0 q1 r1 f1 q2 r2 f2 q3 r3 f3 q4 r4 f4 q5 r5 f5 q6 r6 f6 q7 r7 f7 q8 r8 f8 q9 r9 f9 q10 r10 f10 q11 r11 f11 q12 r12 f12 q13 r13 f13 q14 r14 f14
   have y0:Y.cell? ⟨w.heap.size+1,0,none⟩=some (.int .i64 c.nodes):=cells_at HYB.out rfl
   have y1:Y.cell? ⟨w.heap.size+1,1,none⟩=some (.int .i64 c.queue):=cells_at HYB.out rfl
   have y2:Y.cell? ⟨w.heap.size+1,2,none⟩=some (.int .i64 c.limit):=cells_at HYB.out rfl
   have y3:Y.cell? ⟨w.heap.size+1,3,none⟩=some (.int .i64 c.age):=cells_at HYB.out rfl
   have y4:Y.cell? ⟨w.heap.size+1,4,none⟩=some (.int .i64 c.fair):=cells_at HYB.out rfl
   have y5:Y.cell? ⟨w.heap.size+1,5,none⟩=some (.int .i64 c.size):=cells_at HYB.out rfl
   have y6:Y.cell? ⟨w.heap.size+1,6,none⟩=some (.int .i64 c.period):=cells_at HYB.out rfl
   have y7:Y.cell? ⟨w.heap.size+1,7,none⟩=some (.int .i64 c.half):=cells_at HYB.out rfl
   have y8:Y.cell? ⟨w.heap.size+1,8,none⟩=some (.int .i64 now):=cells_at HYB.out rfl
   have y9:Y.cell? ⟨w.heap.size+1,9,none⟩=some (.slice (some ⟨ga,0,none⟩) L ca'):=cells_at HYB.out rfl
   have y10:Y.cell? ⟨w.heap.size+1,10,none⟩=some (.slice (some ⟨gj,0,none⟩) k cj'):=cells_at HYB.out rfl
   have y11:Y.cell? ⟨w.heap.size+1,11,none⟩=some (.int .i64 hd):=cells_at HYB.out rfl
   have y12:Y.cell? ⟨w.heap.size+1,12,none⟩=some (.slice (some ⟨ga,0,none⟩) (L+1) ca'):=cells_at HYB.out rfl
   have y13:Y.cell? ⟨w.heap.size+1,13,none⟩=some (.slice (some ⟨gj,0,none⟩) (k+1) cj'):=cells_at HYB.out rfl
   have y14:Y.cell? ⟨w.heap.size+1,14,none⟩=some (.slice av qs.length cv):=cells_at HYB.out rfl
   refine bodyPost_ret (v:=.agg #[.int .i64 c.nodes,.int .i64 c.queue,.int .i64 c.limit,.int .i64 c.age,.int .i64 c.fair,.int .i64 c.size,.int .i64 c.period,.int .i64 c.half,.int .i64 now,.slice (some ⟨ga,0,none⟩) L ca',.slice (some ⟨gj,0,none⟩) k cj',.int .i64 hd,.slice (some ⟨ga,0,none⟩) (L+1) ca',.slice (some ⟨gj,0,none⟩) (k+1) cj',.slice av qs.length cv]) (by simp [results,Tryz.results10,go_sem,y0,y1,y2,y3,y4,y5,y6,y7,y8,y9,y10,y11,y12,y13,y14]) rfl ⟨ga,ca',gj,cj',_,qs,rfl,⟨?_,?_⟩,HYW.out⟩
   ·rw [HLL.out,HNN.out]
    exact HYL.out
   ·rw [HQV.out,List.take_of_length_le (by rw [HNN.out];exact Nat.le_refl _)]
end Go.Proofs.YtceoibfliggalaaGreatDoor
