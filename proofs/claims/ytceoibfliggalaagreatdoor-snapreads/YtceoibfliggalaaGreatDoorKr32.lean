/-
  TEXTS: SnO, SnP.
-/
import Derived.Test.YtceoibfliggalaaGreatDoorKr30
import Derived.Test.YtceoibfliggalaaGreatDoorKr14
import Derived.Deep.MidRow
namespace Go.Proofs.YtceoibfliggalaaGreatDoor
open Go.RowKit Wd Tr Cg Ld Lg
def RowX (W:World) (g t:Nat) (done:List Value) (N:Nat):Prop:=∃rest:List Value,W.heap[g]?=some (.cells (done++rest).toArray t (0,0))∧done.length+rest.length=N
theorem RowX.same {W W':World} {g t N:Nat} {done:List Value} (h:RowX W g t done N) (e:W'.heap[g]?=W.heap[g]?):RowX W' g t done N:=by
 obtain⟨rest,h1,h2⟩:=h
 exact⟨rest,e.trans h1,h2⟩
theorem heap_setCells {g t:Nat}:∀(vs done rest:List Value) {W:World},W.heap[g]?=some (.cells (done++rest).toArray t (0,0))→vs.length≤rest.length→(W.setCells g done.length vs).heap[g]?=some (.cells (done++vs++rest.drop vs.length).toArray t (0,0))
 | [],done,rest,W,h,_=>by simpa [World.setCells]using h
 | v::vs,done,[],W,_,hl=>by simp at hl
 | v::vs,done,r::rest,W,h,hl=>by
  have h1:=heap_setCell_same W g done.length _ _ v h
  have e:(done++r::rest).toArray.setIfInBounds done.length v=((done++ [v])++rest).toArray:=by
   rw [List.setIfInBounds_toArray,List.set_append_right _ _ (Nat.le_refl _)]
   simp
  rw [e]at h1
  have ih:=heap_setCells vs (done++ [v]) rest h1 (by simpa using hl)
  rw [List.length_append,List.length_cons,List.length_nil]at ih
  show ((W.setCell ⟨g,done.length,none⟩ v).setCells g (done.length+1) vs).heap[g]?=_
  rw [ih]
  simp
theorem setCells_other {g j:Nat} (h:j≠g):∀(vs:List Value) (o:Nat) (W:World),(W.setCells g o vs).heap[j]?=W.heap[j]?
 | [],_,_=>rfl
 | _::vs,o,_=>(setCells_other h vs (o+1) _).trans (Below.heap_setCell _ _ _ _ h)
theorem setCells_chg {g:Nat}:∀(vs:List Value) (o:Nat) (W:World),Chg (fun k=>k=g) W (W.setCells g o vs)
 | [],_,W=>Chg.refl _ W
 | v::vs,o,W=>by
  have h1:Chg (fun k=>k=g) W (W.setCell ⟨g,o,none⟩ v):=⟨rfl,rfl,rfl,by simp,fun i _ hi=>Below.heap_setCell _ _ _ _ hi⟩
  exact h1.trans (setCells_chg vs (o+1) (W.setCell ⟨g,o,none⟩ v)) (fun _ _ e=>e)
theorem RowX.put {W:World} {g t N:Nat} {done vs:List Value} (h:RowX W g t done N) (hl:done.length+vs.length≤N):RowX (W.setCells g done.length vs) g t (done++vs) N:=by
 obtain⟨rest,h1,h2⟩:=h
 exact⟨rest.drop vs.length,heap_setCells vs done rest h1 (by omega),by rw [List.length_append,List.length_drop];omega⟩
theorem RowX.there {W:World} {g t N n:Nat} {done:List Value} (h:RowX W g t done N) (hl:done.length+n≤N):W.there g done.length n:=fun j hj=>by
 obtain⟨rest,h1,h2⟩:=h
 refine⟨?_,frozen_at h1⟩
 have:(done++rest).toArray[done.length+j]?=some ((done++rest)[done.length+j]'(by rw [List.length_append];omega)):=by
  rw [List.getElem?_toArray,List.getElem?_eq_getElem]
 rw [cells_at h1 this]
 rfl
theorem Tryz.infAz:(Tryz.prog.info? 52).map (fun i=>(i.zero,i.size,i.bytes))=some (some (.agg #[.string ⟨#[]⟩,.int .i64 0,.int .i64 0,.bool false,.int .u64 0]),5,48):=by kernel_rfl
theorem Tryz.infJz8:(Tryz.prog.info? 55).map (fun i=>(i.zero,i.size,i.bytes))=some (some (.agg #[.int .i64 0,.int .i64 0,.int .i64 0,.int .i64 0,.int .i64 0,.int .i64 0,.int .i64 0,.slice none 0 0]),8,80):=by kernel_rfl
theorem make_ac (w:World) {n:Nat} (hn:n*48≤281474976710656):∃w',(Instr.makeSlice 24 (.int .i64 (n:Int)) (.int .i64 (n:Int))).run Tryz.prog w=.ok (.slice (some ⟨w.heap.size,0,none⟩) n n) w'∧RowX w' w.heap.size 52 [] (n*5)∧Below w.heap.size w w'∧w'.heap.size=w.heap.size+1:=by
 obtain⟨i0,hi0,hz0,hz1,hz2⟩:=info_parts Tryz.infAz
 have hmk:=run_make (P:=Tryz.prog) w 24 52 i0 _ Tryz.underlying24 hi0 hz0 .i64 .i64 (n:Int) (n:Int) (by omega) (Int.le_refl _) (by rw [hz2];omega) (by omega)
 simp only [Int.toNat_natCast,hz1]at hmk
 refine⟨_,hmk,⟨(madeCells (Value.agg #[.string ⟨#[]⟩,.int .i64 0,.int .i64 0,.bool false,.int .u64 0]).cells (n*5)).toList,?_,?_⟩,(Below.refl _ _).alloc (Nat.le_refl _) _,by simp⟩
 ·rw [List.nil_append,Array.toArray_toList]
  exact heap_alloc_new w _
 ·simp [madeCells]
theorem make_jb (w:World) {n:Nat} (hn:n*80≤281474976710656):∃w',(Instr.makeSlice 25 (.int .i64 (n:Int)) (.int .i64 (n:Int))).run Tryz.prog w=.ok (.slice (some ⟨w.heap.size,0,none⟩) n n) w'∧RowX w' w.heap.size 55 [] (n*8)∧Below w.heap.size w w'∧w'.heap.size=w.heap.size+1:=by
 obtain⟨i0,hi0,hz0,hz1,hz2⟩:=info_parts Tryz.infJz8
 have hmk:=run_make (P:=Tryz.prog) w 25 55 i0 _ Tryz.underlying25 hi0 hz0 .i64 .i64 (n:Int) (n:Int) (by omega) (Int.le_refl _) (by rw [hz2];omega) (by omega)
 simp only [Int.toNat_natCast,hz1]at hmk
 refine⟨_,hmk,⟨(madeCells (Value.agg #[.int .i64 0,.int .i64 0,.int .i64 0,.int .i64 0,.int .i64 0,.int .i64 0,.int .i64 0,.slice none 0 0]).cells (n*8)).toList,?_,?_⟩,(Below.refl _ _).alloc (Nat.le_refl _) _,by simp⟩
 ·rw [List.nil_append,Array.toArray_toList]
  exact heap_alloc_new w _
 ·simp [madeCells]
end Go.Proofs.YtceoibfliggalaaGreatDoor
namespace Go.Proofs.YtceoibfliggalaaGreatDoor
open Go.RowKit Wd Tr Cg Ld Lg
theorem mk_list:(⟨#[98,97,99,107,102,105,108,108,49]⟩:ByteArray).toList= [98,97,99,107,102,105,108,108,49]:=by kernel_rfl
theorem res_cell2 {f:Func} {r k:Nat} {t:TypeId} {tm:Array Value} {a:Addr} {W:World} {v u:Value} (hf:f.results= #[ResultVar.cell r t,ResultVar.tmp k]) (ht:tm[r]?=some (.pointer (some a))) (hk:tm[k]?=some u) (hl:(loadVar t a).run Tryz.prog W=.ok v W):(results f tm).run Tryz.prog W=.ok (.tuple #[v,u]) W:=by
 simp [results,hf,ht,hk,asAddr,hl]
theorem ret_st2 {f:Func} {r k:Nat} {a:Act} {W:World} {b:Nat} {old cs:Array Value} {u:Value} {R:Ending→World→Prop} (hf:f.results= #[ResultVar.cell r 27,ResultVar.tmp k]) (ht:a.tmps[r]?=some (.pointer (some ⟨b,0,none⟩))) (hk:a.tmps[k]?=some u) (hd:a.defers= []) (hg:W.heap[b]?=some (.cells old 27 (0,0))) (hs:cs.size=12) (hR:R (.returned (.tuple #[.agg cs,u])) (W.setRow b cs)):bodyPost Tryz.prog f R .ret a (W.setRow b cs):=
 bodyPost_ret (v:=.tuple #[.agg cs,u]) (res_cell2 hf ht hk (load_st (setRow_heap W b old cs _ _ hg) hs)) hd hR
def SetsApart (qs:List Pj):Prop:=qs.Pairwise fun q p=>∀a b,q.sa=some ⟨a,0,none⟩→p.sa=some ⟨b,0,none⟩→a≠b
structure RdS (W:World) (lo gA gJ:Nat) (la:List Ac) (qs:List Pj):Prop where
 acs:W.heap[gA]?=some (.cells (flatA la).toArray 52 (0,0))
 jobs:W.heap[gJ]?=some (.cells (flatJ qs).toArray 55 (0,0))
 sets:∀q∈qs,∃g,q.sa=some ⟨g,0,none⟩∧q.sc=q.v.set.length∧lo≤g∧W.heap[g]?=some (.cells (q.v.set.map (Value.int .i64)).toArray 3 (0,0))
 la_lo:lo≤gA
 lj_lo:lo≤gJ
 nx:SetsApart qs
def ReadP (w:World) (r:List UInt8) (e:Ending) (w':World):Prop:=∃c now hd gA gJ b,∃qs:List Pj,e=.returned (.tuple #[.agg (stC c now (.slice (some ⟨gA,0,none⟩) (rd4 r).1.length (rd4 r).1.length) (.slice (some ⟨gJ,0,none⟩) qs.length qs.length) hd),.bool b])∧(rd2 r).1= [c.nodes,c.queue,c.limit,c.age,c.fair,c.size,c.period,c.half,now,hd]∧qs.map Pj.v=(rd6 r).1∧(b=true↔rd7 r≠none)∧RdS w' w.heap.size gA gJ (rd4 r).1 qs∧Below w.heap.size w w'
set_option maxRecDepth 20000 in
set_option maxHeartbeats 2000000 in
theorem read_any {w:World} {ao:Option Addr} {r:List UInt8} {c0:Nat} (hb:∃g o,(0<r.length→ao=some ⟨g,o,none⟩)∧∀k b,r[k]?=some b→w.cell? ⟨g,o+k,none⟩=some (.int .u8 (b.toNat:Int))) (hc:r.length≤c0) (hn:ao=none→c0=0) (hl:r.length≤140737488355328):
  Calls Tryz.prog 33 #[.slice ao r.length c0] w (ReadP w r):=by
 obtain⟨W0,hW0⟩:∃W0,w.alloc (.cells #[.int .i64 0,.int .i64 0,.int .i64 0,.int .i64 0,.int .i64 0,.int .i64 0,.int .i64 0,.int .i64 0,.int .i64 0,.slice none 0 0,.slice none 0 0,.int .i64 0] 27)=W0:=⟨_,rfl⟩
 have b0:Below w.heap.size w W0:=by rw [← hW0];exact(Below.refl _ _).alloc (Nat.le_refl _) _
 have z0:W0.heap.size=w.heap.size+1:=by rw [← hW0];simp
 have hg0:W0.heap[w.heap.size]?=some (.cells #[.int .i64 0,.int .i64 0,.int .i64 0,.int .i64 0,.int .i64 0,.int .i64 0,.int .i64 0,.int .i64 0,.int .i64 0,.slice none 0 0,.slice none 0 0,.int .i64 0] 27 (0,0)):=by rw [← hW0];exact heap_alloc_new w _
 obtain⟨W1,hW1⟩:∃W1,W0.alloc (.cells #[.slice ao r.length c0,.bool false] 91)=W1:=⟨_,rfl⟩
 have b1:Below W0.heap.size W0 W1:=by rw [← hW1];exact(Below.refl _ _).alloc (Nat.le_refl _) _
 have z1:W1.heap.size=w.heap.size+2:=by rw [← hW1];simp;omega
 have hg1:W1.heap[w.heap.size+1]?=some (.cells #[.slice ao r.length c0,.bool false] 91 (0,0)):=by rw [← hW1,←z0];exact heap_alloc_new W0 _
 have hres:W1.heap[w.heap.size]?=some (.cells #[.int .i64 0,.int .i64 0,.int .i64 0,.int .i64 0,.int .i64 0,.int .i64 0,.int .i64 0,.int .i64 0,.int .i64 0,.slice none 0 0,.slice none 0 0,.int .i64 0] 27 (0,0)):=(b1.block _ (by omega)).trans hg0
 have B1:Below w.heap.size w W1:=b0.trans (b1.mono b0.size)
 obtain⟨x,hx⟩:∃x,w.heap.size+1=x:=⟨_,rfl⟩
 rw [hx]at hg1
 have hR1:Rd W1 x (some r):=by
  obtain⟨g,o,p1,p2⟩:=hb
  refine⟨ao,c0,hg1,hc,hn,⟨g,o,fun h0=>⟨p1 h0,?_⟩,fun k u hu=>cellB B1 (p2 k u hu)⟩,hl⟩
  have:=World.block_lt_of_cell? w _ (p2 0 _ (List.getElem?_eq_getElem h0))
  have:g<w.heap.size:=this
  omega
 have HB1:Hid _:=B1
 have HRES:Hid _:=hres
 have HR1:Hid _:=hR1
 have HX:Hid (w.heap.size+1=x):=hx
 clear hb hc hn hl b0 hg0 b1 hg1 hres B1 hR1 hx
 obtain⟨q,hq⟩:∃q,r.length=q:=⟨_,rfl⟩
 rw [hq]at hW1 ⊢
 have HW1:Hid (W0.alloc (.cells #[.slice ao q c0,.bool false] 91)=W1):=hW1
 clear hq hW1
 go_enter Tryz.func33,Tryz.ntmps33
 go_upto_region 2 with fail
 rw [HW1.out,HX.out]
 go_cut [] (fun y=>Rd y x (rd1 r)∧Chg (fun k=>k=x) W1 y)
 case first=>
  have hby:=bytes_any (s:=some r) HR1.out 9
  unfold BytP at hby
  by_cases hm:(bytF 9 (some r)).1=markB
  ·have e1:rd1 r=(bytF 9 (some r)).2:=by unfold rd1;rw [decide_eq_true hm];rfl
   rw [hm,show markB.length=9 from rfl]at hby
   have E1:Hid (rd1 r=(bytF 9 (some r)).2):=e1
   clear e1 hm
   generalize (bytF 9 (some r)).2=s1 at *
   go_wp2_with (first
    | (go_at_call 65;refine hby.mono ?_;rintro e w2 ⟨a2,c2,rfl,hB2,hR2,hC2⟩;have hcv:(convert 35 9 (.slice a2 9 c2)).run Tryz.prog w2=.ok (.string ⟨#[98,97,99,107,102,105,108,108,49]⟩) w2:=conv_any (c:=c2) hB2;have hnd:=rneed_any hR2 true;have HC2:Hid _:=hC2;clear hC2 hR2 hB2)
    | (go_at_call 64;refine hnd.mono ?_;rintro e w3 ⟨rfl,hR3,hC3⟩))
   go_meet
   rw [E1.out]
   exact⟨hR3,HC2.out.trans hC3 (fun _ _ e=>e)⟩
  ·have e1:rd1 r=none:=by unfold rd1;rw [decide_eq_false hm];rfl
   have E1:Hid (rd1 r=none):=e1
   clear e1
   generalize bytF 9 (some r)=p at *
   obtain⟨l,s1⟩:=p
   simp only at hby hm
   have hne:¬(⟨l.toArray⟩:ByteArray)=⟨#[98,97,99,107,102,105,108,108,49]⟩:=fun e=>hm (by have:=congrArg (fun b:ByteArray=>b.data.toList) e;simpa [markB]using this)
   have hne1:decide ((⟨l.toArray⟩:ByteArray)=⟨#[98,97,99,107,102,105,108,108,49]⟩)=false:=decide_eq_false hne
   obtain⟨bs,hbs⟩:∃bs:ByteArray,(⟨l.toArray⟩:ByteArray)=bs:=⟨_,rfl⟩
   have HBS:Hid _:=hbs
   rw [hbs]at hne hne1
   have hne3:(bs.toList== [98,97,99,107,102,105,108,108,49])=false:=by
    have h9:=ba_ne hne
    rwa [mk_list]at h9
   clear hm hbs
   go_wp2_with (first
    | (go_at_call 65;refine hby.mono ?_;rintro e w2 ⟨a2,c2,rfl,hB2,hR2,hC2⟩;have hcv:=conv_any (c:=c2) hB2;rw [HBS.out]at hcv;have hnd:=rneed_any hR2 false;have HC2:Hid _:=hC2;clear hC2 hR2 hB2)
    | (go_at_call 64;refine hnd.mono ?_;rintro e w3 ⟨rfl,hR3,hC3⟩))
   go_meet
   rw [E1.out]
   exact⟨hR3,HC2.out.trans hC3 (fun _ _ e=>e)⟩
 case rest=>
 obtain⟨hR2,hC2⟩:=hcut
 obtain⟨V,hV⟩:∃V:World,V=wc:=⟨_,rfl⟩
 rw [← hV]at hR2 hC2
 rw [← hV]
 clear hV
 obtain⟨s1,hs1⟩:∃s1,rd1 r=s1:=⟨_,rfl⟩
 rw [hs1]at hR2
 have E2:Hid (rd2 r=numsF 10 s1):=by show rd2 r=numsF 10 s1;unfold rd2;rw [hs1]
 clear hs1
 have hx:=HX.out
 have hxw:w.heap.size<x:=by omega
 clear hx
 have zV:w.heap.size+2≤V.heap.size:=by have:=hC2.size;omega
 have hxV:x<V.heap.size:=by have:=HX.out;omega
 have hhd:=rhead_any hR2
 have HRV:Hid (V.heap[w.heap.size]?=some (.cells #[.int .i64 0,.int .i64 0,.int .i64 0,.int .i64 0,.int .i64 0,.int .i64 0,.int .i64 0,.int .i64 0,.int .i64 0,.slice none 0 0,.slice none 0 0,.int .i64 0] 27 (0,0))):=(hC2.block _ (by omega) (by omega)).trans HRES.out
 have HBV:Hid (Below w.heap.size w V):=hC2.below HB1.out HB1.out.size (fun i hi=>by have:i=x:=hi;omega)
 clear hR2 hC2 HRES HB1 HR1 HW1 hW0
 go_upto_region 4 with(go_at_call 66;refine hhd.mono ?_;rintro e w4 ⟨c,now,hd,rfl,hH,hR4,hC4⟩;unfold stC)
 have hH':(rd2 r).1= [c.nodes,c.queue,c.limit,c.age,c.fair,c.size,c.period,c.half,now,hd]:=by rw [E2.out];exact hH
 obtain⟨s2,hs2⟩:∃s2,(numsF 10 s1).2=s2:=⟨_,rfl⟩
 rw [hs2]at hR4
 have E3:Hid (rd3 r=cntF 40 s2):=by show rd3 r=cntF 40 s2;unfold rd3;rw [E2.out,hs2]
 clear hs2 hH
 obtain⟨W5,hW5⟩:∃W5,w4.alloc (.cells #[.int .i64 c.nodes,.int .i64 c.queue,.int .i64 c.limit,.int .i64 c.age,.int .i64 c.fair,.int .i64 c.size,.int .i64 c.period,.int .i64 c.half,.int .i64 now,.slice none 0 0,.slice none 0 0,.int .i64 hd] 27)=W5:=⟨_,rfl⟩
 have b5:Below w4.heap.size w4 W5:=by rw [← hW5];exact(Below.refl _ _).alloc (Nat.le_refl _) _
 have z5:W5.heap.size=w4.heap.size+1:=by rw [← hW5];simp
 have hs5:W5.heap[w4.heap.size]?=some (.cells #[.int .i64 c.nodes,.int .i64 c.queue,.int .i64 c.limit,.int .i64 c.age,.int .i64 c.fair,.int .i64 c.size,.int .i64 c.period,.int .i64 c.half,.int .i64 now,.slice none 0 0,.slice none 0 0,.int .i64 hd] 27 (0,0)):=by rw [← hW5];exact heap_alloc_new w4 _
 have z4:V.heap.size≤w4.heap.size:=hC4.size
 have hC5:Chg (fun k=>k=x) V W5:=hC4.trans (Chg.of_below b5 _) (fun _ _ e=>e)
 have hct:=rcount_40 (Rd.other (s:=s2) (W':=W5) hR4 (fun k hk=>b5.block k (by omega)))
 have hcp:=cnt_pos 40 s2
 have hcl:=cnt_le 40 s2
 obtain⟨n,hn⟩:∃n:Nat,(cntF 40 s2).1=n:=⟨(cntF 40 s2).1.toNat,by omega⟩
 rw [hn]at hct hcl
 obtain⟨s3,hs3⟩:∃s3,(cntF 40 s2).2=s3:=⟨_,rfl⟩
 rw [hs3]at hct hcl
 have E4:Hid (rd4 r=acsF n s3):=by show rd4 r=acsF n s3;unfold rd4;rw [E3.out,hs3,hn];rfl
 have HC5:Hid _:=hC5
 have HS5:Hid _:=hs5
 have HH:Hid _:=hH'
 rw [hW5]
 clear hH' hR4 hC4 b5 hs5 hC5 hn hcp hhd hW5 hs3
 go_upto_region 5 with(go_at_call 67;refine hct.mono ?_;rintro e w6 ⟨rfl,hR6,hC6⟩;have hfew:=hR6.few;obtain⟨w7,hmk,hA7,b7,z7⟩:=make_ac w6 (n:=n) (by omega);have hs6:=(hC6.block w4.heap.size (by omega) (by omega)).trans HS5.out;have z6:W5.heap.size≤w6.heap.size:=hC6.size;have hs7:=(b7.block w4.heap.size (by omega)).trans hs6;have c9:w7.cell? ⟨w4.heap.size,9,none⟩=some (.slice none 0 0):=cells_at hs7 rfl;have f9:w7.frozen? ⟨w4.heap.size,9,none⟩=false:=frozen_at hs7;have HS7:Hid _:=hs7;have HR6:Hid _:=hR6;have HC6:Hid _:=hC6;have HA7:Hid _:=hA7;have HB7:Hid _:=b7;clear hs6 hs7 hR6 hC6 hA7 b7)
 have hs8:=heap_setCell_same w7 w4.heap.size 9 _ _ (.slice (some ⟨w6.heap.size,0,none⟩) n n) HS7.out
 obtain⟨w8,hw8⟩:∃w8,w7.setCell ⟨w4.heap.size,9,none⟩ (.slice (some ⟨w6.heap.size,0,none⟩) n n)=w8:=⟨_,rfl⟩
 rw [hw8]at hs8
 have hs8':w8.heap[w4.heap.size]?=some (.cells #[.int .i64 c.nodes,.int .i64 c.queue,.int .i64 c.limit,.int .i64 c.age,.int .i64 c.fair,.int .i64 c.size,.int .i64 c.period,.int .i64 c.half,.int .i64 now,.slice (some ⟨w6.heap.size,0,none⟩) n n,.slice none 0 0,.int .i64 hd] 27 (0,0)):=hs8
 have hk8:Chg (fun k=>k=w4.heap.size) w7 w8:=by rw [← hw8];exact⟨rfl,rfl,rfl,by simp,fun i _ hi=>Below.heap_setCell _ _ _ _ hi⟩
 have z8:w8.heap.size=w7.heap.size:=by rw [← hw8];exact World.size_setCell ..
 have HR8:Hid (Rd w8 x s3):=Rd.other (s:=s3) HR6.out (fun k hk=>(hk8.block k (by omega) (by omega)).trans (HB7.out.block k (by omega)))
 have HA8:Hid (RowX w8 w6.heap.size 52 [] (n*5)):=RowX.same HA7.out (hk8.block _ (by omega) (by omega))
 have HC8:Hid (Chg (fun k=>k=x∨w4.heap.size≤k) V w8):=(((HC5.out.mono (fun _ _ e=>.inl e)).trans HC6.out (fun _ _ e=>.inl e)).trans (Chg.of_below HB7.out _) (fun _ _ e=>e)).trans hk8 (fun _ _ e=>.inr (by have:_=w4.heap.size:=e;omega))
 rw [hw8]
 have HS8:Hid _:=hs8'
 clear hs8 hs8' hw8 hk8 hmk c9 f9 HS7 HR6 HC6 HA7 HB7 HC5 HS5 hct
 have hsb:x<w4.heap.size:=by omega
 have hga:w4.heap.size<w6.heap.size:=by omega
 have hga8:w6.heap.size<w8.heap.size:=by omega
 have hvb:V.heap.size≤w4.heap.size:=z4
 have hnb:n≤140737488355328:=by omega
 clear z4 z5 z6 z7 z8 hcl hfew
 generalize w6.heap.size=gA at *
 generalize w4.heap.size=sb at *
 have c9:w8.cell? ⟨sb,9,none⟩=some (.slice (some ⟨gA,0,none⟩) n n):=cells_at HS8.out rfl
 go_wp2
 clear c9
 go_loopg [6,21] n (fun gk u pk wr=>∃(i:Nat),i+gk=n∧pk=.int .i64 i∧Rd wr x (acsF i s3).2∧RowX wr gA 52 (flatA (acsF i s3).1) (n*5)∧Chg (fun k=>k=x∨k=gA) w8 wr)
 case atStart=>exact⟨0,by omega,rfl,HR8.out,HA8.out,Chg.refl _ _⟩
 case round=>
  obtain⟨i,hi,rfl,hRi,hAi,hCi⟩:=hrel
  by_cases hlt:i<n
  ·have hlt':(i:Int)<n:=by omega
   have hsn:=acsF_snoc i s3
   have hln:=acsF_len i s3
   generalize acsF i s3=p at *
   obtain⟨la,t⟩:=p
   simp only at hRi hAi hsn hln
   have hac:=raccount_any (Rd.other (s:=t) (W':=wr.drew) hRi (fun k hk=>rfl))
   obtain⟨a,ha⟩:∃a,(acF t).1=a:=⟨_,rfl⟩
   obtain⟨t2,ht2⟩:∃t2,(acF t).2=t2:=⟨_,rfl⟩
   rw [ha,ht2]at hac hsn
   have hsbi:wr.drew.heap[sb]?=some (.cells #[.int .i64 c.nodes,.int .i64 c.queue,.int .i64 c.limit,.int .i64 c.age,.int .i64 c.fair,.int .i64 c.size,.int .i64 c.period,.int .i64 c.half,.int .i64 now,.slice (some ⟨gA,0,none⟩) n n,.slice none 0 0,.int .i64 hd] 27 (0,0)):=(hCi.block sb (by omega) (by omega)).trans HS8.out
   have hAi':RowX wr.drew gA 52 (flatA la) (n*5):=hAi.same rfl
   have hfl:(flatA la).length=i*5:=by rw [flatA_len,hln]
   have hsz:=hCi.size
   have HAC:Hid _:=hac
   have HSB:Hid _:=hsbi
   have HAI:Hid _:=hAi'
   have HCI:Hid _:=hCi
   have HSN:Hid _:=hsn
   have HFL:Hid _:=hfl
   clear hRi hAi hAi' hCi hsn hln ha ht2 hac hsbi hfl
   go_upto_region 8 with fail
   refine wp_region_last (S:=(fun y:World=>y.heap[sb]?=some (.cells #[.int .i64 c.nodes,.int .i64 c.queue,.int .i64 c.limit,.int .i64 c.age,.int .i64 c.fair,.int .i64 c.size,.int .i64 c.period,.int .i64 c.half,.int .i64 now,.slice (some ⟨gA,0,none⟩) n n,.slice none 0 0,.int .i64 hd] 27 (0,0)))) (L:=5) (by kernel_rfl) ?_
   have HSW0:(fun y:World=>y.heap[sb]?=some (.cells #[.int .i64 c.nodes,.int .i64 c.queue,.int .i64 c.limit,.int .i64 c.age,.int .i64 c.fair,.int .i64 c.size,.int .i64 c.period,.int .i64 c.half,.int .i64 now,.slice (some ⟨gA,0,none⟩) n n,.slice none 0 0,.int .i64 hd] 27 (0,0))) (wr.drew):=HSB.out
   have HF:Hid (∀xx:World,(fun y:World=>y.heap[sb]?=some (.cells #[.int .i64 c.nodes,.int .i64 c.queue,.int .i64 c.limit,.int .i64 c.age,.int .i64 c.fair,.int .i64 c.size,.int .i64 c.period,.int .i64 c.half,.int .i64 now,.slice (some ⟨gA,0,none⟩) n n,.slice none 0 0,.int .i64 hd] 27 (0,0))) xx→xx.cell? ⟨sb,9,none⟩=some (.slice (some ⟨gA,0,none⟩) n n)∧True):=fun xx hSx=>⟨cells_at (show xx.heap[sb]?=_ from hSx) rfl,trivial⟩
   refine tc [0,5] 0 HSW0 (h:=?_)
   refine tc [1,5] 1 HSW0 (h:=?_)
   refine tc [2,5] 2 HSW0 (h:=?_)
   refine last_one (i:=3) (by kernel_rfl) rfl ?_
   intro K hK
   go_simp
   go_at_call 68
   refine(show Calls _ _ _ _ _ from HAC.out).mono ?_
   rintro e w9 ⟨rfl,hR9,hC9⟩
   have HR9:Hid _:=hR9
   have HC9:Hid _:=hC9
   have hA9:RowX w9 gA 52 (flatA la) (n*5):=RowX.same HAI.out (hC9.block gA (show gA<wr.heap.size by omega) (by omega))
   have hth:=RowX.there hA9 (n:=5) (by rw [HFL.out];omega)
   rw [HFL.out]at hth
   have HTH:Hid (w9.there gA (i*5) 5):=hth
   have HA9:Hid _:=hA9
   have hsz9:wr.heap.size≤w9.heap.size:=hC9.size
   clear hA9 hth
   have HSw9:(fun y:World=>y.heap[sb]?=some (.cells #[.int .i64 c.nodes,.int .i64 c.queue,.int .i64 c.limit,.int .i64 c.age,.int .i64 c.fair,.int .i64 c.size,.int .i64 c.period,.int .i64 c.half,.int .i64 now,.slice (some ⟨gA,0,none⟩) n n,.slice none 0 0,.int .i64 hd] 27 (0,0))) w9:=(hC9.block sb (show sb<wr.heap.size by omega) (by omega)).trans HSW0
   go_simp
   refine hK.out _ _ (fun _=>HSw9) (fun _=>?_)
   clear hK K HSW0
   refine tc [4,5] 4 HSw9 (h:=?_)
   refine last_one (i:=5) (by kernel_rfl) rfl ?_
   intro K hK
   refine ite_yes (by rfl) ?_
   refine wp_store_mid 52 (.tmp 28) (.tmp 27) rfl gA (i*5) #[.string a.nm,.int .i64 a.pa,.int .i64 a.sh,.bool a.cl,.int .u64 a.us] (by simp [Act.eval]) (by simp [Act.eval]) HTH.out Tryz.infAc (by simp [Value.oneCell']) ?_
   refine hK.out _ _ (fun h=>absurd rfl h) (fun _=>?_)
   clear hK K
   refine last_done (by kernel_rfl) ?_ _
   have hput:=RowX.put HA9.out (vs:= [.string a.nm,.int .i64 a.pa,.int .i64 a.sh,.bool a.cl,.int .u64 a.us]) (by rw [HFL.out];show i*5+5≤n*5;omega)
   rw [HFL.out]at hput
   have hRz:=Rd.other (s:=t2) (W':=w9.setCells gA (i*5) [.string a.nm,.int .i64 a.pa,.int .i64 a.sh,.bool a.cl,.int .u64 a.us]) HR9.out (fun k hk=>setCells_other (by omega) _ _ _)
   have hCz:=((HCI.out.trans (Chg.of_below (drew_below' wr) _) (fun _ _ e=>e)).trans HC9.out (fun _ _ e=>.inl e)).trans (setCells_chg (g:=gA) [.string a.nm,.int .i64 a.pa,.int .i64 a.sh,.bool a.cl,.int .u64 a.us] (i*5) w9) (fun _ _ e=>.inr e)
   obtain⟨wz,hwz⟩:∃wz,w9.setCells gA (i*5) [.string a.nm,.int .i64 a.pa,.int .i64 a.sh,.bool a.cl,.int .u64 a.us]=wz:=⟨_,rfl⟩
   rw [hwz]at hput hRz hCz
   have HWZ:Hid _:=hwz
   have HPUT:Hid _:=hput
   have HRZ:Hid _:=hRz
   have HCZ:Hid _:=hCz
   clear hwz hput hRz hCz HTH HA9 HR9 HC9 HAI HSw9 HFL
   simp only []
   rw [HWZ.out]
   go_wp2
   go_roundg (n - (i+1))
   case measure=>omega
   case rel=>
    refine⟨i+1,by omega,by go_num,?_,?_,?_⟩
    ·rw [HSN.out];exact HRZ.out
    ·rw [HSN.out]
     show RowX _ gA _ (flatA (la++ [a])) _
     rw [flatA_app]
     exact HPUT.out
    ·exact HCZ.out
  ·have hin:n=i:=by omega
   subst hin
   have hlt':¬(n:Int)<n:=by omega
   have hlen4:=acsF_len n s3
   obtain⟨la,hla⟩:∃la,(acsF n s3).1=la:=⟨_,rfl⟩
   obtain⟨s4,hs4⟩:∃s4,(acsF n s3).2=s4:=⟨_,rfl⟩
   rw [hla]at hAi hlen4
   rw [hs4]at hRi
   have E4a:Hid ((rd4 r).1=la):=by show (rd4 r).1=la;rw [E4.out,hla]
   have E5:Hid (rd5 r=cntF 64 s4):=by show rd5 r=cntF 64 s4;unfold rd5;rw [E4.out,hs4]
   have hgA9:wr.heap[gA]?=some (.cells (flatA la).toArray 52 (0,0)):=by
    obtain⟨rest,hg,hl⟩:=hAi
    rw [flatA_len,hlen4]at hl
    have:rest= []:=List.length_eq_zero_iff.1 (by omega)
    rw [this,List.append_nil]at hg
    exact hg
   have hsb9:wr.heap[sb]?=some (.cells #[.int .i64 c.nodes,.int .i64 c.queue,.int .i64 c.limit,.int .i64 c.age,.int .i64 c.fair,.int .i64 c.size,.int .i64 c.period,.int .i64 c.half,.int .i64 now,.slice (some ⟨gA,0,none⟩) n n,.slice none 0 0,.int .i64 hd] 27 (0,0)):=(hCi.block sb (by omega) (by omega)).trans HS8.out
   have hC9:Chg (fun k=>k=x∨sb≤k) V wr:=HC8.out.trans hCi (fun k _ e=>by rcases e with e | e;exact .inl e;exact .inr (by have:k=gA:=e;omega))
   have hz9:=hCi.size
   have hct:=rcount_64 hRi
   have hcp:=cnt_pos 64 s4
   have hcl:=cnt_le 64 s4
   obtain⟨m,hm⟩:∃m:Nat,(cntF 64 s4).1=m:=⟨(cntF 64 s4).1.toNat,by omega⟩
   rw [hm]at hct hcl
   obtain⟨s5,hs5⟩:∃s5,(cntF 64 s4).2=s5:=⟨_,rfl⟩
   rw [hs5]at hct hcl
   have E6:Hid (rd6 r=jbsF m s5):=by show rd6 r=jbsF m s5;unfold rd6;rw [E5.out,hs5,hm];rfl
   have HGA:Hid _:=hgA9
   have HSB:Hid _:=hsb9
   have HC9:Hid _:=hC9
   clear hRi hAi hCi hgA9 hsb9 hC9 hla hs4 hs5 hm hcp HC8 HS8 HR8 HA8
   go_upto_region 11 with(go_at_call 67;refine hct.mono ?_;rintro e w11 ⟨rfl,hR11,hC11⟩;have hfew:=hR11.few;obtain⟨w12,hmk,hJ12,b12,z12⟩:=make_jb w11 (n:=m) (by omega);have z11:wr.heap.size≤w11.heap.size:=hC11.size;have hs11:=(hC11.block sb (by omega) (by omega)).trans HSB.out;have hs12:=(b12.block sb (by omega)).trans hs11;have c10:w12.cell? ⟨sb,10,none⟩=some (.slice none 0 0):=cells_at hs12 rfl;have f10:w12.frozen? ⟨sb,10,none⟩=false:=frozen_at hs12;have HGA12:Hid (w12.heap[gA]?=some (.cells (flatA la).toArray 52 (0,0))):=(b12.block gA (by omega)).trans ((hC11.block gA (by omega) (by omega)).trans HGA.out);have HS12:Hid _:=hs12;have HR11:Hid _:=hR11;have HC11:Hid _:=hC11;have HJ12:Hid _:=hJ12;have HB12:Hid _:=b12;clear hs11 hs12 hR11 hC11 hJ12 b12)
   have hs13:=heap_setCell_same w12 sb 10 _ _ (.slice (some ⟨w11.heap.size,0,none⟩) m m) HS12.out
   obtain⟨w13,hw13⟩:∃w13,w12.setCell ⟨sb,10,none⟩ (.slice (some ⟨w11.heap.size,0,none⟩) m m)=w13:=⟨_,rfl⟩
   rw [hw13]at hs13
   have hs13':w13.heap[sb]?=some (.cells #[.int .i64 c.nodes,.int .i64 c.queue,.int .i64 c.limit,.int .i64 c.age,.int .i64 c.fair,.int .i64 c.size,.int .i64 c.period,.int .i64 c.half,.int .i64 now,.slice (some ⟨gA,0,none⟩) n n,.slice (some ⟨w11.heap.size,0,none⟩) m m,.int .i64 hd] 27 (0,0)):=hs13
   have hk13:Chg (fun k=>k=sb) w12 w13:=by rw [← hw13];exact⟨rfl,rfl,rfl,by simp,fun i _ hi=>Below.heap_setCell _ _ _ _ hi⟩
   have z13:w13.heap.size=w12.heap.size:=by rw [← hw13];exact World.size_setCell ..
   have HR13:Hid (Rd w13 x s5):=Rd.other (s:=s5) HR11.out (fun k hk=>(hk13.block k (by omega) (by omega)).trans (HB12.out.block k (by omega)))
   have HJ13:Hid (RowX w13 w11.heap.size 55 [] (m*8)):=RowX.same HJ12.out (hk13.block _ (by omega) (by omega))
   have HGA13:Hid (w13.heap[gA]?=some (.cells (flatA la).toArray 52 (0,0))):=(hk13.block gA (by omega) (by omega)).trans HGA12.out
   have HC13:Hid (Chg (fun k=>k=x∨sb≤k) V w13):=((HC9.out.trans HC11.out (fun _ _ e=>.inl e)).trans (Chg.of_below HB12.out _) (fun _ _ e=>e)).trans hk13 (fun _ _ e=>.inr (by have:_=sb:=e;omega))
   rw [hw13]
   have HS13:Hid _:=hs13'
   have hgj:gA<w11.heap.size:=by omega
   have hgj13:w11.heap.size<w13.heap.size:=by omega
   have hmb:m≤140737488355328:=by omega
   clear hs13 hs13' hw13 hk13 hmk c10 f10 HS12 HR11 HC11 HJ12 HB12 HC9 HGA12 HGA HSB hct z11 z12 z13 hz9 hcl hfew
   generalize w11.heap.size=gJ at *
   have c10:w13.cell? ⟨sb,10,none⟩=some (.slice (some ⟨gJ,0,none⟩) m m):=cells_at HS13.out rfl
   clear hlt' hi
   go_wp2
   clear c10
   go_loopg [7,36] m (fun gk u pk wr=>∃(i:Nat) (qs:List Pj),i+gk=m∧pk=.int .i64 i∧Rd wr x (jbsF i s5).2∧qs.map Pj.v=(jbsF i s5).1∧RowX wr gJ 55 (flatJ qs) (m*8)∧(∀q∈qs,∃g,q.sa=some ⟨g,0,none⟩∧q.sc=q.v.set.length∧gJ<g∧wr.heap[g]?=some (.cells (q.v.set.map (Value.int .i64)).toArray 3 (0,0)))∧SetsApart qs∧Chg (fun k=>k=x∨k=gJ) w13 wr)
   case atStart=>exact⟨0,[],by omega,rfl,HR13.out,rfl,HJ13.out,fun _ h=>absurd h List.not_mem_nil,List.Pairwise.nil,Chg.refl _ _⟩
   case round=>
    obtain⟨i,qs,hi,rfl,hRi,hQi,hJi,hSi,hNx,hCi⟩:=hrel
    have HNX:Hid (SetsApart qs):=hNx
    clear hNx
    by_cases hlt:i<m
    ·have hlt':(i:Int)<m:=by omega
     have hsn:=jbsF_snoc i s5
     have hln:=jbsF_len i s5
     generalize jbsF i s5=p at *
     obtain⟨lj,t⟩:=p
     simp only at hRi hQi hsn hln
     have hac:=rjob_any (Rd.other (s:=t) (W':=wr.drew) hRi (fun k hk=>rfl))
     obtain⟨a,ha⟩:∃a,(jbF t).1=a:=⟨_,rfl⟩
     obtain⟨t2,ht2⟩:∃t2,(jbF t).2=t2:=⟨_,rfl⟩
     rw [ha,ht2]at hac hsn
     have hsbi:wr.drew.heap[sb]?=some (.cells #[.int .i64 c.nodes,.int .i64 c.queue,.int .i64 c.limit,.int .i64 c.age,.int .i64 c.fair,.int .i64 c.size,.int .i64 c.period,.int .i64 c.half,.int .i64 now,.slice (some ⟨gA,0,none⟩) n n,.slice (some ⟨gJ,0,none⟩) m m,.int .i64 hd] 27 (0,0)):=(hCi.block sb (by omega) (by omega)).trans HS13.out
     have hJi':RowX wr.drew gJ 55 (flatJ qs) (m*8):=hJi.same rfl
     have hfl:(flatJ qs).length=i*8:=by rw [flatJ_len,←hln,←hQi,List.length_map]
     have hsz:=hCi.size
     have HAC:Hid _:=hac
     have HSB:Hid _:=hsbi
     have HJI:Hid _:=hJi'
     have HCI:Hid _:=hCi
     have HSN:Hid _:=hsn
     have HFL:Hid _:=hfl
     have HSI:Hid _:=hSi
     have HQI:Hid _:=hQi
     clear hRi hJi hJi' hCi hsn hln ha ht2 hac hsbi hfl hSi hQi
     go_upto_region 14 with fail
     refine wp_region_last (S:=(fun y:World=>y.heap[sb]?=some (.cells #[.int .i64 c.nodes,.int .i64 c.queue,.int .i64 c.limit,.int .i64 c.age,.int .i64 c.fair,.int .i64 c.size,.int .i64 c.period,.int .i64 c.half,.int .i64 now,.slice (some ⟨gA,0,none⟩) n n,.slice (some ⟨gJ,0,none⟩) m m,.int .i64 hd] 27 (0,0)))) (L:=5) (by kernel_rfl) ?_
     have HSW0:(fun y:World=>y.heap[sb]?=some (.cells #[.int .i64 c.nodes,.int .i64 c.queue,.int .i64 c.limit,.int .i64 c.age,.int .i64 c.fair,.int .i64 c.size,.int .i64 c.period,.int .i64 c.half,.int .i64 now,.slice (some ⟨gA,0,none⟩) n n,.slice (some ⟨gJ,0,none⟩) m m,.int .i64 hd] 27 (0,0))) (wr.drew):=HSB.out
     have HF:Hid (∀xx:World,(fun y:World=>y.heap[sb]?=some (.cells #[.int .i64 c.nodes,.int .i64 c.queue,.int .i64 c.limit,.int .i64 c.age,.int .i64 c.fair,.int .i64 c.size,.int .i64 c.period,.int .i64 c.half,.int .i64 now,.slice (some ⟨gA,0,none⟩) n n,.slice (some ⟨gJ,0,none⟩) m m,.int .i64 hd] 27 (0,0))) xx→xx.cell? ⟨sb,10,none⟩=some (.slice (some ⟨gJ,0,none⟩) m m)∧True):=fun xx hSx=>⟨cells_at (show xx.heap[sb]?=_ from hSx) rfl,trivial⟩
     refine tc [0,5] 0 HSW0 (h:=?_)
     refine tc [1,5] 1 HSW0 (h:=?_)
     refine tc [2,5] 2 HSW0 (h:=?_)
     refine last_one (i:=3) (by kernel_rfl) rfl ?_
     intro K hK
     go_simp
     go_at_call 69
     refine(show Calls _ _ _ _ _ from HAC.out).mono ?_
     rintro e w9 ⟨g,rfl,hgl,hgs,hR9,hC9⟩
     have HR9:Hid _:=hR9
     have HC9:Hid _:=hC9
     have HGS:Hid _:=hgs
     have hA9:RowX w9 gJ 55 (flatJ qs) (m*8):=RowX.same HJI.out (hC9.block gJ (show gJ<wr.heap.size by omega) (by omega))
     have hth:=RowX.there hA9 (n:=8) (by rw [HFL.out];omega)
     rw [HFL.out]at hth
     have HTH:Hid (w9.there gJ (i*8) 8):=hth
     have HA9:Hid _:=hA9
     have hsz9:wr.heap.size≤w9.heap.size:=hC9.size
     have hgl2:wr.heap.size<g:=hgl
     clear hA9 hth hgs hgl
     have HSw9:(fun y:World=>y.heap[sb]?=some (.cells #[.int .i64 c.nodes,.int .i64 c.queue,.int .i64 c.limit,.int .i64 c.age,.int .i64 c.fair,.int .i64 c.size,.int .i64 c.period,.int .i64 c.half,.int .i64 now,.slice (some ⟨gA,0,none⟩) n n,.slice (some ⟨gJ,0,none⟩) m m,.int .i64 hd] 27 (0,0))) w9:=(hC9.block sb (show sb<wr.heap.size by omega) (by omega)).trans HSW0
     go_simp
     refine hK.out _ _ (fun _=>HSw9) (fun _=>?_)
     clear hK K HSW0
     refine tc [4,5] 4 HSw9 (h:=?_)
     refine last_one (i:=5) (by kernel_rfl) rfl ?_
     intro K hK
     refine ite_yes (by rfl) ?_
     refine wp_store_mid 55 (.tmp 43) (.tmp 42) rfl gJ (i*8) #[.int .i64 a.ac,.int .i64 a.nd,.int .i64 a.lm,.int .i64 a.sb,.int .i64 a.st,.int .i64 a.sr,.int .i64 a.en,.slice (some ⟨g,0,none⟩) a.set.length a.set.length] (by simp [Act.eval]) (by simp [Act.eval]) HTH.out Tryz.infJb (by simp [Value.oneCell']) ?_
     refine hK.out _ _ (fun h=>absurd rfl h) (fun _=>?_)
     clear hK K
     refine last_done (by kernel_rfl) ?_ _
     have hput:=RowX.put HA9.out (vs:= [.int .i64 a.ac,.int .i64 a.nd,.int .i64 a.lm,.int .i64 a.sb,.int .i64 a.st,.int .i64 a.sr,.int .i64 a.en,.slice (some ⟨g,0,none⟩) a.set.length a.set.length]) (by rw [HFL.out];show i*8+8≤m*8;omega)
     rw [HFL.out]at hput
     have hRz:=Rd.other (s:=t2) (W':=w9.setCells gJ (i*8) [.int .i64 a.ac,.int .i64 a.nd,.int .i64 a.lm,.int .i64 a.sb,.int .i64 a.st,.int .i64 a.sr,.int .i64 a.en,.slice (some ⟨g,0,none⟩) a.set.length a.set.length]) HR9.out (fun k hk=>setCells_other (by omega) _ _ _)
     have hCz:=((HCI.out.trans (Chg.of_below (drew_below' wr) _) (fun _ _ e=>e)).trans HC9.out (fun _ _ e=>.inl e)).trans (setCells_chg (g:=gJ) [.int .i64 a.ac,.int .i64 a.nd,.int .i64 a.lm,.int .i64 a.sb,.int .i64 a.st,.int .i64 a.sr,.int .i64 a.en,.slice (some ⟨g,0,none⟩) a.set.length a.set.length] (i*8) w9) (fun _ _ e=>.inr e)
     have hSz:∀q∈qs++ [(⟨a,some ⟨g,0,none⟩,a.set.length⟩:Pj)],∃g2,q.sa=some ⟨g2,0,none⟩∧q.sc=q.v.set.length∧gJ<g2∧(w9.setCells gJ (i*8) [.int .i64 a.ac,.int .i64 a.nd,.int .i64 a.lm,.int .i64 a.sb,.int .i64 a.st,.int .i64 a.sr,.int .i64 a.en,.slice (some ⟨g,0,none⟩) a.set.length a.set.length]).heap[g2]?=some (.cells (q.v.set.map (Value.int .i64)).toArray 3 (0,0)):=by
      intro q hq
      rcases List.mem_append.1 hq with h | h
      ·obtain ⟨g1,p1,p2,p3,p4⟩:=HSI.out q h
       have hl1:g1<wr.heap.size:=(Array.getElem?_eq_some_iff.1 p4).1
       exact⟨g1,p1,p2,p3,(setCells_other (by omega) _ _ _).trans ((HC9.out.block g1 hl1 (by omega)).trans p4)⟩
      ·rw [List.mem_singleton.1 h]
       exact⟨g,rfl,rfl,by omega,(setCells_other (by omega) _ _ _).trans HGS.out⟩
     have hnx2:SetsApart (qs++ [(⟨a,some ⟨g,0,none⟩,a.set.length⟩:Pj)]):=List.pairwise_append.2 ⟨HNX.out,List.pairwise_singleton _ _,fun q hq p hp a1 b1 e1 e2=>by
      rw [List.mem_singleton.1 hp]at e2
      cases e2
      obtain⟨g1,p1,_,_,p4⟩:=HSI.out q hq
      rw [p1]at e1
      cases e1
      have hl1:a1<wr.heap.size:=(Array.getElem?_eq_some_iff.1 p4).1
      omega⟩
     have HNX2:Hid _:=hnx2
     clear hnx2
     obtain⟨wz,hwz⟩:∃wz,w9.setCells gJ (i*8) [.int .i64 a.ac,.int .i64 a.nd,.int .i64 a.lm,.int .i64 a.sb,.int .i64 a.st,.int .i64 a.sr,.int .i64 a.en,.slice (some ⟨g,0,none⟩) a.set.length a.set.length]=wz:=⟨_,rfl⟩
     rw [hwz]at hput hRz hCz hSz
     have HWZ:Hid _:=hwz
     have HPUT:Hid _:=hput
     have HRZ:Hid _:=hRz
     have HCZ:Hid _:=hCz
     have HSZ:Hid _:=hSz
     clear hwz hput hRz hCz hSz HTH HA9 HR9 HC9 HJI HSw9 HFL HGS HSI
     simp only []
     rw [HWZ.out]
     go_wp2
     go_roundg (m - (i+1))
     case measure=>omega
     case rel=>
      refine⟨i+1,qs++ [(⟨a,some ⟨g,0,none⟩,a.set.length⟩:Pj)],by omega,by go_num,?_,?_,?_,HSZ.out,HNX2.out,HCZ.out⟩
      ·rw [HSN.out];exact HRZ.out
      ·rw [HSN.out,List.map_append,HQI.out];rfl
      ·rw [flatJ_app];exact HPUT.out
    ·have hin:m=i:=by omega
     subst hin
     have hlt':¬(m:Int)<m:=by omega
     have hlen6:=jbsF_len m s5
     obtain⟨lj,hlj⟩:∃lj,(jbsF m s5).1=lj:=⟨_,rfl⟩
     obtain⟨s6,hs6⟩:∃s6,(jbsF m s5).2=s6:=⟨_,rfl⟩
     rw [hlj]at hQi hlen6
     rw [hs6]at hRi
     have E6a:Hid ((rd6 r).1=lj):=by show (rd6 r).1=lj;rw [E6.out,hlj]
     have E7:Hid (rd7 r=needF (decide (lenF s6=0)) s6):=by show rd7 r=_;unfold rd7;rw [E6.out,hs6]
     have hqm:qs.length=m:=by rw [← hlen6,←hQi,List.length_map]
     have hgJ9:wr.heap[gJ]?=some (.cells (flatJ qs).toArray 55 (0,0)):=by
      obtain⟨rest,hg,hl⟩:=hJi
      rw [flatJ_len,hqm]at hl
      have:rest= []:=List.length_eq_zero_iff.1 (by omega)
      rw [this,List.append_nil]at hg
      exact hg
     have hsb9:wr.heap[sb]?=some (.cells #[.int .i64 c.nodes,.int .i64 c.queue,.int .i64 c.limit,.int .i64 c.age,.int .i64 c.fair,.int .i64 c.size,.int .i64 c.period,.int .i64 c.half,.int .i64 now,.slice (some ⟨gA,0,none⟩) n n,.slice (some ⟨gJ,0,none⟩) m m,.int .i64 hd] 27 (0,0)):=(hCi.block sb (by omega) (by omega)).trans HS13.out
     have hgA9:=(hCi.block gA (by omega) (by omega)).trans HGA13.out
     have hC9:Chg (fun k=>k=x∨sb≤k) V wr:=HC13.out.trans hCi (fun k _ e=>by rcases e with e | e;exact .inl e;exact .inr (by have:k=gJ:=e;omega))
     have hz9:=hCi.size
     obtain⟨ao1,n1,c1,b1,hblk,hn1,hb1,_⟩:=Rd.blk hRi
     have cl:wr.cell? ⟨x,0,none⟩=some (.slice ao1 n1 c1):=cells_at hblk rfl
     obtain⟨B,hB⟩:∃B,((n1:Int)==0)=B:=⟨_,rfl⟩
     have hnd:=rneed_any hRi B
     have E8:Hid (rd7 r=needF B s6):=by show rd7 r=needF B s6;rw [E7.out,←hn1,show decide (n1=0)=B by rw [← hB,Bool.eq_iff_iff];simp]
     have HB:Hid _:=hB
     have HGJ:Hid _:=hgJ9
     have HGA:Hid _:=hgA9
     have HSB:Hid _:=hsb9
     have HC9:Hid _:=hC9
     have HQI:Hid _:=hQi
     have HSI:Hid _:=hSi
     clear hRi hQi hJi hSi hCi hgJ9 hgA9 hsb9 hC9 hlj hs6 hblk hn1 hb1 E7 HC13 HS13 HGA13 HR13 HJ13 hB
     go_upto_region 17 with(go_at_call 64;rw [HB.out];refine hnd.mono ?_;rintro e w16 ⟨rfl,hR16,hC16⟩;obtain⟨ao2,n2,c2,b2,hblk,_,hb2,_⟩:=Rd.blk hR16;rw [← E8.out]at hb2;have HBLK:Hid _:=hblk;have HC16:Hid _:=hC16;have HB2:Hid _:=hb2;clear hR16 hC16 hblk hb2)
     have hz16:=HC16.out.size
     have hs16:w16.heap[sb]?=some (.cells #[.int .i64 c.nodes,.int .i64 c.queue,.int .i64 c.limit,.int .i64 c.age,.int .i64 c.fair,.int .i64 c.size,.int .i64 c.period,.int .i64 c.half,.int .i64 now,.slice (some ⟨gA,0,none⟩) n n,.slice (some ⟨gJ,0,none⟩) m m,.int .i64 hd] 27 (0,0)):=(HC16.out.block sb (by omega) (by omega)).trans HSB.out
     have hBw:Below w.heap.size w w16:=(HC9.out.trans HC16.out (fun _ _ e=>.inl e)).below HBV.out HBV.out.size (fun i hi=>by have:i=x∨sb≤i:=hi;omega)
     have hres16:w16.heap[w.heap.size]?=some (.cells #[.int .i64 0,.int .i64 0,.int .i64 0,.int .i64 0,.int .i64 0,.int .i64 0,.int .i64 0,.int .i64 0,.int .i64 0,.slice none 0 0,.slice none 0 0,.int .i64 0] 27 (0,0)):=((HC9.out.trans HC16.out (fun _ _ e=>.inl e)).block _ (by omega) (by omega)).trans HRV.out
     have HS16:Hid _:=hs16
     have HRS:Hid (w16.drew.heap[w.heap.size]?=some (.cells #[.int .i64 0,.int .i64 0,.int .i64 0,.int .i64 0,.int .i64 0,.int .i64 0,.int .i64 0,.int .i64 0,.int .i64 0,.slice none 0 0,.slice none 0 0,.int .i64 0] 27 (0,0))):=hres16
     have HBW:Hid _:=hBw
     clear hs16 hBw hres16 hnd cl
     refine wp_region_last (S:=(fun y:World=>y.heap[x]?=some (.cells #[.slice ao2 n2 c2,.bool b2] 91 (0,0))∧y.heap[sb]?=some (.cells #[.int .i64 c.nodes,.int .i64 c.queue,.int .i64 c.limit,.int .i64 c.age,.int .i64 c.fair,.int .i64 c.size,.int .i64 c.period,.int .i64 c.half,.int .i64 now,.slice (some ⟨gA,0,none⟩) n n,.slice (some ⟨gJ,0,none⟩) m m,.int .i64 hd] 27 (0,0)))) (L:=99) (by kernel_rfl) ?_
     have HSW0:(fun y:World=>y.heap[x]?=some (.cells #[.slice ao2 n2 c2,.bool b2] 91 (0,0))∧y.heap[sb]?=some (.cells #[.int .i64 c.nodes,.int .i64 c.queue,.int .i64 c.limit,.int .i64 c.age,.int .i64 c.fair,.int .i64 c.size,.int .i64 c.period,.int .i64 c.half,.int .i64 now,.slice (some ⟨gA,0,none⟩) n n,.slice (some ⟨gJ,0,none⟩) m m,.int .i64 hd] 27 (0,0))) (w16.drew):=⟨HBLK.out,HS16.out⟩
     have HF:Hid (∀xx:World,(fun y:World=>y.heap[x]?=some (.cells #[.slice ao2 n2 c2,.bool b2] 91 (0,0))∧y.heap[sb]?=some (.cells #[.int .i64 c.nodes,.int .i64 c.queue,.int .i64 c.limit,.int .i64 c.age,.int .i64 c.fair,.int .i64 c.size,.int .i64 c.period,.int .i64 c.half,.int .i64 now,.slice (some ⟨gA,0,none⟩) n n,.slice (some ⟨gJ,0,none⟩) m m,.int .i64 hd] 27 (0,0))) xx→xx.cell? ⟨sb,0,none⟩=some (.int .i64 c.nodes)∧xx.cell? ⟨sb,1,none⟩=some (.int .i64 c.queue)∧xx.cell? ⟨sb,2,none⟩=some (.int .i64 c.limit)∧xx.cell? ⟨sb,3,none⟩=some (.int .i64 c.age)∧xx.cell? ⟨sb,4,none⟩=some (.int .i64 c.fair)∧xx.cell? ⟨sb,5,none⟩=some (.int .i64 c.size)∧xx.cell? ⟨sb,6,none⟩=some (.int .i64 c.period)∧xx.cell? ⟨sb,7,none⟩=some (.int .i64 c.half)∧xx.cell? ⟨sb,8,none⟩=some (.int .i64 now)∧xx.cell? ⟨sb,9,none⟩=some (.slice (some ⟨gA,0,none⟩) n n)∧xx.cell? ⟨sb,10,none⟩=some (.slice (some ⟨gJ,0,none⟩) m m)∧xx.cell? ⟨sb,11,none⟩=some (.int .i64 hd)∧xx.cell? ⟨x,1,none⟩=some (.bool b2)∧True):=fun xx hSx=>⟨cells_at (show xx.heap[sb]?=_ from hSx.2) rfl,cells_at (show xx.heap[sb]?=_ from hSx.2) rfl,cells_at (show xx.heap[sb]?=_ from hSx.2) rfl,cells_at (show xx.heap[sb]?=_ from hSx.2) rfl,cells_at (show xx.heap[sb]?=_ from hSx.2) rfl,cells_at (show xx.heap[sb]?=_ from hSx.2) rfl,cells_at (show xx.heap[sb]?=_ from hSx.2) rfl,cells_at (show xx.heap[sb]?=_ from hSx.2) rfl,cells_at (show xx.heap[sb]?=_ from hSx.2) rfl,cells_at (show xx.heap[sb]?=_ from hSx.2) rfl,cells_at (show xx.heap[sb]?=_ from hSx.2) rfl,cells_at (show xx.heap[sb]?=_ from hSx.2) rfl,cells_at (show xx.heap[x]?=_ from hSx.1) rfl,trivial⟩
     refine tk 0 HSW0 (h:=?_)
     refine tk 1 HSW0 (h:=?_)
     refine tk 2 HSW0 (h:=?_)
     refine tk 3 HSW0 (h:=?_)
     refine last_one (i:=4) (by kernel_rfl) rfl ?_
     intro K hK
     rw [if_pos (by rfl)]
     refine wp_store_row 27 (.tmp 2) (.tmp 50) rfl w.heap.size #[.int .i64 c.nodes,.int .i64 c.queue,.int .i64 c.limit,.int .i64 c.age,.int .i64 c.fair,.int .i64 c.size,.int .i64 c.period,.int .i64 c.half,.int .i64 now,.slice (some ⟨gA,0,none⟩) n n,.slice (some ⟨gJ,0,none⟩) m m,.int .i64 hd] (by simp [Act.eval]) (by simp [Act.eval]) 27 _ HRS.out Tryz.infS rfl (by simp [Value.oneCell']) ?_
     have HS4:(fun y:World=>y.heap[x]?=some (.cells #[.slice ao2 n2 c2,.bool b2] 91 (0,0))∧y.heap[sb]?=some (.cells #[.int .i64 c.nodes,.int .i64 c.queue,.int .i64 c.limit,.int .i64 c.age,.int .i64 c.fair,.int .i64 c.size,.int .i64 c.period,.int .i64 c.half,.int .i64 now,.slice (some ⟨gA,0,none⟩) n n,.slice (some ⟨gJ,0,none⟩) m m,.int .i64 hd] 27 (0,0))) (w16.drew.setRow w.heap.size #[.int .i64 c.nodes,.int .i64 c.queue,.int .i64 c.limit,.int .i64 c.age,.int .i64 c.fair,.int .i64 c.size,.int .i64 c.period,.int .i64 c.half,.int .i64 now,.slice (some ⟨gA,0,none⟩) n n,.slice (some ⟨gJ,0,none⟩) m m,.int .i64 hd]):=⟨(setRow_other _ _ _ _ (by omega)).trans HSW0.1,(setRow_other _ _ _ _ (by omega)).trans HSW0.2⟩
     refine hK.out _ _ (fun _=>HS4) (fun _=>?_)
     clear hK K HSW0
     refine last_takeF (i:=5) (v:=?v5k13) rfl (by kernel_rfl) (by kernel_rfl) (by kernel_rfl) (by kernel_rfl) rfl (fun _ _ _ h=>h) (by rfl) HS4 ?hy5k13 ?rest5k13
     case hy5k13=>
      intro xx hSx
      have qs0:xx.cell? ⟨sb,0,none⟩=some (.int .i64 c.nodes):=cells_at (show xx.heap[sb]?=_ from hSx.2) rfl
      have qs1:xx.cell? ⟨sb,1,none⟩=some (.int .i64 c.queue):=cells_at (show xx.heap[sb]?=_ from hSx.2) rfl
      have qs2:xx.cell? ⟨sb,2,none⟩=some (.int .i64 c.limit):=cells_at (show xx.heap[sb]?=_ from hSx.2) rfl
      have qs3:xx.cell? ⟨sb,3,none⟩=some (.int .i64 c.age):=cells_at (show xx.heap[sb]?=_ from hSx.2) rfl
      have qs4:xx.cell? ⟨sb,4,none⟩=some (.int .i64 c.fair):=cells_at (show xx.heap[sb]?=_ from hSx.2) rfl
      have qs5:xx.cell? ⟨sb,5,none⟩=some (.int .i64 c.size):=cells_at (show xx.heap[sb]?=_ from hSx.2) rfl
      have qs6:xx.cell? ⟨sb,6,none⟩=some (.int .i64 c.period):=cells_at (show xx.heap[sb]?=_ from hSx.2) rfl
      have qs7:xx.cell? ⟨sb,7,none⟩=some (.int .i64 c.half):=cells_at (show xx.heap[sb]?=_ from hSx.2) rfl
      have qs8:xx.cell? ⟨sb,8,none⟩=some (.int .i64 now):=cells_at (show xx.heap[sb]?=_ from hSx.2) rfl
      have qs9:xx.cell? ⟨sb,9,none⟩=some (.slice (some ⟨gA,0,none⟩) n n):=cells_at (show xx.heap[sb]?=_ from hSx.2) rfl
      have qs10:xx.cell? ⟨sb,10,none⟩=some (.slice (some ⟨gJ,0,none⟩) m m):=cells_at (show xx.heap[sb]?=_ from hSx.2) rfl
      have qs11:xx.cell? ⟨sb,11,none⟩=some (.int .i64 hd):=cells_at (show xx.heap[sb]?=_ from hSx.2) rfl
      have q1:xx.cell? ⟨x,1,none⟩=some (.bool b2):=cells_at (show xx.heap[x]?=_ from hSx.1) rfl
      clear hSx
      go_simp
      try (with_reducible rfl)
     simp only [Act.put,List.setIfInBounds_toArray]
     refine last_done (by kernel_rfl) ?_ _
     go_wp2
     have hsz17:wr.heap.size≤w16.heap.size:=hz16
     have hoth:∀k,k<wr.heap.size→k≠x→k≠w.heap.size→(w16.drew.setRow w.heap.size #[.int .i64 c.nodes,.int .i64 c.queue,.int .i64 c.limit,.int .i64 c.age,.int .i64 c.fair,.int .i64 c.size,.int .i64 c.period,.int .i64 c.half,.int .i64 now,.slice (some ⟨gA,0,none⟩) n n,.slice (some ⟨gJ,0,none⟩) m m,.int .i64 hd]).heap[k]?=wr.heap[k]?:=fun k h1 h2 h3=>(setRow_other _ _ _ _ h3).trans (HC16.out.block k h1 h2)
     refine ret_st2 Tryz.results33 rfl rfl rfl HRS.out rfl ⟨c,now,hd,gA,gJ,!b2,qs,?_,HH.out,?_,?_,⟨?_,?_,?_,?_,?_,HNX.out⟩,?_⟩
     ·rw [E4a.out,hlen4,hqm];rfl
     ·rw [E6a.out];exact HQI.out
     ·have h2:=HB2.out
      cases b2 with
      | true=>simp [h2.1 rfl]
      | false=>simp;exact fun e=>absurd (h2.2 e) (by simp)
     ·rw [E4a.out];exact(hoth gA (by omega) (by omega) (by omega)).trans HGA.out
     ·exact (hoth gJ (by omega) (by omega) (by omega)).trans HGJ.out
     ·intro q hq
      obtain⟨g1,p1,p2,p3,p4⟩:=HSI.out q hq
      exact⟨g1,p1,p2,by omega,(hoth g1 (Array.getElem?_eq_some_iff.1 p4).1 (by omega) (by omega)).trans p4⟩
     ·omega
     ·omega
     ·exact Chg.below (chg_row (K:=fun k=>k=w.heap.size) (Chg.refl _ w16.drew) (.inl rfl) _) (HBW.out.trans ((drew_below' w16).mono HBW.out.size)) HBW.out.size (fun i hi=>by have:i=w.heap.size:=hi;omega)
end Go.Proofs.YtceoibfliggalaaGreatDoor
