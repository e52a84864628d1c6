/-
  TEXTS: TcF, TcG, SqD.
-/
import Derived.Test.YtceoibfliggalaaGreatDoorKr31
import Derived.Test.YtceoibfliggalaaGreatDoorKr32
import Derived.Test.YtceoibfliggalaaGreatDoorKr43
import Derived.Deep.CutBlock
import Derived.Test.YtceoibfliggalaaGreatDoorKr42
import Derived.Test.YtceoibfliggalaaGreatDoorKr14
import Derived.Test.YtceoibfliggalaaGreatDoorKr19
import Derived.Test.YtceoibfliggalaaGreatDoorKr46
import Derived.Test.YtceoibfliggalaaGreatDoorKr40
namespace Go.Proofs.YtceoibfliggalaaGreatDoor
open Go Go.RowKit Wd Tr Cg Ld Lg
abbrev sL (n0 n1 n2 n3 n4 n5 n6 n7 n8 n9:Int) (A J:Value):Array Value:= #[.int .i64 n0,.int .i64 n1,.int .i64 n2,.int .i64 n3,.int .i64 n4,.int .i64 n5,.int .i64 n6,.int .i64 n7,.int .i64 n8,A,J,.int .i64 n9]
theorem numsF10 (s0:RS):numsF 10 s0=([(numF s0).1,(numF (numF s0).2).1,(numF (numF (numF s0).2).2).1,(numF (numF (numF (numF s0).2).2).2).1,(numF (numF (numF (numF (numF s0).2).2).2).2).1,(numF (numF (numF (numF (numF (numF s0).2).2).2).2).2).1,(numF (numF (numF (numF (numF (numF (numF s0).2).2).2).2).2).2).1,(numF (numF (numF (numF (numF (numF (numF (numF s0).2).2).2).2).2).2).2).1,(numF (numF (numF (numF (numF (numF (numF (numF (numF s0).2).2).2).2).2).2).2).2).1,(numF (numF (numF (numF (numF (numF (numF (numF (numF (numF s0).2).2).2).2).2).2).2).2).2).1],(numF (numF (numF (numF (numF (numF (numF (numF (numF (numF s0).2).2).2).2).2).2).2).2).2).2):=rfl
structure FrS (W:World) (B:Nat) (va:Value) (la:List Ac) (vj:Value) (qs:List Pj):Prop where
 acs:W.ownsRow B 52 5 va la.length (flatA la)
 jobs:W.ownsRow B 55 8 vj qs.length (flatJ qs)
 sets:∀q∈qs,W.ownsRow B 3 1 (.slice q.sa q.v.set.length q.sc) q.v.set.length (q.v.set.map (Value.int .i64))
def FStP (r:List UInt8) (w:World) (e:Ending) (w':World):Prop:=∃(c:Cf) (now hd:Int) (ao:Option Addr) (na ca:Nat) (jo:Option Addr) (nj cj:Nat) (b:Bool),e=.returned (.tuple #[.agg (stC c now (.slice ao na ca) (.slice jo nj cj) hd),.bool b])∧(b=true↔rd7 r≠none)∧(rd7 r≠none→∃qs:List Pj,(rd2 r).1= [c.nodes,c.queue,c.limit,c.age,c.fair,c.size,c.period,c.half,now,hd]∧qs.map Pj.v=(rd6 r).1∧na=(rd4 r).1.length∧nj=qs.length∧FrS w' w.heap.size (.slice ao na ca) (rd4 r).1 (.slice jo nj cj) qs)∧Below w.heap.size w w'
theorem cnt_none (k:Nat):cntF k none=(0,none):=by
 unfold cntF needF
 have h:(numF none)=(0,none):=rfl
 rw [h]
 split<;>simp
theorem need_none (b:Bool):needF b none=none:=by cases b<;>rfl
theorem acs_none:∀k,(acsF k none).2=none
 | 0=>rfl
 | k+1=>by
  show (acsF k (acF none).2).2=none
  have:(acF none).2=none:=by
   have h:(numsF 4 (acS none).2).2=none:=by
    unfold acS
    rw [cnt_none]
    rfl
   show needF (clB ((numsF 4 (acS none).2).1.getD 2 0)) (numsF 4 (acS none).2).2=none
   rw [h]
   exact need_none _
  rw [this]
  exact acs_none k
theorem jbs_none:∀k,(jbsF k none).2=none
 | 0=>rfl
 | k+1=>by
  show (jbsF k (jbF none).2).2=none
  have:(jbF none).2=none:=by
   unfold jbF jbS
   rw [show (numsF 7 none).2=none from rfl,cnt_none]
   rfl
  rw [this]
  exact jbs_none k
theorem acs_more (i k:Nat):∀s,(acsF i s).2=none→(acsF (i+k) s).2=none:=by
 induction k with
 | zero=>intro s h;exact h
 | succ k ih=>
  intro s h
  rw [← Nat.add_assoc,acsF_snoc]
  show (acF (acsF (i+k) s).2).2=none
  rw [ih s h]
  exact acs_none 1
theorem jbs_more (i k:Nat):∀s,(jbsF i s).2=none→(jbsF (i+k) s).2=none:=by
 induction k with
 | zero=>intro s h;exact h
 | succ k ih=>
  intro s h
  rw [← Nat.add_assoc,jbsF_snoc]
  show (jbF (jbsF (i+k) s).2).2=none
  rw [ih s h]
  exact jbs_none 1
theorem own_form {w:World} {B e sz n:Nat} {v:Value} {xs:List Value} (h:w.ownsRow B e sz v n xs):∃so sc,v=.slice so n sc:=by
 rcases h.2 with⟨rfl,rfl⟩ | ⟨g,cap,cur,rfl,_⟩
 ·exact ⟨_,_,rfl⟩
 ·exact ⟨_,_,rfl⟩
theorem rd_first {r:List UInt8} (h:rd1 r=none):rd7 r=none:=by
 unfold rd7 rd6 rd5 rd4 rd3 rd2
 rw [h,show (numsF 10 none).2=none from rfl,cnt_none,acs_none,cnt_none,jbs_none]
 unfold needF
 split<;>rfl
theorem Rf.few {w:World} {x:Nat} {s:RS} (h:Rf w x s):lenF s≤140737488355328:=by
 obtain⟨_,m,_,_,_,_,_,h4,h5,h6⟩:=h.blk
 cases s with
 | none=>exact Nat.zero_le _
 | some r=>show r.length≤_;rw [← (h6 r rfl).1];exact h4
set_option maxRecDepth 20000 in
set_option maxHeartbeats 8000000 in
theorem fstate_any {w:World} {ao:Option Addr} {r:List UInt8} {c0:Nat} (hb:∃g o,(0<r.length→ao=some ⟨g,o,none⟩)∧∀k b,r[k]?=some b→w.cell? ⟨g,o+k,none⟩=some (.int .u8 (b.toNat:Int))) (hc:r.length≤c0) (hn:ao=none→c0=0) (hl:r.length≤140737488355328):
  Calls Tryz.prog 34 #[.slice ao r.length c0] w (FStP r w):=by
 obtain⟨W0,hW0⟩:∃W0,w.alloc (.cells (sL 0 0 0 0 0 0 0 0 0 0 (.slice none 0 0) (.slice none 0 0)) 27)=W0:=⟨_,rfl⟩
 have b0:Below w.heap.size w W0:=by rw [← hW0];exact(Below.refl _ _).alloc (Nat.le_refl _) _
 have z0:W0.heap.size=w.heap.size+1:=by rw [← hW0];simp
 have hg0:W0.heap[w.heap.size]?=some (.cells (sL 0 0 0 0 0 0 0 0 0 0 (.slice none 0 0) (.slice none 0 0)) 27 (0,0)):=by rw [← hW0];exact heap_alloc_new w _
 obtain⟨W1,hW1⟩:∃W1,W0.alloc (.cells #[.slice ao r.length c0,.bool false] 99)=W1:=⟨_,rfl⟩
 have b1:Below W0.heap.size W0 W1:=by rw [← hW1];exact(Below.refl _ _).alloc (Nat.le_refl _) _
 have z1:W1.heap.size=w.heap.size+2:=by rw [← hW1];simp;omega
 have hg1:W1.heap[w.heap.size+1]?=some (.cells #[.slice ao r.length c0,.bool false] 99 (0,0)):=by rw [← hW1,←z0];exact heap_alloc_new W0 _
 have hres:W1.heap[w.heap.size]?=some (.cells (sL 0 0 0 0 0 0 0 0 0 0 (.slice none 0 0) (.slice none 0 0)) 27 (0,0)):=(b1.block _ (by omega)).trans hg0
 have B1:Below w.heap.size w W1:=b0.trans (b1.mono b0.size)
 have hRf:Rf W1 (w.heap.size+1) (some r):=⟨ao,r.length,c0,false,hg1,hc,hn,hl,by simp,fun r' e=>by
  cases e
  refine⟨rfl,?_⟩
  obtain⟨g,o,p1,p2⟩:=hb
  by_cases h0:0<r.length
  ·refine ⟨g,o,fun h=>⟨p1 h,?_⟩,fun k b hk=>cellB B1 (p2 k b hk)⟩
   have:=World.block_lt_of_cell? w _ (p2 0 _ (List.getElem?_eq_getElem h0))
   have e:(⟨g,o+0,none⟩:Addr).block=g:=rfl
   rw [e]at this
   omega
  ·have:r= []:=List.length_eq_zero_iff.1 (by omega)
   subst this
   exact BysAt.none _ _ _⟩
 have hby:=ftake_any hRf 9
 unfold TakP at hby
 have E1:Hid (rd1 r=needF (decide ((bytF 9 (some r)).1=markB)) (bytF 9 (some r)).2):=rfl
 obtain⟨l,hl9⟩:∃l,(bytF 9 (some r)).1=l:=⟨_,rfl⟩
 obtain⟨sb,hsb⟩:∃s,(bytF 9 (some r)).2=s:=⟨_,rfl⟩
 rw [hl9,hsb]at hby E1
 have HZ0:Hid _:=z0
 have HZ1:Hid _:=z1
 have HRES:Hid _:=hres
 have HB1:Hid _:=B1
 obtain⟨q,hq⟩:∃q,r.length=q:=⟨_,rfl⟩
 rw [hq]at hW1 ⊢
 clear hb hc hn hl b0 b1 hg0 hg1 hres B1 hRf hl9 hsb z0 z1 hq
 obtain⟨x,hx⟩:∃x,w.heap.size+1=x:=⟨_,rfl⟩
 rw [hx]at hby
 have HX:Hid (w.heap.size+1=x):=hx
 have HW1:Hid _:=hW1
 clear hx hW1
 go_enter Tryz.func34,Tryz.ntmps34
 go_upto_region 1 with fail
 try rw [hW0]
 clear hW0
 go_upto_region 2 with fail
 rw [HW1.out,HZ0.out,HX.out]
 by_cases hm:l=markB
 case neg=>
  have e1:rd1 r=none:=by rw [E1.out,decide_eq_false hm];rfl
  have E7:Hid (rd7 r=none):=rd_first e1
  have hne:¬(⟨l.toArray⟩:ByteArray)=⟨#[98,97,99,107,102,105,108,108,49]⟩:=fun e=>hm (by have:=congrArg (fun b:ByteArray=>b.data.toList) e;simpa [markB]using this)
  have hne1:decide ((⟨l.toArray⟩:ByteArray)=⟨#[98,97,99,107,102,105,108,108,49]⟩)=false:=decide_eq_false hne
  obtain⟨bs,hbs⟩:∃bs:ByteArray,(⟨l.toArray⟩:ByteArray)=bs:=⟨_,rfl⟩
  have HBS:Hid _:=hbs
  rw [hbs]at hne hne1
  have hne3:(bs.toList== [98,97,99,107,102,105,108,108,49])=false:=by
   have h9:=ba_ne hne
   rwa [mk_list]at h9
  clear hm hbs e1
  go_wp2_with (first
   | (go_at_call 70;refine hby.mono ?_;rintro e w2 ⟨a2,c2,rfl,hB2,hR2,hC2⟩;have hcv:=conv_any (c:=c2) hB2;rw [HBS.out]at hcv;have HR2:Hid (w2.heap[w.heap.size]?=some (.cells (sL 0 0 0 0 0 0 0 0 0 0 (.slice none 0 0) (.slice none 0 0)) 27 (0,0))):=(hC2.block _ (by have:=HZ1.out;omega) (by have:=HX.out;omega)).trans HRES.out;have HC2:Hid _:=hC2;clear hC2 hR2 hB2)
   | (refine wpList_store_row rfl 27 (.tmp 2) (.tmp 17) rfl w.heap.size (sL 0 0 0 0 0 0 0 0 0 0 (.slice none 0 0) (.slice none 0 0)) (by simp [Act.eval]) (by simp [Act.eval]) 27 _ HR2.out Tryz.infS rfl (by simp [Value.oneCell']) ?_))
  refine ret_st2 Tryz.results34 rfl rfl rfl HR2.out rfl ⟨⟨0,0,0,0,0,0,0,0⟩,0,0,none,0,0,none,0,0,false,rfl,by simp [E7.out],fun h=>absurd E7.out h,?_⟩
  exact Chg.below (chg_row (K:=fun k=>k=x∨k=w.heap.size) (HC2.out.mono (fun _ _ e=>.inl e)) (.inl (.inr rfl)) _) HB1.out HB1.out.size (fun i hi=>by have:=HX.out;rcases hi with h | h<;>omega)
 case pos=>
 subst hm
 have e1:rd1 r=sb:=by rw [E1.out,decide_eq_true rfl];rfl
 have E2:Hid (rd2 r=numsF 10 sb):=by show rd2 r=numsF 10 sb;unfold rd2;rw [e1]
 clear e1 E1
 rw [show markB.length=9 from rfl]at hby
 go_upto_region 4 with(go_at_call 70;refine hby.mono ?_;rintro e w2 ⟨a2,c2,rfl,hB2,hR2,hC2⟩;have hcv:(convert 35 9 (.slice a2 9 c2)).run Tryz.prog w2=.ok (.string ⟨#[98,97,99,107,102,105,108,108,49]⟩) w2:=conv_any (c:=c2) hB2;have HR2:Hid _:=hR2;have HC2:Hid _:=hC2;clear hC2 hR2 hB2)
 clear hby hcv
 go_upto_region 5 with fail
 obtain⟨V3,hV3⟩:∃V3,w2.alloc (.cells (sL 0 0 0 0 0 0 0 0 0 0 (.slice none 0 0) (.slice none 0 0)) 27)=V3:=⟨_,rfl⟩
 have b3:Below w2.heap.size w2 V3:=by rw [← hV3];exact(Below.refl _ _).alloc (Nat.le_refl _) _
 have hg3:V3.heap[w2.heap.size]?=some (.cells (sL 0 0 0 0 0 0 0 0 0 0 (.slice none 0 0) (.slice none 0 0)) 27 (0,0)):=by rw [← hV3];exact heap_alloc_new w2 _
 have hz1:=HZ1.out
 have hxx:=HX.out
 have z2:W1.heap.size≤w2.heap.size:=HC2.out.size
 have HRX3:Hid (Rf V3 x sb):=HR2.out.other (fun k hk=>b3.block k (by omega))
 have HCX3:Hid (Chg (fun k=>k=x∨k=w2.heap.size) W1 V3):=(HC2.out.mono (fun _ _ e=>.inl e)).trans (Chg.of_below b3 _) (fun _ _ e=>e)
 rw [hV3]
 obtain⟨g,hg⟩:∃g,w2.heap.size=g:=⟨_,rfl⟩
 rw [hg]at hg3 HCX3 ⊢
 have HBX3:Hid _:=hg3
 have hxg:x<g:=by omega
 have hwg:w.heap.size<g:=by omega
 have hW1g:W1.heap.size≤g:=by omega
 clear hV3 hg3 hz1 hg b3 z2 HC2 HR2 hxx
 rw [numsF10]at E2
 have HI0:Hid (∀(V:World),Rf V x sb→_):=fun V hV=>fint_any hV
 generalize numF sb=r0 at *
 obtain⟨n0,s1⟩:=r0
 simp only at E2 HI0
 have HI1:Hid (∀(V:World),Rf V x s1→_):=fun V hV=>fint_any hV
 generalize numF s1=r1 at *
 obtain⟨n1,s2⟩:=r1
 simp only at E2 HI1
 have HI2:Hid (∀(V:World),Rf V x s2→_):=fun V hV=>fint_any hV
 generalize numF s2=r2 at *
 obtain⟨n2,s3⟩:=r2
 simp only at E2 HI2
 have HI3:Hid (∀(V:World),Rf V x s3→_):=fun V hV=>fint_any hV
 generalize numF s3=r3 at *
 obtain⟨n3,s4⟩:=r3
 simp only at E2 HI3
 have HI4:Hid (∀(V:World),Rf V x s4→_):=fun V hV=>fint_any hV
 generalize numF s4=r4 at *
 obtain⟨n4,s5⟩:=r4
 simp only at E2 HI4
 have HI5:Hid (∀(V:World),Rf V x s5→_):=fun V hV=>fint_any hV
 generalize numF s5=r5 at *
 obtain⟨n5,s6⟩:=r5
 simp only at E2 HI5
 have HI6:Hid (∀(V:World),Rf V x s6→_):=fun V hV=>fint_any hV
 generalize numF s6=r6 at *
 obtain⟨n6,s7⟩:=r6
 simp only at E2 HI6
 have HI7:Hid (∀(V:World),Rf V x s7→_):=fun V hV=>fint_any hV
 generalize numF s7=r7 at *
 obtain⟨n7,s8⟩:=r7
 simp only at E2 HI7
 have HI8:Hid (∀(V:World),Rf V x s8→_):=fun V hV=>fint_any hV
 generalize numF s8=r8 at *
 obtain⟨n8,s9⟩:=r8
 simp only at E2 HI8
 have HI9:Hid (∀(V:World),Rf V x s9→_):=fun V hV=>fint_any hV
 generalize numF s9=r9 at *
 obtain⟨n9,s10⟩:=r9
 simp only at E2 HI9
 go_upto_region 6 with fail
 go_upto_region 7 with(go_at_call 71;refine(HI0.out _ HRX3.out).mono ?_;rintro e w4 ⟨rfl,hR4,hC4⟩;have hb4:=box_at hxg HBX3.out hC4;have cg:w4.cell? ⟨g,0,none⟩=some (.int .i64 0):=cells_at hb4 rfl;have fg:w4.frozen? ⟨g,0,none⟩=false:=frozen_at hb4;have HR4:Hid _:=hR4;have HC4:Hid _:=hC4;clear hR4 hC4 hb4)
 obtain⟨hb,hr,hc⟩:=box_set hxg HBX3.out HR4.out HC4.out 0 (.int .i64 n0) (cs':=sL n0 0 0 0 0 0 0 0 0 0 (.slice none 0 0) (.slice none 0 0)) rfl
 obtain⟨V4,hV⟩:∃V,w4.setCell ⟨g,0,none⟩ (.int .i64 n0)=V:=⟨_,rfl⟩
 rw [hV]at hb hr hc ⊢
 have HBX4:Hid (V4.heap[g]?=some (.cells (sL n0 0 0 0 0 0 0 0 0 0 (.slice none 0 0) (.slice none 0 0)) 27 (0,0))):=hb
 have HRX4:Hid _:=hr
 have HCX4:Hid (Chg (fun k=>k=x∨k=g) W1 V4):=HCX3.out.trans hc (fun _ _ e=>e)
 clear hb hr hc hV cg fg HBX3 HRX3 HCX3 HR4 HC4 HI0
 go_upto_region 8 with(go_at_call 71;refine(HI1.out _ HRX4.out).mono ?_;rintro e w5 ⟨rfl,hR4,hC4⟩;have hb4:=box_at hxg HBX4.out hC4;have cg:w5.cell? ⟨g,1,none⟩=some (.int .i64 0):=cells_at hb4 rfl;have fg:w5.frozen? ⟨g,1,none⟩=false:=frozen_at hb4;have HR5:Hid _:=hR4;have HC5:Hid _:=hC4;clear hR4 hC4 hb4)
 obtain⟨hb,hr,hc⟩:=box_set hxg HBX4.out HR5.out HC5.out 1 (.int .i64 n1) (cs':=sL n0 n1 0 0 0 0 0 0 0 0 (.slice none 0 0) (.slice none 0 0)) rfl
 obtain⟨V5,hV⟩:∃V,w5.setCell ⟨g,1,none⟩ (.int .i64 n1)=V:=⟨_,rfl⟩
 rw [hV]at hb hr hc ⊢
 have HBX5:Hid (V5.heap[g]?=some (.cells (sL n0 n1 0 0 0 0 0 0 0 0 (.slice none 0 0) (.slice none 0 0)) 27 (0,0))):=hb
 have HRX5:Hid _:=hr
 have HCX5:Hid (Chg (fun k=>k=x∨k=g) W1 V5):=HCX4.out.trans hc (fun _ _ e=>e)
 clear hb hr hc hV cg fg HBX4 HRX4 HCX4 HR5 HC5 HI1
 go_upto_region 9 with(go_at_call 71;refine(HI2.out _ HRX5.out).mono ?_;rintro e w6 ⟨rfl,hR4,hC4⟩;have hb4:=box_at hxg HBX5.out hC4;have cg:w6.cell? ⟨g,2,none⟩=some (.int .i64 0):=cells_at hb4 rfl;have fg:w6.frozen? ⟨g,2,none⟩=false:=frozen_at hb4;have HR6:Hid _:=hR4;have HC6:Hid _:=hC4;clear hR4 hC4 hb4)
 obtain⟨hb,hr,hc⟩:=box_set hxg HBX5.out HR6.out HC6.out 2 (.int .i64 n2) (cs':=sL n0 n1 n2 0 0 0 0 0 0 0 (.slice none 0 0) (.slice none 0 0)) rfl
 obtain⟨V6,hV⟩:∃V,w6.setCell ⟨g,2,none⟩ (.int .i64 n2)=V:=⟨_,rfl⟩
 rw [hV]at hb hr hc ⊢
 have HBX6:Hid (V6.heap[g]?=some (.cells (sL n0 n1 n2 0 0 0 0 0 0 0 (.slice none 0 0) (.slice none 0 0)) 27 (0,0))):=hb
 have HRX6:Hid _:=hr
 have HCX6:Hid (Chg (fun k=>k=x∨k=g) W1 V6):=HCX5.out.trans hc (fun _ _ e=>e)
 clear hb hr hc hV cg fg HBX5 HRX5 HCX5 HR6 HC6 HI2
 go_upto_region 10 with(go_at_call 71;refine(HI3.out _ HRX6.out).mono ?_;rintro e w7 ⟨rfl,hR4,hC4⟩;have hb4:=box_at hxg HBX6.out hC4;have cg:w7.cell? ⟨g,3,none⟩=some (.int .i64 0):=cells_at hb4 rfl;have fg:w7.frozen? ⟨g,3,none⟩=false:=frozen_at hb4;have HR7:Hid _:=hR4;have HC7:Hid _:=hC4;clear hR4 hC4 hb4)
 obtain⟨hb,hr,hc⟩:=box_set hxg HBX6.out HR7.out HC7.out 3 (.int .i64 n3) (cs':=sL n0 n1 n2 n3 0 0 0 0 0 0 (.slice none 0 0) (.slice none 0 0)) rfl
 obtain⟨V7,hV⟩:∃V,w7.setCell ⟨g,3,none⟩ (.int .i64 n3)=V:=⟨_,rfl⟩
 rw [hV]at hb hr hc ⊢
 have HBX7:Hid (V7.heap[g]?=some (.cells (sL n0 n1 n2 n3 0 0 0 0 0 0 (.slice none 0 0) (.slice none 0 0)) 27 (0,0))):=hb
 have HRX7:Hid _:=hr
 have HCX7:Hid (Chg (fun k=>k=x∨k=g) W1 V7):=HCX6.out.trans hc (fun _ _ e=>e)
 clear hb hr hc hV cg fg HBX6 HRX6 HCX6 HR7 HC7 HI3
 go_upto_region 11 with(go_at_call 71;refine(HI4.out _ HRX7.out).mono ?_;rintro e w8 ⟨rfl,hR4,hC4⟩;have hb4:=box_at hxg HBX7.out hC4;have cg:w8.cell? ⟨g,4,none⟩=some (.int .i64 0):=cells_at hb4 rfl;have fg:w8.frozen? ⟨g,4,none⟩=false:=frozen_at hb4;have HR8:Hid _:=hR4;have HC8:Hid _:=hC4;clear hR4 hC4 hb4)
 obtain⟨hb,hr,hc⟩:=box_set hxg HBX7.out HR8.out HC8.out 4 (.int .i64 n4) (cs':=sL n0 n1 n2 n3 n4 0 0 0 0 0 (.slice none 0 0) (.slice none 0 0)) rfl
 obtain⟨V8,hV⟩:∃V,w8.setCell ⟨g,4,none⟩ (.int .i64 n4)=V:=⟨_,rfl⟩
 rw [hV]at hb hr hc ⊢
 have HBX8:Hid (V8.heap[g]?=some (.cells (sL n0 n1 n2 n3 n4 0 0 0 0 0 (.slice none 0 0) (.slice none 0 0)) 27 (0,0))):=hb
 have HRX8:Hid _:=hr
 have HCX8:Hid (Chg (fun k=>k=x∨k=g) W1 V8):=HCX7.out.trans hc (fun _ _ e=>e)
 clear hb hr hc hV cg fg HBX7 HRX7 HCX7 HR8 HC8 HI4
 go_upto_region 12 with(go_at_call 71;refine(HI5.out _ HRX8.out).mono ?_;rintro e w9 ⟨rfl,hR4,hC4⟩;have hb4:=box_at hxg HBX8.out hC4;have cg:w9.cell? ⟨g,5,none⟩=some (.int .i64 0):=cells_at hb4 rfl;have fg:w9.frozen? ⟨g,5,none⟩=false:=frozen_at hb4;have HR9:Hid _:=hR4;have HC9:Hid _:=hC4;clear hR4 hC4 hb4)
 obtain⟨hb,hr,hc⟩:=box_set hxg HBX8.out HR9.out HC9.out 5 (.int .i64 n5) (cs':=sL n0 n1 n2 n3 n4 n5 0 0 0 0 (.slice none 0 0) (.slice none 0 0)) rfl
 obtain⟨V9,hV⟩:∃V,w9.setCell ⟨g,5,none⟩ (.int .i64 n5)=V:=⟨_,rfl⟩
 rw [hV]at hb hr hc ⊢
 have HBX9:Hid (V9.heap[g]?=some (.cells (sL n0 n1 n2 n3 n4 n5 0 0 0 0 (.slice none 0 0) (.slice none 0 0)) 27 (0,0))):=hb
 have HRX9:Hid _:=hr
 have HCX9:Hid (Chg (fun k=>k=x∨k=g) W1 V9):=HCX8.out.trans hc (fun _ _ e=>e)
 clear hb hr hc hV cg fg HBX8 HRX8 HCX8 HR9 HC9 HI5
 go_upto_region 13 with(go_at_call 71;refine(HI6.out _ HRX9.out).mono ?_;rintro e w10 ⟨rfl,hR4,hC4⟩;have hb4:=box_at hxg HBX9.out hC4;have cg:w10.cell? ⟨g,6,none⟩=some (.int .i64 0):=cells_at hb4 rfl;have fg:w10.frozen? ⟨g,6,none⟩=false:=frozen_at hb4;have HR10:Hid _:=hR4;have HC10:Hid _:=hC4;clear hR4 hC4 hb4)
 obtain⟨hb,hr,hc⟩:=box_set hxg HBX9.out HR10.out HC10.out 6 (.int .i64 n6) (cs':=sL n0 n1 n2 n3 n4 n5 n6 0 0 0 (.slice none 0 0) (.slice none 0 0)) rfl
 obtain⟨V10,hV⟩:∃V,w10.setCell ⟨g,6,none⟩ (.int .i64 n6)=V:=⟨_,rfl⟩
 rw [hV]at hb hr hc ⊢
 have HBX10:Hid (V10.heap[g]?=some (.cells (sL n0 n1 n2 n3 n4 n5 n6 0 0 0 (.slice none 0 0) (.slice none 0 0)) 27 (0,0))):=hb
 have HRX10:Hid _:=hr
 have HCX10:Hid (Chg (fun k=>k=x∨k=g) W1 V10):=HCX9.out.trans hc (fun _ _ e=>e)
 clear hb hr hc hV cg fg HBX9 HRX9 HCX9 HR10 HC10 HI6
 go_upto_region 14 with(go_at_call 71;refine(HI7.out _ HRX10.out).mono ?_;rintro e w11 ⟨rfl,hR4,hC4⟩;have hb4:=box_at hxg HBX10.out hC4;have cg:w11.cell? ⟨g,7,none⟩=some (.int .i64 0):=cells_at hb4 rfl;have fg:w11.frozen? ⟨g,7,none⟩=false:=frozen_at hb4;have HR11:Hid _:=hR4;have HC11:Hid _:=hC4;clear hR4 hC4 hb4)
 obtain⟨hb,hr,hc⟩:=box_set hxg HBX10.out HR11.out HC11.out 7 (.int .i64 n7) (cs':=sL n0 n1 n2 n3 n4 n5 n6 n7 0 0 (.slice none 0 0) (.slice none 0 0)) rfl
 obtain⟨V11,hV⟩:∃V,w11.setCell ⟨g,7,none⟩ (.int .i64 n7)=V:=⟨_,rfl⟩
 rw [hV]at hb hr hc ⊢
 have HBX11:Hid (V11.heap[g]?=some (.cells (sL n0 n1 n2 n3 n4 n5 n6 n7 0 0 (.slice none 0 0) (.slice none 0 0)) 27 (0,0))):=hb
 have HRX11:Hid _:=hr
 have HCX11:Hid (Chg (fun k=>k=x∨k=g) W1 V11):=HCX10.out.trans hc (fun _ _ e=>e)
 clear hb hr hc hV cg fg HBX10 HRX10 HCX10 HR11 HC11 HI7
 go_upto_region 15 with(go_at_call 71;refine(HI8.out _ HRX11.out).mono ?_;rintro e w12 ⟨rfl,hR4,hC4⟩;have hb4:=box_at hxg HBX11.out hC4;have cg:w12.cell? ⟨g,8,none⟩=some (.int .i64 0):=cells_at hb4 rfl;have fg:w12.frozen? ⟨g,8,none⟩=false:=frozen_at hb4;have HR12:Hid _:=hR4;have HC12:Hid _:=hC4;clear hR4 hC4 hb4)
 obtain⟨hb,hr,hc⟩:=box_set hxg HBX11.out HR12.out HC12.out 8 (.int .i64 n8) (cs':=sL n0 n1 n2 n3 n4 n5 n6 n7 n8 0 (.slice none 0 0) (.slice none 0 0)) rfl
 obtain⟨V12,hV⟩:∃V,w12.setCell ⟨g,8,none⟩ (.int .i64 n8)=V:=⟨_,rfl⟩
 rw [hV]at hb hr hc ⊢
 have HBX12:Hid (V12.heap[g]?=some (.cells (sL n0 n1 n2 n3 n4 n5 n6 n7 n8 0 (.slice none 0 0) (.slice none 0 0)) 27 (0,0))):=hb
 have HRX12:Hid _:=hr
 have HCX12:Hid (Chg (fun k=>k=x∨k=g) W1 V12):=HCX11.out.trans hc (fun _ _ e=>e)
 clear hb hr hc hV cg fg HBX11 HRX11 HCX11 HR12 HC12 HI8
 go_upto_region 16 with(go_at_call 71;refine(HI9.out _ HRX12.out).mono ?_;rintro e w13 ⟨rfl,hR4,hC4⟩;have hb4:=box_at hxg HBX12.out hC4;have cg:w13.cell? ⟨g,11,none⟩=some (.int .i64 0):=cells_at hb4 rfl;have fg:w13.frozen? ⟨g,11,none⟩=false:=frozen_at hb4;have HR13:Hid _:=hR4;have HC13:Hid _:=hC4;clear hR4 hC4 hb4)
 obtain⟨hb,hr,hc⟩:=box_set hxg HBX12.out HR13.out HC13.out 11 (.int .i64 n9) (cs':=sL n0 n1 n2 n3 n4 n5 n6 n7 n8 n9 (.slice none 0 0) (.slice none 0 0)) rfl
 obtain⟨V13,hV⟩:∃V,w13.setCell ⟨g,11,none⟩ (.int .i64 n9)=V:=⟨_,rfl⟩
 rw [hV]at hb hr hc ⊢
 have HBX13:Hid (V13.heap[g]?=some (.cells (sL n0 n1 n2 n3 n4 n5 n6 n7 n8 n9 (.slice none 0 0) (.slice none 0 0)) 27 (0,0))):=hb
 have HRX13:Hid _:=hr
 have HCX13:Hid (Chg (fun k=>k=x∨k=g) W1 V13):=HCX12.out.trans hc (fun _ _ e=>e)
 clear hb hr hc hV cg fg HBX12 HRX12 HCX12 HR13 HC13 HI9
 have HN2:Hid ((rd2 r).1= [n0,n1,n2,n3,n4,n5,n6,n7,n8,n9]):=by show (rd2 r).1=_;rw [E2.out]
 have hcp:=cnt_pos 40 s10
 have hcl:=cnt_le 40 s10
 have HMA:Hid (∀(V:World),Rf V x s10→_):=fun V hV=>fmany_any (k:=40) hV (by omega)
 have E3:Hid (rd3 r=cntF 40 s10):=by show rd3 r=cntF 40 s10;unfold rd3;rw [E2.out]
 obtain⟨n,hn⟩:∃n:Nat,(cntF 40 s10).1=n:=⟨(cntF 40 s10).1.toNat,by omega⟩
 obtain⟨s11,hs11⟩:∃s11,(cntF 40 s10).2=s11:=⟨_,rfl⟩
 rw [hn,hs11]at HMA
 rw [hn,hs11]at hcl
 have E4:Hid (rd4 r=acsF n s11):=by show rd4 r=acsF n s11;unfold rd4;rw [E3.out,hs11,hn];rfl
 clear hcp hn hs11 E2 E3
 go_upto_region 17 with(go_at_call 72;refine(HMA.out _ HRX13.out).mono ?_;rintro e w14 ⟨rfl,hR4,hC4⟩;have HR14:Hid _:=hR4;have HC14:Hid _:=hC4;clear hR4 hC4)
 have HB14:Hid _:=box_at hxg HBX13.out HC14.out
 have HC14':Hid (Chg (fun k=>k=x∨k=g) W1 w14):=HCX13.out.trans HC14.out (fun _ _ e=>.inl e)
 have hfew:=HR14.out.few
 have hnb:n*40≤140737488355328:=by omega
 obtain⟨i0,hi0,hz00,hz01,hz02⟩:=info_parts Tryz.infAz
 clear hfew hcl HBX13 HRX13 HCX13 HC14 HMA
 go_upto_block 0 with fail
 go_cut [] (fun y=>∃(la:List Ac) (va:Value),y.heap[g]?=some (.cells (sL n0 n1 n2 n3 n4 n5 n6 n7 n8 n9 va (.slice none 0 0)) 27 (0,0))∧y.ownsRow (g+1) 52 5 va la.length (flatA la)∧Rf y x (acsF n s11).2∧((acsF n s11).2≠none→la=(acsF n s11).1)∧la.length≤n∧Chg (fun k=>k=x∨g≤k) W1 y)
 case first=>
  go_wp2_with fail
  go_loopg [8] n (fun gk pk wr=>∃(i:Nat) (la:List Ac) (va:Value),i+gk=n∧pk=.int .i64 i∧la.length=i∧wr.heap[g]?=some (.cells (sL n0 n1 n2 n3 n4 n5 n6 n7 n8 n9 va (.slice none 0 0)) 27 (0,0))∧wr.ownsRow (g+1) 52 5 va i (flatA la)∧Rf wr x (acsF i s11).2∧((acsF i s11).2≠none→la=(acsF i s11).1)∧Chg (fun k=>k=x∨g≤k) W1 wr)
  case atStart=>exact⟨0,[],.slice none 0 0,by omega,rfl,rfl,HB14.out,World.ownsRow_nil ..,HR14.out,fun _=>rfl,HC14'.out.mono (fun _ _ e=>e.imp id (fun e=>by omega))⟩
  case round=>
   obtain⟨i,la,va,hi,rfl,hll,hbx,hown,hRi,hla,hCi⟩:=hrel
   obtain⟨ra,rm,rc,rb,hrb,_,_,_,hrn,_⟩:=hRi.blk
   have c1:wr.cell? ⟨x,1,none⟩=some (.bool rb):=cells_at hrb rfl
   clear hrb
   by_cases hlt:i<n
   ·have hlt':(i:Int)<n:=by omega
    cases rb with
    | true=>
     have hnone:=hrn.1 rfl
     have hnn:=acs_more i (n - i) s11 hnone
     rw [show i+(n - i)=n by omega]at hnn
     rw [hnone]at hRi
     have HNN:Hid _:=hnn
     have HBX:Hid _:=hbx
     have HOW:Hid _:=hown
     have HRI:Hid _:=hRi
     have HCI:Hid _:=hCi
     have HLL:Hid _:=hll
     clear hnone hnn hbx hown hRi hla hCi hrn hll
     go_wp2
     go_meet
     exact⟨la,va,HBX.out,by rw [HLL.out];exact HOW.out,by rw [HNN.out];exact HRI.out,fun h=>absurd HNN.out h,by rw [HLL.out];omega,HCI.out⟩
    | false=>
     have hsn:=acsF_snoc i s11
     have hac:=faccount_any (hRi.other (W':=wr.drew) (fun k hk=>rfl))
     generalize acsF i s11=p at *
     obtain⟨lx,s⟩:=p
     simp only at hRi hla hsn hac hrn
     have hs0:s≠none:=fun e=>by have:=hrn.2 e;cases this
     obtain rfl:=hla hs0
     have HSN:Hid _:=hsn
     have HBX:Hid _:=hbx
     have HOW:Hid _:=hown
     have HCI:Hid _:=hCi
     have HLL:Hid _:=hll
     have HAC:Hid _:=hac
     clear hsn hbx hown hRi hla hCi hrn hll hac hs0
     go_upto_region 20 with fail
     clear c1
     refine wp_region_last (S:=(fun y:World=>y.heap[g]?=some (.cells (sL n0 n1 n2 n3 n4 n5 n6 n7 n8 n9 va (.slice none 0 0)) 27 (0,0)))) (L:=7) (by kernel_rfl) ?_
     have HS0:(fun y:World=>y.heap[g]?=some (.cells (sL n0 n1 n2 n3 n4 n5 n6 n7 n8 n9 va (.slice none 0 0)) 27 (0,0))) wr.drew:=HBX.out
     have HF:Hid (∀xx:World,(fun y:World=>y.heap[g]?=some (.cells (sL n0 n1 n2 n3 n4 n5 n6 n7 n8 n9 va (.slice none 0 0)) 27 (0,0))) xx→xx.cell? ⟨g,9,none⟩=some va∧True):=fun xx hSx=>⟨cells_at (show xx.heap[g]?=_ from hSx) rfl,trivial⟩
     refine tc [0,7] 0 HS0 (h:=?_)
     refine tc [1,7] 1 HS0 (h:=?_)
     refine tc [2,7] 2 HS0 (h:=?_)
     refine last_one (i:=3) (by kernel_rfl) rfl ?_
     intro K hK
     go_simp
     go_at_call 73
     refine(show Calls _ _ _ _ _ from HAC.out).mono ?_
     rintro e w4 ⟨a,rfl,hR4,ha4,hC4⟩
     have hb4:w4.heap[g]?=some (.cells (sL n0 n1 n2 n3 n4 n5 n6 n7 n8 n9 va (.slice none 0 0)) 27 (0,0)):=box_at hxg (show wr.drew.heap[g]?=_ from HBX.out) hC4
     have ho4:w4.ownsRow (g+1) 52 5 va i (flatA la):=row_stand HOW.out (fun k hk=>by have:=World.ownsRow.lt HOW.out k hk;exact hC4.block k this.2 (by omega))
     have HS4:(fun y:World=>y.heap[g]?=some (.cells (sL n0 n1 n2 n3 n4 n5 n6 n7 n8 n9 va (.slice none 0 0)) 27 (0,0))) w4:=hb4
     refine hK.out _ _ (fun _=>HS4) (fun _=>?_)
     clear hK K HS0 HF
     refine last_one (i:=4) (by kernel_rfl) rfl ?_
     intro K hK
     go_simp
     obtain⟨w5,hw5⟩:∃w5,w4.alloc (.cells (acL a.nm a.pa a.sh a.cl a.us) 52)=w5:=⟨_,rfl⟩
     have b5:Below w4.heap.size w4 w5:=by rw [← hw5];exact(Below.refl _ _).alloc (Nat.le_refl _) _
     have hn5:w5.heap[w4.heap.size]?=some (.cells (acL a.nm a.pa a.sh a.cl a.us) 52 (0,0)):=by rw [← hw5];exact heap_alloc_new w4 _
     have hg4:g<w4.heap.size:=(Array.getElem?_eq_some_iff.1 hb4).1
     have hb5:w5.heap[g]?=some (.cells (sL n0 n1 n2 n3 n4 n5 n6 n7 n8 n9 va (.slice none 0 0)) 27 (0,0)):=(b5.block g hg4).trans hb4
     have ho5:w5.ownsRow (g+1) 52 5 va i (flatA la):=row_stand ho4 (fun k hk=>by have:=World.ownsRow.lt ho4 k hk;exact b5.block k this.2)
     have HS5:(fun y:World=>y.heap[g]?=some (.cells (sL n0 n1 n2 n3 n4 n5 n6 n7 n8 n9 va (.slice none 0 0)) 27 (0,0))) w5:=hb5
     have hz5:w4.heap.size<w5.heap.size:=(Array.getElem?_eq_some_iff.1 hn5).1
     rw [hw5]
     refine hK.out _ _ (fun _=>HS5) (fun _=>?_)
     clear hK K HS4 hw5
     refine last_one (i:=5) (by kernel_rfl) rfl ?_
     intro K hK
     refine step_append_wide (by rfl) _ _ _ (by rfl) (g+1) 52 i0 _ 5 48 Tryz.underlying24 hi0 hz00 hz01 hz02 rfl (by omega) va i (flatA la) (by rfl) ho5 ⟨w4.heap.size,0,none⟩ 1 1 [.string a.nm,.int .i64 a.pa,.int .i64 a.sh,.bool a.cl,.int .u64 a.us] (by rfl) (by rfl) (World.news_of_block (cs:=acL a.nm a.pa a.sh a.cl a.us) (t:=52) (fr:=(0,0)) hn5) (by simp [Value.oneCell']) (by omega) (by unfold maxLen;omega) (by omega) (by omega) ?_
     intro gg cap w9 hr9 hg9
     have hne:some g≠va.ownBlock:=fun e=>by have:=World.ownsRow.lt ho5 g e.symm;omega
     have hb9:w9.heap[g]?=some (.cells (sL n0 n1 n2 n3 n4 n5 n6 n7 n8 n9 va (.slice none 0 0)) 27 (0,0)):=(hg9.block g (by omega) hne).trans hb5
     have HS9:(fun y:World=>y.heap[g]?=some (.cells (sL n0 n1 n2 n3 n4 n5 n6 n7 n8 n9 va (.slice none 0 0)) 27 (0,0))) w9:=hb9
     refine hK.out _ _ (fun _=>HS9) (fun _=>?_)
     clear hK K HS5
     refine tc [6,7] 6 HS9 (h:=?_)
     refine last_one (i:=7) (by kernel_rfl) rfl ?_
     intro K hK
     refine ite_yes (by rfl) ?_
     have c7:w9.cell? ⟨g,9,none⟩=some va:=cells_at hb9 rfl
     have f7:w9.frozen? ⟨g,9,none⟩=false:=frozen_at hb9
     go_simp
     obtain⟨w10,hw10⟩:∃w10,w9.setCell ⟨g,9,none⟩ (.slice (some ⟨gg,0,none⟩) (i+1) cap)=w10:=⟨_,rfl⟩
     have hc10:Chg (fun k=>k=g) w9 w10:=by rw [← hw10];exact⟨rfl,rfl,rfl,by simp [World.setCell],fun j _ hj=>Below.heap_setCell _ _ _ _ hj⟩
     have hb10:w10.heap[g]?=some (.cells (sL n0 n1 n2 n3 n4 n5 n6 n7 n8 n9 (.slice (some ⟨gg,0,none⟩) (i+1) cap) (.slice none 0 0)) 27 (0,0)):=by rw [← hw10];exact heap_setCell_same w9 g 9 _ _ _ hb9
     have ho10:w10.ownsRow (g+1) 52 5 (.slice (some ⟨gg,0,none⟩) (i+1) cap) (i+1) (flatA (la++ [a])):=by rw [flatA_app];exact row_stand hr9 (fun k hk=>by have:=World.ownsRow.lt hr9 k hk;exact hc10.block k this.2 (by omega))
     have hsz9:=hg9.size
     have hR10:Rf w10 x (acF s).2:=hR4.other (fun k hk=>(hc10.block k (by have:=hR4.lt;omega) (by omega)).trans ((hg9.block k (by have:=hR4.lt;omega) (fun e=>by have:=World.ownsRow.lt ho5 k e.symm;omega)).trans (b5.block k (by have:=hR4.lt;omega))))
     have hsz4:wr.heap.size≤w4.heap.size:=hC4.size
     have hW4:W1.heap.size≤wr.heap.size:=HCI.out.size
     have hC10:Chg (fun k=>k=x∨g≤k) W1 w10:=⟨hc10.os.trans (hg9.os.trans (b5.os.trans (hC4.os.trans HCI.out.os))),hc10.tape.trans (hg9.tape.trans (b5.tape.trans (hC4.tape.trans HCI.out.tape))),hc10.output.trans (hg9.output.trans (b5.output.trans (hC4.output.trans HCI.out.output))),by have:=hc10.size;omega,fun j hj hne=>(hc10.block j (by omega) (by omega)).trans ((hg9.block j (by omega) (fun e=>by have:=World.ownsRow.lt ho5 j e.symm;omega)).trans ((b5.block j (by omega)).trans ((hC4.block j (show j<wr.heap.size by omega) (by omega)).trans (HCI.out.block j hj hne))))⟩
     rw [hw10]
     refine hK.out _ _ (fun h=>absurd rfl h) (fun _=>?_)
     clear hK K HS9 c7 f7
     refine last_done (by kernel_rfl) ?_ _
     have HB10:Hid _:=hb10
     have HO10:Hid _:=ho10
     have HR10:Hid _:=hR10
     have HC10:Hid _:=hC10
     have HA4:Hid _:=ha4
     clear hw10 hc10 hb10 ho10 hR10 hC10 hb9 hr9 hg9 hb5 ho5 b5 hn5 hb4 ho4 hR4 hC4 hne HAC HBX HOW HCI hsz9 hsz4 hz5 hg4 hW4 ha4
     go_wp2
     go_roundg (n - (i+1))
     case measure=>omega
     case rel=>exact⟨i+1,la++ [a],_,by omega,by go_num,by rw [List.length_append,HLL.out];rfl,HB10.out,HO10.out,by rw [HSN.out];exact HR10.out,by rw [HSN.out];exact fun h=>by rw [HA4.out h],HC10.out⟩
   ·have hlt':¬(i:Int)<n:=by omega
    obtain rfl:i=n:=by omega
    have HBX:Hid _:=hbx
    have HOW:Hid _:=hown
    have HRI:Hid _:=hRi
    have HCI:Hid _:=hCi
    have HLA:Hid _:=hla
    have HLL:Hid _:=hll
    clear hbx hown hRi hla hCi hrn hll
    go_wp2
    go_meet
    exact⟨la,va,HBX.out,by rw [HLL.out];exact HOW.out,HRI.out,HLA.out,by rw [HLL.out];exact Nat.le_refl _,HCI.out⟩
 case rest=>
 obtain⟨la,va,hbx,hown,hRi,hla,hll,hCi⟩:=hcut
 obtain⟨V15,hV⟩:∃V:World,V=wc:=⟨_,rfl⟩
 rw [← hV]at hbx hown hRi hCi
 rw [← hV]
 clear hV
 obtain⟨s12,hs12⟩:∃s12,(acsF n s11).2=s12:=⟨_,rfl⟩
 rw [hs12]at hRi hla
 have HLA:Hid (s12≠none→la=(rd4 r).1):=fun h=>by rw [hla h];exact congrArg Prod.fst E4.out.symm
 have E5:Hid (rd5 r=cntF 64 s12):=by show rd5 r=cntF 64 s12;unfold rd5;rw [E4.out,hs12]
 have hcp:=cnt_pos 64 s12
 have hcl:=cnt_le 64 s12
 have HMA:Hid (∀(V:World),Rf V x s12→_):=fun V hV=>fmany_any (k:=64) hV (by omega)
 obtain⟨m,hm⟩:∃m:Nat,(cntF 64 s12).1=m:=⟨(cntF 64 s12).1.toNat,by omega⟩
 obtain⟨s13,hs13⟩:∃s13,(cntF 64 s12).2=s13:=⟨_,rfl⟩
 rw [hm,hs13]at HMA
 rw [hm,hs13]at hcl
 have E6:Hid (rd6 r=jbsF m s13):=by show rd6 r=jbsF m s13;unfold rd6;rw [E5.out,hs13,hm];rfl
 have HNS:Hid (s12=none→s13=none):=fun h=>by rw [← hs13,h,cnt_none]
 have HBX15:Hid _:=hbx
 have HOA15:Hid _:=hown
 have HR15:Hid _:=hRi
 have HC15:Hid _:=hCi
 clear hbx hown hRi hCi hcp hm hs13 E4 E5 hs12 hla
 go_upto_region 22 with(go_at_call 72;refine(HMA.out _ HR15.out).mono ?_;rintro e w16 ⟨rfl,hR4,hC4⟩;have HR16:Hid _:=hR4;have HC16:Hid _:=hC4;clear hR4 hC4)
 have HB16:Hid _:=box_at hxg HBX15.out HC16.out
 have HOA16:Hid (w16.ownsRow (g+1) 52 5 va la.length (flatA la)):=row_stand HOA15.out (fun k hk=>by have:=World.ownsRow.lt HOA15.out k hk;exact HC16.out.block k this.2 (by omega))
 have HC16':Hid (Chg (fun k=>k=x∨g≤k) W1 w16):=HC15.out.trans HC16.out (fun _ _ e=>.inl e)
 have hfew:=HR16.out.few
 have hmb:m*64≤140737488355328:=by omega
 obtain⟨j0,hj0,hzj0,hzj1,hzj2⟩:=info_parts Tryz.infJz8
 clear hfew hcl HBX15 HR15 HOA15 HC15 HC16 HMA
 go_upto_block 2 with fail
 go_cut [] (fun y=>∃(qs:List Pj) (vj:Value),y.heap[g]?=some (.cells (sL n0 n1 n2 n3 n4 n5 n6 n7 n8 n9 va vj) 27 (0,0))∧y.ownsRow (g+1) 52 5 va la.length (flatA la)∧y.ownsRow (g+1) 55 8 vj qs.length (flatJ qs)∧(∀q∈qs,y.ownsRow (g+1) 3 1 (.slice q.sa q.v.set.length q.sc) q.v.set.length (q.v.set.map (Value.int .i64)))∧Rf y x (jbsF m s13).2∧((jbsF m s13).2≠none→qs.map Pj.v=(jbsF m s13).1)∧Chg (fun k=>k=x∨g≤k) W1 y)
 case first=>
  go_wp2_with fail
  go_loopg [9] m (fun gk pk wr=>∃(i:Nat) (qs:List Pj) (vj:Value),i+gk=m∧pk=.int .i64 i∧qs.length=i∧wr.heap[g]?=some (.cells (sL n0 n1 n2 n3 n4 n5 n6 n7 n8 n9 va vj) 27 (0,0))∧wr.ownsRow (g+1) 52 5 va la.length (flatA la)∧wr.ownsRow (g+1) 55 8 vj i (flatJ qs)∧(∀q∈qs,wr.ownsRow (g+1) 3 1 (.slice q.sa q.v.set.length q.sc) q.v.set.length (q.v.set.map (Value.int .i64)))∧Rf wr x (jbsF i s13).2∧qs.map Pj.v=(jbsF i s13).1∧Chg (fun k=>k=x∨g≤k) W1 wr)
  case atStart=>exact⟨0,[],.slice none 0 0,by omega,rfl,rfl,HB16.out,HOA16.out,World.ownsRow_nil ..,nofun,HR16.out,rfl,HC16'.out⟩
  case round=>
   obtain⟨i,qs,vj,hi,rfl,hll2,hbx,hoa,hown,hsets,hRi,hqs,hCi⟩:=hrel
   obtain⟨ra,rm,rc,rb,hrb,_,_,_,hrn,_⟩:=hRi.blk
   have c1:wr.cell? ⟨x,1,none⟩=some (.bool rb):=cells_at hrb rfl
   clear hrb
   by_cases hlt:i<m
   ·have hlt':(i:Int)<m:=by omega
    cases rb with
    | true=>
     have hnone:=hrn.1 rfl
     have hnn:=jbs_more i (m - i) s13 hnone
     rw [show i+(m - i)=m by omega]at hnn
     rw [hnone]at hRi
     have HNN:Hid _:=hnn
     have HBX:Hid _:=hbx
     have HOA:Hid _:=hoa
     have HOW:Hid _:=hown
     have HSE:Hid _:=hsets
     have HRI:Hid _:=hRi
     have HCI:Hid _:=hCi
     have HLL:Hid _:=hll2
     clear hnone hnn hbx hoa hown hsets hRi hqs hCi hrn hll2
     go_wp2
     go_meet
     exact⟨qs,vj,HBX.out,HOA.out,by rw [HLL.out];exact HOW.out,HSE.out,by rw [HNN.out];exact HRI.out,fun h=>absurd HNN.out h,HCI.out⟩
    | false=>
     have hsn:=jbsF_snoc i s13
     have hac:=fjob_any (hRi.other (W':=wr.drew) (fun k hk=>rfl))
     unfold FJobP at hac
     generalize jbsF i s13=p at *
     obtain⟨lx,s⟩:=p
     simp only at hRi hqs hsn hac hrn
     obtain⟨jv,hjv⟩:∃jv,(jbF s).1=jv:=⟨_,rfl⟩
     obtain⟨t2,ht2⟩:∃t2,(jbF s).2=t2:=⟨_,rfl⟩
     rw [hjv,ht2]at hac hsn
     have HSN:Hid _:=hsn
     have HBX:Hid _:=hbx
     have HOA:Hid _:=hoa
     have HOW:Hid _:=hown
     have HSE:Hid _:=hsets
     have HCI:Hid _:=hCi
     have HLL:Hid _:=hll2
     have HAC:Hid _:=hac
     have HQS:Hid _:=hqs
     clear hsn hbx hoa hown hsets hRi hqs hCi hrn hll2 hac hjv ht2
     go_upto_region 25 with fail
     clear c1
     refine wp_region_last (S:=(fun y:World=>y.heap[g]?=some (.cells (sL n0 n1 n2 n3 n4 n5 n6 n7 n8 n9 va vj) 27 (0,0)))) (L:=7) (by kernel_rfl) ?_
     have HS0:(fun y:World=>y.heap[g]?=some (.cells (sL n0 n1 n2 n3 n4 n5 n6 n7 n8 n9 va vj) 27 (0,0))) wr.drew:=HBX.out
     have HF:Hid (∀xx:World,(fun y:World=>y.heap[g]?=some (.cells (sL n0 n1 n2 n3 n4 n5 n6 n7 n8 n9 va vj) 27 (0,0))) xx→xx.cell? ⟨g,10,none⟩=some vj∧True):=fun xx hSx=>⟨cells_at (show xx.heap[g]?=_ from hSx) rfl,trivial⟩
     refine tc [0,7] 0 HS0 (h:=?_)
     refine tc [1,7] 1 HS0 (h:=?_)
     refine tc [2,7] 2 HS0 (h:=?_)
     refine last_one (i:=3) (by kernel_rfl) rfl ?_
     intro K hK
     go_simp
     go_at_call 74
     refine(show Calls _ _ _ _ _ from HAC.out).mono ?_
     rintro e w4 ⟨v,rfl,hos,hR4,hC4⟩
     obtain⟨so,sc,rfl⟩:=own_form hos
     have hzd:wr.drew.heap.size=wr.heap.size:=rfl
     have hgr:g<wr.heap.size:=(Array.getElem?_eq_some_iff.1 HBX.out).1
     have hb4:w4.heap[g]?=some (.cells (sL n0 n1 n2 n3 n4 n5 n6 n7 n8 n9 va vj) 27 (0,0)):=box_at hxg (show wr.drew.heap[g]?=_ from HBX.out) hC4
     have hst4:∀ {e sz n:Nat} {v:Value} {xs:List Value},wr.ownsRow (g+1) e sz v n xs→w4.ownsRow (g+1) e sz v n xs:=fun h=>row_stand h (fun k hk=>by have:=World.ownsRow.lt h k hk;exact hC4.block k this.2 (by omega))
     have ho4:=hst4 HOW.out
     have hoa4:=hst4 HOA.out
     have hse4:∀q∈qs++ [(⟨jv,so,sc⟩:Pj)],w4.ownsRow (g+1) 3 1 (.slice q.sa q.v.set.length q.sc) q.v.set.length (q.v.set.map (Value.int .i64)):=fun q hq=>by
      rcases List.mem_append.1 hq with h | h
      ·exact hst4 (HSE.out q h)
      ·rw [List.mem_singleton.1 h];exact own_base hos (by omega)
     have HS4:(fun y:World=>y.heap[g]?=some (.cells (sL n0 n1 n2 n3 n4 n5 n6 n7 n8 n9 va vj) 27 (0,0))) w4:=hb4
     refine hK.out _ _ (fun _=>HS4) (fun _=>?_)
     clear hK K HS0 HF
     refine last_one (i:=4) (by kernel_rfl) rfl ?_
     intro K hK
     go_simp
     obtain⟨w5,hw5⟩:∃w5,w4.alloc (.cells (jbL jv.ac jv.nd jv.lm jv.sb jv.st jv.sr jv.en (.slice so jv.set.length sc)) 55)=w5:=⟨_,rfl⟩
     have b5:Below w4.heap.size w4 w5:=by rw [← hw5];exact(Below.refl _ _).alloc (Nat.le_refl _) _
     have hn5:w5.heap[w4.heap.size]?=some (.cells (jbL jv.ac jv.nd jv.lm jv.sb jv.st jv.sr jv.en (.slice so jv.set.length sc)) 55 (0,0)):=by rw [← hw5];exact heap_alloc_new w4 _
     have hg4:g<w4.heap.size:=(Array.getElem?_eq_some_iff.1 hb4).1
     have hb5:w5.heap[g]?=some (.cells (sL n0 n1 n2 n3 n4 n5 n6 n7 n8 n9 va vj) 27 (0,0)):=(b5.block g hg4).trans hb4
     have hst5:∀ {e sz n:Nat} {v:Value} {xs:List Value},w4.ownsRow (g+1) e sz v n xs→w5.ownsRow (g+1) e sz v n xs:=fun h=>row_stand h (fun k hk=>by have:=World.ownsRow.lt h k hk;exact b5.block k this.2)
     have ho5:=hst5 ho4
     have hoa5:=hst5 hoa4
     have HS5:(fun y:World=>y.heap[g]?=some (.cells (sL n0 n1 n2 n3 n4 n5 n6 n7 n8 n9 va vj) 27 (0,0))) w5:=hb5
     have hz5:w4.heap.size<w5.heap.size:=(Array.getElem?_eq_some_iff.1 hn5).1
     rw [hw5]
     refine hK.out _ _ (fun _=>HS5) (fun _=>?_)
     clear hK K HS4 hw5
     refine last_one (i:=5) (by kernel_rfl) rfl ?_
     intro K hK
     refine step_append_wide (by rfl) _ _ _ (by rfl) (g+1) 55 j0 _ 8 80 Tryz.underlying25 hj0 hzj0 hzj1 hzj2 rfl (by omega) vj i (flatJ qs) (by rfl) ho5 ⟨w4.heap.size,0,none⟩ 1 1 [.int .i64 jv.ac,.int .i64 jv.nd,.int .i64 jv.lm,.int .i64 jv.sb,.int .i64 jv.st,.int .i64 jv.sr,.int .i64 jv.en,.slice so jv.set.length sc] (by rfl) (by rfl) (World.news_of_block (cs:=jbL jv.ac jv.nd jv.lm jv.sb jv.st jv.sr jv.en (.slice so jv.set.length sc)) (t:=55) (fr:=(0,0)) hn5) (by simp [Value.oneCell']) (by omega) (by unfold maxLen;omega) (by omega) (by omega) ?_
     intro gg cap w9 hr9 hg9
     have hne:some g≠vj.ownBlock:=fun e=>by have:=World.ownsRow.lt ho5 g e.symm;omega
     have hb9:w9.heap[g]?=some (.cells (sL n0 n1 n2 n3 n4 n5 n6 n7 n8 n9 va vj) 27 (0,0)):=(hg9.block g (by omega) hne).trans hb5
     have HS9:(fun y:World=>y.heap[g]?=some (.cells (sL n0 n1 n2 n3 n4 n5 n6 n7 n8 n9 va vj) 27 (0,0))) w9:=hb9
     refine hK.out _ _ (fun _=>HS9) (fun _=>?_)
     clear hK K HS5
     refine tc [6,7] 6 HS9 (h:=?_)
     refine last_one (i:=7) (by kernel_rfl) rfl ?_
     intro K hK
     refine ite_yes (by rfl) ?_
     have c7:w9.cell? ⟨g,10,none⟩=some vj:=cells_at hb9 rfl
     have f7:w9.frozen? ⟨g,10,none⟩=false:=frozen_at hb9
     go_simp
     obtain⟨w10,hw10⟩:∃w10,w9.setCell ⟨g,10,none⟩ (.slice (some ⟨gg,0,none⟩) (i+1) cap)=w10:=⟨_,rfl⟩
     have hc10:Chg (fun k=>k=g) w9 w10:=by rw [← hw10];exact⟨rfl,rfl,rfl,by simp [World.setCell],fun j _ hj=>Below.heap_setCell _ _ _ _ hj⟩
     have hb10:w10.heap[g]?=some (.cells (sL n0 n1 n2 n3 n4 n5 n6 n7 n8 n9 va (.slice (some ⟨gg,0,none⟩) (i+1) cap)) 27 (0,0)):=by rw [← hw10];exact heap_setCell_same w9 g 10 _ _ _ hb9
     have ho10:w10.ownsRow (g+1) 55 8 (.slice (some ⟨gg,0,none⟩) (i+1) cap) (i+1) (flatJ (qs++ [(⟨jv,so,sc⟩:Pj)])):=by rw [flatJ_app];exact row_stand hr9 (fun k hk=>by have:=World.ownsRow.lt hr9 k hk;exact hc10.block k this.2 (by omega))
     have hsz9:=hg9.size
     have hst9:∀ {e sz n:Nat} {v:Value} {xs:List Value},e≠55→w5.ownsRow (g+1) e sz v n xs→w10.ownsRow (g+1) e sz v n xs:=fun he h=>row_stand h (fun k hk=>by have:=World.ownsRow.lt h k hk;exact(hc10.block k (by omega) (by omega)).trans (hg9.block k this.2 (fun e=>tag_ne h ho5 he k hk e.symm)))
     have hoa10:=hst9 (by decide) hoa5
     have hse10:∀q∈qs++ [(⟨jv,so,sc⟩:Pj)],w10.ownsRow (g+1) 3 1 (.slice q.sa q.v.set.length q.sc) q.v.set.length (q.v.set.map (Value.int .i64)):=fun q hq=>hst9 (by decide) (hst5 (hse4 q hq))
     have hR10:Rf w10 x t2:=hR4.other (fun k hk=>(hc10.block k (by have:=hR4.lt;omega) (by omega)).trans ((hg9.block k (by have:=hR4.lt;omega) (fun e=>by have:=World.ownsRow.lt ho5 k e.symm;omega)).trans (b5.block k (by have:=hR4.lt;omega))))
     have hsz4:wr.heap.size≤w4.heap.size:=hC4.size
     have hW4:W1.heap.size≤wr.heap.size:=HCI.out.size
     have hC10:Chg (fun k=>k=x∨g≤k) W1 w10:=⟨hc10.os.trans (hg9.os.trans (b5.os.trans (hC4.os.trans HCI.out.os))),hc10.tape.trans (hg9.tape.trans (b5.tape.trans (hC4.tape.trans HCI.out.tape))),hc10.output.trans (hg9.output.trans (b5.output.trans (hC4.output.trans HCI.out.output))),by have:=hc10.size;omega,fun j hj hne=>(hc10.block j (by omega) (by omega)).trans ((hg9.block j (by omega) (fun e=>by have:=World.ownsRow.lt ho5 j e.symm;omega)).trans ((b5.block j (by omega)).trans ((hC4.block j (show j<wr.heap.size by omega) (by omega)).trans (HCI.out.block j hj hne))))⟩
     rw [hw10]
     refine hK.out _ _ (fun h=>absurd rfl h) (fun _=>?_)
     clear hK K HS9 c7 f7
     refine last_done (by kernel_rfl) ?_ _
     have HB10:Hid _:=hb10
     have HO10:Hid _:=ho10
     have HOA10:Hid _:=hoa10
     have HSE10:Hid _:=hse10
     have HR10:Hid _:=hR10
     have HC10:Hid _:=hC10
     clear hw10 hc10 hb10 ho10 hoa10 hse10 hR10 hC10 hb9 hr9 hg9 hb5 ho5 hoa5 b5 hn5 hb4 ho4 hoa4 hse4 hst4 hst5 hst9 hos hR4 hC4 hne HAC HBX HOA HOW HSE HCI hsz9 hsz4 hz5 hg4 hW4 hzd hgr
     go_wp2
     go_roundg (m - (i+1))
     case measure=>omega
     case rel=>exact⟨i+1,_,_,by omega,by go_num,by rw [List.length_append,HLL.out];rfl,HB10.out,HOA10.out,HO10.out,HSE10.out,by rw [HSN.out];exact HR10.out,by rw [HSN.out,List.map_append,HQS.out];rfl,HC10.out⟩
   ·have hlt':¬(i:Int)<m:=by omega
    obtain rfl:i=m:=by omega
    have HBX:Hid _:=hbx
    have HOA:Hid _:=hoa
    have HOW:Hid _:=hown
    have HSE:Hid _:=hsets
    have HRI:Hid _:=hRi
    have HCI:Hid _:=hCi
    have HLL:Hid _:=hll2
    have HQS:Hid _:=hqs
    clear hbx hoa hown hsets hRi hqs hCi hrn hll2
    go_wp2
    go_meet
    exact⟨qs,vj,HBX.out,HOA.out,by rw [HLL.out];exact HOW.out,HSE.out,HRI.out,fun _=>HQS.out,HCI.out⟩
 case rest=>
 obtain⟨qs,vj,hbx,hoa,hoj,hse,hRi,hqs,hCi⟩:=hcut
 obtain⟨V17,hV⟩:∃V:World,V=wc:=⟨_,rfl⟩
 rw [← hV]at hbx hoa hoj hse hRi hCi
 rw [← hV]
 clear hV
 obtain⟨ea,ca,rfl⟩:=own_form hoa
 obtain⟨ej,cj,rfl⟩:=own_form hoj
 have hjn:s13=none→(jbsF m s13).2=none:=fun h=>by rw [h];exact jbs_none m
 have E7:Hid (rd7 r=needF (decide (lenF (jbsF m s13).2=0)) (jbsF m s13).2):=by show rd7 r=_;unfold rd7;rw [E6.out]
 have E6':(rd6 r).1=(jbsF m s13).1:=by rw [E6.out]
 rw [← E6']at hqs
 clear E6'
 generalize (jbsF m s13).2=s14 at *
 obtain⟨ra,rm,rc,rb,hrb,_,_,_,hrn,hrr⟩:=hRi.blk
 obtain⟨na,hna⟩:∃na,la.length=na:=⟨_,rfl⟩
 obtain⟨nj,hnj⟩:∃nj,qs.length=nj:=⟨_,rfl⟩
 rw [hna]at hbx hoa
 rw [hnj]at hbx hoj
 have hgood:rd7 r≠none↔(rb=false∧rm=0):=by
  rw [E7.out]
  cases s14 with
  | none=>
   have:=hrn.2 rfl
   rw [need_none,this]
   simp
  | some r'=>
   have h1:rb=false:=by cases rb with | false=>rfl | true=>exact absurd (hrn.1 rfl) nofun
   have h2:=(hrr r' rfl).1
   rw [h1]
   show needF (decide (r'.length=0)) (some r')≠none↔_
   rw [← h2]
   by_cases h0:rm=0
   ·simp [h0,needF]
   ·simp [h0,needF]
 have HRE:Hid (V17.drew.heap[w.heap.size]?=some (.cells (sL 0 0 0 0 0 0 0 0 0 0 (.slice none 0 0) (.slice none 0 0)) 27 (0,0))):=(show V17.heap[w.heap.size]?=_ from(hCi.block _ (by have:=HZ1.out;omega) (by have:=HX.out;omega)).trans HRES.out)
 have HEND:Hid (∀(b:Bool),(b=true↔(rb=false∧rm=0))→FStP r w (.returned (.tuple #[.agg (sL n0 n1 n2 n3 n4 n5 n6 n7 n8 n9 (.slice ea na ca) (.slice ej nj cj)),.bool b])) (V17.drew.setRow w.heap.size (sL n0 n1 n2 n3 n4 n5 n6 n7 n8 n9 (.slice ea na ca) (.slice ej nj cj)))):=fun b hb=>by
  have hbl:Below w.heap.size w (V17.drew.setRow w.heap.size (sL n0 n1 n2 n3 n4 n5 n6 n7 n8 n9 (.slice ea na ca) (.slice ej nj cj))):=by
   have h1:Chg (fun k=>k=x∨g≤k∨k=w.heap.size) W1 V17.drew:=⟨hCi.os,hCi.tape,hCi.output,hCi.size,fun i hi hne=>hCi.block i hi (by omega)⟩
   exact Chg.below (chg_row h1 (.inl (.inr (.inr rfl))) _) HB1.out HB1.out.size (fun i hi=>by have:=HX.out;rcases hi with h | h | h<;>omega)
  refine⟨⟨n0,n1,n2,n3,n4,n5,n6,n7⟩,n8,n9,ea,na,ca,ej,nj,cj,b,rfl,hb.trans hgood.symm,fun h7=>?_,hbl⟩
  have h14:s14≠none:=fun e=>h7 (by rw [E7.out,e];exact need_none _)
  have h13:s13≠none:=fun e=>h14 (hjn e)
  have h12:s12≠none:=fun e=>h13 (HNS.out e)
  have hst:∀ {e sz n:Nat} {v:Value} {xs:List Value},V17.ownsRow (g+1) e sz v n xs→(V17.drew.setRow w.heap.size (sL n0 n1 n2 n3 n4 n5 n6 n7 n8 n9 (.slice ea na ca) (.slice ej nj cj))).ownsRow w.heap.size e sz v n xs:=fun h=>own_base (row_stand h (fun k hk=>by have:=World.ownsRow.lt h k hk;exact setRow_other _ _ _ _ (by omega))) (by omega)
  refine⟨qs,HN2.out,hqs h14,by rw [← hna,HLA.out h12],hnj.symm,⟨?_,?_,fun q hq=>hst (hse q hq)⟩⟩
  ·rw [← HLA.out h12,hna];exact hst hoa
  ·rw [hnj];exact hst hoj
 have HBX:Hid _:=hbx
 clear hbx hoa hoj hse hRi hCi hrr hna hnj hjn hgood HLA HNS hqs
 cases rb with
 | true=>
  have HRB:Hid _:=hrb
  have HOK:Hid ((false:Bool)=true↔((true:Bool)=false∧rm=0)):=(show _↔_ from by simp)
  clear hrb hrn
  go_upto_region 26 with fail
  refine wp_region_last (S:=(fun y:World=>y.heap[g]?=some (.cells (sL n0 n1 n2 n3 n4 n5 n6 n7 n8 n9 (.slice ea na ca) (.slice ej nj cj)) 27 (0,0))∧y.heap[x]?=some (.cells #[.slice ra rm rc,.bool true] 99 (0,0)))) (L:=99) (by kernel_rfl) ?_
  have HS0:(fun y:World=>y.heap[g]?=some (.cells (sL n0 n1 n2 n3 n4 n5 n6 n7 n8 n9 (.slice ea na ca) (.slice ej nj cj)) 27 (0,0))∧y.heap[x]?=some (.cells #[.slice ra rm rc,.bool true] 99 (0,0))) V17.drew:=⟨HBX.out,HRB.out⟩
  have HF:Hid (∀xx:World,(fun y:World=>y.heap[g]?=some (.cells (sL n0 n1 n2 n3 n4 n5 n6 n7 n8 n9 (.slice ea na ca) (.slice ej nj cj)) 27 (0,0))∧y.heap[x]?=some (.cells #[.slice ra rm rc,.bool true] 99 (0,0))) xx→xx.cell? ⟨g,0,none⟩=some (.int .i64 n0)∧xx.cell? ⟨g,1,none⟩=some (.int .i64 n1)∧xx.cell? ⟨g,2,none⟩=some (.int .i64 n2)∧xx.cell? ⟨g,3,none⟩=some (.int .i64 n3)∧xx.cell? ⟨g,4,none⟩=some (.int .i64 n4)∧xx.cell? ⟨g,5,none⟩=some (.int .i64 n5)∧xx.cell? ⟨g,6,none⟩=some (.int .i64 n6)∧xx.cell? ⟨g,7,none⟩=some (.int .i64 n7)∧xx.cell? ⟨g,8,none⟩=some (.int .i64 n8)∧xx.cell? ⟨g,9,none⟩=some (.slice ea na ca)∧xx.cell? ⟨g,10,none⟩=some (.slice ej nj cj)∧xx.cell? ⟨g,11,none⟩=some (.int .i64 n9)∧xx.cell? ⟨x,0,none⟩=some (.slice ra rm rc)∧xx.cell? ⟨x,1,none⟩=some (.bool true)∧True):=fun xx hSx=>⟨cells_at hSx.1 rfl,cells_at hSx.1 rfl,cells_at hSx.1 rfl,cells_at hSx.1 rfl,cells_at hSx.1 rfl,cells_at hSx.1 rfl,cells_at hSx.1 rfl,cells_at hSx.1 rfl,cells_at hSx.1 rfl,cells_at hSx.1 rfl,cells_at hSx.1 rfl,cells_at hSx.1 rfl,cells_at hSx.2 rfl,cells_at hSx.2 rfl,trivial⟩
  refine tk 0 HS0 (h:=?_)
  refine tk 1 HS0 (h:=?_)
  refine tk 2 HS0 (h:=?_)
  refine tk 3 HS0 (h:=?_)
  refine tk 4 HS0 (h:=?_)
  refine tk 5 HS0 (h:=?_)
  refine tk 6 HS0 (h:=?_)
  refine sk 7 HS0 (h:=?_)
  refine sk 8 HS0 (h:=?_)
  refine sk 9 HS0 (h:=?_)
  refine sk 10 HS0 (h:=?_)
  refine sk 11 HS0 (h:=?_)
  refine sk 12 HS0 (h:=?_)
  refine tk 13 HS0 (h:=?_)
  refine last_one (i:=14) (by kernel_rfl) rfl ?_
  intro K hK
  refine ite_yes (by rfl) ?_
  refine wp_store_row 27 (.tmp 2) (.tmp 108) rfl w.heap.size (sL n0 n1 n2 n3 n4 n5 n6 n7 n8 n9 (.slice ea na ca) (.slice ej nj cj)) (by simp [Act.eval]) (by simp [Act.eval]) 27 _ HRE.out Tryz.infS rfl (by simp [Value.oneCell']) ?_
  have HS1:(fun y:World=>y.heap[g]?=some (.cells (sL n0 n1 n2 n3 n4 n5 n6 n7 n8 n9 (.slice ea na ca) (.slice ej nj cj)) 27 (0,0))∧y.heap[x]?=some (.cells #[.slice ra rm rc,.bool true] 99 (0,0))) (V17.drew.setRow w.heap.size (sL n0 n1 n2 n3 n4 n5 n6 n7 n8 n9 (.slice ea na ca) (.slice ej nj cj))):=⟨(setRow_other _ _ _ _ (show g≠w.heap.size by omega)).trans HS0.1,(setRow_other _ _ _ _ (show x≠w.heap.size by have:=HX.out;omega)).trans HS0.2⟩
  refine hK.out _ _ (fun _=>HS1) (fun _=>?_)
  clear hK K HS0 HF
  refine tk 15 HS1 (h:=?_)
  refine last_done (by kernel_rfl) ?_ _
  go_wp2
  exact ret_st2 Tryz.results34 rfl rfl rfl HRE.out rfl (HEND.out _ HOK.out)
 | false=>
  have HRB:Hid _:=hrb
  have HOK:Hid (((rm:Int)==0)=true↔((false:Bool)=false∧rm=0)):=(show _↔_ from by simp)
  clear hrb hrn
  go_upto_region 26 with fail
  refine wp_region_last (S:=(fun y:World=>y.heap[g]?=some (.cells (sL n0 n1 n2 n3 n4 n5 n6 n7 n8 n9 (.slice ea na ca) (.slice ej nj cj)) 27 (0,0))∧y.heap[x]?=some (.cells #[.slice ra rm rc,.bool false] 99 (0,0)))) (L:=99) (by kernel_rfl) ?_
  have HS0:(fun y:World=>y.heap[g]?=some (.cells (sL n0 n1 n2 n3 n4 n5 n6 n7 n8 n9 (.slice ea na ca) (.slice ej nj cj)) 27 (0,0))∧y.heap[x]?=some (.cells #[.slice ra rm rc,.bool false] 99 (0,0))) V17.drew:=⟨HBX.out,HRB.out⟩
  have HF:Hid (∀xx:World,(fun y:World=>y.heap[g]?=some (.cells (sL n0 n1 n2 n3 n4 n5 n6 n7 n8 n9 (.slice ea na ca) (.slice ej nj cj)) 27 (0,0))∧y.heap[x]?=some (.cells #[.slice ra rm rc,.bool false] 99 (0,0))) xx→xx.cell? ⟨g,0,none⟩=some (.int .i64 n0)∧xx.cell? ⟨g,1,none⟩=some (.int .i64 n1)∧xx.cell? ⟨g,2,none⟩=some (.int .i64 n2)∧xx.cell? ⟨g,3,none⟩=some (.int .i64 n3)∧xx.cell? ⟨g,4,none⟩=some (.int .i64 n4)∧xx.cell? ⟨g,5,none⟩=some (.int .i64 n5)∧xx.cell? ⟨g,6,none⟩=some (.int .i64 n6)∧xx.cell? ⟨g,7,none⟩=some (.int .i64 n7)∧xx.cell? ⟨g,8,none⟩=some (.int .i64 n8)∧xx.cell? ⟨g,9,none⟩=some (.slice ea na ca)∧xx.cell? ⟨g,10,none⟩=some (.slice ej nj cj)∧xx.cell? ⟨g,11,none⟩=some (.int .i64 n9)∧xx.cell? ⟨x,0,none⟩=some (.slice ra rm rc)∧xx.cell? ⟨x,1,none⟩=some (.bool false)∧True):=fun xx hSx=>⟨cells_at hSx.1 rfl,cells_at hSx.1 rfl,cells_at hSx.1 rfl,cells_at hSx.1 rfl,cells_at hSx.1 rfl,cells_at hSx.1 rfl,cells_at hSx.1 rfl,cells_at hSx.1 rfl,cells_at hSx.1 rfl,cells_at hSx.1 rfl,cells_at hSx.1 rfl,cells_at hSx.1 rfl,cells_at hSx.2 rfl,cells_at hSx.2 rfl,trivial⟩
  refine tk 0 HS0 (h:=?_)
  refine tk 1 HS0 (h:=?_)
  refine tk 2 HS0 (h:=?_)
  refine tk 3 HS0 (h:=?_)
  refine tk 4 HS0 (h:=?_)
  refine tk 5 HS0 (h:=?_)
  refine tk 6 HS0 (h:=?_)
  refine tk 7 HS0 (h:=?_)
  refine tk 8 HS0 (h:=?_)
  refine tk 9 HS0 (h:=?_)
  refine tk 10 HS0 (h:=?_)
  refine tk 11 HS0 (h:=?_)
  refine tk 12 HS0 (h:=?_)
  refine tk 13 HS0 (h:=?_)
  refine last_one (i:=14) (by kernel_rfl) rfl ?_
  intro K hK
  refine ite_yes (by rfl) ?_
  refine wp_store_row 27 (.tmp 2) (.tmp 108) rfl w.heap.size (sL n0 n1 n2 n3 n4 n5 n6 n7 n8 n9 (.slice ea na ca) (.slice ej nj cj)) (by simp [Act.eval]) (by simp [Act.eval]) 27 _ HRE.out Tryz.infS rfl (by simp [Value.oneCell']) ?_
  have HS1:(fun y:World=>y.heap[g]?=some (.cells (sL n0 n1 n2 n3 n4 n5 n6 n7 n8 n9 (.slice ea na ca) (.slice ej nj cj)) 27 (0,0))∧y.heap[x]?=some (.cells #[.slice ra rm rc,.bool false] 99 (0,0))) (V17.drew.setRow w.heap.size (sL n0 n1 n2 n3 n4 n5 n6 n7 n8 n9 (.slice ea na ca) (.slice ej nj cj))):=⟨(setRow_other _ _ _ _ (show g≠w.heap.size by omega)).trans HS0.1,(setRow_other _ _ _ _ (show x≠w.heap.size by have:=HX.out;omega)).trans HS0.2⟩
  refine hK.out _ _ (fun _=>HS1) (fun _=>?_)
  clear hK K HS0 HF
  refine tk 15 HS1 (h:=?_)
  refine last_done (by kernel_rfl) ?_ _
  go_wp2
  exact ret_st2 Tryz.results34 rfl rfl rfl HRE.out rfl (HEND.out _ HOK.out)
end Go.Proofs.YtceoibfliggalaaGreatDoor
namespace Go.Proofs.YtceoibfliggalaaGreatDoor
open Go Go.RowKit Wd Tr Cg Ld Lg
theorem own_cap {W:World} {B e sz n m c:Nat} {ao:Option Addr} {xs:List Value} (h:W.ownsRow B e sz (.slice ao m c) n xs):n≤c∧(ao=none→n=0∧c=0):=by
 rcases h.2 with⟨e,rfl⟩ | ⟨g,cap,cur,e,_,_,hle,_⟩
 ·cases e
  exact⟨Nat.le_refl _,fun _=>⟨rfl,rfl⟩⟩
 ·cases e
  exact⟨hle,nofun⟩
theorem FrS.keep {W W':World} {B:Nat} {va vj:Value} {la:List Ac} {qs:List Pj} (h:FrS W B va la vj qs) (hk:∀k,B≤k→k<W.heap.size→W'.heap[k]?=W.heap[k]?):FrS W' B va la vj qs:=
 have st:∀ {e sz n:Nat} {v:Value} {xs:List Value},W.ownsRow B e sz v n xs→W'.ownsRow B e sz v n xs:=fun h=>row_stand h (fun k hk'=>by have:=World.ownsRow.lt h k hk';exact hk k this.1 this.2)
 ⟨st h.acs,st h.jobs,fun q hq=>st (h.sets q hq)⟩
theorem fr_stin {W:World} {B:Nat} {ao jo:Option Addr} {ca cj:Nat} {c:Cf} {now hd:Int} {la:List Ac} {qs:List Pj} (h:FrS W B (.slice ao la.length ca) la (.slice jo qs.length cj) qs) (hl:(stB ⟨c,now,la,qs.map Pj.v,hd⟩).length≤140737488355328) (hu:∀a∈la,Word a.us):StIn W ao la ca jo qs cj:=by
 rw [st_parts]at hl
 simp only at hl
 have h1:=acs_many la
 have h2:=jbs_many qs
 have hs:∀p∈qs,p.v.set.length≤setsN qs:=fun p hp=>sets_mem hp
 have ka:=own_cap h.acs
 have kj:=own_cap h.jobs
 refine⟨acs_own h.acs,fun n a ha=>hu a (List.mem_of_getElem? ha),fun a ha=>?_,by omega,ka.1,fun e=>⟨List.length_eq_zero_iff.1 (ka.2 e).1,(ka.2 e).2⟩,⟨jobs_own h.jobs,fun p hp=>ints_own (h.sets p hp)⟩,by omega,kj.1,fun e=>⟨List.length_eq_zero_iff.1 (kj.2 e).1,(kj.2 e).2⟩,fun p hp=>?_,fun p hp=>(own_cap (h.sets p hp)).1,fun p hp e=>?_⟩
 ·have:=acs_nm ha
  unfold maxLen
  omega
 ·have:=hs p hp
  omega
 ·have:=(own_cap (h.sets p hp)).2 e
  exact⟨List.length_eq_zero_iff.1 this.1,this.2⟩
def FGetP (w:World) (r:List UInt8) (c:Cf) (now hd:Int) (e:Ending) (w':World):Prop:=(if rd7 r=none then e=.returned (.tuple #[.agg #[.int .i64 0,.int .i64 0,.int .i64 0,.int .i64 0,.int .i64 0,.int .i64 0,.int .i64 0,.int .i64 0,.int .i64 0,.slice none 0 0,.slice none 0 0,.int .i64 0],.int .i64 190])else if auditV (chkZ c) ⟨c,now,(rd4 r).1,(rd6 r).1,hd⟩=0 then ∃ao ca jo cj,∃qs:List Pj,qs.map Pj.v=(rd6 r).1∧e=.returned (.tuple #[.agg (stL c now ao (rd4 r).1.length ca jo qs.length cj hd),.int .i64 0])∧StIn w' ao (rd4 r).1 ca jo qs cj else e=.returned (.tuple #[.agg #[.int .i64 0,.int .i64 0,.int .i64 0,.int .i64 0,.int .i64 0,.int .i64 0,.int .i64 0,.int .i64 0,.int .i64 0,.slice none 0 0,.slice none 0 0,.int .i64 0],.int .i64 191]))∧Below w.heap.size w w'
set_option maxRecDepth 20000 in
set_option maxHeartbeats 4000000 in
theorem fget_any {w:World} {ao:Option Addr} {r:List UInt8} {c0:Nat} {c:Cf} {now hd:Int} (hh:(rd2 r).1= [c.nodes,c.queue,c.limit,c.age,c.fair,c.size,c.period,c.half,now,hd]) (hb:∃g o,(0<r.length→ao=some ⟨g,o,none⟩)∧∀k b,r[k]?=some b→w.cell? ⟨g,o+k,none⟩=some (.int .u8 (b.toNat:Int))) (hc:r.length≤c0) (hn:ao=none→c0=0) (hl:r.length≤140737488355328):
  Calls Tryz.prog 18 #[.slice ao r.length c0] w (FGetP w r c now hd):=by
 obtain⟨W0,hW0⟩:∃W0,w.alloc (.cells #[.int .i64 0,.int .i64 0,.int .i64 0,.int .i64 0,.int .i64 0,.int .i64 0,.int .i64 0,.int .i64 0,.int .i64 0,.slice none 0 0,.slice none 0 0,.int .i64 0] 27)=W0:=⟨_,rfl⟩
 have b0:Below w.heap.size w W0:=by rw [← hW0];exact(Below.refl _ _).alloc (Nat.le_refl _) _
 have z0:W0.heap.size=w.heap.size+1:=by rw [← hW0];simp
 have hg0:W0.heap[w.heap.size]?=some (.cells #[.int .i64 0,.int .i64 0,.int .i64 0,.int .i64 0,.int .i64 0,.int .i64 0,.int .i64 0,.int .i64 0,.int .i64 0,.slice none 0 0,.slice none 0 0,.int .i64 0] 27 (0,0)):=by rw [← hW0];exact heap_alloc_new w _
 have hrd:Calls Tryz.prog 34 #[.slice ao r.length c0] W0 (FStP r W0):=fstate_any (by obtain⟨g,o,p1,p2⟩:=hb;exact⟨g,o,p1,fun k b hk=>cellB b0 (p2 k b hk)⟩) hc hn hl
 have HL:Hid _:=hl
 have HB0:Hid _:=b0
 have HG0:Hid _:=hg0
 have HZ0:Hid _:=z0
 have HHH:Hid _:=hh
 obtain⟨q,hq⟩:∃q,r.length=q:=⟨_,rfl⟩
 rw [hq]at hrd ⊢
 clear hb hc hn hl b0 hg0 hq z0 hh
 go_enter Tryz.func18,Tryz.ntmps18
 go_upto_region 1 with fail
 try rw [hW0]
 clear hW0
 go_upto_region 2 with(go_at_call 34;refine(show Calls _ _ _ _ _ from hrd).mono ?_;rintro e w1 ⟨c2,now2,hd2,ea,na,ca,ej,nj,cj,b,rfl,hb,hgood,hb1⟩;have HB1:Hid _:=hb1;have HGD:Hid _:=hgood;have HB:Hid _:=hb;clear hb hgood hb1;unfold stC)
 obtain⟨W2,hW2⟩:∃W2,w1.alloc (.cells #[.int .i64 c2.nodes,.int .i64 c2.queue,.int .i64 c2.limit,.int .i64 c2.age,.int .i64 c2.fair,.int .i64 c2.size,.int .i64 c2.period,.int .i64 c2.half,.int .i64 now2,.slice ea na ca,.slice ej nj cj,.int .i64 hd2] 27)=W2:=⟨_,rfl⟩
 have b2:Below w1.heap.size w1 W2:=by rw [← hW2];exact(Below.refl _ _).alloc (Nat.le_refl _) _
 have hg2:W2.heap[w1.heap.size]?=some (.cells #[.int .i64 c2.nodes,.int .i64 c2.queue,.int .i64 c2.limit,.int .i64 c2.age,.int .i64 c2.fair,.int .i64 c2.size,.int .i64 c2.period,.int .i64 c2.half,.int .i64 now2,.slice ea na ca,.slice ej nj cj,.int .i64 hd2] 27 (0,0)):=by rw [← hW2];exact heap_alloc_new w1 _
 have z0:=HZ0.out
 have zw1:W0.heap.size≤w1.heap.size:=HB1.out.size
 have HR2:Hid (W2.heap[w.heap.size]?=some (.cells #[.int .i64 0,.int .i64 0,.int .i64 0,.int .i64 0,.int .i64 0,.int .i64 0,.int .i64 0,.int .i64 0,.int .i64 0,.slice none 0 0,.slice none 0 0,.int .i64 0] 27 (0,0))):=(b2.block _ (by omega)).trans ((HB1.out.block _ (by omega)).trans HG0.out)
 have HBB:Hid (Below w.heap.size w W2):=(HB0.out.trans (HB1.out.mono (by omega))).trans (b2.mono (by omega))
 have HB2:Hid _:=b2
 have HG2':Hid _:=hg2
 rw [hW2]
 clear hW2 b2 hg2 HB1 HB0 HG0 hrd
 cases b with
 | false=>
  have hr7:rd7 r=none:=Classical.byContradiction fun e=>by simpa using HB.out.2 e
  have HR7:Hid _:=hr7
  clear hr7
  go_wp2_with (refine wpList_store_row rfl 27 (.tmp 2) (.tmp 13) rfl w.heap.size #[.int .i64 0,.int .i64 0,.int .i64 0,.int .i64 0,.int .i64 0,.int .i64 0,.int .i64 0,.int .i64 0,.int .i64 0,.slice none 0 0,.slice none 0 0,.int .i64 0] (by simp [Act.eval]) (by simp [Act.eval]) 27 _ HR2.out Tryz.infS rfl (by simp [Value.oneCell']) ?_)
  refine ret_st2 Tryz.results18 rfl rfl rfl HR2.out rfl ⟨?_,?_⟩
  ·rw [if_pos HR7.out];rfl
  ·exact Chg.below (chg_row (K:=fun k=>k=w.heap.size) (Chg.refl _ W2) (.inl rfl) _) HBB.out HBB.out.size (fun i hi=>by have:i=w.heap.size:=hi;omega)
 | true=>
  have hr7:rd7 r≠none:=HB.out.1 rfl
  obtain⟨qs,hh2,hqs,hna,hnj,hfr⟩:=HGD.out hr7
  have hcc:c2=c∧now2=now∧hd2=hd:=by
   have h9:=HHH.out
   rw [hh2]at h9
   simp only [List.cons.injEq,and_true]at h9
   obtain⟨e0,e1,e2,e3,e4,e5,e6,e7,e8,e9⟩:=h9
   refine⟨?_,e8,e9⟩
   obtain⟨a0,a1,a2,a3,a4,a5,a6,a7⟩:=c
   obtain⟨b0,b1,b2,b3,b4,b5,b6,b7⟩:=c2
   simp only at e0 e1 e2 e3 e4 e5 e6 e7
   subst e0 e1 e2 e3 e4 e5 e6 e7
   rfl
  obtain⟨rfl,rfl,rfl⟩:=hcc
  have hbk:=read_back hr7 HHH.out
  rw [← hqs]at hbk
  rw [hna,hnj]at hfr
  have hfr2:FrS W2 W0.heap.size (.slice ea (rd4 r).1.length ca) (rd4 r).1 (.slice ej qs.length cj) qs:=hfr.keep (fun k _ hk=>HB2.out.block k hk)
  have HFR:Hid _:=hfr2
  have hin1:=fr_stin (c:=c2) (now:=now2) (hd:=hd2) hfr (by rw [hbk];exact HL.out) (show ∀a∈(rd4 r).1,Word a.us from acs_us _ _)
  have hin:=hin1.below HB2.out
  have hps:∀p∈qs,p.v.set.length≤140737488355328:=fun p hp=>by have:=hin.sl p hp;omega
  have hck:=ucheck_any c2 now2 ca cj hd2 hin.acs hin.us hin.l48 hin.jobs (by have:=hin.l80;omega) hin.jcap hps
  unfold stL at hck
  rw [← hna,←hnj]at hck
  obtain⟨v,hv⟩:∃v,auditV (chkZ c2) ⟨c2,now2,(rd4 r).1,qs.map Pj.v,hd2⟩=v:=⟨_,rfl⟩
  rw [hv]at hck
  rw [hqs]at hv
  have HV:Hid _:=hv
  have HR7:Hid _:=hr7
  have HCK:Hid _:=hck
  have HSTL:Hid ((stB ⟨c2,now2,(rd4 r).1,qs.map Pj.v,hd2⟩).length≤140737488355328):=(show _≤_ from by rw [hbk];exact HL.out)
  have HZW:Hid (w.heap.size<W0.heap.size):=(show _<_ from by have:=HZ0.out;omega)
  have HNA:Hid _:=hna
  have HNJ:Hid _:=hnj
  have HQS:Hid _:=hqs
  have HG2:Hid _:=HG2'.out
  have p0:W2.cell? ⟨w1.heap.size,0,none⟩=some (.int .i64 c2.nodes):=cells_at HG2.out rfl
  have p1:W2.cell? ⟨w1.heap.size,1,none⟩=some (.int .i64 c2.queue):=cells_at HG2.out rfl
  have p2:W2.cell? ⟨w1.heap.size,2,none⟩=some (.int .i64 c2.limit):=cells_at HG2.out rfl
  have p3:W2.cell? ⟨w1.heap.size,3,none⟩=some (.int .i64 c2.age):=cells_at HG2.out rfl
  have p4:W2.cell? ⟨w1.heap.size,4,none⟩=some (.int .i64 c2.fair):=cells_at HG2.out rfl
  have p5:W2.cell? ⟨w1.heap.size,5,none⟩=some (.int .i64 c2.size):=cells_at HG2.out rfl
  have p6:W2.cell? ⟨w1.heap.size,6,none⟩=some (.int .i64 c2.period):=cells_at HG2.out rfl
  have p7:W2.cell? ⟨w1.heap.size,7,none⟩=some (.int .i64 c2.half):=cells_at HG2.out rfl
  have p8:W2.cell? ⟨w1.heap.size,8,none⟩=some (.int .i64 now2):=cells_at HG2.out rfl
  have p9:W2.cell? ⟨w1.heap.size,9,none⟩=some (.slice ea na ca):=cells_at HG2.out rfl
  have p10:W2.cell? ⟨w1.heap.size,10,none⟩=some (.slice ej nj cj):=cells_at HG2.out rfl
  have p11:W2.cell? ⟨w1.heap.size,11,none⟩=some (.int .i64 hd2):=cells_at HG2.out rfl
  clear hfr2 hr7 hbk hin1 hin hck hv hna hnj hqs hfr hh2 HGD HB HG2' HB2 HHH HL hps
  by_cases v0:v=0
  ·subst v0
   go_wp2_with (first
    | (go_at_call 21;refine(show Calls _ _ _ _ _ from HCK.out).mono ?_;rintro e w3 ⟨rfl,hb3⟩;have HB3:Hid _:=hb3;have hq3:=(hb3.block w1.heap.size (Array.getElem?_eq_some_iff.1 HG2.out).1).trans HG2.out;have q0:w3.cell? ⟨w1.heap.size,0,none⟩=some (.int .i64 c2.nodes):=cells_at hq3 rfl;have q1:w3.cell? ⟨w1.heap.size,1,none⟩=some (.int .i64 c2.queue):=cells_at hq3 rfl;have q2:w3.cell? ⟨w1.heap.size,2,none⟩=some (.int .i64 c2.limit):=cells_at hq3 rfl;have q3:w3.cell? ⟨w1.heap.size,3,none⟩=some (.int .i64 c2.age):=cells_at hq3 rfl;have q4:w3.cell? ⟨w1.heap.size,4,none⟩=some (.int .i64 c2.fair):=cells_at hq3 rfl;have q5:w3.cell? ⟨w1.heap.size,5,none⟩=some (.int .i64 c2.size):=cells_at hq3 rfl;have q6:w3.cell? ⟨w1.heap.size,6,none⟩=some (.int .i64 c2.period):=cells_at hq3 rfl;have q7:w3.cell? ⟨w1.heap.size,7,none⟩=some (.int .i64 c2.half):=cells_at hq3 rfl;have q8:w3.cell? ⟨w1.heap.size,8,none⟩=some (.int .i64 now2):=cells_at hq3 rfl;have q9:w3.cell? ⟨w1.heap.size,9,none⟩=some (.slice ea na ca):=cells_at hq3 rfl;have q10:w3.cell? ⟨w1.heap.size,10,none⟩=some (.slice ej nj cj):=cells_at hq3 rfl;have q11:w3.cell? ⟨w1.heap.size,11,none⟩=some (.int .i64 hd2):=cells_at hq3 rfl;have HR3:Hid _:=(hb3.block w.heap.size (Array.getElem?_eq_some_iff.1 HR2.out).1).trans HR2.out;clear hb3 hq3 p0 p1 p2 p3 p4 p5 p6 p7 p8 p9 p10 p11)
    | (refine wpList_store_row rfl 27 (.tmp 2) (.tmp 18) rfl w.heap.size #[.int .i64 c2.nodes,.int .i64 c2.queue,.int .i64 c2.limit,.int .i64 c2.age,.int .i64 c2.fair,.int .i64 c2.size,.int .i64 c2.period,.int .i64 c2.half,.int .i64 now2,.slice ea na ca,.slice ej nj cj,.int .i64 hd2] (by simp [Act.eval]) (by simp [Act.eval]) 27 _ HR3.out Tryz.infS rfl (by simp [Value.oneCell']) ?_))
   refine ret_st2 Tryz.results18 rfl rfl rfl HR3.out rfl ⟨?_,?_⟩
   ·rw [if_neg HR7.out,if_pos HV.out]
    refine⟨ea,ca,ej,cj,qs,HQS.out,by rw [← HNA.out,←HNJ.out];rfl,?_⟩
    exact fr_stin (HFR.out.keep (fun k h1 h2=>(setRow_other _ _ _ _ (by have:=HZW.out;omega)).trans (HB3.out.block k h2))) HSTL.out (show ∀a∈(rd4 r).1,Word a.us from acs_us _ _)
   ·exact Chg.below (chg_row (K:=fun k=>k=w.heap.size) (Chg.refl _ w3) (.inl rfl) _) (HBB.out.trans (HB3.out.mono HBB.out.size)) (HBB.out.trans (HB3.out.mono HBB.out.size)).size (fun i hi=>by have:i=w.heap.size:=hi;omega)
  ·go_wp2_with (first
    | (go_at_call 21;refine(show Calls _ _ _ _ _ from HCK.out).mono ?_;rintro e w3 ⟨rfl,hb3⟩;have HB3:Hid _:=hb3;have HR3:Hid _:=(hb3.block w.heap.size (Array.getElem?_eq_some_iff.1 HR2.out).1).trans HR2.out;clear hb3)
    | (refine wpList_store_row rfl 27 (.tmp 2) (.tmp 17) rfl w.heap.size #[.int .i64 0,.int .i64 0,.int .i64 0,.int .i64 0,.int .i64 0,.int .i64 0,.int .i64 0,.int .i64 0,.int .i64 0,.slice none 0 0,.slice none 0 0,.int .i64 0] (by simp [Act.eval]) (by simp [Act.eval]) 27 _ HR3.out Tryz.infS rfl (by simp [Value.oneCell']) ?_))
   refine ret_st2 Tryz.results18 rfl rfl rfl HR3.out rfl ⟨?_,?_⟩
   ·rw [if_neg HR7.out,if_neg (by rw [HV.out];exact v0)];rfl
   ·exact Chg.below (chg_row (K:=fun k=>k=w.heap.size) (Chg.refl _ w3) (.inl rfl) _) (HBB.out.trans (HB3.out.mono HBB.out.size)) (HBB.out.trans (HB3.out.mono HBB.out.size)).size (fun i hi=>by have:i=w.heap.size:=hi;omega)
end Go.Proofs.YtceoibfliggalaaGreatDoor
namespace Go.Proofs.YtceoibfliggalaaGreatDoor
open Go.RowKit Wd Tr Cg Lg
theorem lent_cut {W:World} {B:Nat} {v:Value} {r:List UInt8} (h:W.ownsRow B 5 1 v (r.length+2) (u8s (r++ [165,165]))):
  ∃g cap:Nat,v=.slice (some ⟨g,0,none⟩) (r.length+2) cap∧r.length+2≤cap∧W.ownsRow B 5 1 (.slice (some ⟨g,0,none⟩) r.length cap) r.length (u8s r):=by
 rcases h.2 with⟨_,h0⟩ | ⟨g,cap,cur,h1,h2,h3,h4,h5,h6,h7⟩
 ·omega
 ·refine ⟨g,cap,h1,h4,by rw [u8s_len],.inr ⟨g,cap,cur,rfl,h2,h3,by omega,h5,h6,?_⟩⟩
  have e:=congrArg (List.take r.length) h7
  rw [List.take_take,u8s_app,List.take_append_of_le_length (by rw [u8s_len];omega),List.take_of_length_le (l:=u8s r) (by rw [u8s_len];omega)]at e
  rw [show min r.length ((r.length+2)*1)=r.length*1 by omega]at e
  exact e
theorem flat_le {α:Type} {f:α→List UInt8} {k:Nat}:∀ {l:List α},(∀a∈l,(f a).length≤k)→(l.flatMap f).length≤k*l.length
 | [],_=>by simp
 | a::l,h=>by
  have h1:=flat_le (l:=l) (fun b hb=>h b (List.mem_cons_of_mem _ hb))
  have h2:=h a List.mem_cons_self
  rw [List.flatMap_cons,List.length_append,List.length_cons,Nat.mul_add]
  omega
theorem st_small {s:Sv} (h0:chkZ s.cf=0) (h:Okay s):(stB s).length≤2147483647:=by
 obtain⟨r,_,_⟩:=chk_ok h0
 have wf:=wf_load h.load
 have hl:=wf.len
 rw [List.length_map]at hl
 have hm:=h.many
 have h1:(s.la.flatMap acB).length≤72*s.la.length:=flat_le fun a ha=>by
  rw [ac_len]
  obtain⟨i,hi⟩:=List.mem_iff_getElem?.1 ha
  have hp:(s.la.map plainAc)[i]?=some (plainAc a):=by rw [List.getElem?_map,hi];rfl
  by_cases h0':0<i
  ·have:=name_len (a:=a.nm) (wf.row i _ hp h0').1
   omega
  ·obtain rfl:i=0:=by omega
   rw [wf.root]at hp
   have e1:a.nm=rootName:=(congrArg Ac.nm (Option.some.inj hp)).symm
   rw [e1]
   decide
 have h2:(s.js.flatMap jbB).length≤2112*s.js.length:=flat_le fun j hj=>by
  rw [jb_len]
  obtain⟨i,hi⟩:=List.mem_iff_getElem?.1 hj
  have hb:=jobs_iff.1 h.jobs i (List.getElem?_eq_some_iff.1 hi).1 j hi
  unfold jobB headB at hb
  simp only [Bool.and_eq_true,decide_eq_true_eq]at hb
  obtain⟨⟨⟨c1,c2,c3,c4,c5,c6⟩,c7,c8,_,_⟩,ht⟩:=hb
  have r1:=r.n1
  have hs:j.set.length≤256:=by
   unfold timesB at ht
   split at ht
   ·simp only [Bool.and_eq_true,decide_eq_true_eq]at ht
    omega
   ·split at ht
    ·simp only [Bool.and_eq_true,decide_eq_true_eq]at ht
     omega
    ·split at ht
     ·cases ht
     ·rename_i h3
      have hs:setB s.cf.nodes j=true:=by
       cases e:setB s.cf.nodes j with
       | true=>rfl
       | false=>exact absurd (.inl e) h3
      unfold setB at hs
      simp only [Bool.and_eq_true,decide_eq_true_eq]at hs
      omega
  omega
 rw [st_parts]
 omega
end Go.Proofs.YtceoibfliggalaaGreatDoor
