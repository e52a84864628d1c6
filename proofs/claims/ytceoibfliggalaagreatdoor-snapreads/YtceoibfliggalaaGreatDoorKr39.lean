/-
  TEXTS: AdH, SnQ.
-/
import Derived.Test.YtceoibfliggalaaGreatDoorKr38
import Derived.Test.YtceoibfliggalaaGreatDoorKr37
import Derived.Recover
import Derived.Test.YtceoibfliggalaaGreatDoorKr18
namespace Go.Proofs.YtceoibfliggalaaGreatDoor
open Go.RowKit Wd Tr Cg Lg
theorem six_slots (p v:Value): #[p]++((Array.replicate 6 undef).setIfInBounds 1 v).setIfInBounds 0 v= #[p,v,v,undef,undef,undef,undef]:=rfl
set_option maxRecDepth 20000 in
theorem catch_panicking (p:Addr) (x E:Int) (w:World) (hc:w.cell? p=some (.int .i64 x)) (hz:w.frozen? p=false):
  CallsD Tryz.prog 46 #[.pointer (some p)] (.panicking (thrown E)) w fun e u' w'=>
   e=.returned (.tuple #[])∧u'=.panicking [{v:=.iface 36 (.int .i64 E),recovered:=true}]∧w'=w.setCell p (.int .i64 E):=by
 unfold thrown
 refine callsD_of_wpS Tryz.func46 rfl fun c₀ cs hu=>?_
 apply wpS_seq
 apply wpS_region
 simp [wpOpsS,go_sem,recoverD,hu,Tryz.ntmps46,Exit.thenS]
 rw [six_slots]
 refine wpS_of_wp ?_
 have hta:∀(v:Value) (w:World),(Instr.typeAssert (.iface 36 v) 20 36 false).run Tryz.prog w=.ok v w:=fun _ _=>by kernel_rfl
 go_wp2
 simp [bodyPostS,results,Tryz.results46]
theorem catch_idle (p:Addr) (w:World):
  CallsD Tryz.prog 46 #[.pointer (some p)] .returning w fun e u' w'=>e=.returned (.tuple #[])∧u'=.returning∧w'=w:=by
 refine callsD_of_wpS Tryz.func46 rfl fun c₀ cs hu=>?_
 apply wpS_seq
 apply wpS_region
 simp [wpOpsS,go_sem,recoverD,hu,Tryz.ntmps46,Exit.thenS]
 rw [six_slots]
 refine wpS_of_wp ?_
 go_wp2
 cases c₀
 simp_all [bodyPostS,results,Tryz.results46]
set_option maxHeartbeats 4000000 in
set_option maxRecDepth 20000 in
theorem check_any:AChk:=by
 intro w c now ao la ca jo ps cj hd hin hwt
 have HCF:Hid (∀x,Calls Tryz.prog 47 #[.agg (stL c now ao la.length ca jo ps.length cj hd)] x fun e w'=>e=asksE (chkZ c==0) 170∧Below x.heap.size x w'):=fun x=>needConfig_any c now ao la.length ca jo ps.length cj hd
 have HCK:Hid (∀x,Calls Tryz.prog 48 #[.agg (stL c now ao la.length ca jo ps.length cj hd)] x fun e w'=>e=asksE (fromB 0 1099511627776 now) 171∧Below x.heap.size x w'):=fun x=>needClock_any c now ao la.length ca jo ps.length cj hd
 have HTR:Hid (∀x,Below w.heap.size w x→Calls Tryz.prog 49 #[.agg (stL c now ao la.length ca jo ps.length cj hd)] x fun e w'=>e=asksE (loadE la==0) 172∧Below x.heap.size x w'):=fun x hx=>needTree_any c now jo ps.length cj hd (hin.acs.below hx) hin.nm hin.l48 hin.cap
 have hl47:ps.length≤140737488355328:=by have:=hin.l80;omega
 have hsl:∀p∈ps,p.v.set.length≤140737488355328:=fun p hp=>by have:=hin.sl p hp;omega
 have HJB:Hid (∀x,Below w.heap.size w x→chkZ c=0→0≤now→now≤1099511627776→Calls Tryz.prog 50 #[.agg (stL c now ao la.length ca jo ps.length cj hd)] x fun e w'=>e=asksE (decide (ps.length≤4096)&&jobsB c now la.length (ps.map Pj.v) ps.length) 174∧Below x.heap.size x w'):=fun x hx h1 h2 h3=>needJobs_any c h1 now h2 h3 ao la.length ca (by have:=hin.l48;omega) cj hd (hin.jobs.below hx) hl47 hsl
 have HQU:Hid (∀x,Below w.heap.size w x→Calls Tryz.prog 51 #[.agg (stL c now ao la.length ca jo ps.length cj hd)] x fun e w'=>e=asksE (decide ((pendN (ps.map Pj.v):Int)≤c.queue)) 175∧Below x.heap.size x w'):=fun x hx=>needQueue_any c now ao la.length ca cj hd (hin.jobs.below hx) hl47
 have HND:Hid (∀x,Below w.heap.size w x→chkZ c=0→ps.length≤4096→jobsB c now la.length (ps.map Pj.v) ps.length=true→Calls Tryz.prog 52 #[.agg (stL c now ao la.length ca jo ps.length cj hd)] x fun e w'=>e=asksE (apartB (ps.map Pj.v) (ps.map Pj.v).length) 176∧Below x.heap.size x w'):=fun x hx h1 h2 h3=>by
  obtain⟨r,_,_⟩:=chk_ok h1
  obtain⟨n,hn⟩:∃n:Nat,c.nodes=(n:Int):=⟨c.nodes.toNat,by have:=r.n0;omega⟩
  obtain⟨j1,j2⟩:=jok_of (c:=c) (now:=now) (N:=la.length) (js:=ps.map Pj.v) (by rw [List.length_map];exact h3)
  exact needNodes_any c now ao la.length ca cj hd n hn (by have:=r.n0;omega) (by have:=r.n1;omega) (hin.jobs.below hx) h2 hsl j1 j2
 have HUS:Hid (∀x,Below w.heap.size w x→chkZ c=0→ps.length≤4096→jobsB c now la.length (ps.map Pj.v) ps.length=true→Calls Tryz.prog 53 #[.agg (stL c now ao la.length ca jo ps.length cj hd)] x fun e w'=>e=asksE (usagesB now (ps.map Pj.v) la la.length) 173∧Below x.heap.size x w'):=fun x hx h1 h2 h3=>by
  obtain⟨r,_,_⟩:=chk_ok h1
  refine needUsage_any c now ca cj hd (hin.acs.below hx) hin.us hin.l48 (hin.jobs.below hx) hl47 (fun n=>?_)
  have hb:=raw_box r (js:=ps.map Pj.v) (by rw [List.length_map];exact h3) n
  rw [List.length_map]at hb
  have:(ps.length:Int)*268435456≤1099511627776:=by omega
  omega
 have HHO:Hid (∀x,Below w.heap.size w x→Calls Tryz.prog 54 #[.agg (stL c now ao la.length ca jo ps.length cj hd)] x fun e w'=>e=asksE (holdB ⟨c,now,la,ps.map Pj.v,hd⟩) 177∧Below x.heap.size x w'):=fun x hx=>needHolder_any c now ao la la.length ca cj hd (hin.jobs.below hx) hl47
 obtain⟨AV,hAV⟩:∃AV,auditV (chkZ c) ⟨c,now,la,ps.map Pj.v,hd⟩=AV:=⟨_,rfl⟩
 have HAV:Hid (auditV (chkZ c) ⟨c,now,la,ps.map Pj.v,hd⟩=AV):=hAV
 rw [hAV]
 have HVL:Hid ((ps.map Pj.v).length=ps.length):=by show (ps.map Pj.v).length=ps.length;simp
 obtain⟨vs,hvs⟩:∃vs,ps.map Pj.v=vs:=⟨_,rfl⟩
 rw [hvs]at HJB HQU HND HUS HHO HAV HVL
 clear hAV hvs hin hwt hsl hl47
 unfold stL at *
 obtain⟨L,hL⟩:∃L,la.length=L:=⟨_,rfl⟩
 obtain⟨N,hN⟩:∃N,ps.length=N:=⟨_,rfl⟩
 have HLL:Hid (la.length=L):=hL
 rw [hL]at HCF HCK HTR HJB HQU HND HUS HHO ⊢
 rw [hN]at HCF HCK HTR HJB HQU HND HUS HHO HVL ⊢
 clear hL hN
 have hmf:∀(fn:Fn) (first cap:Array Value) (w:World),(Instr.makeFunc fn first cap).run Tryz.prog w=.ok (.func fn first cap) w:=fun _ _ _ _=>rfl
 obtain⟨V,hV⟩:∃V,(w.alloc (.cells #[.int .i64 c.nodes,.int .i64 c.queue,.int .i64 c.limit,.int .i64 c.age,.int .i64 c.fair,.int .i64 c.size,.int .i64 c.period,.int .i64 c.half,.int .i64 now,.slice ao L ca,.slice jo N cj,.int .i64 hd] 27)).alloc (.cells #[.int .i64 0] 36)=V:=⟨_,rfl⟩
 have HBV:Hid (Below w.heap.size w V):=by show Below w.heap.size w V;rw [← hV];exact((Below.refl _ w).alloc (Nat.le_refl _) _).alloc (by simp) _
 have k0:V.cell? ⟨w.heap.size,0,none⟩=some (.int .i64 c.nodes):=by rw [← hV];simp
 have k1:V.cell? ⟨w.heap.size,1,none⟩=some (.int .i64 c.queue):=by rw [← hV];simp
 have k2:V.cell? ⟨w.heap.size,2,none⟩=some (.int .i64 c.limit):=by rw [← hV];simp
 have k3:V.cell? ⟨w.heap.size,3,none⟩=some (.int .i64 c.age):=by rw [← hV];simp
 have k4:V.cell? ⟨w.heap.size,4,none⟩=some (.int .i64 c.fair):=by rw [← hV];simp
 have k5:V.cell? ⟨w.heap.size,5,none⟩=some (.int .i64 c.size):=by rw [← hV];simp
 have k6:V.cell? ⟨w.heap.size,6,none⟩=some (.int .i64 c.period):=by rw [← hV];simp
 have k7:V.cell? ⟨w.heap.size,7,none⟩=some (.int .i64 c.half):=by rw [← hV];simp
 have k8:V.cell? ⟨w.heap.size,8,none⟩=some (.int .i64 now):=by rw [← hV];simp
 have k9:V.cell? ⟨w.heap.size,9,none⟩=some (.slice ao L ca):=by rw [← hV];simp
 have k10:V.cell? ⟨w.heap.size,10,none⟩=some (.slice jo N cj):=by rw [← hV];simp
 have k11:V.cell? ⟨w.heap.size,11,none⟩=some (.int .i64 hd):=by rw [← hV];simp
 have r0:V.cell? ⟨w.heap.size+1,0,none⟩=some (.int .i64 0):=by rw [← hV];simp
 have z0:V.frozen? ⟨w.heap.size+1,0,none⟩=false:=by rw [← hV];simp
 have HRC:Hid (∀x,Below V.heap.size V x→x.cell? ⟨w.heap.size+1,0,none⟩=some (.int .i64 0)∧x.frozen? ⟨w.heap.size+1,0,none⟩=false):=by
  intro x hx
  have h1:w.heap.size+1<V.heap.size:=World.block_lt_of_cell? V ⟨w.heap.size+1,0,none⟩ r0
  exact⟨cellB hx r0,by have e:=hx.block (w.heap.size+1) h1;unfold World.frozen? at z0 ⊢;rw [e];exact z0⟩
 have HEN:Hid (∀x E,Below V.heap.size V x→Below w.heap.size w (x.setCell ⟨w.heap.size+1,0,none⟩ (.int .i64 E))):=fun x E hx=>Below.setCell (HBV.out.trans (hx.mono HBV.out.size)) (by simp) _
 go_enter_defers Tryz.func27,Tryz.ntmps27
 go_upto_region 2 with fail
 try rw [hV]
 clear hV hmf
 have HX0:Hid (Below V.heap.size V V):=Below.refl _ _
 have HXV:Hid (Below V.heap.size V V):=HX0.out
 have cc:=HCF.out V
 cases t:(chkZ c==0)with
 | false=>
  rw [t,asksE_no]at cc
  go_wp2_with (go_at_call 47;refine cc.mono ?_;rintro e Y1 ⟨rfl,hb1⟩)
  have HXY1:Hid (Below V.heap.size V Y1):=HXV.out.trans (hb1.mono HXV.out.size)
  clear hb1 cc
  have HAA:Hid (AV=170):=by show AV=_;rw [← HAV.out];exact aud_170 (by simpa using t)
  obtain⟨q1,q2⟩:=HRC.out Y1 HXY1.out
  show Leaves _ _ _ _ _ _ _
  refine leaves_cons (f:=46) (args:= #[.pointer (some ⟨w.heap.size+1,0,none⟩)]) (fun h=>by cases h) rfl ?_
  refine(catch_panicking ⟨w.heap.size+1,0,none⟩ 0 170 Y1 q1 q2).mono ?_
  rintro e u' w'' ⟨rfl,rfl,rfl⟩
  have q3:(Y1.setCell ⟨w.heap.size+1,0,none⟩ (.int .i64 170)).cell? ⟨w.heap.size+1,0,none⟩=some (.int .i64 170):=World.cell?_setCell_same _ _ _ q1
  simp [Leaves,settle,results,Tryz.results27,go_sem,q3]
  exact⟨HAA.out.symm,HEN.out _ _ HXY1.out⟩
 | true=>
 rw [t,asksE_yes]at cc
 go_upto_region 3 with(go_at_call 47;refine cc.mono ?_;rintro e Y1 ⟨rfl,hb1⟩)
 have HXY1:Hid (Below V.heap.size V Y1):=HXV.out.trans (hb1.mono HXV.out.size)
 replace k0:=cellB hb1 k0
 replace k1:=cellB hb1 k1
 replace k2:=cellB hb1 k2
 replace k3:=cellB hb1 k3
 replace k4:=cellB hb1 k4
 replace k5:=cellB hb1 k5
 replace k6:=cellB hb1 k6
 replace k7:=cellB hb1 k7
 replace k8:=cellB hb1 k8
 replace k9:=cellB hb1 k9
 replace k10:=cellB hb1 k10
 replace k11:=cellB hb1 k11
 clear hb1 cc
 have h170:chkZ c=0:=by simpa using t
 clear t
 have cc:=HCK.out Y1
 cases t:fromB 0 1099511627776 now with
 | false=>
  rw [t,asksE_no]at cc
  go_wp2_with (go_at_call 48;refine cc.mono ?_;rintro e Y2 ⟨rfl,hb1⟩)
  have HXY2:Hid (Below V.heap.size V Y2):=HXY1.out.trans (hb1.mono HXY1.out.size)
  clear hb1 cc
  have HAA:Hid (AV=171):=by show AV=_;rw [← HAV.out];rw [h170];exact aud_171 (by simp only [fromB,Bool.and_eq_false_iff,decide_eq_false_iff_not]at t;dsimp only;omega)
  obtain⟨q1,q2⟩:=HRC.out Y2 HXY2.out
  show Leaves _ _ _ _ _ _ _
  refine leaves_cons (f:=46) (args:= #[.pointer (some ⟨w.heap.size+1,0,none⟩)]) (fun h=>by cases h) rfl ?_
  refine(catch_panicking ⟨w.heap.size+1,0,none⟩ 0 171 Y2 q1 q2).mono ?_
  rintro e u' w'' ⟨rfl,rfl,rfl⟩
  have q3:(Y2.setCell ⟨w.heap.size+1,0,none⟩ (.int .i64 171)).cell? ⟨w.heap.size+1,0,none⟩=some (.int .i64 171):=World.cell?_setCell_same _ _ _ q1
  simp [Leaves,settle,results,Tryz.results27,go_sem,q3]
  exact⟨HAA.out.symm,HEN.out _ _ HXY2.out⟩
 | true=>
 rw [t,asksE_yes]at cc
 go_upto_region 4 with(go_at_call 48;refine cc.mono ?_;rintro e Y2 ⟨rfl,hb1⟩)
 have HXY2:Hid (Below V.heap.size V Y2):=HXY1.out.trans (hb1.mono HXY1.out.size)
 replace k0:=cellB hb1 k0
 replace k1:=cellB hb1 k1
 replace k2:=cellB hb1 k2
 replace k3:=cellB hb1 k3
 replace k4:=cellB hb1 k4
 replace k5:=cellB hb1 k5
 replace k6:=cellB hb1 k6
 replace k7:=cellB hb1 k7
 replace k8:=cellB hb1 k8
 replace k9:=cellB hb1 k9
 replace k10:=cellB hb1 k10
 replace k11:=cellB hb1 k11
 clear hb1 cc
 have h171:0≤now∧now≤1099511627776:=by simpa [fromB]using t
 clear t
 have cc:=HTR.out Y2 (HBV.out.trans (HXY2.out.mono HBV.out.size))
 cases t:(loadE la==0)with
 | false=>
  rw [t,asksE_no]at cc
  go_wp2_with (go_at_call 49;refine cc.mono ?_;rintro e Y3 ⟨rfl,hb1⟩)
  have HXY3:Hid (Below V.heap.size V Y3):=HXY2.out.trans (hb1.mono HXY2.out.size)
  clear hb1 cc
  have HAA:Hid (AV=172):=by show AV=_;rw [← HAV.out];rw [h170];exact aud_172 (by (try dsimp only);omega) (by simpa using t)
  obtain⟨q1,q2⟩:=HRC.out Y3 HXY3.out
  show Leaves _ _ _ _ _ _ _
  refine leaves_cons (f:=46) (args:= #[.pointer (some ⟨w.heap.size+1,0,none⟩)]) (fun h=>by cases h) rfl ?_
  refine(catch_panicking ⟨w.heap.size+1,0,none⟩ 0 172 Y3 q1 q2).mono ?_
  rintro e u' w'' ⟨rfl,rfl,rfl⟩
  have q3:(Y3.setCell ⟨w.heap.size+1,0,none⟩ (.int .i64 172)).cell? ⟨w.heap.size+1,0,none⟩=some (.int .i64 172):=World.cell?_setCell_same _ _ _ q1
  simp [Leaves,settle,results,Tryz.results27,go_sem,q3]
  exact⟨HAA.out.symm,HEN.out _ _ HXY3.out⟩
 | true=>
 rw [t,asksE_yes]at cc
 go_upto_region 5 with(go_at_call 49;refine cc.mono ?_;rintro e Y3 ⟨rfl,hb1⟩)
 have HXY3:Hid (Below V.heap.size V Y3):=HXY2.out.trans (hb1.mono HXY2.out.size)
 replace k0:=cellB hb1 k0
 replace k1:=cellB hb1 k1
 replace k2:=cellB hb1 k2
 replace k3:=cellB hb1 k3
 replace k4:=cellB hb1 k4
 replace k5:=cellB hb1 k5
 replace k6:=cellB hb1 k6
 replace k7:=cellB hb1 k7
 replace k8:=cellB hb1 k8
 replace k9:=cellB hb1 k9
 replace k10:=cellB hb1 k10
 replace k11:=cellB hb1 k11
 clear hb1 cc
 have h172:loadE la=0:=by simpa using t
 clear t
 have cc:=HJB.out Y3 (HBV.out.trans (HXY3.out.mono HBV.out.size)) h170 h171.1 h171.2
 cases t:(decide (N≤4096)&&jobsB c now L vs N)with
 | false=>
  rw [t,asksE_no]at cc
  go_wp2_with (go_at_call 50;refine cc.mono ?_;rintro e Y4 ⟨rfl,hb1⟩)
  have HXY4:Hid (Below V.heap.size V Y4):=HXY3.out.trans (hb1.mono HXY3.out.size)
  clear hb1 cc
  have HAA:Hid (AV=174):=by show AV=_;rw [← HAV.out];rw [h170];exact aud_174 (by (try dsimp only);omega) h172 (by (try dsimp only);rw [HVL.out,HLL.out];simp only [Bool.and_eq_false_iff,decide_eq_false_iff_not]at t;rcases t with t | t;exact .inl (by omega);exact .inr t)
  obtain⟨q1,q2⟩:=HRC.out Y4 HXY4.out
  show Leaves _ _ _ _ _ _ _
  refine leaves_cons (f:=46) (args:= #[.pointer (some ⟨w.heap.size+1,0,none⟩)]) (fun h=>by cases h) rfl ?_
  refine(catch_panicking ⟨w.heap.size+1,0,none⟩ 0 174 Y4 q1 q2).mono ?_
  rintro e u' w'' ⟨rfl,rfl,rfl⟩
  have q3:(Y4.setCell ⟨w.heap.size+1,0,none⟩ (.int .i64 174)).cell? ⟨w.heap.size+1,0,none⟩=some (.int .i64 174):=World.cell?_setCell_same _ _ _ q1
  simp [Leaves,settle,results,Tryz.results27,go_sem,q3]
  exact⟨HAA.out.symm,HEN.out _ _ HXY4.out⟩
 | true=>
 rw [t,asksE_yes]at cc
 go_upto_region 6 with(go_at_call 50;refine cc.mono ?_;rintro e Y4 ⟨rfl,hb1⟩)
 have HXY4:Hid (Below V.heap.size V Y4):=HXY3.out.trans (hb1.mono HXY3.out.size)
 replace k0:=cellB hb1 k0
 replace k1:=cellB hb1 k1
 replace k2:=cellB hb1 k2
 replace k3:=cellB hb1 k3
 replace k4:=cellB hb1 k4
 replace k5:=cellB hb1 k5
 replace k6:=cellB hb1 k6
 replace k7:=cellB hb1 k7
 replace k8:=cellB hb1 k8
 replace k9:=cellB hb1 k9
 replace k10:=cellB hb1 k10
 replace k11:=cellB hb1 k11
 clear hb1 cc
 have h174:N≤4096∧jobsB c now L vs N=true:=by simpa using t
 have HTL:Hid (auditV 0 ⟨c,now,la,vs,hd⟩=tailV ⟨c,now,la,vs,hd⟩):=by
  show auditV 0 ⟨c,now,la,vs,hd⟩=_
  unfold auditV
  rw [if_neg (by simp),if_neg (by (try dsimp only);omega),if_neg (by simpa using h172),if_neg (by (try dsimp only);rw [HVL.out,HLL.out,h174.2];simp;omega)]
 clear t
 have cc:=HQU.out Y4 (HBV.out.trans (HXY4.out.mono HBV.out.size))
 cases t:decide ((pendN vs:Int)≤c.queue)with
 | false=>
  rw [t,asksE_no]at cc
  go_wp2_with (go_at_call 51;refine cc.mono ?_;rintro e Y5 ⟨rfl,hb1⟩)
  have HXY5:Hid (Below V.heap.size V Y5):=HXY4.out.trans (hb1.mono HXY4.out.size)
  clear hb1 cc
  have HAA:Hid (AV=175):=by show AV=_;rw [← HAV.out];rw [h170,HTL.out];exact tail_175 (by (try dsimp only);have:=of_decide_eq_false t;omega)
  obtain⟨q1,q2⟩:=HRC.out Y5 HXY5.out
  show Leaves _ _ _ _ _ _ _
  refine leaves_cons (f:=46) (args:= #[.pointer (some ⟨w.heap.size+1,0,none⟩)]) (fun h=>by cases h) rfl ?_
  refine(catch_panicking ⟨w.heap.size+1,0,none⟩ 0 175 Y5 q1 q2).mono ?_
  rintro e u' w'' ⟨rfl,rfl,rfl⟩
  have q3:(Y5.setCell ⟨w.heap.size+1,0,none⟩ (.int .i64 175)).cell? ⟨w.heap.size+1,0,none⟩=some (.int .i64 175):=World.cell?_setCell_same _ _ _ q1
  simp [Leaves,settle,results,Tryz.results27,go_sem,q3]
  exact⟨HAA.out.symm,HEN.out _ _ HXY5.out⟩
 | true=>
 rw [t,asksE_yes]at cc
 go_upto_region 7 with(go_at_call 51;refine cc.mono ?_;rintro e Y5 ⟨rfl,hb1⟩)
 have HXY5:Hid (Below V.heap.size V Y5):=HXY4.out.trans (hb1.mono HXY4.out.size)
 replace k0:=cellB hb1 k0
 replace k1:=cellB hb1 k1
 replace k2:=cellB hb1 k2
 replace k3:=cellB hb1 k3
 replace k4:=cellB hb1 k4
 replace k5:=cellB hb1 k5
 replace k6:=cellB hb1 k6
 replace k7:=cellB hb1 k7
 replace k8:=cellB hb1 k8
 replace k9:=cellB hb1 k9
 replace k10:=cellB hb1 k10
 replace k11:=cellB hb1 k11
 clear hb1 cc
 have h175:Hid ((pendN vs:Int)≤c.queue):=(of_decide_eq_true t:(pendN vs:Int)≤c.queue)
 clear t
 have cc:=HND.out Y5 (HBV.out.trans (HXY5.out.mono HBV.out.size)) h170 h174.1 h174.2
 cases t:apartB vs vs.length with
 | false=>
  rw [t,asksE_no]at cc
  go_wp2_with (go_at_call 52;refine cc.mono ?_;rintro e Y6 ⟨rfl,hb1⟩)
  have HXY6:Hid (Below V.heap.size V Y6):=HXY5.out.trans (hb1.mono HXY5.out.size)
  clear hb1 cc
  have HAA:Hid (AV=176):=by show AV=_;rw [← HAV.out];rw [h170,HTL.out];exact tail_176 (s:=⟨c,now,la,vs,hd⟩) (by (try dsimp only);have:=h175.out;omega) t
  obtain⟨q1,q2⟩:=HRC.out Y6 HXY6.out
  show Leaves _ _ _ _ _ _ _
  refine leaves_cons (f:=46) (args:= #[.pointer (some ⟨w.heap.size+1,0,none⟩)]) (fun h=>by cases h) rfl ?_
  refine(catch_panicking ⟨w.heap.size+1,0,none⟩ 0 176 Y6 q1 q2).mono ?_
  rintro e u' w'' ⟨rfl,rfl,rfl⟩
  have q3:(Y6.setCell ⟨w.heap.size+1,0,none⟩ (.int .i64 176)).cell? ⟨w.heap.size+1,0,none⟩=some (.int .i64 176):=World.cell?_setCell_same _ _ _ q1
  simp [Leaves,settle,results,Tryz.results27,go_sem,q3]
  exact⟨HAA.out.symm,HEN.out _ _ HXY6.out⟩
 | true=>
 rw [t,asksE_yes]at cc
 go_upto_region 8 with(go_at_call 52;refine cc.mono ?_;rintro e Y6 ⟨rfl,hb1⟩)
 have HXY6:Hid (Below V.heap.size V Y6):=HXY5.out.trans (hb1.mono HXY5.out.size)
 replace k0:=cellB hb1 k0
 replace k1:=cellB hb1 k1
 replace k2:=cellB hb1 k2
 replace k3:=cellB hb1 k3
 replace k4:=cellB hb1 k4
 replace k5:=cellB hb1 k5
 replace k6:=cellB hb1 k6
 replace k7:=cellB hb1 k7
 replace k8:=cellB hb1 k8
 replace k9:=cellB hb1 k9
 replace k10:=cellB hb1 k10
 replace k11:=cellB hb1 k11
 clear hb1 cc
 have h176:Hid (apartB vs vs.length=true):=t
 clear t
 have cc:=HUS.out Y6 (HBV.out.trans (HXY6.out.mono HBV.out.size)) h170 h174.1 h174.2
 cases t:usagesB now vs la L with
 | false=>
  rw [t,asksE_no]at cc
  go_wp2_with (go_at_call 53;refine cc.mono ?_;rintro e Y7 ⟨rfl,hb1⟩)
  have HXY7:Hid (Below V.heap.size V Y7):=HXY6.out.trans (hb1.mono HXY6.out.size)
  clear hb1 cc
  have HAA:Hid (AV=173):=by show AV=_;rw [← HAV.out];rw [h170,HTL.out];exact tail_173 (s:=⟨c,now,la,vs,hd⟩) (by (try dsimp only);have:=h175.out;omega) h176.out (by (try dsimp only);rw [HLL.out];exact t)
  obtain⟨q1,q2⟩:=HRC.out Y7 HXY7.out
  show Leaves _ _ _ _ _ _ _
  refine leaves_cons (f:=46) (args:= #[.pointer (some ⟨w.heap.size+1,0,none⟩)]) (fun h=>by cases h) rfl ?_
  refine(catch_panicking ⟨w.heap.size+1,0,none⟩ 0 173 Y7 q1 q2).mono ?_
  rintro e u' w'' ⟨rfl,rfl,rfl⟩
  have q3:(Y7.setCell ⟨w.heap.size+1,0,none⟩ (.int .i64 173)).cell? ⟨w.heap.size+1,0,none⟩=some (.int .i64 173):=World.cell?_setCell_same _ _ _ q1
  simp [Leaves,settle,results,Tryz.results27,go_sem,q3]
  exact⟨HAA.out.symm,HEN.out _ _ HXY7.out⟩
 | true=>
 rw [t,asksE_yes]at cc
 go_upto_region 9 with(go_at_call 53;refine cc.mono ?_;rintro e Y7 ⟨rfl,hb1⟩)
 have HXY7:Hid (Below V.heap.size V Y7):=HXY6.out.trans (hb1.mono HXY6.out.size)
 replace k0:=cellB hb1 k0
 replace k1:=cellB hb1 k1
 replace k2:=cellB hb1 k2
 replace k3:=cellB hb1 k3
 replace k4:=cellB hb1 k4
 replace k5:=cellB hb1 k5
 replace k6:=cellB hb1 k6
 replace k7:=cellB hb1 k7
 replace k8:=cellB hb1 k8
 replace k9:=cellB hb1 k9
 replace k10:=cellB hb1 k10
 replace k11:=cellB hb1 k11
 clear hb1 cc
 have h173:Hid (usagesB now vs la L=true):=t
 clear t
 have cc:=HHO.out Y7 (HBV.out.trans (HXY7.out.mono HBV.out.size))
 cases t:holdB ⟨c,now,la,vs,hd⟩with
 | false=>
  rw [t,asksE_no]at cc
  go_wp2_with (go_at_call 54;refine cc.mono ?_;rintro e Y8 ⟨rfl,hb1⟩)
  have HXY8:Hid (Below V.heap.size V Y8):=HXY7.out.trans (hb1.mono HXY7.out.size)
  clear hb1 cc
  have HAA:Hid (AV=177):=by show AV=_;rw [← HAV.out];rw [h170,HTL.out,tail_hold (s:=⟨c,now,la,vs,hd⟩) (by (try dsimp only);have:=h175.out;omega) h176.out (by (try dsimp only);rw [HLL.out];exact h173.out),if_pos t]
  obtain⟨q1,q2⟩:=HRC.out Y8 HXY8.out
  show Leaves _ _ _ _ _ _ _
  refine leaves_cons (f:=46) (args:= #[.pointer (some ⟨w.heap.size+1,0,none⟩)]) (fun h=>by cases h) rfl ?_
  refine(catch_panicking ⟨w.heap.size+1,0,none⟩ 0 177 Y8 q1 q2).mono ?_
  rintro e u' w'' ⟨rfl,rfl,rfl⟩
  have q3:(Y8.setCell ⟨w.heap.size+1,0,none⟩ (.int .i64 177)).cell? ⟨w.heap.size+1,0,none⟩=some (.int .i64 177):=World.cell?_setCell_same _ _ _ q1
  simp [Leaves,settle,results,Tryz.results27,go_sem,q3]
  exact⟨HAA.out.symm,HEN.out _ _ HXY8.out⟩
 | true=>
 rw [t,asksE_yes]at cc
 go_upto_region 10 with(go_at_call 54;refine cc.mono ?_;rintro e Y8 ⟨rfl,hb1⟩)
 have HXY8:Hid (Below V.heap.size V Y8):=HXY7.out.trans (hb1.mono HXY7.out.size)
 replace k0:=cellB hb1 k0
 replace k1:=cellB hb1 k1
 replace k2:=cellB hb1 k2
 replace k3:=cellB hb1 k3
 replace k4:=cellB hb1 k4
 replace k5:=cellB hb1 k5
 replace k6:=cellB hb1 k6
 replace k7:=cellB hb1 k7
 replace k8:=cellB hb1 k8
 replace k9:=cellB hb1 k9
 replace k10:=cellB hb1 k10
 replace k11:=cellB hb1 k11
 clear hb1 cc
 have HAA:Hid (AV=0):=by show AV=_;rw [← HAV.out,h170,HTL.out,tail_hold (s:=⟨c,now,la,vs,hd⟩) (by (try dsimp only);have:=h175.out;omega) h176.out (by (try dsimp only);rw [HLL.out];exact h173.out),if_neg (by rw [t];simp)]
 obtain⟨q1,q2⟩:=HRC.out Y8 HXY8.out
 go_wp2
 show Leaves _ _ _ _ _ _ _
 refine leaves_cons (f:=46) (args:= #[.pointer (some ⟨w.heap.size+1,0,none⟩)]) (fun h=>by cases h) rfl ?_
 refine(catch_idle ⟨w.heap.size+1,0,none⟩ _).mono ?_
 rintro e u' w'' ⟨rfl,rfl,rfl⟩
 have q3:(Y8.setCell ⟨w.heap.size+1,0,none⟩ (.int .i64 0)).cell? ⟨w.heap.size+1,0,none⟩=some (.int .i64 0):=World.cell?_setCell_same _ _ _ q1
 simp [Leaves,settle,results,Tryz.results27,go_sem,q3]
 exact⟨HAA.out.symm,HEN.out _ _ HXY8.out⟩
end Go.Proofs.YtceoibfliggalaaGreatDoor
namespace Go.Proofs.YtceoibfliggalaaGreatDoor
open Go.RowKit Wd Tr Cg Ld Lg
def PutP (w:World) (s:Sv) (e:Ending) (w':World):Prop:=(if auditV (chkZ s.cf) s=0 then ∃B,e=.returned (.tuple #[.slice (some ⟨B,0,none⟩) (stB s).length (stB s).length,.int .i64 0])∧w.heap.size≤B∧w'.heap[B]?=some (.cells (Lib.byteCells (stB s)).toArray 5 (0,0))else e=.returned (.tuple #[.slice none 0 0,.int .i64 191]))∧Below w.heap.size w w'
set_option maxRecDepth 20000 in
set_option maxHeartbeats 2000000 in
theorem put_any {w:World} (c:Cf) (now:Int) {ao:Option Addr} {la:List Ac} {ca:Nat} {jo:Option Addr} {ps:List Pj} {cj:Nat} (hd:Int) (h:StIn w ao la ca jo ps cj) (hwt:wtN la ps≤281474976710656) (hz:(stB ⟨c,now,la,ps.map Pj.v,hd⟩).length≤2200000000):
  Calls Tryz.prog 11 #[.agg (stL c now ao la.length ca jo ps.length cj hd)] w (PutP w ⟨c,now,la,ps.map Pj.v,hd⟩):=by
 obtain⟨W,hW⟩:∃W,w.alloc (.cells (stL c now ao la.length ca jo ps.length cj hd) 27)=W:=⟨_,rfl⟩
 have bW:Below w.heap.size w W:=by rw [← hW];exact(Below.refl _ _).alloc (Nat.le_refl _) _
 have zW:W.heap.size=w.heap.size+1:=by rw [← hW];simp
 have hg:W.heap[w.heap.size]?=some (.cells (stL c now ao la.length ca jo ps.length cj hd) 27 (0,0)):=by rw [← hW];exact heap_alloc_new w _
 have hck:=check_any W c now ao la ca jo ps cj hd (h.below bW) hwt
 have HWR:Hid (∀x,Below W.heap.size W x→Calls Tryz.prog 28 #[.agg (stL c now ao la.length ca jo ps.length cj hd)] x fun e w'=>∃B,e=.returned (.slice (some ⟨B,0,none⟩) (stB ⟨c,now,la,ps.map Pj.v,hd⟩).length (stB ⟨c,now,la,ps.map Pj.v,hd⟩).length)∧x.heap.size≤B∧w'.heap[B]?=some (.cells (Lib.byteCells (stB ⟨c,now,la,ps.map Pj.v,hd⟩)).toArray 5 (0,0))∧Below x.heap.size x w'):=fun x hx=>written_any c now hd ((h.below bW).below hx) hz
 unfold PutP
 simp only
 generalize auditV (chkZ c) ⟨c,now,la,ps.map Pj.v,hd⟩=v at *
 generalize stB ⟨c,now,la,ps.map Pj.v,hd⟩=bs at *
 have HBW:Hid _:=bW
 have HG:Hid _:=hg
 have p0:W.cell? ⟨w.heap.size,0,none⟩=some (.int .i64 c.nodes):=cells_at hg rfl
 have p1:W.cell? ⟨w.heap.size,1,none⟩=some (.int .i64 c.queue):=cells_at hg rfl
 have p2:W.cell? ⟨w.heap.size,2,none⟩=some (.int .i64 c.limit):=cells_at hg rfl
 have p3:W.cell? ⟨w.heap.size,3,none⟩=some (.int .i64 c.age):=cells_at hg rfl
 have p4:W.cell? ⟨w.heap.size,4,none⟩=some (.int .i64 c.fair):=cells_at hg rfl
 have p5:W.cell? ⟨w.heap.size,5,none⟩=some (.int .i64 c.size):=cells_at hg rfl
 have p6:W.cell? ⟨w.heap.size,6,none⟩=some (.int .i64 c.period):=cells_at hg rfl
 have p7:W.cell? ⟨w.heap.size,7,none⟩=some (.int .i64 c.half):=cells_at hg rfl
 have p8:W.cell? ⟨w.heap.size,8,none⟩=some (.int .i64 now):=cells_at hg rfl
 have p9:W.cell? ⟨w.heap.size,9,none⟩=some (.slice ao la.length ca):=cells_at hg rfl
 have p10:W.cell? ⟨w.heap.size,10,none⟩=some (.slice jo ps.length cj):=cells_at hg rfl
 have p11:W.cell? ⟨w.heap.size,11,none⟩=some (.int .i64 hd):=cells_at hg rfl
 clear h hwt hz bW hg
 unfold stL at hW hck
 have HWR2:=HWR.out
 unfold stL at HWR2
 have HWR3:Hid _:=HWR2
 clear HWR HWR2
 have HCK:Hid _:=hck
 unfold stL
 by_cases hv:v=0
 ·subst hv
  simp only [↓reduceIte]
  clear hck
  go_enter Tryz.func11,Tryz.ntmps11
  go_wp2_with (first
   | (go_at_call 27;refine(show Calls _ _ _ _ _ from HCK.out).mono ?_;rintro e w1 ⟨rfl,hb1⟩;have HB1:Hid _:=hb1;have q0:w1.cell? ⟨w.heap.size,0,none⟩=some (.int .i64 c.nodes):=cells_at ((hb1.block _ (by omega)).trans HG.out) rfl;have q1:w1.cell? ⟨w.heap.size,1,none⟩=some (.int .i64 c.queue):=cells_at ((hb1.block _ (by omega)).trans HG.out) rfl;have q2:w1.cell? ⟨w.heap.size,2,none⟩=some (.int .i64 c.limit):=cells_at ((hb1.block _ (by omega)).trans HG.out) rfl;have q3:w1.cell? ⟨w.heap.size,3,none⟩=some (.int .i64 c.age):=cells_at ((hb1.block _ (by omega)).trans HG.out) rfl;have q4:w1.cell? ⟨w.heap.size,4,none⟩=some (.int .i64 c.fair):=cells_at ((hb1.block _ (by omega)).trans HG.out) rfl;have q5:w1.cell? ⟨w.heap.size,5,none⟩=some (.int .i64 c.size):=cells_at ((hb1.block _ (by omega)).trans HG.out) rfl;have q6:w1.cell? ⟨w.heap.size,6,none⟩=some (.int .i64 c.period):=cells_at ((hb1.block _ (by omega)).trans HG.out) rfl;have q7:w1.cell? ⟨w.heap.size,7,none⟩=some (.int .i64 c.half):=cells_at ((hb1.block _ (by omega)).trans HG.out) rfl;have q8:w1.cell? ⟨w.heap.size,8,none⟩=some (.int .i64 now):=cells_at ((hb1.block _ (by omega)).trans HG.out) rfl;have q9:w1.cell? ⟨w.heap.size,9,none⟩=some (.slice ao la.length ca):=cells_at ((hb1.block _ (by omega)).trans HG.out) rfl;have q10:w1.cell? ⟨w.heap.size,10,none⟩=some (.slice jo ps.length cj):=cells_at ((hb1.block _ (by omega)).trans HG.out) rfl;have q11:w1.cell? ⟨w.heap.size,11,none⟩=some (.int .i64 hd):=cells_at ((hb1.block _ (by omega)).trans HG.out) rfl;clear hb1)
   | (go_at_call 28;refine(show Calls _ _ _ _ _ from HWR3.out _ HB1.out).mono ?_;rintro e w2 ⟨B,rfl,hB,hG2,hb2⟩))
  go_ret2
  have:=HB1.out.size
  exact⟨⟨B,rfl,by omega,hG2⟩,(HBW.out.trans (HB1.out.mono (by omega))).trans (hb2.mono (by omega))⟩
 ·simp only [if_neg hv]
  clear hck
  go_enter Tryz.func11,Tryz.ntmps11
  go_wp2_with (go_at_call 27;refine(show Calls _ _ _ _ _ from HCK.out).mono ?_;rintro e w1 ⟨rfl,hb1⟩)
  go_ret2
  exact⟨rfl,HBW.out.trans (hb1.mono (by omega))⟩
end Go.Proofs.YtceoibfliggalaaGreatDoor
