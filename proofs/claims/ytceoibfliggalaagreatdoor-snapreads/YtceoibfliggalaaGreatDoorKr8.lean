/-
  TEXTS: CfB, CfC, CfD, CfE.
-/
import Derived.Test.YtceoibfliggalaaGreatDoorKr3
import Derived.Deep.CutBlock
import Derived.Deep.DeepCutAuto
namespace Go.Proofs.YtceoibfliggalaaGreatDoor
open Go.RowKit Wd Cg
def St (w:World) (g:Nat) (c:Cf) (x:World):Prop:=x.cell? ⟨g,0,none⟩=some (.int .i64 c.nodes)∧x.cell? ⟨g,1,none⟩=some (.int .i64 c.queue)∧x.cell? ⟨g,2,none⟩=some (.int .i64 c.limit)∧x.cell? ⟨g,3,none⟩=some (.int .i64 c.age)∧x.cell? ⟨g,4,none⟩=some (.int .i64 c.fair)∧x.cell? ⟨g,5,none⟩=some (.int .i64 c.size)∧x.cell? ⟨g,6,none⟩=some (.int .i64 c.period)∧x.cell? ⟨g,7,none⟩=some (.int .i64 c.half)∧Below w.heap.size w x∧w.heap.size≤x.heap.size
theorem St.new (w:World) (c:Cf):St w w.heap.size c (w.alloc (.cells #[.int .i64 c.nodes,.int .i64 c.queue,.int .i64 c.limit,.int .i64 c.age,.int .i64 c.fair,.int .i64 c.size,.int .i64 c.period,.int .i64 c.half] 23)):=
 ⟨by simp,by simp,by simp,by simp,by simp,by simp,by simp,by simp,(Below.refl _ _).alloc (Nat.le_refl _) _,by simp⟩
theorem keepW {w x y:World} {g:Nat} {c:Cf} (h:St w g c x) (b:Below x.heap.size x y):St w g c y:=by
 obtain⟨h0,h1,h2,h3,h4,h5,h6,h7,h8,h9⟩:=h
 exact⟨keepC b h0,keepC b h1,keepC b h2,keepC b h3,keepC b h4,keepC b h5,keepC b h6,keepC b h7,h8.trans (b.mono h9),Nat.le_trans h9 b.size⟩
theorem St.bel {w x:World} {g:Nat} {c:Cf} (h:St w g c x):Below w.heap.size w x:=h.2.2.2.2.2.2.2.2.1
theorem rC_any {c:Cf} (r:Rng c) (w:World):Calls Tryz.prog 118 #[cfV c] w fun e w'=>e=.returned (.int .i64 (cZ c))∧Below w.heap.size w w':=by
 have hb:=c_box r
 have e1:wrap64 (c.nodes*c.period)=cZ c:=by
  have h:cZ c=c.nodes*c.period:=rfl
  rw [← h]
  unfold wrap64
  omega
 unfold cfV
 go_enter Tryz.func118,Tryz.ntmps118
 go_wp2
 go_ret
 exact⟨by simp [e1],(Below.refl _ _).alloc (Nat.le_refl _) _⟩
theorem rK_any {c:Cf} (r:Rng c) (w:World):Calls Tryz.prog 119 #[cfV c] w fun e w'=>e=.returned (.int .i64 (kZ c))∧Below w.heap.size w w':=by
 have he:=e_box r
 have hu:=up_box he.1
 have cE:=rexp_any r.p0 r.p1 r.h0 r.h1
 rw [show c.period*4294967296 / c.half=eZ c from rfl]at cE
 have cU:=rup_any (a:=8589934592) (b:=eZ c) (by omega) (by omega) (by omega)
 have hk:kZ c=if upZ 8589934592 (eZ c)<2 then 2 else upZ 8589934592 (eZ c):=rfl
 rw [hk]
 clear hk
 have ec:wrap64 (eZ c)=eZ c:=by unfold wrap64;omega
 generalize upZ 8589934592 (eZ c)=k at *
 generalize eZ c=ee at *
 unfold cfV
 by_cases h2:k<2
 ·rw [if_pos h2]
  go_enter Tryz.func119,Tryz.ntmps119
  go_wp2_with fail
  refine(cE _).mono ?_
  rintro e w1 ⟨rfl,rfl⟩
  go_wp2_with fail
  refine(cU _).mono ?_
  rintro e w1 ⟨rfl,rfl⟩
  go_wp2
  go_ret
  exact⟨rfl,(Below.refl _ _).alloc (Nat.le_refl _) _⟩
 ·rw [if_neg h2]
  go_enter Tryz.func119,Tryz.ntmps119
  go_wp2_with fail
  refine(cE _).mono ?_
  rintro e w1 ⟨rfl,rfl⟩
  go_wp2_with fail
  refine(cU _).mono ?_
  rintro e w1 ⟨rfl,rfl⟩
  go_wp2
  go_ret
  exact⟨rfl,(Below.refl _ _).alloc (Nat.le_refl _) _⟩
theorem rlead_any {c:Cf} (r:Rng c) (w:World):Calls Tryz.prog 125 #[cfV c] w fun e w'=>e=.returned (.int .i64 (leadZ c))∧Below w.heap.size w w':=by
 have hb:=ahead_box r
 have hl:=lead_box r
 have ha:=r.a0
 have hf:=r.f0
 have hf1:=r.f1
 have e1:wrap64 (c.size*c.nodes)=c.size*c.nodes:=by unfold wrap64;omega
 have e2:wrap64 (c.fair+c.size*c.nodes)=aheadZ c:=by
  have h:aheadZ c=c.fair+c.size*c.nodes:=rfl
  rw [← h]
  unfold wrap64
  omega
 have e3:Int.tdiv (aheadZ c) c.age=leadZ c:=Int.tdiv_eq_ediv_of_nonneg (by omega)
 have e4:wrap64 (leadZ c)=leadZ c:=by unfold wrap64;omega
 have nz:¬c.age=0:=by omega
 unfold cfV
 go_enter Tryz.func125,Tryz.ntmps125
 go_wp2
 go_ret
 exact⟨rfl,(Below.refl _ _).alloc (Nat.le_refl _) _⟩
set_option maxHeartbeats 1000000 in
theorem rM_any {c:Cf} (r:Rng c) (w:World):Calls Tryz.prog 76 #[cfV c] w fun e w'=>e=.returned (.int .i64 (mZ c))∧Below w.heap.size w w':=by
 have hb:=m_box r
 have hc:=c_box r
 have e1:IntKind.i64.wrap (cZ c*kZ c)=mZ c:=by
  have h:mZ c=cZ c*kZ c:=rfl
  rw [← h,IntKind.wrap_i64]
  omega
 have cC:=rC_any r
 have cK:=rK_any r
 generalize cZ c=C0 at *
 generalize kZ c=K0 at *
 generalize mZ c=M0 at *
 unfold cfV at *
 have HS:Hid (St w w.heap.size c (w.alloc (.cells #[.int .i64 c.nodes,.int .i64 c.queue,.int .i64 c.limit,.int .i64 c.age,.int .i64 c.fair,.int .i64 c.size,.int .i64 c.period,.int .i64 c.half] 23)).drew):=keepW (St.new w c) ((Below.refl _ _).drew)
 clear hb hc
 go_enter Tryz.func76,Tryz.ntmps76
 go_upto_region 1 with fail
 go_region_held3 (fun x=>x.cell? ⟨w.heap.size,0,none⟩=some (.int .i64 c.nodes)∧x.cell? ⟨w.heap.size,1,none⟩=some (.int .i64 c.queue)∧x.cell? ⟨w.heap.size,2,none⟩=some (.int .i64 c.limit)∧x.cell? ⟨w.heap.size,3,none⟩=some (.int .i64 c.age)∧x.cell? ⟨w.heap.size,4,none⟩=some (.int .i64 c.fair)∧x.cell? ⟨w.heap.size,5,none⟩=some (.int .i64 c.size)∧x.cell? ⟨w.heap.size,6,none⟩=some (.int .i64 c.period)∧x.cell? ⟨w.heap.size,7,none⟩=some (.int .i64 c.half)∧Below w.heap.size w x∧w.heap.size≤x.heap.size) (first | exact HS.out | exact keepW (by assumption) (by assumption))
  (first
   | (go_at_call 118;refine(cC _).mono ?_;rintro e x ⟨rfl,hx⟩)
   | (go_at_call 119;refine(cK _).mono ?_;rintro e x ⟨rfl,hx⟩))
 have hS:St w w.heap.size c x:=by assumption
 have hB:=hS.bel
 clear hS HS
 go_wp2
 go_ret
 exact⟨rfl,hB⟩
set_option maxHeartbeats 1000000 in
theorem rG_any {c:Cf} (r:Rng c) (hm:mZ c≤2147483648) (w:World):Calls Tryz.prog 122 #[cfV c] w fun e w'=>e=.returned (.int .i64 (gZ c))∧Below w.heap.size w w':=by
 have hb:=m_box r
 have hc:=c_box r
 have hg:=g_box r hm
 have e0:IntKind.i64.wrap (mZ c*81)=mZ c*81:=by rw [IntKind.wrap_i64];omega
 have e1:IntKind.i64.wrap (1+upZ (mZ c*81) 2147483648)=1+upZ (mZ c*81) 2147483648:=by rw [IntKind.wrap_i64];omega
 have e2:IntKind.i64.wrap (kZ c*(1+upZ (mZ c*81) 2147483648))=gZ c:=by
  have h:gZ c=kZ c*(1+upZ (mZ c*81) 2147483648):=rfl
  rw [← h,IntKind.wrap_i64]
  omega
 have cK:=rK_any r
 have cM:=rM_any r
 have cU:∀w,Calls Tryz.prog 156 #[.int .i64 (mZ c*81),.int .i64 2147483648] w fun e w'=>e=.returned (.int .i64 (upZ (mZ c*81) 2147483648))∧Below w.heap.size w w':=fun w=>(rup_any (a:=mZ c*81) (b:=2147483648) (by omega) (by omega) (by omega) w).mono fun e w' h=>⟨h.1,by rw [h.2];exact Below.refl _ _⟩
 clear hb hc hg hm
 generalize mZ c=M0 at *
 generalize upZ (M0*81) 2147483648=U0 at *
 generalize kZ c=K0 at *
 generalize gZ c=G0 at *
 unfold cfV at *
 have HS:Hid (St w w.heap.size c (w.alloc (.cells #[.int .i64 c.nodes,.int .i64 c.queue,.int .i64 c.limit,.int .i64 c.age,.int .i64 c.fair,.int .i64 c.size,.int .i64 c.period,.int .i64 c.half] 23)).drew):=keepW (St.new w c) ((Below.refl _ _).drew)
 go_enter Tryz.func122,Tryz.ntmps122
 go_upto_region 1 with fail
 go_region_held3 (fun x=>x.cell? ⟨w.heap.size,0,none⟩=some (.int .i64 c.nodes)∧x.cell? ⟨w.heap.size,1,none⟩=some (.int .i64 c.queue)∧x.cell? ⟨w.heap.size,2,none⟩=some (.int .i64 c.limit)∧x.cell? ⟨w.heap.size,3,none⟩=some (.int .i64 c.age)∧x.cell? ⟨w.heap.size,4,none⟩=some (.int .i64 c.fair)∧x.cell? ⟨w.heap.size,5,none⟩=some (.int .i64 c.size)∧x.cell? ⟨w.heap.size,6,none⟩=some (.int .i64 c.period)∧x.cell? ⟨w.heap.size,7,none⟩=some (.int .i64 c.half)∧Below w.heap.size w x∧w.heap.size≤x.heap.size) (first | exact HS.out | exact keepW (by assumption) (by assumption))
  (first
   | (go_at_call 119;refine(cK _).mono ?_;rintro e x ⟨rfl,hx⟩)
   | (go_at_call 76;refine(cM _).mono ?_;rintro e x ⟨rfl,hx⟩)
   | (go_at_call 156;refine(cU _).mono ?_;rintro e x ⟨rfl,hx⟩))
 all_goals
  have hS:St w w.heap.size c x:=by assumption
  have hB:=hS.bel
  clear hS HS
  go_wp2
  go_ret
  exact⟨rfl,hB⟩
set_option maxHeartbeats 1000000 in
theorem rbound_any {c:Cf} (r:Rng c) (w:World):Calls Tryz.prog 79 #[cfV c] w fun e w'=>e=.returned (.int .i64 (boundZ c))∧Below w.heap.size w w':=by
 have hb:=bound_box r
 have hl:=lead_box r
 have e0:IntKind.i64.wrap (leadZ c+1)=leadZ c+1:=by rw [IntKind.wrap_i64];omega
 have e1:IntKind.i64.wrap (c.queue*c.limit)=c.queue*c.limit:=by rw [IntKind.wrap_i64];omega
 have e2:IntKind.i64.wrap (leadZ c+1+c.queue*c.limit)=boundZ c:=by
  have h:boundZ c=leadZ c+1+c.queue*c.limit:=rfl
  rw [← h,IntKind.wrap_i64]
  omega
 have cL:=rlead_any r
 clear hb hl
 generalize leadZ c=L0 at *
 generalize boundZ c=B0 at *
 unfold cfV at *
 have HS:Hid (St w w.heap.size c (w.alloc (.cells #[.int .i64 c.nodes,.int .i64 c.queue,.int .i64 c.limit,.int .i64 c.age,.int .i64 c.fair,.int .i64 c.size,.int .i64 c.period,.int .i64 c.half] 23)).drew):=keepW (St.new w c) ((Below.refl _ _).drew)
 go_enter Tryz.func79,Tryz.ntmps79
 go_upto_region 1 with fail
 go_region_held3 (fun x=>x.cell? ⟨w.heap.size,0,none⟩=some (.int .i64 c.nodes)∧x.cell? ⟨w.heap.size,1,none⟩=some (.int .i64 c.queue)∧x.cell? ⟨w.heap.size,2,none⟩=some (.int .i64 c.limit)∧x.cell? ⟨w.heap.size,3,none⟩=some (.int .i64 c.age)∧x.cell? ⟨w.heap.size,4,none⟩=some (.int .i64 c.fair)∧x.cell? ⟨w.heap.size,5,none⟩=some (.int .i64 c.size)∧x.cell? ⟨w.heap.size,6,none⟩=some (.int .i64 c.period)∧x.cell? ⟨w.heap.size,7,none⟩=some (.int .i64 c.half)∧Below w.heap.size w x∧w.heap.size≤x.heap.size) (first | exact HS.out | exact keepW (by assumption) (by assumption))
  (first | (go_at_call 125;refine(cL _).mono ?_;rintro e x ⟨rfl,hx⟩))
 all_goals
  have hS:St w w.heap.size c x:=by assumption
  have hB:=hS.bel
  clear hS HS
  go_wp2
  go_ret
  exact⟨rfl,hB⟩
end Go.Proofs.YtceoibfliggalaaGreatDoor
namespace Go.Proofs.YtceoibfliggalaaGreatDoor
open Go.RowKit Wd Cg
abbrev nu (v:Int):Value:=.agg #[.int .u64 (hiW v),.int .u64 (loW v)]
theorem radd_fit {u v:Int} (hu:0≤u) (hv:0≤v) (h:u+v≤top) (w:World):
  Calls Tryz.prog 123 #[nu u,nu v] w fun e w'=>e=.returned (.tuple #[nu (u+v),.bool true])∧Below w.heap.size w w':=by
 have c:=radd_any (hiW u) (loW u) (hiW v) (loW v) (hi_word ⟨hu,by omega⟩) (lo_word u) (hi_word ⟨hv,by omega⟩) (lo_word v) w
 rw [val_words,val_words,show addV u v=u+v by unfold addV;rw [if_pos h],show addB u v=true by unfold addB;exact decide_eq_true h]at c
 exact c
theorem rtimes_fit {u b:Int} (hu:Num u) (hb:Word b) (h:u*b≤top) (w:World):
  Calls Tryz.prog 78 #[nu u,.int .u64 b] w fun e w'=>e=.returned (.tuple #[nu (u*b),.bool true])∧Below w.heap.size w w':=by
 have c:=rtimes_any (hiW u) (loW u) b (hi_word hu) (lo_word u) hb w
 rw [val_words,show timV u b=u*b by unfold timV;rw [if_pos h],show timB u b=true by unfold timB;exact decide_eq_true h]at c
 exact c
theorem rcmp_num (u v:Int) (w:World):Calls Tryz.prog 80 #[nu u,nu v] w fun e w'=>e=.returned (.int .i64 (cmpV u v))∧Below w.heap.size w w':=by
 have c:=rcmp_any (hiW u) (loW u) (hiW v) (loW v) (lo_word u) (lo_word v) w
 rw [val_words,val_words]at c
 exact c
theorem rof_nu {n:Int} (hn:Word n) (w:World):Calls Tryz.prog 120 #[.int .u64 n] w fun e w'=>e=.returned (nu n)∧Below w.heap.size w w':=rof_num n hn w
theorem rmul_nu {x y:Int} (hx:Word x) (hy:Word y) (w:World):Calls Tryz.prog 121 #[.int .u64 x,.int .u64 y] w fun e w'=>e=.returned (nu (x*y))∧Below w.heap.size w w':=rmul_any x y hx hy w
structure Two (w:World) (k:Nat) (v:Int):Prop where
 c0:w.cell? ⟨k,0,none⟩=some (.int .u64 (hiW v))
 c1:w.cell? ⟨k,1,none⟩=some (.int .u64 (loW v))
 f0:w.frozen? ⟨k,0,none⟩=false
 f1:w.frozen? ⟨k,1,none⟩=false
theorem Two.keep {w w':World} {k:Nat} {v:Int} (h:Two w k v) (b:Below w.heap.size w w'):Two w' k v:=
 ⟨keepC b h.c0,keepC b h.c1,keepF b h.c0 h.f0,keepF b h.c1 h.f1⟩
theorem Two.new (w:World) (v:Int):Two (w.alloc (.cells #[.int .u64 (hiW v),.int .u64 (loW v)] 105)) w.heap.size v:=
 ⟨by simp,by simp,by simp [go_sem],by simp [go_sem]⟩
theorem roff_none {c:Cf} (h0:c.fair=0) (w:World):Calls Tryz.prog 77 #[cfV c] w fun e w'=>e=.returned (.tuple #[nu (offN c),nu (offD c)])∧Below w.heap.size w w':=by
 have e1:offN c=0:=by unfold offN;rw [if_pos h0]
 have e2:offD c=1:=by unfold offD;rw [if_pos h0]
 rw [e1,e2]
 have c1:=rof_nu (n:=1) ⟨by omega,by omega⟩
 rw [show nu 0=.agg #[.int .u64 0,.int .u64 0]from rfl]
 rw [show nu 1=.agg #[.int .u64 0,.int .u64 1]from rfl]at *
 unfold cfV
 rw [h0]
 go_enter Tryz.func77,Tryz.ntmps77
 go_wp2_with fail
 obtain⟨v0,hv0⟩:∃v0:World,v0=((w.alloc (.cells #[.int .i64 c.nodes,.int .i64 c.queue,.int .i64 c.limit,.int .i64 c.age,.int .i64 0,.int .i64 c.size,.int .i64 c.period,.int .i64 c.half] 23)).alloc (.cells #[.int .u64 0,.int .u64 0] 105)).alloc (.cells #[.int .u64 0,.int .u64 0] 105):=⟨_,rfl⟩
 have B0:Below w.heap.size w v0:=by rw [hv0];exact(((Below.refl _ _).alloc (Nat.le_refl _) _).alloc (by simp) _).alloc (by simp;omega) _
 have t2:Two v0 (w.heap.size+1) 0:=by rw [hv0];exact⟨by simp [go_sem];rfl,by simp [go_sem];rfl,by simp [go_sem],by simp [go_sem]⟩
 have t3:Two v0 (w.heap.size+1+1) 0:=by rw [hv0];exact⟨by simp [go_sem];rfl,by simp [go_sem];rfl,by simp [go_sem],by simp [go_sem]⟩
 rw [← hv0]
 clear hv0
 refine(c1 _).mono ?_
 rintro e w1 ⟨rfl,b1⟩
 obtain⟨p0,p1,p2,p3⟩:=t2.keep b1
 obtain⟨q0,q1,q2,q3⟩:=t3.keep b1
 have B1:=B0.trans (b1.mono B0.size)
 clear t2 t3 b1 B0 c1
 go_wp2
 refine bodyPost_ret (v:=.tuple #[.agg #[.int .u64 0,.int .u64 0],.agg #[.int .u64 0,.int .u64 1]]) (by simp [results,Tryz.results77,go_sem,p0,p1,q0,q1]) rfl ⟨rfl,?_⟩
 exact(((B1.setCell (by simp) _).setCell (by simp) _).setCell (by simp;omega) _).setCell (by simp;omega) _
def put (w:World) (k:Nat) (v:Int):World:=(w.setCell ⟨k,0,none⟩ (.int .u64 (hiW v))).setCell ⟨k,1,none⟩ (.int .u64 (loW v))
theorem Two.put {w:World} {k:Nat} {u:Int} (h:Two w k u) (v:Int):Two (put w k v) k v:=by
 obtain⟨a,b,c,d⟩:=h
 unfold Go.Proofs.YtceoibfliggalaaGreatDoor.put
 exact⟨by simp [go_sem, *],by simp [go_sem, *],by simp [go_sem, *],by simp [go_sem, *]⟩
theorem Two.far {w:World} {k j:Nat} {u:Int} (h:Two w k u) (hj:k≠j) (v:Int):Two (Go.Proofs.YtceoibfliggalaaGreatDoor.put w j v) k u:=by
 obtain⟨a,b,c,d⟩:=h
 unfold Go.Proofs.YtceoibfliggalaaGreatDoor.put
 exact⟨by simp [go_sem, *],by simp [go_sem, *],by simp [go_sem, *],by simp [go_sem, *]⟩
theorem St.far {w x:World} {g j:Nat} {c:Cf} (h:St w g c x) (hj:g≠j) (hw:w.heap.size≤j) (v:Int):St w g c (put x j v):=by
 obtain⟨a0,a1,a2,a3,a4,a5,a6,a7,b,z⟩:=h
 unfold put
 refine⟨by simp [go_sem, *],by simp [go_sem, *],by simp [go_sem, *],by simp [go_sem, *],by simp [go_sem, *],by simp [go_sem, *],by simp [go_sem, *],by simp [go_sem, *],?_,by simp;omega⟩
 exact(b.setCell hw _).setCell hw _
end Go.Proofs.YtceoibfliggalaaGreatDoor
namespace Go.Proofs.YtceoibfliggalaaGreatDoor
open Go.RowKit Wd Cg
set_option maxHeartbeats 2000000 in
theorem roff_some {c:Cf} (r:Rng c) (hm:mZ c≤2147483648) (h0:¬c.fair=0) (w:World):Calls Tryz.prog 77 #[cfV c] w fun e w'=>e=.returned (.tuple #[nu (offN c),nu (offD c)])∧Below w.heap.size w w':=by
 have e1:offN c=(258048*gZ c+2*cZ c)*c.fair+cZ c*4294967296:=by unfold offN;rw [if_neg h0]
 have e2:offD c=cZ c*4294967296:=by unfold offD;rw [if_neg h0]
 rw [e1,e2]
 have hc:=c_box r
 have hg:=g_box r hm
 have ho:=off_box r hm
 have hf0:=r.f0
 have hf1:=r.f1
 have tp:top=340282366920938463463374607431768211455:=rfl
 have cC:=rC_any r
 have cG:=rG_any r hm
 have cD:=rmul_nu (x:=cZ c) (y:=4294967296) ⟨by omega,by omega⟩ ⟨by omega,by omega⟩
 have cX:=rmul_nu (x:=258048) (y:=gZ c) ⟨by omega,by omega⟩ ⟨by omega,by omega⟩
 have cO:=rof_nu (n:=2*cZ c) ⟨by omega,by omega⟩
 have cA:=radd_fit (u:=258048*gZ c) (v:=2*cZ c) (by omega) (by omega) (by omega)
 have cT:=rtimes_fit (u:=258048*gZ c+2*cZ c) (b:=c.fair) ⟨by omega,by omega⟩ ⟨by omega,by omega⟩ (by omega)
 have cB:=radd_fit (u:=(258048*gZ c+2*cZ c)*c.fair) (v:=cZ c*4294967296) (by omega) (by omega) (by omega)
 have m1:IntKind.u64.wrap (cZ c)=cZ c:=by rw [IntKind.wrap_u64];omega
 have m2:IntKind.u64.wrap (gZ c)=gZ c:=by rw [IntKind.wrap_u64];omega
 have m3:IntKind.i64.wrap (2*cZ c)=2*cZ c:=by rw [IntKind.wrap_i64];omega
 have m4:IntKind.u64.wrap (2*cZ c)=2*cZ c:=by rw [IntKind.wrap_u64];omega
 have m5:IntKind.u64.wrap c.fair=c.fair:=by rw [IntKind.wrap_u64];omega
 clear e1 e2 hc hg ho hf0 hf1 tp hm
 generalize hX0:258048*gZ c=X0 at *
 generalize hV0:X0+2*cZ c=V0 at *
 generalize hT0:V0*c.fair=T0 at *
 generalize hD0:cZ c*4294967296=D0 at *
 generalize hE0:2*cZ c=E0 at *
 generalize gZ c=G0 at *
 generalize cZ c=C0 at *
 clear hX0 hV0 hT0 hD0
 have HE:Hid _:=hE0
 generalize T0+D0=R0 at *
 unfold cfV at *
 go_enter Tryz.func77,Tryz.ntmps77
 go_wp2_with fail
 obtain⟨v0,hv0⟩:∃v0:World,v0=((w.alloc (.cells #[.int .i64 c.nodes,.int .i64 c.queue,.int .i64 c.limit,.int .i64 c.age,.int .i64 c.fair,.int .i64 c.size,.int .i64 c.period,.int .i64 c.half] 23)).alloc (.cells #[.int .u64 0,.int .u64 0] 105)).alloc (.cells #[.int .u64 0,.int .u64 0] 105):=⟨_,rfl⟩
 have hS:St w w.heap.size c v0:=by rw [hv0];exact keepW (keepW (St.new w c) ((Below.refl _ _).alloc (Nat.le_refl _) _)) ((Below.refl _ _).alloc (Nat.le_refl _) _)
 have t2:Two v0 (w.heap.size+1) 0:=by rw [hv0];exact⟨by simp [go_sem];rfl,by simp [go_sem];rfl,by simp [go_sem],by simp [go_sem]⟩
 have t3:Two v0 (w.heap.size+1+1) 0:=by rw [hv0];exact⟨by simp [go_sem];rfl,by simp [go_sem];rfl,by simp [go_sem],by simp [go_sem]⟩
 rw [← hv0]
 clear hv0
 refine(cC _).mono ?_
 rintro e w1 ⟨rfl,b1⟩
 replace hS:=keepW hS b1
 replace t2:=t2.keep b1
 replace t3:=t3.keep b1
 clear b1
 go_wp2_with fail
 refine(cD _).mono ?_
 rintro e w2 ⟨rfl,b2⟩
 replace hS:=keepW hS b2
 replace t2:=t2.keep b2
 replace t3:=t3.keep b2
 clear b2
 have hp:Two (w2.alloc (.cells #[.int .u64 (hiW D0),.int .u64 (loW D0)] 105)) w2.heap.size D0∧Below w2.heap.size w2 (w2.alloc (.cells #[.int .u64 (hiW D0),.int .u64 (loW D0)] 105)):=⟨Two.new w2 D0,(Below.refl _ _).alloc (Nat.le_refl _) _⟩
 have hlta:w.heap.size+1+1<w2.heap.size:=by have:=World.block_lt_of_cell? w2 _ t3.c0;simpa using this
 have hlt:w.heap.size<w2.heap.size:=by have:=World.block_lt_of_cell? w2 _ hS.1;simpa using this
 go_upto_region 4 with fail
 generalize w2.alloc (.cells #[.int .u64 (hiW D0),.int .u64 (loW D0)] 105)=v1 at *
 obtain⟨t4,b2⟩:=hp
 replace hS:=keepW hS b2
 replace t2:=t2.keep b2
 replace t3:=t3.keep b2
 generalize w2.heap.size=k4 at *
 clear b2
 obtain⟨s0,s1,s2,s3,s4,s5,s6,s7,_,_⟩:=id hS
 go_wp2_with fail
 refine(cG _).mono ?_
 rintro e w3 ⟨rfl,b3⟩
 clear s0 s1 s2 s3 s4 s5 s6 s7
 replace hS:=keepW hS b3
 replace t2:=t2.keep b3
 replace t3:=t3.keep b3
 replace t4:=t4.keep b3
 clear b3
 go_wp2_with fail
 refine(cX _).mono ?_
 rintro e w4 ⟨rfl,b4⟩
 replace hS:=keepW hS b4
 replace t2:=t2.keep b4
 replace t3:=t3.keep b4
 replace t4:=t4.keep b4
 clear b4
 have hp:Two (w4.alloc (.cells #[.int .u64 (hiW X0),.int .u64 (loW X0)] 105)) w4.heap.size X0∧Below w4.heap.size w4 (w4.alloc (.cells #[.int .u64 (hiW X0),.int .u64 (loW X0)] 105)):=⟨Two.new w4 X0,(Below.refl _ _).alloc (Nat.le_refl _) _⟩
 have hlt4:k4<w4.heap.size:=by have:=World.block_lt_of_cell? w4 _ t4.c0;simpa using this
 have hlt2:w.heap.size+1<w4.heap.size:=by have:=World.block_lt_of_cell? w4 _ t2.c0;simpa using this
 have hlt3:w.heap.size+1+1<w4.heap.size:=by have:=World.block_lt_of_cell? w4 _ t3.c0;simpa using this
 go_upto_region 5 with fail
 generalize w4.alloc (.cells #[.int .u64 (hiW X0),.int .u64 (loW X0)] 105)=v2 at *
 obtain⟨t5,b2⟩:=hp
 replace hS:=keepW hS b2
 replace t2:=t2.keep b2
 replace t3:=t3.keep b2
 replace t4:=t4.keep b2
 generalize w4.heap.size=k5 at *
 clear b2
 have cE:∀w,Calls Tryz.prog 120 #[.int .u64 E0] w fun e w'=>e=.returned (nu E0)∧Below w.heap.size w w':=cO
 have HS:Hid (St w w.heap.size c v2.drew):=keepW hS ((Below.refl _ _).drew)
 have td:Two v2.drew k5 X0:=t5.keep ((Below.refl _ _).drew)
 have td2:Two v2.drew (w.heap.size+1) 0:=t2.keep ((Below.refl _ _).drew)
 have td3:Two v2.drew (w.heap.size+1+1) 0:=t3.keep ((Below.refl _ _).drew)
 have td4:Two v2.drew k4 D0:=t4.keep ((Below.refl _ _).drew)
 obtain⟨g0,g1,g2,g3⟩:=id td
 have n5:w.heap.size≠k5:=by omega
 have z5:w.heap.size≤k5:=by omega
 clear hS t2 t3 t4 t5
 have sd:=HS.out
 clear HS
 obtain⟨s0,s1,s2,s3,s4,s5,s6,s7,_,_⟩:=id sd
 go_region_with (first
   | (go_at_call 118;refine(cC _).mono ?_;rintro e x ⟨rfl,hx⟩;have hx':=hx;replace td:=Two.keep td hx';replace td2:=Two.keep td2 hx';replace td3:=Two.keep td3 hx';replace td4:=Two.keep td4 hx';replace sd:=keepW sd hx';clear hx';obtain⟨g0,g1,g2,g3⟩:=id td;obtain⟨s0,s1,s2,s3,s4,s5,s6,s7,_,_⟩:=id sd)
   | (go_at_call 120;refine(cE _).mono ?_;rintro e x ⟨rfl,hx⟩;have hx':=hx;replace td:=Two.keep td hx';replace td2:=Two.keep td2 hx';replace td3:=Two.keep td3 hx';replace td4:=Two.keep td4 hx';replace sd:=keepW sd hx';clear hx';obtain⟨g0,g1,g2,g3⟩:=id td;obtain⟨s0,s1,s2,s3,s4,s5,s6,s7,_,_⟩:=id sd)
   | (go_at_call 123;refine(cA _).mono ?_;rintro e x ⟨rfl,hx⟩;have hx':=hx;replace td:=Two.keep td hx';replace td2:=Two.keep td2 hx';replace td3:=Two.keep td3 hx';replace td4:=Two.keep td4 hx';replace sd:=keepW sd hx';clear hx';obtain⟨g0,g1,g2,g3⟩:=id td;obtain⟨s0,s1,s2,s3,s4,s5,s6,s7,_,_⟩:=id sd))
 all_goals
  have n4:k4≠k5:=by omega
  have n2:w.heap.size+1≠k5:=by omega
  have n3:w.heap.size+1+1≠k5:=by omega
  replace td2:=td2.far n2 V0
  replace td3:=td3.far n3 V0
  replace td4:=td4.far n4 V0
  replace sd:=sd.far n5 z5 V0
  replace td:=td.put V0
  clear s0 s1 s2 s3 s4 s5 s6 s7 g0 g1 g2 g3
  change Exit.then _ _ _ _ (put x k5 V0)
  generalize put x k5 V0=v3 at *
  obtain⟨g0,g1,g2,g3⟩:=id td
  obtain⟨s0,s1,s2,s3,s4,s5,s6,s7,_,_⟩:=id sd
  go_wp2_with fail
  refine(cT _).mono ?_
  rintro e w6 ⟨rfl,b6⟩
  replace td:=td.keep b6
  replace td2:=td2.keep b6
  replace td3:=td3.keep b6
  replace td4:=td4.keep b6
  replace sd:=keepW sd b6
  clear b6 s0 s1 s2 s3 s4 s5 s6 s7 g0 g1 g2 g3
  obtain⟨g0,g1,g2,g3⟩:=id td
  go_upto_region 7 with fail
  replace td2:=td2.far n2 T0
  replace td3:=td3.far n3 T0
  replace td4:=td4.far n4 T0
  replace sd:=sd.far n5 z5 T0
  replace td:=td.put T0
  clear g0 g1 g2 g3
  change Code.wp _ _ _ _ (put w6 k5 T0)
  generalize put w6 k5 T0=v4 at *
  obtain⟨g0,g1,g2,g3⟩:=id td
  obtain⟨q0,q1,q2,q3⟩:=id td4
  go_wp2_with fail
  refine(cB _).mono ?_
  rintro e w7 ⟨rfl,b7⟩
  replace td:=td.keep b7
  replace td2:=td2.keep b7
  replace td3:=td3.keep b7
  replace td4:=td4.keep b7
  replace sd:=keepW sd b7
  clear b7 g0 g1 g2 g3 q0 q1 q2 q3
  obtain⟨g0,g1,g2,g3⟩:=id td
  go_upto_region 8 with fail
  replace td2:=td2.far n2 R0
  replace td3:=td3.far n3 R0
  replace td4:=td4.far n4 R0
  replace sd:=sd.far n5 z5 R0
  replace td:=td.put R0
  clear g0 g1 g2 g3
  change Code.wp _ _ _ _ (put w7 k5 R0)
  generalize put w7 k5 R0=v5 at *
  obtain⟨g0,g1,g2,g3⟩:=id td
  obtain⟨q0,q1,q2,q3⟩:=id td4
  obtain⟨p0,p1,p2,p3⟩:=id td2
  obtain⟨u0,u1,u2,u3⟩:=id td3
  have B5:=sd.bel
  have y1:¬k4=w.heap.size+1:=by omega
  have y2:¬k4=w.heap.size+1+1:=by omega
  have y3:¬k5=w.heap.size+1:=by omega
  have y4:¬k5=w.heap.size+1+1:=by omega
  have y5:¬w.heap.size+1=k4:=by omega
  have y6:¬w.heap.size+1+1=k4:=by omega
  have y7:¬w.heap.size+1=k5:=by omega
  have y8:¬w.heap.size+1+1=k5:=by omega
  go_region
  all_goals go_wp2
  all_goals refine bodyPost_ret (v:=.tuple #[nu R0,nu D0]) (by simp [results,Tryz.results77,go_sem,p0,p1,u0,u1]) rfl ⟨rfl,?_⟩
  all_goals repeat first | exact B5 | refine Below.drew ?_ | refine Below.setCell ?_ (by first | (simp;done) | (simp;omega) | omega) _
end Go.Proofs.YtceoibfliggalaaGreatDoor
namespace Go.Proofs.YtceoibfliggalaaGreatDoor
open Go.RowKit Wd Cg
theorem roff_any {c:Cf} (r:Rng c) (hm:mZ c≤2147483648) (w:World):Calls Tryz.prog 77 #[cfV c] w fun e w'=>e=.returned (.tuple #[nu (offN c),nu (offD c)])∧Below w.heap.size w w':=by
 by_cases h0:c.fair=0
 ·exact roff_none h0 w
 ·exact roff_some r hm h0 w
noncomputable def chkZ (c:Cf):Int:= @ite Int (¬Rng c) (Classical.propDecidable _) 110 (if 2147483648<mZ c then 111 else if offD c*topZ c<offN c*1000 then 113 else 0)
theorem rcheck_range {c:Cf} (r:¬Rng c) (w:World):Calls Tryz.prog 35 #[cfV c] w fun e w'=>e=.returned (.int .i64 110)∧Below w.heap.size w w':=by
 have c1:=rranges_any c
 rw [show rngB c=false from Bool.eq_false_iff.2 fun h=>r ((rng_iff c).1 h)]at c1
 unfold cfV at *
 have hS:=St.new w c
 go_enter Tryz.func35,Tryz.ntmps35
 go_wp2_with fail
 refine(c1 _).mono ?_
 rintro e w1 ⟨rfl,b1⟩
 replace hS:=keepW hS b1
 clear b1
 go_wp2
 go_ret
 exact⟨rfl,hS.bel⟩
theorem rcheck_usage {c:Cf} (r:Rng c) (hm:2147483648<mZ c) (w:World):Calls Tryz.prog 35 #[cfV c] w fun e w'=>e=.returned (.int .i64 111)∧Below w.heap.size w w':=by
 have c1:=rranges_any c
 rw [(rng_iff c).2 r]at c1
 have c2:=rM_any r
 generalize mZ c=M0 at *
 unfold cfV at *
 have hS:=St.new w c
 go_enter Tryz.func35,Tryz.ntmps35
 go_wp2_with fail
 refine(c1 _).mono ?_
 rintro e w1 ⟨rfl,b1⟩
 replace hS:=keepW hS b1
 clear b1
 obtain⟨s0,s1,s2,s3,s4,s5,s6,s7,_,_⟩:=id hS
 go_wp2_with fail
 refine(c2 _).mono ?_
 rintro e w2 ⟨rfl,b2⟩
 replace hS:=keepW hS b2
 clear b2
 clear s0 s1 s2 s3 s4 s5 s6 s7
 go_wp2
 go_ret
 exact⟨rfl,hS.bel⟩
theorem trans_keep {P w1 w2:World} (h1:∀a,(P.cell? a).isSome=true→w1.cell? a=P.cell? a) (h2:∀a,(w1.cell? a).isSome=true→w2.cell? a=w1.cell? a):∀a,(P.cell? a).isSome=true→w2.cell? a=P.cell? a:=
 fun a h=>(h2 a (by rw [h1 a h];exact h)).trans (h1 a h)
theorem trans_keepF {P w1 w2:World} (h1:∀a,(P.cell? a).isSome=true→w1.cell? a=P.cell? a) (f1:∀a,(P.cell? a).isSome=true→w1.frozen? a=P.frozen? a) (f2:∀a,(w1.cell? a).isSome=true→w2.frozen? a=w1.frozen? a):∀a,(P.cell? a).isSome=true→w2.frozen? a=P.frozen? a:=
 fun a h=>(f2 a (by rw [h1 a h];exact h)).trans (f1 a h)
def St6 (w:World) (kd kl:Nat) (D0 L0:Int) (c:Cf) (x:World):Prop:=St w w.heap.size c x∧x.cell? ⟨kd,0,none⟩=some (.int .u64 (hiW D0))∧x.cell? ⟨kd,1,none⟩=some (.int .u64 (loW D0))∧x.cell? ⟨kl,0,none⟩=some (.int .u64 (hiW L0))∧x.cell? ⟨kl,1,none⟩=some (.int .u64 (loW L0))
theorem keep6 {w x y:World} {kd kl:Nat} {D0 L0:Int} {c:Cf} (h:St6 w kd kl D0 L0 c x) (b:Below x.heap.size x y):St6 w kd kl D0 L0 c y:=
 ⟨keepW h.1 b,keepC b h.2.1,keepC b h.2.2.1,keepC b h.2.2.2.1,keepC b h.2.2.2.2⟩
theorem far6 {w x u:World} {kd kl:Nat} {D0 L0:Int} {c:Cf} {a b:Value} (h:St6 w kd kl D0 L0 c x) (hu:St6 w kd kl D0 L0 c u):St6 w kd kl D0 L0 c ((x.setCell ⟨u.heap.size,0,none⟩ a).setCell ⟨u.heap.size,1,none⟩ b):=by
 have n1:=World.block_lt_of_cell? u _ hu.1.1
 have n2:=World.block_lt_of_cell? u _ hu.2.1
 have n3:=World.block_lt_of_cell? u _ hu.2.2.2.1
 simp only at n1 n2 n3
 have y1:w.heap.size≠u.heap.size:=by omega
 have y2:kd≠u.heap.size:=by omega
 have y3:kl≠u.heap.size:=by omega
 have z:=hu.1.2.2.2.2.2.2.2.2.2
 obtain⟨⟨a0,a1,a2,a3,a4,a5,a6,a7,bb,zz⟩,d0,d1,l0,l1⟩:=h
 refine⟨⟨by simp [go_sem, *],by simp [go_sem, *],by simp [go_sem, *],by simp [go_sem, *],by simp [go_sem, *],by simp [go_sem, *],by simp [go_sem, *],by simp [go_sem, *],?_,by simp;omega⟩,by simp [go_sem, *],by simp [go_sem, *],by simp [go_sem, *],by simp [go_sem, *]⟩
 exact(bb.setCell z _).setCell z _
set_option maxHeartbeats 2000000 in
theorem rcheck_rest {c:Cf} (r:Rng c) (hm:mZ c≤2147483648) (w:World):Calls Tryz.prog 35 #[cfV c] w fun e w'=>e=.returned (.int .i64 (if offD c*topZ c<offN c*1000 then 113 else 0))∧Below w.heap.size w w':=by
 have c1:=rranges_any c
 rw [(rng_iff c).2 r]at c1
 have c2:=rM_any r
 have c3:=roff_any r hm
 have c4:=rbound_any r
 have ho:=off_box r hm
 have hb:=bound_box r
 have ht:=top_box r
 have ha:=ahead_box r
 have tp:top=340282366920938463463374607431768211455:=rfl
 have hq:topZ c=c.age*boundZ c+c.fair+c.size*c.nodes:=by unfold topZ aheadZ;omega
 have hprod:=mul_box (a:=offD c) (b:=topZ c) (A:=1152921504606846976) (B:=562949953421312) (by omega) (by omega) (by omega) (by omega)
 have c5:=rtimes_fit (u:=offN c) (b:=1000) ⟨by omega,by omega⟩ ⟨by omega,by omega⟩ (by omega)
 have c6:=rtimes_fit (u:=offD c) (b:=topZ c) ⟨by omega,by omega⟩ ⟨by omega,by omega⟩ (by omega)
 have c7:=rcmp_num (offN c*1000) (offD c*topZ c)
 have a0:=r.a0
 have a1:=r.a1
 have f0:=r.f0
 have f1:=r.f1
 have e1:IntKind.i64.wrap (c.age*1099511627776)=c.age*1099511627776:=by rw [IntKind.wrap_i64];omega
 have e2:IntKind.i64.wrap (c.age*1099511627776+c.fair)=c.age*1099511627776+c.fair:=by rw [IntKind.wrap_i64];omega
 have e3:IntKind.i64.wrap (c.size*c.nodes)=c.size*c.nodes:=by rw [IntKind.wrap_i64];omega
 have e4:IntKind.i64.wrap (c.age*1099511627776+c.fair+c.size*c.nodes)=c.age*1099511627776+c.fair+c.size*c.nodes:=by rw [IntKind.wrap_i64];omega
 have e5:¬4611686018427387904≤c.age*1099511627776+c.fair+c.size*c.nodes:=by omega
 have e6:IntKind.i64.wrap (c.age*boundZ c)=c.age*boundZ c:=by rw [IntKind.wrap_i64];omega
 have e7:IntKind.i64.wrap (c.age*boundZ c+c.fair)=c.age*boundZ c+c.fair:=by rw [IntKind.wrap_i64];omega
 have e8:IntKind.i64.wrap (c.age*boundZ c+c.fair+c.size*c.nodes)=topZ c:=by rw [← hq,IntKind.wrap_i64];omega
 have e9:IntKind.u64.wrap (topZ c)=topZ c:=by rw [IntKind.wrap_u64];omega
 have hm':¬2147483648<mZ c:=by omega
 clear ho hb ht ha tp hprod a0 a1 f0 f1 hm hq
 generalize hL:offN c*1000=L0 at *
 generalize hR:offD c*topZ c=P0 at *
 clear hL hR
 generalize boundZ c=B0 at *
 generalize topZ c=T0 at *
 generalize mZ c=M0 at *
 generalize offN c=N0 at *
 generalize offD c=D0 at *
 unfold cfV at *
 have hS:=St.new w c
 go_enter Tryz.func35,Tryz.ntmps35
 go_wp2_with fail
 refine(c1 _).mono ?_
 rintro e w1 ⟨rfl,b1⟩
 replace hS:=keepW hS b1
 clear b1
 obtain⟨s0,s1,s2,s3,s4,s5,s6,s7,_,_⟩:=id hS
 go_wp2_with fail
 refine(c2 _).mono ?_
 rintro e w2 ⟨rfl,b2⟩
 replace hS:=keepW hS b2
 clear b2
 clear s0 s1 s2 s3 s4 s5 s6 s7
 obtain⟨s0,s1,s2,s3,s4,s5,s6,s7,_,_⟩:=id hS
 go_wp2_with fail
 refine(c3 _).mono ?_
 rintro e w3 ⟨rfl,b3⟩
 replace hS:=keepW hS b3
 clear b3
 clear s0 s1 s2 s3 s4 s5 s6 s7
 have bN:Below w3.heap.size w3 (w3.alloc (.cells #[.int .u64 (hiW N0),.int .u64 (loW N0)] 105)):=(Below.refl _ _).alloc (Nat.le_refl _) _
 have bD:Below (w3.alloc (.cells #[.int .u64 (hiW N0),.int .u64 (loW N0)] 105)).heap.size (w3.alloc (.cells #[.int .u64 (hiW N0),.int .u64 (loW N0)] 105)) ((w3.alloc (.cells #[.int .u64 (hiW N0),.int .u64 (loW N0)] 105)).alloc (.cells #[.int .u64 (hiW D0),.int .u64 (loW D0)] 105)):=(Below.refl _ _).alloc (Nat.le_refl _) _
 have tn:=(Two.new w3 N0).keep bD
 have td:=Two.new (w3.alloc (.cells #[.int .u64 (hiW N0),.int .u64 (loW N0)] 105)) D0
 rw [World.size_alloc]at td
 replace hS:=keepW (keepW hS bN) bD
 go_upto_region 8 with fail
 generalize (w3.alloc (.cells #[.int .u64 (hiW N0),.int .u64 (loW N0)] 105)).alloc (.cells #[.int .u64 (hiW D0),.int .u64 (loW D0)] 105)=v3 at *
 clear bN bD
 generalize w3.heap.size=k3 at *
 obtain⟨p0,p1,_,_⟩:=id tn
 go_wp2_with fail
 refine(c5 _).mono ?_
 rintro e w4 ⟨rfl,b4⟩
 replace hS:=keepW hS b4
 replace td:=td.keep b4
 clear b4 p0 p1 tn
 have bL:Below w4.heap.size w4 (w4.alloc (.cells #[.int .u64 (hiW L0),.int .u64 (loW L0)] 105)):=(Below.refl _ _).alloc (Nat.le_refl _) _
 have tl:=Two.new w4 L0
 replace hS:=keepW hS bL
 replace td:=td.keep bL
 go_upto_region 9 with fail
 generalize w4.alloc (.cells #[.int .u64 (hiW L0),.int .u64 (loW L0)] 105)=v4 at *
 clear bL
 generalize w4.heap.size=k6 at *
 have HV:Hid (St6 w (k3+1) k6 D0 L0 c v4):=⟨hS,td.c0,td.c1,tl.c0,tl.c1⟩
 have HS:Hid (St6 w (k3+1) k6 D0 L0 c v4.drew):=keep6 ⟨hS,td.c0,td.c1,tl.c0,tl.c1⟩ ((Below.refl _ _).drew)
 clear hS td tl
 go_region_held3 (fun x=>(x.cell? ⟨w.heap.size,0,none⟩=some (.int .i64 c.nodes)∧x.cell? ⟨w.heap.size,1,none⟩=some (.int .i64 c.queue)∧x.cell? ⟨w.heap.size,2,none⟩=some (.int .i64 c.limit)∧x.cell? ⟨w.heap.size,3,none⟩=some (.int .i64 c.age)∧x.cell? ⟨w.heap.size,4,none⟩=some (.int .i64 c.fair)∧x.cell? ⟨w.heap.size,5,none⟩=some (.int .i64 c.size)∧x.cell? ⟨w.heap.size,6,none⟩=some (.int .i64 c.period)∧x.cell? ⟨w.heap.size,7,none⟩=some (.int .i64 c.half)∧Below w.heap.size w x∧w.heap.size≤x.heap.size)∧x.cell? ⟨k3+1,0,none⟩=some (.int .u64 (hiW D0))∧x.cell? ⟨k3+1,1,none⟩=some (.int .u64 (loW D0))∧x.cell? ⟨k6,0,none⟩=some (.int .u64 (hiW L0))∧x.cell? ⟨k6,1,none⟩=some (.int .u64 (loW L0))) (first | exact HS.out | exact HY.out | exact HX.out | exact far6 HY.out HX.out | exact far6 HY.out HV.out | exact far6 HY.out HS.out | exact keep6 HY.out ((Below.refl _ _).alloc (Nat.le_refl _) _) | exact keep6 (by assumption) (by assumption) | exact keep6 (by assumption) ((Below.refl _ _).alloc (Nat.le_refl _) _) | exact keep6 HS.out ((Below.refl _ _).alloc (Nat.le_refl _) _) | exact far6 (by assumption) (by assumption) | exact far6 (by assumption) HS.out | exact keep6 HX.out ((Below.refl _ _).alloc (Nat.le_refl _) _))
  (first
   | (go_at_call 79;refine(c4 _).mono ?_;rintro e x ⟨rfl,hx⟩;have HX:Hid (St6 w (k3+1) k6 D0 L0 c x):=keep6 (by first | exact HS.out | assumption) hx;obtain⟨hc1,hf1⟩:=bkeep hx)
   | (go_at_call 78;refine(c6 _).mono ?_;rintro e x ⟨rfl,hx⟩;have HY:Hid (St6 w (k3+1) k6 D0 L0 c x):=keep6 (by first | exact HX.out | assumption) hx;obtain⟨hc3,hf3⟩:=bkeep hx;(first | (have g3:=trans_keep hc1 hc3;have j3:=trans_keepF hc1 hf1 hf3) | skip)))
 all_goals
  rename_i h6x
  have h6:St6 w (k3+1) k6 D0 L0 c _:=h6x
  clear h6x
  obtain⟨sd,d0,d1,l0,l1⟩:=id h6
  have B6:=sd.bel
  clear h6 sd HS HX HY HV
  go_wp2_with fail
  refine(c7 _).mono ?_
  rintro e w9 ⟨rfl,b9⟩
  have B9:=B6.trans (b9.mono B6.size)
  clear b9 B6 d0 d1 l0 l1
  by_cases hq:P0<L0
  ·have ec:cmpV L0 P0=1:=by unfold cmpV;rw [if_neg (by omega),if_neg (by omega)]
   rw [ec]
   go_wp2
   go_ret
   exact⟨by first | rfl | (rw [if_pos (by omega)];rfl),B9⟩
  ·have ec:¬0<cmpV L0 P0:=by unfold cmpV;split<;>(try split)<;>omega
   generalize cmpV L0 P0=q at ec ⊢
   go_wp2
   go_ret
   exact⟨by first | rfl | (rw [if_neg (by omega)];rfl),B9⟩
theorem rcheck_any (c:Cf) (w:World):Calls Tryz.prog 35 #[cfV c] w fun e w'=>e=.returned (.int .i64 (chkZ c))∧Below w.heap.size w w':=by
 unfold chkZ
 by_cases r:Rng c
 ·rw [if_neg (fun h=>h r)]
  by_cases hm:2147483648<mZ c
  ·rw [if_pos hm]
   exact rcheck_usage r hm w
  ·rw [if_neg hm]
   exact rcheck_rest r (by omega) w
 ·rw [if_pos r]
  exact rcheck_range r w
end Go.Proofs.YtceoibfliggalaaGreatDoor
