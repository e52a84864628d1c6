import Derived.Test.YtdhifkbbjlhcaaaGreatDoorKz3
import Derived.Test.YtdhifkbbjlhcaaaGreatDoorKz5
set_option maxRecDepth 20000
set_option maxHeartbeats 4000000
set_option linter.defProp false
namespace Go.Proofs.YtdhifkbbjlhcaaaGreatDoor
open Go.Proofs.Tryz
variable {c:Cg.Cf} {w x:ay}
section
open Go.RowKit Wd Cg
def gY (c:Cf):Value:=.agg #[J c.nodes,J c.queue,J c.limit,J c.age,J c.fair,J c.size,J c.period,J c.half]
def xS (n a b:Int):Bool:=decide (a<=n)&&decide (n<=b)
def zS (n a b:Int) (w:ay):Calls prog 88 #[J n,J a,J b] w fun e w'=>e=.returned (.bool (xS n a b))/\w'=w:=by
 unfold xS;by_cases h1:a<=n
 ·rw[dS h1];by_cases h2:n<=b
  ·rw[dS h2];exact Xe
  ·rw[dH h2];exact Xe
 ·rw[dH h1];exact Xe
def ZY {a b:Int} (h0:0<=a) (h1:1<=b) (h2:a+b<9223372036854775808) (w:ay):Calls prog 139 #[J a,J b] w fun e w'=>e=.returned (J (vU a b))/\w'=w:=by
 have e1:Int.tdiv (a+b - 1) b=vU a b:=SG ak;have e2:vU a b<=a+b - 1:=GX _ ak;have e3:0<=vU a b:=uG ak ak;have w1:wrap64 (a+b)=a+b:=by unfold wrap64;omega
 have w2:wrap64 (a+b - 1)=a+b - 1:=by unfold wrap64;omega
 have w3:wrap64 (vU a b)=vU a b:=by unfold wrap64;omega
 have nz:¬b=0:=ak;go_enter func139,ntmps139;go_wp2;go_ret;exact⟨by simp[*],rfl⟩
def afE {p h:Int} (hp:1<=p) (hp':p<=1048576) (hh:1<=h) (hh':h<=1073741824) (w:ay):
  Calls prog 138 #[J p,J h] w fun e w'=>e=.returned (O (p*4294967296 / h))/\w'=w:=by
 have e1:IntKind.u64.wrap p=p:=by rw[d_];omega
 have e2:IntKind.u64.wrap h=h:=by rw[d_];omega
 have e3:IntKind.u64.wrap (p*4294967296)=p*4294967296:=by rw[d_];omega
 have e4:0<=p*4294967296 / h:=uG ak ak;have e5:p*4294967296 / h<=p*4294967296:=GX _ ak;have e6:IntKind.u64.wrap (p*4294967296 / h)=p*4294967296 / h:=by rw[d_];omega
 have e7:¬h=0:=ak;go_enter func138,ntmps138;go_wp2;go_ret;exact⟨by simp[*],rfl⟩
def akH (c:Cf):Bool:=xS c.nodes 1 256&&xS c.queue 1 128&&xS c.limit 1 1048576&&xS c.age 1 1048576&&xS c.fair 0 1048576&&xS c.size 0 1048576&&xS c.period 1 1048576&&xS c.half 1 1073741824
def Qj (c:Cf):akH c=true↔nJ c:=by
 unfold akH xS;simp only[lW,nS];constructor
 ·rintro ⟨⟨⟨⟨⟨⟨⟨⟨_,_⟩,_,_⟩,_,_⟩,_,_⟩,_,_⟩,_,_⟩,_,_⟩,_,_⟩;constructor<;>assumption
 ·rintro ⟨_,_,_,_,_,_,_,_,_,_,_,_,_,_,_,_⟩;omega
def ayy {a b c d e f g h r1 r2:Bool} (h1:(a&&b&&c)=r1) (h2:(d&&e&&f)=r2):(a&&b&&c&&d&&e&&f&&g&&h)=(r1&&r2&&g&&h):=by grind
def Qk (x0 x1 x2 x3 x4 x5 x6 x7:Int) (w:ay):Calls prog 45 #[.agg #[J x0,J x1,J x2,J x3,J x4,J x5,J x6,J x7]] w fun e w'=>
  e=.returned (.bool (xS x0 1 256&&xS x1 1 128&&xS x2 1 1048576&&xS x3 1 1048576&&xS x4 0 1048576&&xS x5 0 1048576&&xS x6 1 1048576&&xS x7 1 1073741824))/\Z w w':=by
 have⟨W,hW⟩:=aZ (w.alloc (.cells #[J x0,J x1,J x2,J x3,J x4,J x5,J x6,J x7] 23));have bW:Z w W:=by rw[← hW];exact dY
 have hB:W.heap[w.heap.size]?=some (.cells #[J x0,J x1,J x2,J x3,J x4,J x5,J x6,J x7] 23 (0,0)):=by rw[← hW];exact aK w _
 have q0:=fK 0 hB;have q1:=fK 1 hB;have q2:=fK 2 hB;have q3:=fK 3 hB;have q4:=fK 4 hB;have q5:=fK 5 hB;have q6:=fK 6 hB;have q7:=fK 7 hB;have HB:Hid _:=bW;clear bW hB;go_enter func45,ntmps45;go_upto_region 1 with fail
 go_cut [3] (fun p wc=>p=.bool (xS x0 1 256&&xS x1 1 128&&xS x2 1 1048576)/\W=wc)
 case first=>
  cases b0:xS x0 1 256<;>cases b1:xS x1 1 128<;>cases b2:xS x2 1 1048576<;>(go_wp2_with (go_at_call 88;refine(zS _ _ _ _).mono ?_;rintro e w' ⟨rfl,rfl⟩);go_meet;exact⟨by simp[*],rfl⟩)
 case rest=>
  obtain⟨rfl,rfl⟩:=hcut;go_upto_region 2 with fail
  go_cut [4] (fun p wc=>p=.bool (xS x3 1 1048576&&xS x4 0 1048576&&xS x5 0 1048576)/\W=wc)
  case first=>
   cases b3:xS x3 1 1048576<;>cases b4:xS x4 0 1048576<;>cases b5:xS x5 0 1048576<;>(go_wp2_with (go_at_call 88;refine(zS _ _ _ _).mono ?_;rintro e w' ⟨rfl,rfl⟩);go_meet;exact⟨by simp[*],rfl⟩)
  case rest=>
   obtain⟨rfl,rfl⟩:=hcut;generalize h1:(xS x0 1 256&&xS x1 1 128&&xS x2 1 1048576)=r1;generalize h2:(xS x3 1 1048576&&xS x4 0 1048576&&xS x5 0 1048576)=r2;have H1:Hid (_=r1):=h1;have H2:Hid (_=r2):=h2;clear h1 h2
   cases r1<;>cases r2<;>cases b6:xS x6 1 1048576<;>cases b7:xS x7 1 1073741824<;>(go_wp2_with (go_at_call 88;refine(zS _ _ _ _).mono ?_;rintro e w' ⟨rfl,rfl⟩);go_ret;exact⟨by show Ending.returned _=_;rw[ayy H1.out H2.out,b6,b7];rfl,HB.out⟩)
def zT (c:Cf) (w:ay):Calls prog 45 #[gY c] w fun e w'=>e=.returned (.bool (akH c))/\Z w w':=
 Qk _ _ _ _ _ _ _ _ w
def St (w:ay) (g:Nat) (c:Cf) (x:ay):Prop:=x.cell? ⟨g,0,none⟩=some (J c.nodes)/\x.cell? ⟨g,1,none⟩=some (J c.queue)/\x.cell? ⟨g,2,none⟩=some (J c.limit)/\x.cell? ⟨g,3,none⟩=some (J c.age)/\x.cell? ⟨g,4,none⟩=some (J c.fair)/\x.cell? ⟨g,5,none⟩=some (J c.size)/\x.cell? ⟨g,6,none⟩=some (J c.period)/\x.cell? ⟨g,7,none⟩=some (J c.half)/\Z w x/\w.heap.size<=x.heap.size
abbrev cS (w:ay) (c:Cf) (x:ay):Prop:=x.cell? ⟨w.heap.size,0,none⟩=some (J c.nodes)/\x.cell? ⟨w.heap.size,1,none⟩=some (J c.queue)/\x.cell? ⟨w.heap.size,2,none⟩=some (J c.limit)/\x.cell? ⟨w.heap.size,3,none⟩=some (J c.age)/\x.cell? ⟨w.heap.size,4,none⟩=some (J c.fair)/\x.cell? ⟨w.heap.size,5,none⟩=some (J c.size)/\x.cell? ⟨w.heap.size,6,none⟩=some (J c.period)/\x.cell? ⟨w.heap.size,7,none⟩=some (J c.half)/\Z w x/\w.heap.size<=x.heap.size
def St.new (w:ay) (c:Cf):St w w.heap.size c (w.alloc (.cells #[J c.nodes,J c.queue,J c.limit,J c.age,J c.fair,J c.size,J c.period,J c.half] 23)):=
 ⟨by simp,by simp,by simp,by simp,by simp,by simp,by simp,by simp,dY,by simp⟩
def keepW {w x y:ay} {g:Nat} (h:St w g c x) (b:Z x y):St w g c y:=by
 grind[aQ,kR,jm,gN,St]
theorem St.dQ {g:Nat} (h:St w g c x):Z w x:=h.2.2.2.2.2.2.2.2.1
def afF (r:nJ c) (w:ay):Calls prog 89 #[gY c] w fun e w'=>e=.returned (J (cZ c))/\Z w w':=by
 have hb:=wF r;have e1:wrap64 (c.nodes*c.period)=cZ c:=by have h:cZ c=c.nodes*c.period:=rfl;rw[← h];unfold wrap64;omega
 unfold gY;go_enter func89,ntmps89;go_wp2;go_ret;exact⟨by simp[e1],dY⟩
def afG (r:nJ c) (w:ay):Calls prog 90 #[gY c] w fun e w'=>e=.returned (J (kZ c))/\Z w w':=by
 have he:=afo r;have hu:=Xu he.1;have cE:=afE r.p0 r.p1 r.h0 r.h1;rw[show c.period*4294967296 / c.half=eZ c from rfl]at cE;have cU:=ZY (a:=8589934592) (b:=eZ c) ak ak ak;have hk:kZ c=if vU 8589934592 (eZ c)<2 then 2 else vU 8589934592 (eZ c):=rfl;rw[hk];clear hk;have ec:wrap64 (eZ c)=eZ c:=by unfold wrap64;omega
 generalize vU 8589934592 (eZ c)=k at *;generalize eZ c=ee at *;unfold gY;by_cases h2:k<2
 ·rw[aJ h2];exact anN
 ·rw[au h2];exact anN
def abr (r:nJ c) (w:ay):Calls prog 70 #[gY c] w fun e w'=>e=.returned (J (dU c))/\Z w w':=by
 have hb:=nT r;have hl:=zF r;have ha:=r.a0;have hf:=r.f0;have hf1:=r.f1;have e1:wrap64 (c.size*c.nodes)=c.size*c.nodes:=by unfold wrap64;omega
 have e2:wrap64 (c.fair+c.size*c.nodes)=iy c:=by have h:iy c=c.fair+c.size*c.nodes:=rfl;rw[← h];unfold wrap64;omega
 have e3:Int.tdiv (iy c) c.age=dU c:=SG ak;have e4:wrap64 (dU c)=dU c:=by unfold wrap64;omega
 have nz:¬c.age=0:=ak;unfold gY;go_enter func70,ntmps70;exact P5
def XF (r:nJ c) (w:ay):Calls prog 46 #[gY c] w fun e w'=>e=.returned (J (mZ c))/\Z w w':=by
 have hb:=NR r;have hc:=wF r;have e1:IntKind.i64.wrap (cZ c*kZ c)=mZ c:=by have h:mZ c=cZ c*kZ c:=rfl;rw[← h,fO];omega
 have cC:=afF r;have cK:=afG r;generalize cZ c=C0 at *;generalize kZ c=K0 at *;generalize mZ c=M0 at *;unfold gY at *;have HS:Hid (St w w.heap.size c (w.alloc (.cells #[J c.nodes,J c.queue,J c.limit,J c.age,J c.fair,J c.size,J c.period,J c.half] 23)).drew):=keepW (St.new w c) ((aI _ _).drew);clear hb hc;go_enter func46,ntmps46;go_upto_region 1 with fail
 go_region_held3 (cS w c) (first | exact HS.out | exact keepW lV lV)
  (first
   | (go_at_call 89;refine(cC _).mono ?_;rintro e x ⟨rfl,hx⟩)
   | (go_at_call 90;refine(cK _).mono ?_;rintro e x ⟨rfl,hx⟩))
 have hS:St w w.heap.size c x:=lV;have hB:=hS.dQ;clear hS HS;go_wp2;go_ret;exact⟨rfl,hB⟩
def apP (r:nJ c) (hm:mZ c<=2147483648) (w:ay):Calls prog 93 #[gY c] w fun e w'=>e=.returned (J (gZ c))/\Z w w':=by
 have hb:=NR r;have hc:=wF r;have hg:=Tc r hm;have e0:IntKind.i64.wrap (mZ c*81)=mZ c*81:=by rw[fO];omega
 have e1:IntKind.i64.wrap (1+vU (mZ c*81) 2147483648)=1+vU (mZ c*81) 2147483648:=by rw[fO];omega
 have e2:IntKind.i64.wrap (kZ c*(1+vU (mZ c*81) 2147483648))=gZ c:=by have h:gZ c=kZ c*(1+vU (mZ c*81) 2147483648):=rfl;rw[← h,fO];omega
 have cK:=afG r;have cM:=XF r;have cU:∀w,Calls prog 139 #[J (mZ c*81),J 2147483648] w fun e w'=>e=.returned (J (vU (mZ c*81) 2147483648))/\Z w w':=fun w=>(ZY (a:=mZ c*81) (b:=2147483648) ak ak ak w).mono fun e w' h=>⟨h.1,by rw[h.2];exact aI _ _⟩;clear hb hc hg hm;generalize mZ c=M0 at *;generalize vU (M0*81) 2147483648=U0 at *;generalize kZ c=K0 at *;generalize gZ c=G0 at *;unfold gY at *;have HS:Hid (St w w.heap.size c (w.alloc (.cells #[J c.nodes,J c.queue,J c.limit,J c.age,J c.fair,J c.size,J c.period,J c.half] 23)).drew):=keepW (St.new w c) ((aI _ _).drew);go_enter func93,ntmps93;go_upto_region 1 with fail
 go_region_held3 (cS w c) (first | exact HS.out | exact keepW lV lV)
  (first
   | (go_at_call 90;refine(cK _).mono ?_;rintro e x ⟨rfl,hx⟩)
   | (go_at_call 46;refine(cM _).mono ?_;rintro e x ⟨rfl,hx⟩)
   | (go_at_call 139;refine(cU _).mono ?_;rintro e x ⟨rfl,hx⟩))
 all_goals
  have hS:St w w.heap.size c x:=lV
  have hB:=hS.dQ
  clear hS HS
  go_wp2
  go_ret
  exact⟨rfl,hB⟩
def Kn (r:nJ c) (w:ay):Calls prog 35 #[gY c] w fun e w'=>e=.returned (J (bH c))/\Z w w':=by
 have hb:=wG r;have hl:=zF r;have e0:IntKind.i64.wrap (dU c+1)=dU c+1:=by rw[fO];omega
 have e1:IntKind.i64.wrap (c.queue*c.limit)=c.queue*c.limit:=by rw[fO];omega
 have e2:IntKind.i64.wrap (dU c+1+c.queue*c.limit)=bH c:=by have h:bH c=dU c+1+c.queue*c.limit:=rfl;rw[← h,fO];omega
 have cL:=abr r;clear hb hl;generalize dU c=L0 at *;generalize bH c=B0 at *;unfold gY at *;have HS:Hid (St w w.heap.size c (w.alloc (.cells #[J c.nodes,J c.queue,J c.limit,J c.age,J c.fair,J c.size,J c.period,J c.half] 23)).drew):=keepW (St.new w c) ((aI _ _).drew);go_enter func35,ntmps35;go_upto_region 1 with fail
 go_region_held3 (cS w c) (first | exact HS.out | exact keepW lV lV)
  (first | (go_at_call 70;refine(cL _).mono ?_;rintro e x ⟨rfl,hx⟩))
 all_goals
  have hS:St w w.heap.size c x:=lV
  have hB:=hS.dQ
  clear hS HS
  go_wp2
  go_ret
  exact⟨rfl,hB⟩
abbrev nu (v:Int):Value:=.agg #[O (bY v),O (cu v)]
def TJ {u v:Int} (hu:0<=u) (hv:0<=v) (h:u+v<=top) (w:ay):
  Calls prog 94 #[nu u,nu v] w fun e w'=>e=.returned (.tuple #[nu (u+v),.bool true])/\Z w w':=by
 have c:=Td (bY u) (cu u) (bY v) (cu v) (lS ⟨hu,by omega⟩) (jP u) (lS ⟨hv,by omega⟩) (jP v) w;rw[iO,iO,show dJ u v=u+v by unfold dJ;rw[aJ h],show wu u v=true by unfold wu;exact dS h]at c;exact c
def CP {u b:Int} (hu:Num u) (hb:Word b) (h:u*b<=top) (w:ay):
  Calls prog 48 #[nu u,O b] w fun e w'=>e=.returned (.tuple #[nu (u*b),.bool true])/\Z w w':=by
 have c:=Xx (bY u) (cu u) b (lS hu) (jP u) hb w;rw[iO,show zq u b=u*b by unfold zq;rw[aJ h],show IK u b=true by unfold IK;exact dS h]at c;exact c
def afH (u v:Int) (w:ay):Calls prog 49 #[nu u,nu v] w fun e w'=>e=.returned (J (kU u v))/\Z w w':=by
 have c:=aft (bY u) (cu u) (bY v) (cu v) (jP u) (jP v) w;rw[iO,iO]at c;exact c
def afI {n:Int} (hn:Word n) (w:ay):Calls prog 91 #[O n] w fun e w'=>e=.returned (nu n)/\Z w w':=akv n hn w
def Z4 {x y:Int} (hx:Word x) (hy:Word y) (w:ay):Calls prog 92 #[O x,O y] w fun e w'=>e=.returned (nu (x*y))/\Z w w':=zH x y hx hy w
structure Two (w:ay) (k:Nat) (v:Int):Prop where
 c0:w.cell? ⟨k,0,none⟩=some (O (bY v))
 c1:w.cell? ⟨k,1,none⟩=some (O (cu v))
 f0:w.frozen? ⟨k,0,none⟩=false
 f1:w.frozen? ⟨k,1,none⟩=false
def Two.keep {w w':ay} {k:Nat} {v:Int} (h:Two w k v) (b:Z w w'):Two w' k v:=
 ⟨aQ b h.c0,aQ b h.c1,jQ b h.c0 h.f0,jQ b h.c1 h.f1⟩
def Two.new (w:ay) (v:Int):Two (w.alloc (.cells #[O (bY v),O (cu v)] 89)) w.heap.size v:=
 ⟨by simp,by simp,by simp_all,by simp_all⟩
def abt (h0:c.fair=0) (w:ay):Calls prog 47 #[gY c] w fun e w'=>e=.returned (.tuple #[nu (oJ c),nu (nK c)])/\Z w w':=by
 have e1:oJ c=0:=by unfold oJ;rw[aJ h0]
 have e2:nK c=1:=by unfold nK;rw[aJ h0]
 rw[e1,e2];have c1:=afI (n:=1) ⟨by omega,by omega⟩;rw[show nu 0=.agg #[O 0,O 0]from rfl];rw[show nu 1=.agg #[O 0,O 1]from rfl]at *;unfold gY;rw[h0];go_enter func47,ntmps47;go_wp2_with fail
 obtain⟨v0,hv0⟩:∃v0:ay,v0=((w.alloc (.cells #[J c.nodes,J c.queue,J c.limit,J c.age,J 0,J c.size,J c.period,J c.half] 23)).alloc (.cells #[O 0,O 0] 89)).alloc (.cells #[O 0,O 0] 89):=⟨_,rfl⟩;have B0:Z w v0:=by rw[hv0];exact(dY.alloc dF _).alloc fE _
 have t2:Two v0 (w.heap.size+1) 0:=by rw[hv0];exact⟨by simp[go_sem];rfl,by simp[go_sem];rfl,by simp[go_sem],by simp[go_sem]⟩
 have t3:Two v0 (w.heap.size+1+1) 0:=by rw[hv0];exact⟨by simp[go_sem];rfl,by simp[go_sem];rfl,by simp[go_sem],by simp[go_sem]⟩
 rw[← hv0];clear hv0;refine(c1 _).mono ?_;rintro e w1 ⟨rfl,b1⟩;have⟨p0,p1,p2,p3⟩:=t2.keep b1;have⟨q0,q1,q2,q3⟩:=t3.keep b1;have B1:=B0.trans (b1.mono B0.size);clear t2 t3 b1 B0 c1;go_wp2;refine b_ (v:=.tuple #[.agg #[O 0,O 0],.agg #[O 0,O 1]]) (by simp[results,results47,go_sem,p0,p1,q0,q1]) rfl ⟨rfl,?_⟩;exact(((B1.setCell dF _).setCell dF _).setCell fE _).setCell fE _
def put (w:ay) (k:Nat) (v:Int):World:=(w.setCell ⟨k,0,none⟩ (O (bY v))).setCell ⟨k,1,none⟩ (O (cu v))
def Two.put {k:Nat} {u:Int} (h:Two w k u) (v:Int):Two (put w k v) k v:=by
 obtain⟨a,b,c,d⟩:=h;unfold Go.Proofs.YtdhifkbbjlhcaaaGreatDoor.put;exact⟨by simp[go_sem, *],by simp[go_sem, *],by simp[go_sem, *],by simp[go_sem, *]⟩
def Two.far {k j:Nat} {u:Int} (h:Two w k u) (hj:k≠j) (v:Int):Two (Go.Proofs.YtdhifkbbjlhcaaaGreatDoor.put w j v) k u:=by
 obtain⟨a,b,c,d⟩:=h;unfold Go.Proofs.YtdhifkbbjlhcaaaGreatDoor.put;exact⟨by simp[go_sem, *],by simp[go_sem, *],by simp_all,by simp_all⟩
def St.far {g j:Nat} (h:St w g c x) (hj:g≠j) (hw:w.heap.size<=j) (v:Int):St w g c (put x j v):=by
 obtain⟨a0,a1,a2,a3,a4,a5,a6,a7,b,z⟩:=h;unfold put;refine⟨by simp[go_sem, *],by simp[go_sem, *],by simp[go_sem, *],by simp[go_sem, *],by simp[go_sem, *],by simp[go_sem, *],by simp[go_sem, *],by simp[go_sem, *],?_,by simp_all⟩;grind[Below.setCell]
def St5 (w:ay) (k5:Nat) (X0:Int) (c:Cf) (x:ay):Prop:=St w w.heap.size c x/\(x.cell? ⟨k5,0,none⟩=some (O (bY X0))/\x.cell? ⟨k5,1,none⟩=some (O (cu X0))/\x.frozen? ⟨k5,0,none⟩=false/\x.frozen? ⟨k5,1,none⟩=false)
def aoP {w x y:ay} {k5:Nat} {X0:Int} (h:St5 w k5 X0 c x) (b:Z x y):St5 w k5 X0 c y:=
 ⟨keepW h.1 b,aQ b h.2.1,aQ b h.2.2.1,jQ b h.2.1 h.2.2.2.1,jQ b h.2.2.1 h.2.2.2.2⟩
def abu (r:nJ c) (hm:mZ c<=2147483648) (h0:¬c.fair=0) (w:ay):Calls prog 47 #[gY c] w fun e w'=>e=.returned (.tuple #[nu (oJ c),nu (nK c)])/\Z w w':=by
 have e1:oJ c=(258048*gZ c+2*cZ c)*c.fair+cZ c*4294967296:=by unfold oJ;rw[au h0]
 have e2:nK c=cZ c*4294967296:=by unfold nK;rw[au h0]
 rw[e1,e2];have hc:=wF r;have hg:=Tc r hm;have ho:=Ji r hm;have hf0:=r.f0;have hf1:=r.f1;have tp:top=340282366920938463463374607431768211455:=rfl;have cC:=afF r;have cG:=apP r hm;have cD:=Z4 (x:=cZ c) (y:=4294967296) ⟨by omega,by omega⟩ ⟨by omega,by omega⟩;have cX:=Z4 (x:=258048) (y:=gZ c) ⟨by omega,by omega⟩ ⟨by omega,by omega⟩;have cO:=afI (n:=2*cZ c) ⟨by omega,by omega⟩;have cA:=TJ (u:=258048*gZ c) (v:=2*cZ c) ak ak ak;have cT:=CP (u:=258048*gZ c+2*cZ c) (b:=c.fair) ⟨by omega,by omega⟩ ⟨by omega,by omega⟩ ak;have cB:=TJ (u:=(258048*gZ c+2*cZ c)*c.fair) (v:=cZ c*4294967296) ak ak ak;have m1:IntKind.u64.wrap (cZ c)=cZ c:=by rw[d_];omega
 have m2:IntKind.u64.wrap (gZ c)=gZ c:=by rw[d_];omega
 have m3:IntKind.i64.wrap (2*cZ c)=2*cZ c:=by rw[fO];omega
 have m4:IntKind.u64.wrap (2*cZ c)=2*cZ c:=by rw[d_];omega
 have m5:IntKind.u64.wrap c.fair=c.fair:=by rw[d_];omega
 clear e1 e2 hc hg ho hf0 hf1 tp hm;generalize hX0:258048*gZ c=X0 at *;generalize hV0:X0+2*cZ c=V0 at *;generalize hT0:V0*c.fair=T0 at *;generalize hD0:cZ c*4294967296=D0 at *;generalize hE0:2*cZ c=E0 at *;generalize gZ c=G0 at *;generalize cZ c=C0 at *;clear hX0 hV0 hT0 hD0;have HE:Hid _:=hE0;generalize T0+D0=R0 at *;unfold gY at *;go_enter func47,ntmps47;go_wp2_with fail
 obtain⟨v0,hv0⟩:∃v0:ay,v0=((w.alloc (.cells #[J c.nodes,J c.queue,J c.limit,J c.age,J c.fair,J c.size,J c.period,J c.half] 23)).alloc (.cells #[O 0,O 0] 89)).alloc (.cells #[O 0,O 0] 89):=⟨_,rfl⟩;have hS:St w w.heap.size c v0:=by rw[hv0];exact keepW (keepW (St.new w c) dY) dY
 have t2:Two v0 (w.heap.size+1) 0:=by rw[hv0];exact⟨by simp[go_sem];rfl,by simp[go_sem];rfl,by simp[go_sem],by simp[go_sem]⟩
 have t3:Two v0 (w.heap.size+1+1) 0:=by rw[hv0];exact⟨by simp[go_sem];rfl,by simp[go_sem];rfl,by simp[go_sem],by simp[go_sem]⟩
 rw[← hv0];clear hv0;refine(cC _).mono ?_;rintro e w1 ⟨rfl,b1⟩;replace hS:=keepW hS b1;replace t2:=t2.keep b1;replace t3:=t3.keep b1;clear b1;go_wp2_with fail
 refine(cD _).mono ?_;rintro e w2 ⟨rfl,b2⟩;replace hS:=keepW hS b2;replace t2:=t2.keep b2;replace t3:=t3.keep b2;clear b2;have hp:Two (w2.alloc (.cells #[O (bY D0),O (cu D0)] 89)) w2.heap.size D0/\Z w2 (w2.alloc (.cells #[O (bY D0),O (cu D0)] 89)):=⟨Two.new w2 D0,dY⟩;have aEO:w.heap.size+1+1<w2.heap.size:=by have:=aU w2 _ t3.c0;simpa using this
 have hlt:w.heap.size<w2.heap.size:=by have:=aU w2 _ hS.1;simpa using this
 go_upto_region 4 with fail
 generalize w2.alloc (.cells #[O (bY D0),O (cu D0)] 89)=v1 at *;obtain⟨t4,b2⟩:=hp;replace hS:=keepW hS b2;replace t2:=t2.keep b2;replace t3:=t3.keep b2;generalize w2.heap.size=k4 at *;clear b2;obtain⟨s0,s1,s2,s3,s4,s5,s6,s7,_,_⟩:=id hS;go_wp2_with fail
 refine(cG _).mono ?_;rintro e w3 ⟨rfl,b3⟩;clear s0 s1 s2 s3 s4 s5 s6 s7;replace hS:=keepW hS b3;replace t2:=t2.keep b3;replace t3:=t3.keep b3;replace t4:=t4.keep b3;clear b3;go_wp2_with fail
 refine(cX _).mono ?_;rintro e w4 ⟨rfl,b4⟩;replace hS:=keepW hS b4;replace t2:=t2.keep b4;replace t3:=t3.keep b4;replace t4:=t4.keep b4;clear b4;have hp:Two (w4.alloc (.cells #[O (bY X0),O (cu X0)] 89)) w4.heap.size X0/\Z w4 (w4.alloc (.cells #[O (bY X0),O (cu X0)] 89)):=⟨Two.new w4 X0,dY⟩;have aEP:k4<w4.heap.size:=by have:=aU w4 _ t4.c0;simpa using this
 have hlt2:w.heap.size+1<w4.heap.size:=by have:=aU w4 _ t2.c0;simpa using this
 have hlt3:w.heap.size+1+1<w4.heap.size:=by have:=aU w4 _ t3.c0;simpa using this
 go_upto_region 5 with fail
 generalize w4.alloc (.cells #[O (bY X0),O (cu X0)] 89)=v2 at *;obtain⟨t5,b2⟩:=hp;replace hS:=keepW hS b2;replace t2:=t2.keep b2;replace t3:=t3.keep b2;replace t4:=t4.keep b2;generalize w4.heap.size=k5 at *;clear b2;have cE:=cO;have HS:Hid (St w w.heap.size c v2.drew):=keepW hS ((aI _ _).drew);have td:=t5.keep ((aI _ _).drew);have CR:=t2.keep ((aI _ _).drew);have CS:=t3.keep ((aI _ _).drew);have Si:=t4.keep ((aI _ _).drew);have⟨g0,g1,g2,g3⟩:=id td;have n5:w.heap.size≠k5:=ak;have z5:w.heap.size<=k5:=ak;clear hS t2 t3 t4 t5;have sd:=HS.out;clear HS;obtain⟨s0,s1,s2,s3,s4,s5,s6,s7,_,_⟩:=id sd;go_region_with (first
   | (go_at_call 89;refine(cC _).mono ?_;rintro e x ⟨rfl,hx⟩;have hx':=hx;replace td:=Two.keep td hx';replace CR:=Two.keep CR hx';replace CS:=Two.keep CS hx';replace Si:=Two.keep Si hx';replace sd:=keepW sd hx';clear hx';have⟨g0,g1,g2,g3⟩:=id td;obtain⟨s0,s1,s2,s3,s4,s5,s6,s7,_,_⟩:=id sd)
   | (go_at_call 91;refine(cE _).mono ?_;rintro e x ⟨rfl,hx⟩;have hx':=hx;replace td:=Two.keep td hx';replace CR:=Two.keep CR hx';replace CS:=Two.keep CS hx';replace Si:=Two.keep Si hx';replace sd:=keepW sd hx';clear hx';have⟨g0,g1,g2,g3⟩:=id td;obtain⟨s0,s1,s2,s3,s4,s5,s6,s7,_,_⟩:=id sd)
   | (go_at_call 94;refine(cA _).mono ?_;rintro e x ⟨rfl,hx⟩;have hx':=hx;replace td:=Two.keep td hx';replace CR:=Two.keep CR hx';replace CS:=Two.keep CS hx';replace Si:=Two.keep Si hx';replace sd:=keepW sd hx';clear hx';have⟨g0,g1,g2,g3⟩:=id td;obtain⟨s0,s1,s2,s3,s4,s5,s6,s7,_,_⟩:=id sd))
 all_goals
  have n4:k4≠k5:=ak
  have n2:w.heap.size+1≠k5:=ak
  have n3:w.heap.size+1+1≠k5:=ak
  replace CR:=CR.far n2 V0
  replace CS:=CS.far n3 V0
  replace Si:=Si.far n4 V0
  replace sd:=sd.far n5 z5 V0
  replace td:=td.put V0
  clear s0 s1 s2 s3 s4 s5 s6 s7 g0 g1 g2 g3
  change Exit.then _ _ _ _ (put x k5 V0)
  generalize put x k5 V0=v3 at *
  have⟨g0,g1,g2,g3⟩:=id td
  obtain⟨s0,s1,s2,s3,s4,s5,s6,s7,_,_⟩:=id sd
  go_wp2_with fail
  refine(cT _).mono ?_
  rintro e w6 ⟨rfl,b6⟩
  replace td:=td.keep b6
  replace CR:=CR.keep b6
  replace CS:=CS.keep b6
  replace Si:=Si.keep b6
  replace sd:=keepW sd b6
  clear b6 s0 s1 s2 s3 s4 s5 s6 s7 g0 g1 g2 g3
  have⟨g0,g1,g2,g3⟩:=id td
  go_upto_region 7 with fail
  replace CR:=CR.far n2 T0
  replace CS:=CS.far n3 T0
  replace Si:=Si.far n4 T0
  replace sd:=sd.far n5 z5 T0
  replace td:=td.put T0
  clear g0 g1 g2 g3
  change Code.wp _ _ _ _ (put w6 k5 T0)
  generalize put w6 k5 T0=v4 at *
  have⟨g0,g1,g2,g3⟩:=id td
  have⟨q0,q1,q2,q3⟩:=id Si
  go_wp2_with fail
  refine(cB _).mono ?_
  rintro e w7 ⟨rfl,b7⟩
  replace td:=td.keep b7
  replace CR:=CR.keep b7
  replace CS:=CS.keep b7
  replace Si:=Si.keep b7
  replace sd:=keepW sd b7
  clear b7 g0 g1 g2 g3 q0 q1 q2 q3
  have⟨g0,g1,g2,g3⟩:=id td
  go_upto_region 8 with fail
  replace CR:=CR.far n2 R0
  replace CS:=CS.far n3 R0
  replace Si:=Si.far n4 R0
  replace sd:=sd.far n5 z5 R0
  replace td:=td.put R0
  clear g0 g1 g2 g3
  change Code.wp _ _ _ _ (put w7 k5 R0)
  generalize put w7 k5 R0=v5 at *
  have⟨g0,g1,g2,g3⟩:=id td
  have⟨q0,q1,q2,q3⟩:=id Si
  have⟨p0,p1,p2,p3⟩:=id CR
  have⟨u0,u1,u2,u3⟩:=id CS
  have B5:=sd.dQ
  have y1:¬k4=w.heap.size+1:=ak
  have y2:¬k4=w.heap.size+1+1:=ak
  have y3:¬k5=w.heap.size+1:=ak
  have y4:¬k5=w.heap.size+1+1:=ak
  have y5:¬w.heap.size+1=k4:=ak
  have y6:¬w.heap.size+1+1=k4:=ak
  have y7:¬w.heap.size+1=k5:=ak
  have y8:¬w.heap.size+1+1=k5:=ak
  go_region
  all_goals go_wp2
  all_goals refine b_ (v:=.tuple #[nu R0,nu D0]) (by simp[results,results47,go_sem,p0,p1,u0,u1]) rfl ⟨rfl,?_⟩
  all_goals repeat first | exact B5 | refine BN ?_ | refine Below.setCell ?_ (by first | (simp;done) | (simp;omega) | omega) _
def afJ (r:nJ c) (hm:mZ c<=2147483648) (w:ay):Calls prog 47 #[gY c] w fun e w'=>e=.returned (.tuple #[nu (oJ c),nu (nK c)])/\Z w w':=by
 by_cases h0:c.fair=0
 ·exact abt h0 w
 ·exact abu r hm h0 w
noncomputable def gq (c:Cf):Int:= @ite Int (¬nJ c) (Classical.propDecidable _) 110 (if 2147483648<mZ c then 111 else if nK c*pF c<oJ c*1000 then 113 else 0)
def Ql (r:¬nJ c) (w:ay):Calls prog 26 #[gY c] w fun e w'=>e=.returned (J 110)/\Z w w':=by
 have c1:=zT c;rw[show akH c=false from NA.2 fun h=>r ((Qj c).1 h)]at c1;unfold gY at *;have hS:=St.new w c;go_enter func26,ntmps26;go_wp2_with fail
 refine(c1 _).mono ?_;rintro e w1 ⟨rfl,b1⟩;replace hS:=keepW hS b1;clear b1;go_wp2;go_ret;exact⟨rfl,hS.dQ⟩
def Qm (r:nJ c) (hm:2147483648<mZ c) (w:ay):Calls prog 26 #[gY c] w fun e w'=>e=.returned (J 111)/\Z w w':=by
 have c1:=zT c;rw[(Qj c).2 r]at c1;have c2:=XF r;generalize mZ c=M0 at *;unfold gY at *;have hS:=St.new w c;go_enter func26,ntmps26;go_wp2_with fail
 refine(c1 _).mono ?_;rintro e w1 ⟨rfl,b1⟩;replace hS:=keepW hS b1;clear b1;obtain⟨s0,s1,s2,s3,s4,s5,s6,s7,_,_⟩:=id hS;go_wp2_with fail
 refine(c2 _).mono ?_;rintro e w2 ⟨rfl,b2⟩;replace hS:=keepW hS b2;clear b2;clear s0 s1 s2 s3 s4 s5 s6 s7;go_wp2;go_ret;exact⟨rfl,hS.dQ⟩
def xU {P w1 w2:ay} (h1:∀a,(P.cell? a).isSome=true->w1.cell? a=P.cell? a) (h2:∀a,(w1.cell? a).isSome=true->w2.cell? a=w1.cell? a):∀a,(P.cell? a).isSome=true->w2.cell? a=P.cell? a:=
 fun a h=>(h2 a (by grind)).trans (h1 a h)
def uT {P w1 w2:ay} (h1:∀a,(P.cell? a).isSome=true->w1.cell? a=P.cell? a) (f1:∀a,(P.cell? a).isSome=true->w1.frozen? a=P.frozen? a) (f2:∀a,(w1.cell? a).isSome=true->w2.frozen? a=w1.frozen? a):∀a,(P.cell? a).isSome=true->w2.frozen? a=P.frozen? a:=
 fun a h=>(f2 a (by grind)).trans (f1 a h)
def XG (w:ay) (kd kl:Nat) (D0 L0:Int) (c:Cf) (x:ay):Prop:=St w w.heap.size c x/\x.cell? ⟨kd,0,none⟩=some (O (bY D0))/\x.cell? ⟨kd,1,none⟩=some (O (cu D0))/\x.cell? ⟨kl,0,none⟩=some (O (bY L0))/\x.cell? ⟨kl,1,none⟩=some (O (cu L0))
def rQ {w x y:ay} {kd kl:Nat} {D0 L0:Int} (h:XG w kd kl D0 L0 c x) (b:Z x y):XG w kd kl D0 L0 c y:=
 ⟨keepW h.1 b,aQ b h.2.1,aQ b h.2.2.1,aQ b h.2.2.2.1,aQ b h.2.2.2.2⟩
def CU {w x u:ay} {kd kl:Nat} {D0 L0:Int} {a b:Value} (h:XG w kd kl D0 L0 c x) (hu:XG w kd kl D0 L0 c u):XG w kd kl D0 L0 c ((x.setCell ⟨u.heap.size,0,none⟩ a).setCell ⟨u.heap.size,1,none⟩ b):=by
 have n1:=aU u _ hu.1.1;have n2:=aU u _ hu.2.1;have n3:=aU u _ hu.2.2.2.1;simp only at n1 n2 n3;have y1:w.heap.size≠u.heap.size:=ak;have y2:kd≠u.heap.size:=ak;have y3:kl≠u.heap.size:=ak;have z:=hu.1.2.2.2.2.2.2.2.2.2;obtain⟨⟨a0,a1,a2,a3,a4,a5,a6,a7,bb,zz⟩,d0,d1,l0,l1⟩:=h;refine⟨⟨by simp[go_sem, *],by simp[go_sem, *],by simp[go_sem, *],by simp[go_sem, *],by simp[go_sem, *],by simp[go_sem, *],by simp[go_sem, *],by simp[go_sem, *],?_,by simp_all⟩,by simp[go_sem, *],by simp[go_sem, *],by simp[go_sem, *],by simp[go_sem, *]⟩;grind[Below.setCell]
def TL (r:nJ c) (hm:mZ c<=2147483648) (w:ay):Calls prog 26 #[gY c] w fun e w'=>e=.returned (J (if nK c*pF c<oJ c*1000 then 113 else 0))/\Z w w':=by
 have c1:=zT c;rw[(Qj c).2 r]at c1;have c2:=XF r;have c3:=afJ r hm;have c4:=Kn r;have ho:=Ji r hm;have hb:=wG r;have ht:=P_ r;have ha:=nT r;have tp:top=340282366920938463463374607431768211455:=rfl;have hq:pF c=c.age*bH c+c.fair+c.size*c.nodes:=by unfold pF iy;omega
 have hprod:=kV (a:=nK c) (b:=pF c) (A:=1152921504606846976) (B:=562949953421312) ak ak ak ak;have c5:=CP (u:=oJ c) (b:=1000) ⟨by omega,by omega⟩ ⟨by omega,by omega⟩ ak;have c6:=CP (u:=nK c) (b:=pF c) ⟨by omega,by omega⟩ ⟨by omega,by omega⟩ ak;have c7:=afH (oJ c*1000) (nK c*pF c);have a0:=r.a0;have a1:=r.a1;have f0:=r.f0;have f1:=r.f1;have e1:IntKind.i64.wrap (c.age*1099511627776)=c.age*1099511627776:=by rw[fO];omega
 have e2:IntKind.i64.wrap (c.age*1099511627776+c.fair)=c.age*1099511627776+c.fair:=by rw[fO];omega
 have e3:IntKind.i64.wrap (c.size*c.nodes)=c.size*c.nodes:=by rw[fO];omega
 have e4:IntKind.i64.wrap (c.age*1099511627776+c.fair+c.size*c.nodes)=c.age*1099511627776+c.fair+c.size*c.nodes:=by rw[fO];omega
 have e5:¬4611686018427387904<=c.age*1099511627776+c.fair+c.size*c.nodes:=ak;have e6:IntKind.i64.wrap (c.age*bH c)=c.age*bH c:=by rw[fO];omega
 have e7:IntKind.i64.wrap (c.age*bH c+c.fair)=c.age*bH c+c.fair:=by rw[fO];omega
 have e8:IntKind.i64.wrap (c.age*bH c+c.fair+c.size*c.nodes)=pF c:=by rw[← hq,fO];omega
 have e9:IntKind.u64.wrap (pF c)=pF c:=by rw[d_];omega
 have hm':¬2147483648<mZ c:=ak;clear ho hb ht ha tp hprod a0 a1 f0 f1 hm hq;generalize hL:oJ c*1000=L0 at *;generalize hR:nK c*pF c=P0 at *;clear hL hR;generalize bH c=B0 at *;generalize pF c=T0 at *;generalize mZ c=M0 at *;generalize oJ c=N0 at *;generalize nK c=D0 at *;unfold gY at *;have hS:=St.new w c;go_enter func26,ntmps26;go_wp2_with fail
 refine(c1 _).mono ?_;rintro e w1 ⟨rfl,b1⟩;replace hS:=keepW hS b1;clear b1;obtain⟨s0,s1,s2,s3,s4,s5,s6,s7,_,_⟩:=id hS;go_wp2_with fail
 refine(c2 _).mono ?_;rintro e w2 ⟨rfl,b2⟩;replace hS:=keepW hS b2;clear b2;clear s0 s1 s2 s3 s4 s5 s6 s7;obtain⟨s0,s1,s2,s3,s4,s5,s6,s7,_,_⟩:=id hS;go_wp2_with fail
 refine(c3 _).mono ?_;rintro e w3 ⟨rfl,b3⟩;replace hS:=keepW hS b3;clear b3;clear s0 s1 s2 s3 s4 s5 s6 s7;have bN:Z w3 (w3.alloc (.cells #[O (bY N0),O (cu N0)] 89)):=dY;have bD:Below (w3.alloc (.cells #[O (bY N0),O (cu N0)] 89)).heap.size (w3.alloc (.cells #[O (bY N0),O (cu N0)] 89)) ((w3.alloc (.cells #[O (bY N0),O (cu N0)] 89)).alloc (.cells #[O (bY D0),O (cu D0)] 89)):=dY;have tn:=(Two.new w3 N0).keep bD;have td:=Two.new (w3.alloc (.cells #[O (bY N0),O (cu N0)] 89)) D0;rw[iI]at td;replace hS:=keepW (keepW hS bN) bD;go_upto_region 8 with fail
 generalize (w3.alloc (.cells #[O (bY N0),O (cu N0)] 89)).alloc (.cells #[O (bY D0),O (cu D0)] 89)=v3 at *;clear bN bD;generalize w3.heap.size=k3 at *;obtain⟨p0,p1,_,_⟩:=id tn;go_wp2_with fail
 refine(c5 _).mono ?_;rintro e w4 ⟨rfl,b4⟩;replace hS:=keepW hS b4;replace td:=td.keep b4;clear b4 p0 p1 tn;have bL:Z w4 (w4.alloc (.cells #[O (bY L0),O (cu L0)] 89)):=dY;have tl:=Two.new w4 L0;replace hS:=keepW hS bL;replace td:=td.keep bL;go_upto_region 9 with fail
 generalize w4.alloc (.cells #[O (bY L0),O (cu L0)] 89)=v4 at *;clear bL;generalize w4.heap.size=k6 at *;have HV:Hid (XG w (k3+1) k6 D0 L0 c v4):=⟨hS,td.c0,td.c1,tl.c0,tl.c1⟩;have HS:Hid (XG w (k3+1) k6 D0 L0 c v4.drew):=rQ ⟨hS,td.c0,td.c1,tl.c0,tl.c1⟩ ((aI _ _).drew);clear hS td tl;go_region_held3 (fun x=>(x.cell? ⟨w.heap.size,0,none⟩=some (J c.nodes)/\x.cell? ⟨w.heap.size,1,none⟩=some (J c.queue)/\x.cell? ⟨w.heap.size,2,none⟩=some (J c.limit)/\x.cell? ⟨w.heap.size,3,none⟩=some (J c.age)/\x.cell? ⟨w.heap.size,4,none⟩=some (J c.fair)/\x.cell? ⟨w.heap.size,5,none⟩=some (J c.size)/\x.cell? ⟨w.heap.size,6,none⟩=some (J c.period)/\x.cell? ⟨w.heap.size,7,none⟩=some (J c.half)/\Z w x/\w.heap.size<=x.heap.size)/\x.cell? ⟨k3+1,0,none⟩=some (O (bY D0))/\x.cell? ⟨k3+1,1,none⟩=some (O (cu D0))/\x.cell? ⟨k6,0,none⟩=some (O (bY L0))/\x.cell? ⟨k6,1,none⟩=some (O (cu L0))) (first | exact HS.out | exact HY.out | exact HX.out | exact CU HY.out HX.out | exact CU HY.out HV.out | exact CU HY.out HS.out | exact rQ HY.out dY | exact rQ lV lV | exact rQ lV dY | exact rQ HS.out dY | exact CU lV lV | exact CU lV HS.out | exact rQ HX.out dY)
  (first
   | (go_at_call 35;refine(c4 _).mono ?_;rintro e x ⟨rfl,hx⟩;have HX:Hid (XG w (k3+1) k6 D0 L0 c x):=rQ (by first | exact HS.out | assumption) hx;have⟨hc1,hf1⟩:=zG hx)
   | (go_at_call 48;refine(c6 _).mono ?_;rintro e x ⟨rfl,hx⟩;have HY:Hid (XG w (k3+1) k6 D0 L0 c x):=rQ (by first | exact HX.out | assumption) hx;have⟨hc3,hf3⟩:=zG hx;(first | (have g3:=xU hc1 hc3;have j3:=uT hc1 hf1 hf3) | skip)))
 all_goals
  rename_i h6x
  have h6:XG w (k3+1) k6 D0 L0 c _:=h6x
  clear h6x
  have⟨sd,d0,d1,l0,l1⟩:=id h6
  have B6:=sd.dQ
  clear h6 sd HS HX HY HV
  go_wp2_with fail
  refine(c7 _).mono ?_
  rintro e w9 ⟨rfl,b9⟩
  have B9:=B6.trans (b9.mono B6.size)
  clear b9 B6 d0 d1 l0 l1
  by_cases hq:P0<L0
  ·have ec:kU L0 P0=1:=by unfold kU;rw[au ak,au ak]
   rw[ec]
   go_wp2
   go_ret
   exact⟨by first | rfl | (rw[aJ ak];rfl),B9⟩
  ·have ec:¬0<kU L0 P0:=by unfold kU;split<;>(try split)<;>omega
   generalize kU L0 P0=q at ec ⊢
   go_wp2
   go_ret
   exact⟨by first | rfl | (rw[au ak];rfl),B9⟩
def CV (c:Cf) (w:ay):Calls prog 26 #[gY c] w fun e w'=>e=.returned (J (gq c))/\Z w w':=by
 unfold gq;by_cases r:nJ c
 ·rw[au (fun h=>h r)];by_cases hm:2147483648<mZ c
  ·rw[aJ hm];exact Qm r hm w
  ·rw[au hm];exact TL r ak w
 ·rw[aJ r];exact Ql r w
def Qn (h:gq c=0):nJ c/\mZ c<=2147483648/\oJ c*1000<=nK c*pF c:=by
 grind[gq]
def XH (h:gq c=0) (w:ay):Calls prog 18 #[gY c] w fun e w'=>e=.returned (J (bH c))/\Z w w':=by
 have c1:=CV c;obtain⟨r,hm,_⟩:=Qn h;rw[h]at c1;have c2:=Kn r;generalize bH c=L0 at *;unfold gY at *;have hS:=St.new w c;go_enter func18,ntmps18;exact anC
end
namespace Cg
def mD (a f:Int):Int:=a*f / 9223372036854775808
def BQ (c:Cf) (now sub nodes f:Int):Int:=c.age*(now - sub)+mD c.fair f+c.size*nodes
structure Sm (c:Cf) (now sub nodes:Int):Prop where
 w0:0<=sub
 w1:sub<=now
 w2:now<=1099511627776
 w3:1<=nodes
 w4:nodes<=c.nodes
instance (c:Cf) (now sub nodes:Int):Decidable (Sm c now sub nodes):=decidable_of_iff (0<=sub/\sub<=now/\now<=1099511627776/\1<=nodes/\nodes<=c.nodes) ⟨fun h=>⟨h.1,h.2.1,h.2.2.1,h.2.2.2.1,h.2.2.2.2⟩,fun h=>⟨h.w0,h.w1,h.w2,h.w3,h.w4⟩⟩
noncomputable def nC (c:Cf) (now sub nodes f:Int):Int:=if gq c=0/\Sm c now sub nodes/\f<=9223372036854775808 then BQ c now sub nodes f else 0
def N9 {now sub nodes f:Int} (h1:gq c=0) (h2:Sm c now sub nodes) (h3:f<=9223372036854775808):nC c now sub nodes f=BQ c now sub nodes f:=aJ ⟨h1,h2,h3⟩
def xV (h:gq c=0):nJ c:=by
 grind[gq]
def Ko {a f:Int} (a0:0<=a) (f0:0<=f) (f1:f<=9223372036854775808):0<=mD a f/\mD a f<=a:=by
 unfold mD;have h1:=kV a0 f0 (kL a) f1;omega
def N_ {a f g:Int} (a0:0<=a) (h:f<=g):mD a f<=mD a g:=by
 unfold mD;have h1:=sZ h a0;omega
def TM {now sub nodes f:Int} (r:nJ c) (h:Sm c now sub nodes) (f0:0<=f) (f1:f<=9223372036854775808):
  (0<=now - sub/\now - sub<=1099511627776)/\(0<=c.age*(now - sub)/\c.age*(now - sub)<=1152921504606846976)/\(0<=mD c.fair f/\mD c.fair f<=1048576)/\(0<=c.size*nodes/\c.size*nodes<=268435456):=by
 have:=r.a0;have:=r.a1;have:=r.f0;have:=r.f1;have:=r.s0;have:=r.s1;have:=r.n1
 have:=h.w0;have:=h.w1;have:=h.w2;have:=h.w3;have:=h.w4
 have h1:=kV (a:=c.age) (b:=now - sub) (A:=1048576) (B:=1099511627776) ak ak ak ak;have h2:=kV (a:=c.size) (b:=nodes) (A:=1048576) (B:=256) ak ak ak ak;have h3:=Ko (a:=c.fair) ak f0 f1;omega
def abv {now elder later n1 n2 low high:Int} (r:nJ c) (h1:Sm c now elder n1) (h2:Sm c now later n2) (l0:0<=low) (hl:low<=high) (hh:high<=9223372036854775808)
  (h:dU c<later - elder):BQ c now later n2 high<BQ c now elder n1 low:=by
 have b1:=TM r h1 l0 ak;have hs:=sZ h2.w4 r.s0;have hp:=Ko (a:=c.fair) r.f0 (by omega:(0:Int)<=high) hh;have ha:=r.a0;have e1:iy c<c.age*(dU c+1):=by unfold dU;have h3:=Int.lt_mul_ediv_self_add (x:=iy c) (k:=c.age) ak;rw[Int.mul_add,Int.mul_one];exact h3
 have e2:c.age*(dU c+1)<=c.age*(later - elder):=sZ ak ak;have e3:c.age*(now - elder)=c.age*(now - later)+c.age*(later - elder):=by rw[← Int.mul_add];congr 1;omega
 unfold BQ;unfold iy at e1;omega
def G_ {now sub n low high:Int} (r:nJ c) (hl:low<=high):BQ c now sub n low<=BQ c now sub n high:=by
 have:=N_ (a:=c.fair) r.f0 hl;unfold BQ;omega
end Cg
end Go.Proofs.YtdhifkbbjlhcaaaGreatDoor
