import Derived.Test.YtdhifkbbjlhcaaaGreatDoorKz8
import Derived.Test.YtdhifkbbjlhcaaaGreatDoorKz11
import Derived.Laws.ByValue
import Derived.WalkSmall
set_option maxRecDepth 20000
set_option maxHeartbeats 2000000
set_option linter.defProp false
namespace Go.Proofs.YtdhifkbbjlhcaaaGreatDoor
open Go.Proofs.Tryz
variable {D0 f:Int} {c:Cg.Cf} {w x:ay}
section
open Go.RowKit Wd Cg
def St.Nj (w:ay) (c:Cf):St w w.heap.size c (w.alloc (.cells #[J c.nodes,J c.queue,J c.limit,J c.age,J c.fair,J c.size,J c.period,J c.half] 116)):=
 ⟨by simp,by simp,by simp,by simp,by simp,by simp,by simp,by simp,dY,by simp⟩
def Ab (r:nJ c) (w:ay):Calls prog 170 #[gY c] w fun e w'=>e=.returned (J (cZ c))/\Z w w':=by
 have hb:=wF r;have e1:wrap64 (c.nodes*c.period)=cZ c:=by have h:cZ c=c.nodes*c.period:=rfl;rw[← h];unfold wrap64;omega
 unfold gY;go_enter func170,ntmps170;go_wp2;go_ret;exact⟨by simp[e1],dY⟩
def Ad (r:nJ c) (w:ay):Calls prog 124 #[gY c] w fun e w'=>e=.returned (J (iy c))/\Z w w':=by
 have hb:=nT r;have hf:=r.f0;have hf1:=r.f1;have e1:wrap64 (c.size*c.nodes)=c.size*c.nodes:=by unfold wrap64;omega
 have e2:wrap64 (c.fair+c.size*c.nodes)=iy c:=by have h:iy c=c.fair+c.size*c.nodes:=rfl;rw[← h];unfold wrap64;omega
 unfold gY;go_enter func124,ntmps124;exact P5
def abQ (r:nJ c) (w:ay):Calls prog 214 #[gY c] w fun e w'=>e=.returned (J (dU c))/\Z w w':=by
 have hb:=nT r;have hl:=zF r;have ha:=r.a0;have e3:IntKind.i64.wrap (Int.tdiv (iy c) c.age)=dU c:=by rw[show Int.tdiv (iy c) c.age=dU c from SG ak,fO];omega
 have nz:¬c.age=0:=ak;have cW:=Ad r;clear hb hl ha;generalize iy c=A0 at *;generalize dU c=L0 at *;unfold gY at *;have HS:Hid (St w w.heap.size c (w.alloc (.cells #[J c.nodes,J c.queue,J c.limit,J c.age,J c.fair,J c.size,J c.period,J c.half] 116)).drew):=keepW (St.Nj w c) ((aI _ _).drew);go_enter func214,ntmps214;exact anF
def KR (r:nJ c) (w:ay):Calls prog 169 #[gY c] w fun e w'=>e=.returned (J (bH c))/\Z w w':=by
 have hb:=wG r;have hl:=zF r;have e0:IntKind.i64.wrap (dU c+1)=dU c+1:=by rw[fO];omega
 have e1:IntKind.i64.wrap (c.queue*c.limit)=c.queue*c.limit:=by rw[fO];omega
 have e2:IntKind.i64.wrap (dU c+1+c.queue*c.limit)=bH c:=by have h:bH c=dU c+1+c.queue*c.limit:=rfl;rw[← h,fO];omega
 have cL:=abQ r;clear hb hl;generalize dU c=L0 at *;generalize bH c=B0 at *;unfold gY at *;have HS:Hid (St w w.heap.size c (w.alloc (.cells #[J c.nodes,J c.queue,J c.limit,J c.age,J c.fair,J c.size,J c.period,J c.half] 116)).drew):=keepW (St.Nj w c) ((aI _ _).drew);go_enter func169,ntmps169;go_upto_region 1 with fail
 go_region_held3 (cS w c) (first | exact HS.out | exact keepW lV lV)
  (first
   | (go_at_call 214;refine(cL _).mono ?_;rintro e x ⟨rfl,hx⟩))
 all_goals
  have hS:St w w.heap.size c x:=lV
  have hB:=hS.dQ
  clear hS HS
  go_wp2
  go_ret
  exact⟨rfl,hB⟩
def XU (r:nJ c) (w:ay):Calls prog 127 #[gY c] w fun e w'=>e=.returned (J (pF c))/\Z w w':=by
 have hb:=P_ r;have hl:=nT r;have e1:IntKind.i64.wrap (c.age*bH c)=c.age*bH c:=by rw[fO];omega
 have e2:IntKind.i64.wrap (c.age*bH c+iy c)=pF c:=by have h:pF c=c.age*bH c+iy c:=rfl;rw[← h,fO];omega
 have cB:=KR r;have cW:=Ad r;clear hb hl;generalize iy c=A0 at *;generalize bH c=B0 at *;generalize pF c=T0 at *;unfold gY at *;have HS:Hid (St w w.heap.size c (w.alloc (.cells #[J c.nodes,J c.queue,J c.limit,J c.age,J c.fair,J c.size,J c.period,J c.half] 116)).drew):=keepW (St.Nj w c) ((aI _ _).drew);go_enter func127,ntmps127;go_upto_region 1 with fail
 go_region_held3 (cS w c) (first | exact HS.out | exact keepW lV lV)
  (first
   | (go_at_call 169;refine(cB _).mono ?_;rintro e x ⟨rfl,hx⟩)
   | (go_at_call 124;refine(cW _).mono ?_;rintro e x ⟨rfl,hx⟩))
 all_goals
  have hS:St w w.heap.size c x:=lV
  have hB:=hS.dQ
  clear hS HS
  go_wp2
  go_ret
  exact⟨rfl,hB⟩
def aln {u b:Int} (hb:0<b):BP u b=vU u b:=by
 have e:=yE u b;have m0:=yC u (show b≠0 by omega);have m1:=yD u hb;unfold BP vU;split
 ·rename_i h;have z:(b - 1) / b=0:=GY ak ak;rw[show u+b - 1=(b - 1)+b*(u / b) by omega,Int.add_mul_ediv_left _ _ (show b≠0 by omega),z];omega
 ·rename_i h;have z:(u % b - 1) / b=0:=GY ak ak;rw[show u+b - 1=(u % b - 1)+b*(u / b+1) by grind,Int.add_mul_ediv_left _ _ (show b≠0 by omega),z];omega
def OA (r:nJ c) (w:ay):Calls prog 171 #[gY c] w fun e w'=>e=.returned (J (kZ c))/\Z w w':=by
 have he:=afo r;have hu:=Xu he.1;have p0:=r.p0;have p1:=r.p1;have h0:=r.h0;have h1:=r.h1;have d1:dnV (c.period*4294967296) c.half=eZ c:=by unfold dnV jF;rw[au ak,show c.period*4294967296 / c.half=eZ c from rfl,aJ ak]
 have d2:upV (2*4294967296) (eZ c)=vU 8589934592 (eZ c):=by unfold upV jF;rw[au ak,show (2:Int)*4294967296=8589934592 from rfl,aln ak,aJ ak]
 have cD:=Hl c.period c.half ⟨by omega,by omega⟩ ⟨by omega,by omega⟩;have cU:=abD 2 (eZ c) ⟨by omega,by omega⟩ ⟨by omega,by omega⟩;rw[d1]at cD;rw[d2]at cU;have e1:IntKind.u64.wrap c.period=c.period:=by rw[d_];omega
 have e2:IntKind.u64.wrap c.half=c.half:=by rw[d_];omega
 have e3:IntKind.i64.wrap (vU 8589934592 (eZ c))=vU 8589934592 (eZ c):=by rw[fO];omega
 have hk:kZ c=if vU 8589934592 (eZ c)<2 then 2 else vU 8589934592 (eZ c):=rfl;rw[hk];clear hk d1 d2 he p0 p1 h0 h1;generalize dnB (c.period*4294967296) c.half=b1 at *;generalize upB (2*4294967296) (eZ c)=b2 at *;generalize vU 8589934592 (eZ c)=k at *;generalize eZ c=ee at *;unfold gY;have hS:=St.Nj w c;by_cases h2:k<2
 ·rw[aJ h2];go_enter func171,ntmps171;go_wp2_with fail
  refine(cD _).mono ?_;rintro e w1 ⟨rfl,bb1⟩;go_wp2_with fail
  refine(cU _).mono ?_;rintro e w2 ⟨rfl,bb2⟩;have hB:=(keepW (keepW hS bb1) bb2).dQ;clear hS bb1 bb2 cD cU;go_wp2;go_ret;exact⟨rfl,hB⟩
 ·rw[au h2];go_enter func171,ntmps171;go_wp2_with fail
  refine(cD _).mono ?_;rintro e w1 ⟨rfl,bb1⟩;go_wp2_with fail
  refine(cU _).mono ?_;rintro e w2 ⟨rfl,bb2⟩;have hB:=(keepW (keepW hS bb1) bb2).dQ;clear hS bb1 bb2 cD cU;go_wp2
  all_goals
   go_ret
   exact⟨by first | rfl | (rw[show k=2 by omega];rfl),hB⟩
def OB (r:nJ c) (w:ay):Calls prog 123 #[gY c] w fun e w'=>e=.returned (J (mZ c))/\Z w w':=by
 have hb:=NR r;have hc:=wF r;have e1:IntKind.i64.wrap (cZ c*kZ c)=mZ c:=by have h:mZ c=cZ c*kZ c:=rfl;rw[← h,fO];omega
 have cC:=Ab r;have cK:=OA r;clear hb hc;generalize cZ c=C0 at *;generalize kZ c=K0 at *;generalize mZ c=M0 at *;unfold gY at *;have HS:Hid (St w w.heap.size c (w.alloc (.cells #[J c.nodes,J c.queue,J c.limit,J c.age,J c.fair,J c.size,J c.period,J c.half] 116)).drew):=keepW (St.Nj w c) ((aI _ _).drew);go_enter func123,ntmps123;go_upto_region 1 with fail
 go_region_held3 (cS w c) (first | exact HS.out | exact keepW lV lV)
  (first
   | (go_at_call 170;refine(cC _).mono ?_;rintro e x ⟨rfl,hx⟩)
   | (go_at_call 171;refine(cK _).mono ?_;rintro e x ⟨rfl,hx⟩))
 all_goals
  have hS:St w w.heap.size c x:=lV
  have hB:=hS.dQ
  clear hS HS
  go_wp2
  go_ret
  exact⟨rfl,hB⟩
def abR (r:nJ c) (hm:mZ c<=2147483648) (w:ay):Calls prog 174 #[gY c] w fun e w'=>e=.returned (J (gZ c))/\Z w w':=by
 have hb:=NR r;have hc:=wF r;have hg:=Tc r hm;have e0:IntKind.i64.wrap (mZ c*81)=mZ c*81:=by rw[fO];omega
 have e3:IntKind.i64.wrap (mZ c*81+2147483648)=mZ c*81+2147483648:=by rw[fO];omega
 have e4:IntKind.i64.wrap (mZ c*81+2147483648 - 1)=mZ c*81+2147483648 - 1:=by rw[fO];omega
 have e5:IntKind.i64.wrap (Int.tdiv (mZ c*81+2147483648 - 1) 2147483648)=vU (mZ c*81) 2147483648:=by rw[show Int.tdiv (mZ c*81+2147483648 - 1) 2147483648=vU (mZ c*81) 2147483648 from SG ak,fO];omega
 have e1:IntKind.i64.wrap (1+vU (mZ c*81) 2147483648)=1+vU (mZ c*81) 2147483648:=by rw[fO];omega
 have e2:IntKind.i64.wrap (kZ c*(1+vU (mZ c*81) 2147483648))=gZ c:=by have h:gZ c=kZ c*(1+vU (mZ c*81) 2147483648):=rfl;rw[← h,fO];omega
 have cK:=OA r;have cM:=OB r;clear hb hc hg hm;generalize mZ c=M0 at *;generalize vU (M0*81) 2147483648=U0 at *;generalize kZ c=K0 at *;generalize gZ c=G0 at *;unfold gY at *;have HS:Hid (St w w.heap.size c (w.alloc (.cells #[J c.nodes,J c.queue,J c.limit,J c.age,J c.fair,J c.size,J c.period,J c.half] 116)).drew):=keepW (St.Nj w c) ((aI _ _).drew);go_enter func174,ntmps174;go_upto_region 1 with fail
 go_region_held3 (cS w c) (first | exact HS.out | exact keepW lV lV)
  (first
   | (go_at_call 171;refine(cK _).mono ?_;rintro e x ⟨rfl,hx⟩)
   | (go_at_call 123;refine(cM _).mono ?_;rintro e x ⟨rfl,hx⟩))
 all_goals
  have hS:St w w.heap.size c x:=lV
  have hB:=hS.dQ
  clear hS HS
  go_wp2
  go_ret
  exact⟨rfl,hB⟩
def XV {n:Int} (h0:0<=n) (h1:n<=2147483648) (w:ay):Calls prog 259 #[J n] w fun e w'=>e=.returned (O (n*4294967296))/\Z w w':=by
 have c1:=Z9 n ak;rw[show ofV n=n*4294967296 by unfold ofV jF;rw[au ak,aJ ak]]at c1;generalize n*4294967296=m at *;generalize ofB n=b at *;clear h0 h1;go_enter func259,ntmps259;go_wp2_with fail
 refine(c1 _).mono ?_;exact Xi
def agy {u v:Int} (hu:0<=u) (hv:0<=v) (h:u+v<=top) (w:ay):
  Calls prog 175 #[nu u,nu v] w fun e w'=>e=.returned (.tuple #[nu (u+v),.bool true])/\Z w w':=by
 have c:=Eh u v ⟨hu,by omega⟩ ⟨hv,by omega⟩ w;rw[show dJ u v=u+v by unfold dJ;rw[aJ h],show wu u v=true by unfold wu;exact dS h]at c;exact c
def KT {u b:Int} (hu:Num u) (hb:Word b) (h:u*b<=top) (w:ay):
  Calls prog 126 #[nu u,O b] w fun e w'=>e=.returned (.tuple #[nu (u*b),.bool true])/\Z w w':=by
 have c:=Om u b hu hb w;rw[show zq u b=u*b by unfold zq;rw[aJ h],show IK u b=true by unfold IK;exact dS h]at c;exact c
def alo (u v:Int) (w:ay):Calls prog 128 #[nu u,nu v] w fun e w'=>e=.returned (J (kU u v))/\Z w w':=by
 have c:=aku (bY u) (cu u) (bY v) (cu v) (jP u) (jP v) w;rw[iO,iO]at c;exact c
def agz {n:Int} (hn:Word n) (w:ay):Calls prog 172 #[O n] w fun e w'=>e=.returned (nu n)/\Z w w':=FX n hn w
def aaf {x y:Int} (hx:Word x) (hy:Word y) (w:ay):Calls prog 173 #[O x,O y] w fun e w'=>e=.returned (nu (x*y))/\Z w w':=nG x y hx hy w
def Two.aqj (w:ay) (v:Int):Two (w.alloc (.cells #[O (bY v),O (cu v)] 179)) w.heap.size v:=
 ⟨by simp,by simp,by simp_all,by simp_all⟩
def abS (w:ay) (c:Cf):World:=((w.alloc (.cells #[J c.nodes,J c.queue,J c.limit,J c.age,J c.fair,J c.size,J c.period,J c.half] 116)).alloc (.cells #[O 0,O 0] 179)).alloc (.cells #[O 0,O 0] 179)
def aag (w:ay) (c:Cf):St w w.heap.size c (abS w c):=keepW (keepW (St.Nj w c) dY) dY
def Uq (w:ay) (c:Cf):Two (abS w c) (w.heap.size+1) 0/\Two (abS w c) (w.heap.size+1+1) 0:=by
 unfold abS;exact⟨⟨by simp[go_sem];rfl,by simp[go_sem];rfl,by simp[go_sem],by simp[go_sem]⟩,⟨by simp[go_sem];rfl,by simp[go_sem];rfl,by simp[go_sem],by simp[go_sem]⟩⟩
def abT (h0:c.fair=0) (w:ay):Calls prog 125 #[gY c] w fun e w'=>e=.returned (.tuple #[nu (oJ c),nu (nK c)])/\Z w w':=by
 have e1:oJ c=0:=by unfold oJ;rw[aJ h0]
 have e2:nK c=1:=by unfold nK;rw[aJ h0]
 rw[e1,e2];have c0:=agz (n:=0) ⟨by omega,by omega⟩;have c1:=agz (n:=1) ⟨by omega,by omega⟩;rw[show nu 0=.agg #[O 0,O 0]from rfl]at *;rw[show nu 1=.agg #[O 0,O 1]from rfl]at *;have hS:=aag w c;have⟨t2,t3⟩:=Uq w c;unfold abS at hS t2 t3;unfold gY;rw[h0]at *;go_enter func125,ntmps125;go_wp2_with fail
 generalize ((w.alloc (.cells #[J c.nodes,J c.queue,J c.limit,J c.age,J 0,J c.size,J c.period,J c.half] 116)).alloc (.cells #[O 0,O 0] 179)).alloc (.cells #[O 0,O 0] 179)=v0 at *;refine(c0 _).mono ?_;rintro e w0 ⟨rfl,b0⟩;replace hS:=keepW hS b0;replace t2:=t2.keep b0;replace t3:=t3.keep b0;clear b0;go_wp2_with fail
 refine(c1 _).mono ?_;rintro e w1 ⟨rfl,b1⟩;have B1:=(keepW hS b1).dQ;have⟨p0,p1,p2,p3⟩:=t2.keep b1;have⟨q0,q1,q2,q3⟩:=t3.keep b1;clear t2 t3 b1 hS c1 c0;go_wp2;refine b_ (v:=.tuple #[.agg #[O 0,O 0],.agg #[O 0,O 1]]) (by simp[results,results125,go_sem,p0,p1,q0,q1]) rfl ⟨rfl,?_⟩;exact(((B1.setCell dF _).setCell dF _).setCell fE _).setCell fE _
def WO (w:ay) (D0:Int) (c:Cf) (x:ay):Prop:=(x.cell? ⟨w.heap.size,0,none⟩=some (J c.nodes)/\x.cell? ⟨w.heap.size,1,none⟩=some (J c.queue)/\x.cell? ⟨w.heap.size,2,none⟩=some (J c.limit)/\x.cell? ⟨w.heap.size,3,none⟩=some (J c.age)/\x.cell? ⟨w.heap.size,4,none⟩=some (J c.fair)/\x.cell? ⟨w.heap.size,5,none⟩=some (J c.size)/\x.cell? ⟨w.heap.size,6,none⟩=some (J c.period)/\x.cell? ⟨w.heap.size,7,none⟩=some (J c.half)/\Z w x/\w.heap.size<=x.heap.size)/\(x.cell? ⟨w.heap.size+1,0,none⟩=some (O (bY 0))/\x.cell? ⟨w.heap.size+1,1,none⟩=some (O (cu 0))/\x.frozen? ⟨w.heap.size+1,0,none⟩=false/\x.frozen? ⟨w.heap.size+1,1,none⟩=false)/\(x.cell? ⟨w.heap.size+1+1,0,none⟩=some (O (bY D0))/\x.cell? ⟨w.heap.size+1+1,1,none⟩=some (O (cu D0))/\x.frozen? ⟨w.heap.size+1+1,0,none⟩=false/\x.frozen? ⟨w.heap.size+1+1,1,none⟩=false)
def WO.of (h:St w w.heap.size c x) (a:Two x (w.heap.size+1) 0) (b:Two x (w.heap.size+1+1) D0):WO w D0 c x:=
 ⟨h,⟨a.c0,a.c1,a.f0,a.f1⟩,⟨b.c0,b.c1,b.f0,b.f1⟩⟩
theorem WO.st (h:WO w D0 c x):St w w.heap.size c x:=h.1
def WO.a (h:WO w D0 c x):Two x (w.heap.size+1) 0:=⟨h.2.1.1,h.2.1.2.1,h.2.1.2.2.1,h.2.1.2.2.2⟩
def WO.b (h:WO w D0 c x):Two x (w.heap.size+1+1) D0:=⟨h.2.2.1,h.2.2.2.1,h.2.2.2.2.1,h.2.2.2.2.2⟩
def WO.keep {w x y:ay} (h:WO w D0 c x) (b:Z x y):WO w D0 c y:=WO.of (keepW h.st b) (h.a.keep b) (h.b.keep b)
def abU (r:nJ c) (hm:mZ c<=2147483648) (h0:¬c.fair=0) (w:ay):Calls prog 125 #[gY c] w fun e w'=>e=.returned (.tuple #[nu (oJ c),nu (nK c)])/\Z w w':=by
 have e1:oJ c=cZ c*4294967296+c.fair*(258048*gZ c+2*cZ c):=by unfold oJ;rw[au h0,SC c.fair];omega
 have e2:nK c=cZ c*4294967296:=by unfold nK;rw[au h0]
 have hc:=wF r;have hg:=Tc r hm;have ho:=Ji r hm;have hf0:=r.f0;have hf1:=r.f1;have tp:top=340282366920938463463374607431768211455:=rfl;have hcm:(258048*gZ c+2*cZ c)*c.fair=c.fair*(258048*gZ c+2*cZ c):=SC _ _;rw[hcm]at ho;rw[e1,e2]at *;have cC:=Ab r;have cG:=abR r hm;have cD:=aaf (x:=cZ c) (y:=4294967296) ⟨by omega,by omega⟩ ⟨by omega,by omega⟩;have cX:=aaf (x:=c.fair) (y:=258048*gZ c+2*cZ c) ⟨by omega,by omega⟩ ⟨by omega,by omega⟩;have cA:=agy (u:=cZ c*4294967296) (v:=c.fair*(258048*gZ c+2*cZ c)) ak ak ak;have m1:IntKind.u64.wrap (cZ c)=cZ c:=by rw[d_];omega
 have m2:IntKind.i64.wrap (258048*gZ c)=258048*gZ c:=by rw[fO];omega
 have m3:IntKind.i64.wrap (2*cZ c)=2*cZ c:=by rw[fO];omega
 have m6:IntKind.i64.wrap (258048*gZ c+2*cZ c)=258048*gZ c+2*cZ c:=by rw[fO];omega
 have m4:IntKind.u64.wrap (258048*gZ c+2*cZ c)=258048*gZ c+2*cZ c:=by rw[d_];omega
 have m5:IntKind.u64.wrap c.fair=c.fair:=by rw[d_];omega
 clear e1 e2 hc hg ho hf0 hf1 tp hm hcm;generalize hV0:258048*gZ c+2*cZ c=V0 at *;generalize hT0:c.fair*V0=T0 at *;generalize hD0:cZ c*4294967296=D0 at *;clear hT0 hD0;replace hV0:Hid (258048*gZ c+2*cZ c=V0):=hV0;have m6':IntKind.i64.wrap (258048*gZ c+2*cZ c)=V0:=by rw[hV0.out];exact m6
 clear hV0 m6;generalize gZ c=G0 at *;generalize cZ c=C0 at *;generalize D0+T0=R0 at *;have hS:=aag w c;have⟨t2,t3⟩:=Uq w c;unfold abS at hS t2 t3;unfold gY at *;go_enter func125,ntmps125;go_wp2_with fail
 generalize ((w.alloc (.cells #[J c.nodes,J c.queue,J c.limit,J c.age,J c.fair,J c.size,J c.period,J c.half] 116)).alloc (.cells #[O 0,O 0] 179)).alloc (.cells #[O 0,O 0] 179)=v0 at *;refine(cC _).mono ?_;rintro e w1 ⟨rfl,b1⟩;replace hS:=keepW hS b1;replace t2:=t2.keep b1;replace t3:=t3.keep b1;clear b1;go_wp2_with fail
 refine(cD _).mono ?_;rintro e w2 ⟨rfl,b2⟩;replace hS:=keepW hS b2;replace t2:=t2.keep b2;replace t3:=t3.keep b2;clear b2;have⟨g0,g1,g2,g3⟩:=id t3;go_upto_region 4 with fail
 clear g0 g1 g2 g3;replace t2:=t2.far (show w.heap.size+1≠w.heap.size+1+1 by omega) D0;replace hS:=hS.far (show w.heap.size≠w.heap.size+1+1 by omega) ak D0;replace t3:=t3.put D0;change Code.wp _ _ _ _ (put w2 (w.heap.size+1+1) D0);generalize put w2 (w.heap.size+1+1) D0=v3 at *;have HS:Hid (WO w D0 c v3.drew):=(WO.of hS t2 t3).keep (aI _ _).drew;clear hS t2 t3;go_region_held3 (fun x=>(x.cell? ⟨w.heap.size,0,none⟩=some (J c.nodes)/\x.cell? ⟨w.heap.size,1,none⟩=some (J c.queue)/\x.cell? ⟨w.heap.size,2,none⟩=some (J c.limit)/\x.cell? ⟨w.heap.size,3,none⟩=some (J c.age)/\x.cell? ⟨w.heap.size,4,none⟩=some (J c.fair)/\x.cell? ⟨w.heap.size,5,none⟩=some (J c.size)/\x.cell? ⟨w.heap.size,6,none⟩=some (J c.period)/\x.cell? ⟨w.heap.size,7,none⟩=some (J c.half)/\Z w x/\w.heap.size<=x.heap.size)/\(x.cell? ⟨w.heap.size+1,0,none⟩=some (O (bY 0))/\x.cell? ⟨w.heap.size+1,1,none⟩=some (O (cu 0))/\x.frozen? ⟨w.heap.size+1,0,none⟩=false/\x.frozen? ⟨w.heap.size+1,1,none⟩=false)/\(x.cell? ⟨w.heap.size+1+1,0,none⟩=some (O (bY D0))/\x.cell? ⟨w.heap.size+1+1,1,none⟩=some (O (cu D0))/\x.frozen? ⟨w.heap.size+1+1,0,none⟩=false/\x.frozen? ⟨w.heap.size+1+1,1,none⟩=false)) (first | exact HS.out | exact WO.keep lV lV)
  (first
   | (go_at_call 174;refine(cG _).mono ?_;rintro e x ⟨rfl,hx⟩)
   | (go_at_call 170;refine(cC _).mono ?_;rintro e x ⟨rfl,hx⟩))
 all_goals
  have hO:WO w D0 c x:=lV
  have sd:=hO.st
  have CR:=hO.a
  have CS:=hO.b
  clear hO HS
  replace sd:=keepW sd (aI x.heap.size x).drew
  replace CR:=CR.keep (aI x.heap.size x).drew
  replace CS:=CS.keep (aI x.heap.size x).drew
  go_upto_region 5 with fail
  have⟨g0,g1,g2,g3⟩:=id CS
  have⟨p0,p1,p2,p3⟩:=id CR
  obtain⟨s0,s1,s2,s3,s4,s5,s6,s7,_,_⟩:=id sd
  go_region_with (first
   | (go_at_call 173;refine(cX _).mono ?_;rintro e y ⟨rfl,hy⟩;have hy':=hy;replace CR:=Two.keep CR hy';replace CS:=Two.keep CS hy';replace sd:=keepW sd hy';clear hy';have⟨g0,g1,g2,g3⟩:=id CS;have⟨p0,p1,p2,p3⟩:=id CR;obtain⟨s0,s1,s2,s3,s4,s5,s6,s7,_,_⟩:=id sd)
   | (go_at_call 175;refine(cA _).mono ?_;rintro e y ⟨rfl,hy⟩;have hy':=hy;replace CR:=Two.keep CR hy';replace CS:=Two.keep CS hy';replace sd:=keepW sd hy';clear hy';have⟨g0,g1,g2,g3⟩:=id CS;have⟨p0,p1,p2,p3⟩:=id CR;obtain⟨s0,s1,s2,s3,s4,s5,s6,s7,_,_⟩:=id sd))
 all_goals
  clear s0 s1 s2 s3 s4 s5 s6 s7 g0 g1 g2 g3 p0 p1 p2 p3
  replace CS:=CS.far (show w.heap.size+1+1≠w.heap.size+1 by omega) R0
  replace sd:=sd.far (show w.heap.size≠w.heap.size+1 by omega) ak R0
  replace CR:=CR.put R0
  change Exit.then _ _ _ _ (put y (w.heap.size+1) R0)
  generalize put y (w.heap.size+1) R0=v5 at *
  have⟨g0,g1,g2,g3⟩:=id CS
  have⟨p0,p1,p2,p3⟩:=id CR
  have B5:=sd.dQ
  clear sd CR CS
  go_upto_region 6 with fail
  go_region
 all_goals go_wp2
 all_goals refine b_ (v:=.tuple #[nu R0,nu D0]) (by simp[results,results125,go_sem,p0,p1,g0,g1]) rfl ⟨rfl,?_⟩
 all_goals repeat first | exact B5 | refine BN ?_ | refine Below.setCell ?_ (by first | (simp;done) | (simp;omega) | omega) _
def agA (r:nJ c) (hm:mZ c<=2147483648) (w:ay):Calls prog 125 #[gY c] w fun e w'=>e=.returned (.tuple #[nu (oJ c),nu (nK c)])/\Z w w':=by
 by_cases h0:c.fair=0
 ·exact abT h0 w
 ·exact abU r hm h0 w
def Ca (r:nJ c) (w:ay):Calls prog 74 #[gY c] w fun e w'=>e=.returned (J (if 2147483648<mZ c then 111 else 0))/\Z w w':=by
 have c1:=OB r;generalize mZ c=M0 at *;have hS:=St.Nj w c;unfold gY at *;by_cases h:2147483648<M0
 ·rw[aJ h];exact anU
 ·rw[au h];exact anU
def Nk (r:nJ c) (w:ay):Calls prog 75 #[gY c] w fun e w'=>e=.returned (J 0)/\Z w w':=by
 have cW:=Ad r;have ha:=nT r;have a0:=r.a0;have a1:=r.a1;have e1:IntKind.i64.wrap (c.age*1099511627776)=c.age*1099511627776:=by rw[fO];omega
 have e2:IntKind.i64.wrap (c.age*1099511627776+iy c)=c.age*1099511627776+iy c:=by rw[fO];omega
 have e5:¬4611686018427387904<=c.age*1099511627776+iy c:=ak;clear ha a0 a1;generalize iy c=A0 at *;unfold gY at *;have HS:Hid (St w w.heap.size c (w.alloc (.cells #[J c.nodes,J c.queue,J c.limit,J c.age,J c.fair,J c.size,J c.period,J c.half] 116)).drew):=keepW (St.Nj w c) ((aI _ _).drew);go_enter func75,ntmps75;exact anF
def Ga (r:nJ c) (hm:mZ c<=2147483648) (w:ay):Calls prog 76 #[gY c] w fun e w'=>e=.returned (J (if nK c*pF c<oJ c*1000 then 113 else 0))/\Z w w':=by
 have c3:=agA r hm;have c4:=XU r;have ho:=Ji r hm;have ht:=P_ r;have tp:top=340282366920938463463374607431768211455:=rfl;have hprod:=kV (a:=nK c) (b:=pF c) (A:=1152921504606846976) (B:=562949953421312) ak ak ak ak;have c5:=KT (u:=oJ c) (b:=1000) ⟨by omega,by omega⟩ ⟨by omega,by omega⟩ ak;have c6:=KT (u:=nK c) (b:=pF c) ⟨by omega,by omega⟩ ⟨by omega,by omega⟩ ak;have c7:=alo (oJ c*1000) (nK c*pF c);have e9:IntKind.u64.wrap (pF c)=pF c:=by rw[d_];omega
 clear ho ht tp hprod hm;generalize hL:oJ c*1000=L0 at *;generalize hR:nK c*pF c=P0 at *;clear hL hR;generalize pF c=T0 at *;generalize oJ c=N0 at *;generalize nK c=D0 at *;unfold gY at *;have hS:=St.Nj w c;go_enter func76,ntmps76;go_wp2_with fail
 refine(c3 _).mono ?_;rintro e w3 ⟨rfl,b3⟩;replace hS:=keepW hS b3;clear b3;have bN:Z w3 (w3.alloc (.cells #[O (bY N0),O (cu N0)] 179)):=dY;have bD:Below (w3.alloc (.cells #[O (bY N0),O (cu N0)] 179)).heap.size (w3.alloc (.cells #[O (bY N0),O (cu N0)] 179)) ((w3.alloc (.cells #[O (bY N0),O (cu N0)] 179)).alloc (.cells #[O (bY D0),O (cu D0)] 179)):=dY;have tn:=(Two.aqj w3 N0).keep bD;have td:=Two.aqj (w3.alloc (.cells #[O (bY N0),O (cu N0)] 179)) D0;rw[iI]at td;replace hS:=keepW (keepW hS bN) bD;go_upto_region 2 with fail
 generalize (w3.alloc (.cells #[O (bY N0),O (cu N0)] 179)).alloc (.cells #[O (bY D0),O (cu D0)] 179)=v3 at *;clear bN bD;generalize w3.heap.size=k3 at *;obtain⟨p0,p1,_,_⟩:=id tn;go_wp2_with fail
 refine(c5 _).mono ?_;rintro e w4 ⟨rfl,b4⟩;replace hS:=keepW hS b4;replace td:=td.keep b4;clear b4 p0 p1 tn;have bL:Z w4 (w4.alloc (.cells #[O (bY L0),O (cu L0)] 179)):=dY;have tl:=Two.aqj w4 L0;replace hS:=keepW hS bL;replace td:=td.keep bL;go_upto_region 3 with fail
 generalize w4.alloc (.cells #[O (bY L0),O (cu L0)] 179)=v4 at *;clear bL;generalize w4.heap.size=k6 at *;have HV:Hid (XG w (k3+1) k6 D0 L0 c v4):=⟨hS,td.c0,td.c1,tl.c0,tl.c1⟩;have HS:Hid (XG w (k3+1) k6 D0 L0 c v4.drew):=rQ ⟨hS,td.c0,td.c1,tl.c0,tl.c1⟩ ((aI _ _).drew);clear hS td tl;go_region_held3 (fun x=>(x.cell? ⟨w.heap.size,0,none⟩=some (J c.nodes)/\x.cell? ⟨w.heap.size,1,none⟩=some (J c.queue)/\x.cell? ⟨w.heap.size,2,none⟩=some (J c.limit)/\x.cell? ⟨w.heap.size,3,none⟩=some (J c.age)/\x.cell? ⟨w.heap.size,4,none⟩=some (J c.fair)/\x.cell? ⟨w.heap.size,5,none⟩=some (J c.size)/\x.cell? ⟨w.heap.size,6,none⟩=some (J c.period)/\x.cell? ⟨w.heap.size,7,none⟩=some (J c.half)/\Z w x/\w.heap.size<=x.heap.size)/\x.cell? ⟨k3+1,0,none⟩=some (O (bY D0))/\x.cell? ⟨k3+1,1,none⟩=some (O (cu D0))/\x.cell? ⟨k6,0,none⟩=some (O (bY L0))/\x.cell? ⟨k6,1,none⟩=some (O (cu L0))) (first | exact HS.out | exact HY.out | exact HX.out | exact CU HY.out HX.out | exact CU HY.out HV.out | exact CU HY.out HS.out | exact rQ HY.out dY | exact rQ lV lV | exact rQ lV dY | exact rQ HS.out dY | exact CU lV lV | exact CU lV HS.out | exact rQ HX.out dY)
  (first
   | (go_at_call 127;refine(c4 _).mono ?_;rintro e x ⟨rfl,hx⟩;have HX:Hid (XG w (k3+1) k6 D0 L0 c x):=rQ (by first | exact HS.out | assumption) hx;have⟨hc1,hf1⟩:=zG hx)
   | (go_at_call 126;refine(c6 _).mono ?_;rintro e x ⟨rfl,hx⟩;have HY:Hid (XG w (k3+1) k6 D0 L0 c x):=rQ (by first | exact HX.out | assumption) hx;have⟨hc3,hf3⟩:=zG hx;(first | (have g3:=xU hc1 hc3;have j3:=uT hc1 hf1 hf3) | skip)))
 all_goals
  rename_i h6x
  have h6:XG w (k3+1) k6 D0 L0 c _:=h6x
  clear h6x
  have⟨sd,d0,d1,l0,l1⟩:=id h6
  have B6:=sd.dQ
  clear h6 sd HS HX HY HV
  go_wp2_with fail
  refine(c7 _).mono ?_
  rintro e w9 ⟨rfl,b9⟩
  have B9:=B6.trans (b9.mono B6.size)
  clear b9 B6 d0 d1 l0 l1
  by_cases hq:P0<L0
  ·have ec:kU L0 P0=1:=by unfold kU;rw[au ak,au ak]
   rw[ec]
   go_wp2
   go_ret
   exact⟨by first | rfl | (rw[aJ ak];rfl),B9⟩
  ·have ec:¬0<kU L0 P0:=by unfold kU;split<;>(try split)<;>omega
   generalize kU L0 P0=q at ec ⊢
   go_wp2
   go_ret
   exact⟨by first | rfl | (rw[au ak];rfl),B9⟩
def tX (c:Cf):Nat->Int
 | 0=>c.nodes
 | 1=>c.queue
 | 2=>c.limit
 | 3=>c.age
 | 4=>c.fair
 | 5=>c.size
 | 6=>c.period
 | _=>c.half
def loZ:Nat->Int
 | 4=>0
 | 5=>0
 | _=>1
def hiZ:Nat->Int
 | 0=>256
 | 1=>128
 | 7=>1073741824
 | _=>1048576
def alr (c:Cf) {j:Nat} (hj:j<8) (w:ay):(Instr.index 178 (.agg #[J c.nodes,J 1,J 256,J c.queue,J 1,J 128,J c.limit,J 1,J 1048576,J c.age,J 1,J 1048576,J c.fair,J 0,J 1048576,J c.size,J 0,J 1048576,J c.period,J 1,J 1048576,J c.half,J 1,J 1073741824]) (J j)).run prog w=.ok (.agg #[J (tX c j),J (loZ j),J (hiZ j)]) w:=by
 obtain rfl | rfl | rfl | rfl | rfl | rfl | rfl | rfl:j=0\/j=1\/j=2\/j=3\/j=4\/j=5\/j=6\/j=7:=ak
 all_goals simp[Instr.index,rM underlying178,asIntOf,go_sem,tX,loZ,hiZ]
def QE:nJ c↔∀j,j<8->loZ j<=tX c j/\tX c j<=hiZ j:=by
 constructor
 ·intro r j hj;obtain⟨_,_,_,_,_,_,_,_,_,_,_,_,_,_,_,_⟩:=r;obtain rfl | rfl | rfl | rfl | rfl | rfl | rfl | rfl:j=0\/j=1\/j=2\/j=3\/j=4\/j=5\/j=6\/j=7:=ak
  all_goals simp only[tX,loZ,hiZ]
  all_goals omega
 ·intro h;have h0:=h 0 ak;have h1:=h 1 ak;have h2:=h 2 ak;have h3:=h 3 ak;have h4:=h 4 ak;have h5:=h 5 ak;have h6:=h 6 ak;have h7:=h 7 ak;exact⟨h0.1,h0.2,h1.1,h1.2,h2.1,h2.2,h3.1,h3.2,h4.1,h4.2,h5.1,h5.2,h6.1,h6.2,h7.1,h7.2⟩
def tY (c:Cf) {v0:Int} (hy:nJ c->v0=0) (hn:¬nJ c->v0=110) (w:ay):Calls prog 73 #[gY c] w fun e w'=>e=.returned (J v0)/\Z w w':=by
 have HY:Hid (nJ c->v0=0):=hy;have HN:Hid (¬nJ c->v0=110):=hn;clear hy hn;unfold gY;go_enter func73,ntmps73;go_wp2;go_loopg [30] 8 (fun gk v wr=>∃j:Nat,j+gk=8/\v=J (j:Int)/\Z w wr/\∀i,i<j->loZ i<=tX c i/\tX c i<=hiZ i)
 case atStart=>exact⟨0,by omega,rfl,dY,fun i hi=>absurd hi ak⟩
 case round=>
  obtain⟨j,hj,rfl,hB,hinv⟩:=hrel;replace hinv:Hid (∀i,i<j->loZ i<=tX c i/\tX c i<=hiZ i):=hinv;replace hB:Hid _:=hB;by_cases hlt:j<8
  ·have hlt':(j:Int)<8:=ak;have hi:=alr c hlt;have hB2:Hid (Z w (wr.alloc (.cells #[J (tX c j),J (loZ j),J (hiZ j)] 177))):=hB.out.alloc hB.out.size _;by_cases h1:tX c j<loZ j
   ·have e0:=HN.out fun r=>by have:=(QE.1 r j hlt).1;omega
    exact aoA
   ·by_cases h2:hiZ j<tX c j
    ·have e0:=HN.out fun r=>by have:=(QE.1 r j hlt).2;omega
     exact aoA
    ·have hnx:Hid (∀i,i<j+1->loZ i<=tX c i/\tX c i<=hiZ i):=fun i hi=>by
      by_cases he:i=j
      ·subst he;omega
      ·exact hinv.out i ak
     clear hinv;go_wp2;go_roundg (8 - (j+1))
     case measure=>omega
     case rel=>exact⟨j+1,by omega,by go_num,hB2.out,hnx.out⟩
  ·obtain rfl:j=8:=ak;have e0:=HY.out (QE.2 hinv.out);replace e0:Hid (v0=0):=e0;clear HY HN hinv;go_wp2;go_ret;exact⟨by rw[e0.out];rfl,hB.out⟩
def aqk (a b c d:Value) (w:ay):(Instr.index 118 (.agg #[a,b,c,d]) (J 0)).run prog w=.ok a w/\(Instr.index 118 (.agg #[a,b,c,d]) (J 1)).run prog w=.ok b w/\(Instr.index 118 (.agg #[a,b,c,d]) (J 2)).run prog w=.ok c w/\(Instr.index 118 (.agg #[a,b,c,d]) (J 3)).run prog w=.ok d w:=by
 refine⟨?_,?_,?_,?_⟩
 all_goals simp[Instr.index,rM underlying118,asIntOf,go_sem]
def Ae {e0 e1 e2 e3 v0:Int} (c0:∀w,Calls prog 73 #[gY c] w fun e w'=>e=.returned (J e0)/\Z w w')
  (c1:e0=0->∀w,Calls prog 74 #[gY c] w fun e w'=>e=.returned (J e1)/\Z w w')
  (c2:e0=0->e1=0->∀w,Calls prog 75 #[gY c] w fun e w'=>e=.returned (J e2)/\Z w w')
  (c3:e0=0->e1=0->e2=0->∀w,Calls prog 76 #[gY c] w fun e w'=>e=.returned (J e3)/\Z w w')
  (hv:v0=if e0=0 then(if e1=0 then(if e2=0 then e3 else e2)else e1)else e0) (w:ay):
  Calls prog 41 #[gY c] w fun e w'=>e=.returned (J v0)/\Z w w':=by
 replace hv:Hid (v0=if e0=0 then(if e1=0 then(if e2=0 then e3 else e2)else e1)else e0):=hv;replace c1:Hid (e0=0->∀w,Calls prog 74 #[gY c] w fun e w'=>e=.returned (J e1)/\Z w w'):=c1;replace c2:Hid (e0=0->e1=0->∀w,Calls prog 75 #[gY c] w fun e w'=>e=.returned (J e2)/\Z w w'):=c2;replace c3:Hid (e0=0->e1=0->e2=0->∀w,Calls prog 76 #[gY c] w fun e w'=>e=.returned (J e3)/\Z w w'):=c3;unfold gY at *;go_enter func41,ntmps41;go_wp2;go_loopg [17] 4 (fun gk v wr=>∃i:Int,i+gk=4/\0<=i/\v=J i/\Z w wr/\(1<=i->e0=0)/\(2<=i->e1=0)/\(3<=i->e2=0)/\(4<=i->e3=0))
 case atStart=>exact⟨0,by omega,by omega,rfl,dY.alloc dF _,by omega,by omega,by omega,by omega⟩
 case round=>
  obtain⟨i,hi,hi0,rfl,hB,h0,h1,h2,h3⟩:=hrel;replace hB:Hid _:=hB;have ix:=aqk;obtain rfl | rfl | rfl | rfl | rfl:i=0\/i=1\/i=2\/i=3\/i=4:=ak
  ·have ck:=c0;by_cases hz:e0=0
   ·have HR:Hid ((1<=(1:Int)->e0=0)/\(2<=(1:Int)->e1=0)/\(3<=(1:Int)->e2=0)/\(4<=(1:Int)->e3=0)):=⟨fun _=>by first | exact hz | exact h0 ak,fun h=>by first | exact hz | exact h1 ak | omega,fun h=>by first | exact hz | exact h2 ak | omega,fun h=>by first | exact hz | omega⟩;have hzn:(e0 != 0)=false:=(by simp[hz]);replace hz:Hid (e0=0):=hz;clear h0 h1 h2 h3 hz;go_wp2_with fail
    refine(ck _).mono ?_;rintro e w1 ⟨rfl,b1⟩;have B1:Hid _:=hB.out.trans (b1.mono hB.out.size);clear b1;go_wp2;go_roundg 3
    case measure=>omega
    case rel=>exact⟨1,by omega,by omega,by go_num,B1.out,HR.out⟩
   ·have HV:Hid (v0=e0):=by have h:=hv.out;rw[au hz]at h;exact h
    have hzn:(e0 != 0)=true:=(by simp[hz]);exact ZF
  ·have ck:=(c1.out (h0 ak));by_cases hz:e1=0
   ·have HR:Hid ((1<=(2:Int)->e0=0)/\(2<=(2:Int)->e1=0)/\(3<=(2:Int)->e2=0)/\(4<=(2:Int)->e3=0)):=⟨fun _=>by first | exact hz | exact h0 ak,fun h=>by first | exact hz | exact h1 ak | omega,fun h=>by first | exact hz | exact h2 ak | omega,fun h=>by first | exact hz | omega⟩;have hzn:(e1 != 0)=false:=(by simp[hz]);replace hz:Hid (e1=0):=hz;clear h0 h1 h2 h3 hz;go_wp2_with fail
    refine(ck _).mono ?_;rintro e w1 ⟨rfl,b1⟩;have B1:Hid _:=hB.out.trans (b1.mono hB.out.size);clear b1;go_wp2;go_roundg 2
    case measure=>omega
    case rel=>exact⟨2,by omega,by omega,by go_num,B1.out,HR.out⟩
   ·have HV:Hid (v0=e1):=by have h:=hv.out;rw[aJ (h0 ak),au hz]at h;exact h
    have hzn:(e1 != 0)=true:=(by simp[hz]);exact ZF
  ·have ck:=(c2.out (h0 ak) (h1 ak));by_cases hz:e2=0
   ·have HR:Hid ((1<=(3:Int)->e0=0)/\(2<=(3:Int)->e1=0)/\(3<=(3:Int)->e2=0)/\(4<=(3:Int)->e3=0)):=⟨fun _=>by first | exact hz | exact h0 ak,fun h=>by first | exact hz | exact h1 ak | omega,fun h=>by first | exact hz | exact h2 ak | omega,fun h=>by first | exact hz | omega⟩;have hzn:(e2 != 0)=false:=(by simp[hz]);replace hz:Hid (e2=0):=hz;clear h0 h1 h2 h3 hz;go_wp2_with fail
    refine(ck _).mono ?_;rintro e w1 ⟨rfl,b1⟩;have B1:Hid _:=hB.out.trans (b1.mono hB.out.size);clear b1;go_wp2;go_roundg 1
    case measure=>omega
    case rel=>exact⟨3,by omega,by omega,by go_num,B1.out,HR.out⟩
   ·have HV:Hid (v0=e2):=by have h:=hv.out;rw[aJ (h0 ak),aJ (h1 ak),au hz]at h;exact h
    have hzn:(e2 != 0)=true:=(by simp[hz]);exact ZF
  ·have ck:=(c3.out (h0 ak) (h1 ak) (h2 ak));by_cases hz:e3=0
   ·have HR:Hid ((1<=(4:Int)->e0=0)/\(2<=(4:Int)->e1=0)/\(3<=(4:Int)->e2=0)/\(4<=(4:Int)->e3=0)):=⟨fun _=>by first | exact hz | exact h0 ak,fun h=>by first | exact hz | exact h1 ak | omega,fun h=>by first | exact hz | exact h2 ak | omega,fun h=>by first | exact hz | omega⟩;have hzn:(e3 != 0)=false:=(by simp[hz]);replace hz:Hid (e3=0):=hz;clear h0 h1 h2 h3 hz;go_wp2_with fail
    refine(ck _).mono ?_;rintro e w1 ⟨rfl,b1⟩;have B1:Hid _:=hB.out.trans (b1.mono hB.out.size);clear b1;go_wp2;go_roundg 0
    case measure=>omega
    case rel=>exact⟨4,by omega,by omega,by go_num,B1.out,HR.out⟩
   ·have HV:Hid (v0=e3):=by have h:=hv.out;rw[aJ (h0 ak),aJ (h1 ak),aJ (h2 ak)]at h;exact h
    have hzn:(e3 != 0)=true:=(by simp[hz]);exact ZF
  ·have HV:Hid (v0=0):=by have h:=hv.out;rw[aJ (h0 ak),aJ (h1 ak),aJ (h2 ak),h3 ak]at h;exact h
   clear h0 h1 h2 h3;go_wp2;go_ret;exact⟨by rw[HV.out];rfl,hB.out⟩
def jA (c:Cf) (w:ay):Calls prog 41 #[gY c] w fun e w'=>e=.returned (J (gq c))/\Z w w':=by
 unfold gq;by_cases r:nJ c
 ·rw[au (fun h=>h r)];by_cases hm:2147483648<mZ c
  ·rw[aJ hm];exact Ae (e2:=0) (e3:=0) (tY c (fun _=>rfl) (fun h=>absurd r h)) (fun _=>Ca r) (fun _ h=>absurd h (by rw[aJ hm];omega)) (fun _ h=>absurd h (by rw[aJ hm];omega)) (by rw[aJ rfl,aJ hm,au ak]) w
  ·rw[au hm];exact Ae (tY c (fun _=>rfl) (fun h=>absurd r h)) (fun _=>Ca r) (fun _ _=>Nk r) (fun _ _ _=>Ga r ak) (by rw[aJ rfl,au hm,aJ rfl,aJ rfl]) w
 ·rw[aJ r];exact Ae (e1:=0) (e2:=0) (e3:=0) (tY c (fun h=>absurd h r) (fun _=>rfl)) (fun h=>absurd h ak) (fun h=>absurd h ak) (fun h=>absurd h ak) (by rw[au ak]) w
structure Jb where
 ac:Int
 nd:Int
 lm:Int
 sb:Int
 st:Int
 sr:Int
 en:Int
 set:Value
def jbV (j:Jb):Value:=.agg #[J j.ac,J j.nd,J j.lm,J j.sb,J j.st,J j.sr,J j.en,j.set]
def abV (c:Cf) (now:Int) (j:Jb) (w:ay):Calls prog 195 #[gY c,J now,jbV j] w fun e w'=>e=.returned (.bool (decide (Sm c now j.sb j.nd)))/\Z w w':=by
 unfold gY jbV;by_cases k0:0<=j.sb
 ·skip
  by_cases k1:j.sb<=now
  ·skip
   by_cases k2:now<=1099511627776
   ·skip
    by_cases k3:1<=j.nd
    ·skip
     by_cases k4:j.nd<=c.nodes
     ·skip
      have HD:Hid (decide (Sm c now j.sb j.nd)=true):=dS ⟨k0,k1,k2,k3,k4⟩;exact NM
     ·have HD:Hid (decide (Sm c now j.sb j.nd)=false):=dH (fun h=>k4 h.w4);exact NM
    ·have HD:Hid (decide (Sm c now j.sb j.nd)=false):=dH (fun h=>k3 h.w3);exact NM
   ·have HD:Hid (decide (Sm c now j.sb j.nd)=false):=dH (fun h=>k2 h.w2);exact NM
  ·have HD:Hid (decide (Sm c now j.sb j.nd)=false):=dH (fun h=>k1 h.w1);exact NM
 ·have HD:Hid (decide (Sm c now j.sb j.nd)=false):=dH (fun h=>k0 h.w0);exact NM
def auC (a b:Value) (w:ay):(Instr.field 179 (.agg #[a,b]) 1).run prog w=.ok b w:=by
 simp[Instr.field,rM underlying179,asAgg,part,isAgg,rM underlying40]
def agB {a f:Int} (a0:0<=a) (a1:a<=1048576) (f0:0<=f) (f1:f<=9223372036854775808):cu (uI (val (bY (a*f)) (cu (a*f))) 63)=mD a f:=by
 have h1:=kV a0 f0 a1 f1;grind[val,bY,cu,uI,mD]
def abW {a f:Int} (a0:0<=a) (a1:a<=1048576) (f0:0<=f) (f1:f<=9223372036854775808) (w:ay):Calls prog 196 #[J a,O f] w fun e w'=>e=.returned (J (mD a f))/\Z w w':=by
 have hb:=Ko a0 f0 f1;have h1:=kV a0 f0 a1 f1;have hwa:Word a:=⟨a0,by omega⟩;have hwf:Word f:=⟨f0,by omega⟩;have w1:Word (bY (a*f)):=by unfold Word bY;omega
 have w2:Word (cu (a*f)):=by unfold Word cu;omega
 have HP:Hid (cu (uI (val (bY (a*f)) (cu (a*f))) 63)=mD a f):=agB a0 a1 f0 f1;have HB:Hid (0<=mD a f/\mD a f<=1048576):=⟨hb.1,by omega⟩;have cm:=nG a f hwa hwf w;have HS:Hid (∀x,Calls prog 213 #[.agg #[O (bY (a*f)),O (cu (a*f))],J 63] x fun e w'=>e=.returned (.agg #[O (bY (uI (val (bY (a*f)) (cu (a*f))) 63)),O (cu (uI (val (bY (a*f)) (cu (a*f))) 63))])/\Z x w'):=fun x=>ZR _ _ 63 w1 w2 aT x;have a2:a<9223372036854775808:=ak;clear hb h1 w1 w2 f0 f1 a1;go_enter func196,ntmps196;go_wp2_with fail
 refine cm.mono ?_;rintro e x1 ⟨rfl,hb1⟩;have c2:=HS.out x1;clear cm;go_wp2_with fail
 refine c2.mono ?_;rintro e x2 ⟨rfl,hb2⟩;rw[HP.out];have hf:=auC (O (bY (uI (val (bY (a*f)) (cu (a*f))) 63))) (O (mD a f)) x2;have HB2:Hid _:=hb1.trans (hb2.mono hb1.size);generalize bY (uI (val (bY (a*f)) (cu (a*f))) 63)=X at *;clear c2 hb1 hb2 HP HS;have⟨p0,p1⟩:=HB.out;have p2:mD a f<9223372036854775808:=ak;clear p1 HB;have⟨Y,hY⟩:=aZ (mD a f);have HY:Hid (mD a f=Y):=hY;rw[hY]at hf p0 p2 ⊢;clear hY;generalize bY (a*f)=X1 at *;generalize cu (a*f)=X2 at *;go_wp2;go_ret;exact⟨by rw[HY.out];rfl,HB2.out⟩
structure Pb (w:ay) (c:Cf) (j:Jb) (x:ay):Prop where
 c0:x.cell? ⟨w.heap.size,0,none⟩=some (J c.nodes)
 c1:x.cell? ⟨w.heap.size,1,none⟩=some (J c.queue)
 c2:x.cell? ⟨w.heap.size,2,none⟩=some (J c.limit)
 c3:x.cell? ⟨w.heap.size,3,none⟩=some (J c.age)
 c4:x.cell? ⟨w.heap.size,4,none⟩=some (J c.fair)
 c5:x.cell? ⟨w.heap.size,5,none⟩=some (J c.size)
 c6:x.cell? ⟨w.heap.size,6,none⟩=some (J c.period)
 c7:x.cell? ⟨w.heap.size,7,none⟩=some (J c.half)
 j0:x.cell? ⟨w.heap.size+1,0,none⟩=some (J j.ac)
 j1:x.cell? ⟨w.heap.size+1,1,none⟩=some (J j.nd)
 j2:x.cell? ⟨w.heap.size+1,2,none⟩=some (J j.lm)
 j3:x.cell? ⟨w.heap.size+1,3,none⟩=some (J j.sb)
 j4:x.cell? ⟨w.heap.size+1,4,none⟩=some (J j.st)
 j5:x.cell? ⟨w.heap.size+1,5,none⟩=some (J j.sr)
 j6:x.cell? ⟨w.heap.size+1,6,none⟩=some (J j.en)
 j7:x.cell? ⟨w.heap.size+1,7,none⟩=some j.set
 dQ:Z w x
 siz:w.heap.size+2<=x.heap.size
theorem Pb.below {w x y:ay} {j:Jb} (h:Pb w c j x) (b:Z x y):Pb w c j y:=
 ⟨aQ b h.c0,aQ b h.c1,aQ b h.c2,aQ b h.c3,aQ b h.c4,aQ b h.c5,aQ b h.c6,aQ b h.c7,aQ b h.j0,aQ b h.j1,aQ b h.j2,aQ b h.j3,aQ b h.j4,aQ b h.j5,aQ b h.j6,aQ b h.j7,h.dQ.trans (b.mono h.dQ.size),by have:=b.size;have:=h.siz;omega⟩
def Pb.new (w:ay) (c:Cf) (j:Jb):Pb w c j ((w.alloc (.cells #[J c.nodes,J c.queue,J c.limit,J c.age,J c.fair,J c.size,J c.period,J c.half] 23)).alloc (.cells #[J j.ac,J j.nd,J j.lm,J j.sb,J j.st,J j.sr,J j.en,j.set] 38)):=by
 constructor<;>first | (simp[go_sem];done) | exact dY.alloc dF _
def abX {now sub nodes f:Int} (h:¬gq c=0):nC c now sub nodes f=0:=au (fun k=>h k.1)
def abY {now sub nodes f:Int} (h:¬Sm c now sub nodes):nC c now sub nodes f=0:=au (fun k=>h k.2.1)
def abZ {now sub nodes f:Int} (h:¬f<=9223372036854775808):nC c now sub nodes f=0:=au (fun k=>h k.2.2)
theorem agC {n:Int} (h: -9223372036854775808<=n/\n<=9223372036854775807):IntKind.i64.wrap n=n:=by grind[fO]
def ab0 {a s d n p:Int} (h:(0<=d/\d<=1099511627776)/\(0<=a*d/\a*d<=1152921504606846976)/\(0<=p/\p<=1048576)/\(0<=s*n/\s*n<=268435456)):
  IntKind.i64.wrap (IntKind.i64.wrap (IntKind.i64.wrap (a*IntKind.i64.wrap d)+p)+IntKind.i64.wrap (s*n))=a*d+p+s*n:=by
 grind[agC]
def agD (c:Cf) (now:Int) (j:Jb) (hf:Word f) (w:ay):Calls prog 155 #[gY c,J now,jbV j,O f] w fun e w'=>e=.returned (J (nC c now j.sb j.nd f))/\Z w w':=by
 have⟨w1,hw1⟩:=aZ ((w.alloc (.cells #[J c.nodes,J c.queue,J c.limit,J c.age,J c.fair,J c.size,J c.period,J c.half] 23)).alloc (.cells #[J j.ac,J j.nd,J j.lm,J j.sb,J j.st,J j.sr,J j.en,j.set] 38));have hp:=Pb.new w c j;rw[hw1]at hp;have cc:=jA c w1;have HP1:Hid _:=hp;have HWA:Hid (∀x,Calls prog 195 #[gY c,J now,jbV j] x fun e w'=>e=.returned (.bool (decide (Sm c now j.sb j.nd)))/\Z x w'):=fun x=>abV c now j x;by_cases h1:gq c=0
 ·rw[h1]at cc;by_cases h2:Sm c now j.sb j.nd
  ·by_cases h3:f<=9223372036854775808
   ·skip
    have HV:Hid (nC c now j.sb j.nd f=c.age*(now - j.sb)+mD c.fair f+c.size*j.nd):=N9 h1 h2 h3;have r:=xV h1;have Cb:Hid ((0<=now - j.sb/\now - j.sb<=1099511627776)/\(0<=c.age*(now - j.sb)/\c.age*(now - j.sb)<=1152921504606846976)/\(0<=mD c.fair f/\mD c.fair f<=1048576)/\(0<=c.size*j.nd/\c.size*j.nd<=268435456)):=TM r h2 hf.1 h3;have HPA:Hid (∀x,Calls prog 196 #[J c.fair,O f] x fun e w'=>e=.returned (J (mD c.fair f))/\Z x w'):=fun x=>abW r.f0 r.f1 hf.1 h3 x;rw[dS h2]at HWA;have h3':¬9223372036854775808<f:=ak;clear h1 h2 h3 r hf;unfold gY jbV at *;obtain⟨q0,q1,q2,q3,q4,q5,q6,q7,q8,q9,q10,q11,q12,q13,q14,q15,_,_⟩:=id hp;clear hp;go_enter func155,ntmps155;go_wp2_with fail
    refine cc.mono ?_;rintro e x1 ⟨rfl,hb1⟩;have HP2:Hid _:=HP1.out.below hb1;clear cc hb1 HP1 q0 q1 q2 q3 q4 q5 q6 q7 q8 q9 q10 q11 q12 q13 q14 q15 hw1;obtain⟨q0,q1,q2,q3,q4,q5,q6,q7,q8,q9,q10,q11,q12,q13,q14,q15,_,_⟩:=id HP2.out;have c2:=HWA.out x1;go_wp2_with fail
    refine c2.mono ?_;rintro e x2 ⟨rfl,hb2⟩;have HP3:Hid _:=HP2.out.below hb2;clear c2 hb2 HP2 q0 q1 q2 q3 q4 q5 q6 q7 q8 q9 q10 q11 q12 q13 q14 q15;have HX2:Hid (x2.drew.cell? ⟨w.heap.size,3,none⟩=some (J c.age)/\x2.drew.cell? ⟨w.heap.size,4,none⟩=some (J c.fair)/\x2.drew.cell? ⟨w.heap.size,5,none⟩=some (J c.size)/\x2.drew.cell? ⟨w.heap.size+1,3,none⟩=some (J j.sb)/\x2.drew.cell? ⟨w.heap.size+1,1,none⟩=some (J j.nd)):=⟨HP3.out.c3,HP3.out.c4,HP3.out.c5,HP3.out.j3,HP3.out.j1⟩;have c3:=HPA.out x2.drew;go_upto_region 3 with fail
    go_region_held3 (fun x=>x.cell? ⟨w.heap.size,3,none⟩=some (J c.age)/\x.cell? ⟨w.heap.size,4,none⟩=some (J c.fair)/\x.cell? ⟨w.heap.size,5,none⟩=some (J c.size)/\x.cell? ⟨w.heap.size+1,3,none⟩=some (J j.sb)/\x.cell? ⟨w.heap.size+1,1,none⟩=some (J j.nd)) (first | exact HX2.out | exact HX5.out) (first | (go_at_call 196;refine c3.mono ?_;rintro e x5 ⟨rfl,hb5⟩;have HP5:Hid _:=HP3.out.below (((aI _ x2).drew).trans hb5);have HX5:Hid (x5.cell? ⟨w.heap.size,3,none⟩=some (J c.age)/\x5.cell? ⟨w.heap.size,4,none⟩=some (J c.fair)/\x5.cell? ⟨w.heap.size,5,none⟩=some (J c.size)/\x5.cell? ⟨w.heap.size+1,3,none⟩=some (J j.sb)/\x5.cell? ⟨w.heap.size+1,1,none⟩=some (J j.nd)):=⟨HP5.out.c3,HP5.out.c4,HP5.out.c5,HP5.out.j3,HP5.out.j1⟩))
    have BO:Hid _:=HP5.out.dQ;clear HP5 HX5 c3 HX2;go_wp2;go_ret;exact⟨by rw[HV.out];exact aP (fun v=>Ending.returned (Value.int IntKind.i64 v)) (ab0 Cb.out),BO.out⟩
   ·skip
    have HV:Hid (nC c now j.sb j.nd f=0):=abZ h3;rw[dS h2]at HWA;have h3':9223372036854775808<f:=ak;clear h1 h2 h3 hf;exact atr
  ·skip
   have HV:Hid (nC c now j.sb j.nd f=0):=abY h2;rw[dH h2]at HWA;clear h1 h2 hf;exact atr
 ·skip
  have HV:Hid (nC c now j.sb j.nd f=0):=abX h1;have hne:(gq c != 0)=true:=by simpa using h1
  clear hf;generalize gq c=e0 at *;unfold gY jbV at *;obtain⟨q0,q1,q2,q3,q4,q5,q6,q7,q8,q9,q10,q11,q12,q13,q14,q15,_,_⟩:=id hp;clear hp;go_enter func155,ntmps155;go_wp2_with fail
  refine cc.mono ?_;rintro e x1 ⟨rfl,hb1⟩;have HP2:Hid _:=HP1.out.below hb1;clear cc hb1 HP1 q0 q1 q2 q3 q4 q5 q6 q7 q8 q9 q10 q11 q12 q13 q14 q15 hw1;obtain⟨q0,q1,q2,q3,q4,q5,q6,q7,q8,q9,q10,q11,q12,q13,q14,q15,_,_⟩:=id HP2.out;have BO:Hid _:=HP2.out.dQ;go_wp2;go_ret;exact⟨by rw[HV.out];rfl,BO.out⟩
def KU (h:gq c=0) (w:ay):Calls prog 120 #[gY c] w fun e w'=>e=.returned (J (bH c))/\Z w w':=by
 have c1:=jA c;obtain⟨r,hm,_⟩:=Qn h;rw[h]at c1;have c2:=KR r;generalize bH c=L0 at *;unfold gY at *;have hS:=St.new w c;go_enter func120,ntmps120;exact anC
def XW (h:gq c=0) (w:ay):Calls prog 208 #[gY c] w fun e w'=>e=.returned (O (cZ c*4294967296))/\Z w w':=by
 have c1:=jA c;obtain⟨r,hm,_⟩:=Qn h;rw[h]at c1;have hc:=wF r;have hb:=NR r;have c2:=Ab r;have c3:=XV (n:=cZ c) ak ak;clear hc hb hm;generalize cZ c*4294967296=V0 at *;generalize cZ c=L0 at *;unfold gY at *;have hS:=St.new w c;go_enter func208,ntmps208;go_wp2_with fail
 refine(c1 _).mono ?_;rintro e w1 ⟨rfl,b1⟩;replace hS:=keepW hS b1;clear b1;obtain⟨s0,s1,s2,s3,s4,s5,s6,s7,_,_⟩:=id hS;go_wp2_with fail
 refine(c2 _).mono ?_;rintro e w2 ⟨rfl,b2⟩;replace hS:=keepW hS b2;clear b2 s0 s1 s2 s3 s4 s5 s6 s7;obtain⟨s0,s1,s2,s3,s4,s5,s6,s7,_,_⟩:=id hS;go_wp2_with fail
 refine(c3 _).mono ?_;rintro e w3 ⟨rfl,b3⟩;replace hS:=keepW hS b3;clear b3 s0 s1 s2 s3 s4 s5 s6 s7;go_wp2;go_ret;exact⟨rfl,hS.dQ⟩
end
end Go.Proofs.YtdhifkbbjlhcaaaGreatDoor
