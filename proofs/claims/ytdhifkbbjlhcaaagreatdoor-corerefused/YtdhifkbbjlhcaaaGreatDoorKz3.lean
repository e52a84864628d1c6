import Derived.Test.YtdhifkbbjlhcaaaGreatDoorKz0
import Derived.Test.YtdhifkbbjlhcaaaGreatDoorChecked
import Derived.WalkSpells
import Derived.WalkLawsBesides
import Derived.Laws.Externs
import Derived.Shelf.Spec.BitsCarry
import Derived.Deep.QuietTactic
import Derived.BigQuiet
import Derived.RowKit3
set_option maxRecDepth 20000
set_option maxHeartbeats 1000000
set_option linter.defProp false
namespace Go.Proofs.YtdhifkbbjlhcaaaGreatDoor
open Go.Proofs.Tryz
variable {K:Nat} {U a ah al b bl c p r u z:Int} {v:Value}
namespace Wd
def Word (x:Int):Prop:=0<=x/\x<18446744073709551616
def val (h l:Int):Int:=h*18446744073709551616+l
def bY (v:Int):Int:=v / 18446744073709551616
def cu (v:Int):Int:=v % 18446744073709551616
def top:Int:=340282366920938463463374607431768211455
def Num (v:Int):Prop:=0<=v/\v<=top
def dJ (a b:Int):Int:=if a+b<=top then a+b else top
def wu (a b:Int):Bool:=decide (a+b<=top)
def zq (a b:Int):Int:=if a*b<=top then a*b else top
def IK (a b:Int):Bool:=decide (a*b<=top)
def kU (a b:Int):Int:=if a<b then -1 else if a=b then 0 else 1
def Cz (a b:Int):Int:=if b=0 then 0 else a / b
def P6 (a b:Int):Int:=if b=0 then 0 else a % b
def S9 (b:Int):Bool:=decide (b≠0)
def IL (a n:Int):Int:=if n<0 then a else(a*2^n.toNat) % 340282366920938463463374607431768211456
def uI (a n:Int):Int:=if n<0 then a else a / 2^n.toNat
def akp {h l:Int} (hh:Word h) (hl:Word l):Num (val h l):=by
 grind[Num,val,top,Word]
def afi {h l:Int} (hl:Word l):bY (val h l)=h:=by
 grind[bY,val,Word]
def apN {h l:Int} (hl:Word l):cu (val h l)=l:=by
 grind[cu,val,Word]
theorem iO (v:Int):val (bY v) (cu v)=v:=by
 grind[val,bY,cu]
def jP (v:Int):Word (cu v):=by unfold Word cu;omega
def lS {v:Int} (h:Num v):Word (bY v):=by
 grind[top,Word,bY,Num]
def oH (ha:Word a) (hb:Word b):Num (a*b):=by
 obtain⟨a0,a1⟩:=ha;obtain⟨b0,b1⟩:=hb
 refine⟨sW a0 b0,?_⟩;have h:a*b<=18446744073709551615*18446744073709551615:=Cj ak ak b0 ak;unfold top;omega
end Wd
namespace Wd
def zu (h:Word r):bY r=0/\cu r=r:=by
 grind[bY,cu,Word]
def NN (h:Word r):Num r:=by
 grind[Num,top,Word]
def jF (v:Int):Int:=if v<18446744073709551616 then v else 18446744073709551615
def FM (v:Int):Bool:=decide (v<18446744073709551616)
def BP (u b:Int):Int:=if u % b=0 then u / b else u / b+1
def dnV (u b:Int):Int:=if b=0 then 18446744073709551615 else jF (u / b)
def dnB (u b:Int):Bool:=if b=0 then false else FM (u / b)
def upV (u b:Int):Int:=if b=0 then 18446744073709551615 else jF (BP u b)
def upB (u b:Int):Bool:=if b=0 then false else FM (BP u b)
def ofV (n:Int):Int:=if n<0 then 0 else jF (n*4294967296)
def ofB (n:Int):Bool:=if n<0 then false else FM (n*4294967296)
def J8 (f:Int):Int:=if f<9223372036854775808 then f else 9223372036854775808
def wE (a f:Int):Int:=a*J8 f / 9223372036854775808
def ae2 (hu:Num u) (h:bY u=0):jF u=cu u/\FM u=true:=by
 obtain⟨a,b⟩:=hu;unfold bY at h;have:u<18446744073709551616:=ak;refine⟨?_,by simp[FM,this]⟩;unfold jF cu;rw[aJ this];omega
def Xl (hu:Num u) (h:bY u≠0):jF u=18446744073709551615/\FM u=false:=by
 grind[bY,jF,FM,Num]
def zy (hu:0<=u):Word (jF u):=by
 grind[jF,Word]
def sK (hu:Num u) (hb:Word b) (h:b≠0):
  Cz u b=u / b/\P6 u b=u % b/\S9 b=true/\Num (u / b)/\0<=u % b/\u % b<b/\u / b*b+u % b=u/\zq (u / b) b=u / b*b:=by
 obtain⟨a0,a1⟩:=hu;obtain⟨b0,b1⟩:=hb
 have q0:=uG a0 b0;have q1:=GX b a0;have m0:=yC u h;have m1:=yD u (show 0<b by omega);grind[yE,Cz,P6,S9,zq,Num]
def afk (hu:Num u) (hb:Word b) (h:b≠0) (hm:u % b≠0):dJ (u / b) 1=u / b+1/\Num (u / b+1):=by
 obtain⟨_,_,_,⟨q0,q1⟩,m0,m1,e,_⟩:=sK hu hb h;grind[top,dJ,Num]
def afl {u v:Int} (h:u≠v):¬(bY u=bY v/\cu u=cu v):=by
 grind[iO]
def atH:a*9223372036854775808 / 9223372036854775808=a:=Int.mul_ediv_cancel _ ak
def FN {f:Int} (hf:Word f):Word (J8 f):=by
 grind[J8,Word]
def akq (f:Int):J8 f<=9223372036854775808:=by grind[J8]
def Jf {a f:Int} (ha:Word a):wE a f<=a:=by
 obtain⟨a0,_⟩:=ha;have h:=sZ (akq f) a0;grind[wE]
def G9 {a f:Int} (ha:Word a) (hf:Word f):0<=wE a f:=
 uG (sW ha.1 (FN hf).1) ak
def akr {a f:Int} (ha:Word a):dnV (a*J8 f) 9223372036854775808=wE a f/\dnB (a*J8 f) 9223372036854775808=true:=by
 have h1:=Jf (f:=f) ha;grind[wE,dnV,jF,dnB,FM,Word]
end Wd
namespace Wd
def Xm (hb:Word b) (h:a<=c):wE a b<=wE c b:=
 SB ak (Nw h (FN hb).1)
end Wd
namespace Wd
def qI (k:Nat):(1:Int)<=2^k:=by
 have:0<(2:Nat)^k:=by grind
 grind
def NP (k:Nat) (h:k<=64):(2:Int)^k*2^(64 - k)=18446744073709551616:=by
 rw[← Int.pow_add,show k+(64 - k)=64 by omega];rfl
def aa8 {ah al P Q:Int} (h1:Word ah) (h2:Word al) (hP:1<=P) (hQ:1<=Q) (hM:P*Q=18446744073709551616):
  ∃u,(ah*P) % 18446744073709551616=P*u/\0<=u/\P*u+al / Q<18446744073709551616/\0<=P*u/\0<=al / Q/\al / Q<P/\
   P*u+al / Q=bY ((val ah al*P) % 340282366920938463463374607431768211456)/\(al*P) % 18446744073709551616=cu ((val ah al*P) % 340282366920938463463374607431768211456):=by
 obtain⟨a0,a1⟩:=h1;obtain⟨b0,b1⟩:=h2
 have ea:ah*P=ah / Q*18446744073709551616+P*(ah % Q):=by grind[yE]
 have eb:al*P=al / Q*18446744073709551616+P*(al % Q):=by grind[yE]
 have ra0:=yC ah (show Q≠0 by omega);have ra1:=yD ah (show 0<Q by omega);have rb0:=yC al (show Q≠0 by omega);have rb1:=yD al (show 0<Q by omega);have u0:0<=P*(ah % Q):=sW ak ra0;have t0:0<=P*(al % Q):=sW ak rb0;have u1:P*(ah % Q)<=18446744073709551616 - P:=by have h:=sZ (show ah % Q<=Q - 1 by omega) (show 0<=P by omega);grind
 have t1:P*(al % Q)<=18446744073709551616 - P:=by have h:=sZ (show al % Q<=Q - 1 by omega) (show 0<=P by omega);grind
 have v0:0<=al / Q:=uG b0 ak;have v1:al / Q<P:=DN ak ak;have ev:val ah al*P=ah*P*18446744073709551616+al*P:=by grind[val]
 rw[ev,ea,eb];refine⟨ah % Q,?_,ra0,?_,u0,v0,v1,?_,?_⟩<;>(grind[bY,cu])<;>
  (omega)
def aa9 {ah al P Q:Int} (h1:Word ah) (h2:Word al) (hP:1<=P) (hQ:1<=Q) (hM:P*Q=18446744073709551616):
  ∃u,(ah*Q) % 18446744073709551616=Q*u/\0<=u/\Q*u+al / P<18446744073709551616/\0<=Q*u/\0<=al / P/\al / P<Q/\
   Q*u+al / P=cu (val ah al / P)/\ah / P=bY (val ah al / P):=by
 obtain⟨a0,a1⟩:=h1;obtain⟨b0,b1⟩:=h2
 have ea:ah*Q=ah / P*18446744073709551616+Q*(ah % P):=by grind[yE]
 have ra0:=yC ah (show P≠0 by omega);have ra1:=yD ah (show 0<P by omega);have u0:0<=Q*(ah % P):=sW ak ra0;have u1:Q*(ah % P)<=18446744073709551616 - Q:=by have h:=sZ (show ah % P<=P - 1 by omega) (show 0<=Q by omega);grind
 have v0:0<=al / P:=uG b0 ak;have v1:al / P<Q:=DN ak (by grind);have ev:val ah al / P=ah*Q+al / P:=by grind[val,JG]
 rw[ev,ea];refine⟨ah % P,?_,ra0,?_,u0,v0,v1,?_,?_⟩<;>(grind[bY,cu])<;>
  (omega)
def ZM (k:Nat) {u v:Int} (hu:0<=u) (hv:0<=v) (hv':v<2^k) (h:2^k*u+v<18446744073709551616):
  bits .or .u64 (2^k*u) v=2^k*u+v/\bits .or .u64 v (2^k*u)=2^k*u+v:=by
 obtain⟨u,rfl⟩:=Int.eq_ofNat_of_zero_le hu;obtain⟨v,rfl⟩:=Int.eq_ofNat_of_zero_le hv;have hp:((2^k:Nat):Int)=(2:Int)^k:=dF;have e:(2:Int)^k*(u:Int)=((2^k*u:Nat):Int):=by rw[Int.natCast_mul,hp]
 have hv2:v<2^k:=ak;rw[e]at h ⊢;have o1:=(Nat.two_pow_add_eq_or_of_lt hv2 u).symm;have o2:v ||| 2^k*u=2^k*u+v:=by rw[Nat.or_comm,o1]
 have l1:2^k*u<18446744073709551616:=ak;rw[bits_or_u64_nat _ _ l1 ak,bits_or_u64_nat _ _ ak l1,o1,o2];constructor<;>omega
def aa_ (ah al n:Int) (h1:Word ah) (h2:Word al) (h0:0<=n) (hn:n<64):
  bits .or .u64 (IntKind.u64.wrap (ah*2^n.toNat)) (al / 2^(64 - n).toNat)=bY (IL (val ah al) n)/\
  IntKind.u64.wrap (IntKind.u64.wrap (ah*2^n.toNat)+al / 2^(64 - n).toNat)=bY (IL (val ah al) n)/\
  IntKind.u64.wrap (al*2^n.toNat)=cu (IL (val ah al) n):=by
 have e:(64 - n).toNat=64 - n.toNat:=ak;rw[e];have⟨u,e1,u0,e2,p0,v0,v1,e3,e4⟩:=aa8 h1 h2 (qI n.toNat) (qI (64 - n.toNat)) (NP n.toNat ak);have es:IL (val ah al) n=(val ah al*2^n.toNat) % 340282366920938463463374607431768211456:=by unfold IL;rw[au ak]
 rw[es,d_,d_,d_,e1];refine⟨by rw[(ZM _ u0 v0 v1 e2).1];exact e3,?_,e4⟩;rw[← e3];omega
def abb (ah al n:Int) (h1:Word ah) (h2:Word al) (h0:0<=n) (hn:n<64):
  bits .or .u64 (al / 2^n.toNat) (IntKind.u64.wrap (ah*2^(64 - n).toNat))=cu (uI (val ah al) n)/\
  IntKind.u64.wrap (al / 2^n.toNat+IntKind.u64.wrap (ah*2^(64 - n).toNat))=cu (uI (val ah al) n)/\
  ah / 2^n.toNat=bY (uI (val ah al) n):=by
 have e:(64 - n).toNat=64 - n.toNat:=ak;rw[e];have⟨u,e1,u0,e2,p0,v0,v1,e3,e4⟩:=aa9 h1 h2 (qI n.toNat) (qI (64 - n.toNat)) (NP n.toNat ak);have es:uI (val ah al) n=val ah al / 2^n.toNat:=by unfold uI;rw[au ak]
 rw[es,d_,d_,e1];refine⟨by rw[(ZM _ u0 v0 v1 e2).2];exact e3,?_,e4⟩;rw[← e3];omega
def P7 (j:Nat) (h:64<=j):(2:Int)^j=18446744073709551616*2^(j - 64):=by
 have e:64+(j - 64)=j:=ak;grind
def asz (ah al n:Int) (hn:64<=n):
  IntKind.u64.wrap (al*2^(n - 64).toNat)=bY (IL (val ah al) n)/\0=cu (IL (val ah al) n):=by
 have es:IL (val ah al) n=(val ah al*2^n.toNat) % 340282366920938463463374607431768211456:=by grind[IL]
 rw[es,P7 n.toNat ak,show n.toNat - 64=(n - 64).toNat by omega,d_];generalize (2:Int)^(n - 64).toNat=p;have e:val ah al*(18446744073709551616*p)=(ah*p)*340282366920938463463374607431768211456+(al*p)*18446744073709551616:=by grind[val]
 grind[bY,cu]
def abd (ah al n:Int) (h1:Word ah) (h2:Word al) (hn:64<=n):
  ah / 2^(n - 64).toNat=cu (uI (val ah al) n)/\0=bY (uI (val ah al) n):=by
 obtain⟨a0,a1⟩:=h1;have es:uI (val ah al) n=val ah al / 2^n.toNat:=by unfold uI;rw[au ak]
 have hd:val ah al / 18446744073709551616=ah:=afi h2;rw[es,P7 n.toNat ak,show n.toNat - 64=(n - 64).toNat by omega,<-Int.ediv_ediv_of_nonneg ak,hd];have hp:=qI (n - 64).toNat;generalize (2:Int)^(n - 64).toNat=p at *;have q0:0<=ah / p:=uG a0 ak;have q1:=GX p a0;simp only[bY,cu];generalize ah / p=q at *;constructor<;>omega
def S_ (ah n:Int) (h1:Word ah):ah / 2^min (n - 64).toNat 64=ah / 2^(n - 64).toNat:=by
 obtain⟨a0,a1⟩:=h1;by_cases h:(n - 64).toNat<=64
 ·grind
 ·rw[Nat.min_eq_right ak,GY a0 ak];have hb:=P7 (n - 64).toNat ak;have hp:=qI ((n - 64).toNat - 64);rw[GY a0 ak]
def aks (a n:Int) (h:n<0):uI a n=a:=by grind[uI]
end Wd
namespace Wd
def Digit (U c p z:Int):Prop:=2147483648<=p/\p<4294967296/\0<=z/\z<4294967296/\0<=c/\c<4294967296/\0<=U/\U<p*4294967296+z
def Jg (U c p z:Int):Int:=(U*4294967296+c) / (p*4294967296+z)
def St (U c p z q r:Int):Prop:=r=U - q*p/\0<=r/\r<4294967296/\Jg U c p z<=q/\0<=q/\q<=4294967297
def qd (h:Digit U c p z):0<=Jg U c p z:=by
 obtain⟨p0,p1,z0,z1,c0,c1,U0,U1⟩:=h;exact uG ak ak
def Xn (h:Digit U c p z):Jg U c p z<4294967296:=by
 obtain⟨p0,p1,z0,z1,c0,c1,U0,U1⟩:=h;exact DN ak ak
def Xo (h:Digit U c p z):St U c p z (U / p) (U - U / p*p):=by
 have hd:=h;obtain⟨p0,p1,z0,z1,c0,c1,U0,U1⟩:=h;have e:=yE U p;rw[SC]at e;have m0:=yC U (show p≠0 by omega);have m1:=yD U (show 0<p by omega);refine⟨rfl,by omega,by omega,?_,uG U0 ak,?_⟩
 ·rw[Zv ak];have q0:=qd hd;have h1:Jg U c p z*(p*4294967296+z)<=U*4294967296+c:=Int.ediv_mul_le _ ak;have h2:=sW q0 z0;grind
 ·have:U / p<4294967298:=DN ak ak;omega
def k_eq {U p z q r:Int} (hs:r=U - q*p):q*(p*4294967296+z)=(U - r)*4294967296+q*z:=by
 grind
def ZN {U c p z q r:Int} (h:Digit U c p z) (hs:St U c p z q r) (hc:q*z<=4294967296*r+c):q=Jg U c p z:=by
 obtain⟨p0,p1,z0,z1,c0,c1,U0,U1⟩:=h;obtain⟨e,r0,r1,ql,q0,q1⟩:=hs;have:q<=Jg U c p z:=by unfold Jg;rw[Zv ak,k_eq e];omega
 omega
theorem P8 {U c p z q r:Int} (h:Digit U c p z) (hs:St U c p z q r) (hc:4294967296<=q\/4294967296*r+c<q*z):Jg U c p z<=q - 1:=by
 have hd:=h;obtain⟨p0,p1,z0,z1,c0,c1,U0,U1⟩:=h;obtain⟨e,r0,r1,ql,q0,q1⟩:=hs;have:Jg U c p z<q:=by
  rcases hc with hc | hc
  ·have:=Xn hd;omega
  ·apply DN ak;grind
 omega
def P9 {U c p z q r:Int} (h:Digit U c p z) (hs:St U c p z q r) (hc:4294967296<=q\/4294967296*r+c<q*z) (hr:r+p<4294967296):St U c p z (q - 1) (r+p):=by
 grind[P8,St,Digit]
def Jh {U c p z q r:Int} (h:Digit U c p z) (hs:St U c p z q r) (hc:4294967296<=q\/4294967296*r+c<q*z) (hr:4294967296<=r+p):q - 1=Jg U c p z:=by
 have ht:=P8 h hs hc;have hn:=qd h;obtain⟨p0,p1,z0,z1,c0,c1,U0,U1⟩:=h;obtain⟨e,r0,r1,ql,q0,q1⟩:=hs;have:q - 1<=Jg U c p z:=by
  unfold Jg;have e':r+p=U - (q - 1)*p:=by grind
  rw[Zv ak,k_eq e'];have m:(q - 1)*z<=4294967296*4294967295:=Cj ak ak z0 ak;omega
 omega
def aoK (h:Digit U c p z):
  IntKind.u64.wrap (IntKind.u64.wrap (IntKind.u64.wrap (U*4294967296)+c) - IntKind.u64.wrap (Jg U c p z*(p*4294967296+z)))=(U*4294967296+c) % (p*4294967296+z)/\
  0<=(U*4294967296+c) % (p*4294967296+z)/\(U*4294967296+c) % (p*4294967296+z)<p*4294967296+z:=by
 obtain⟨p0,p1,z0,z1,c0,c1,U0,U1⟩:=h;have e:=yE (U*4294967296+c) (p*4294967296+z);have m0:=yC (U*4294967296+c) (show p*4294967296+z≠0 by omega);have m1:=yD (U*4294967296+c) (show 0<p*4294967296+z by omega);grind[Jg,d_]
def akt {N y P Y U L:Int} (hy:1<=y) (hP:1<=P) (hY:Y=y*P) (hV:N*P=U*18446744073709551616+L) (q1 r1 q0 r0:Int)
  (h1:q1=(U*4294967296+L / 4294967296) / Y) (h2:r1=(U*4294967296+L / 4294967296) % Y) (h3:q0=(r1*4294967296+L % 4294967296) / Y) (h4:r0=(r1*4294967296+L % 4294967296) % Y):
  q1*4294967296+q0=N / y/\r0 / P=N % y:=by
 have hYp:0<Y:=by rw[hY];exact Int.mul_pos ak ak
 have e1:=yE (U*4294967296+L / 4294967296) Y;have e2:=yE (r1*4294967296+L % 4294967296) Y;rw[← h1,<-h2]at e1;rw[← h3,<-h4]at e2;have m0:0<=r0:=by rw[h4];exact yC _ ak
 have m1:r0<Y:=by rw[h4];exact yD _ hYp
 have eV:N*P=(q1*4294967296+q0)*Y+r0:=by grind
 have d1:N*P / Y=q1*4294967296+q0:=by rw[eV,Int.add_comm,JG _ _ ak,GY m0 m1,Int.zero_add]
 have d2:N*P % Y=r0:=by rw[eV,Int.add_comm,Int.add_mul_emod_self_right,Int.emod_eq_of_lt m0 m1]
 grind[Int.mul_ediv_mul_of_pos_left,SC,Int.mul_emod_mul_of_pos,Int.mul_ediv_cancel]
end Wd
namespace Ld
def rungs:List Nat:= [13043817825332782212,15511800964685064948,16915738899553466670,17664662643191237676,18051468387014017850,18248035989933441396,18347121020861646923,18396865112328554660,18421787711448657617,18434261669329232139,18440501815349552981,18443622680442407997,18445183311048607331,18445963675871538003,18446353870663572144,18446548971154807801,18446646522174239824,18446695297877410578,18446719685777359790,18446731879739425373,18446737976723480911,18446741025216264367,18446742549462845017,18446743311586182573,18446743692647863158,18446743883178706403,18446743978444128763,18446744026076840128,18446744049893195856,18446744061801373732,18446744067755462673,18446744070732507144]
def R (j:Nat):Nat:=rungs.getD j 0
def steps (f:Nat):Nat->Nat
 | 0=>9223372036854775808
 | k+1=>if f / 2^(31 - k) % 2=1 then steps f k*R k / 18446744073709551616 else steps f k
def nA (e:Nat):Nat:=if 63<=e / 4294967296 then 0 else steps (e % 4294967296) 32 / 2^(e / 4294967296)
def abe:∀j,j<32->R j*R j<=(if j=0 then 9223372036854775808 else R (j - 1))*18446744073709551616:=aT
theorem Ta:∀j,j<32->R j+3<18446744073709551616:=aT
def Xp {a b:Nat} (h:a<=b):2^a<=2^b:=Nat.pow_le_pow_right aT h
def afm (j:Nat) (h:j<32):R j^2^(j+1)*2<=18446744073709551616^2^(j+1):=by
 induction j with
 | zero=>decide
 | succ j ih=>
  have e1:=abe (j+1) h;rw[au ak,Nat.add_sub_cancel]at e1;have e2:=ih ak;have e3:R (j+1)^2^(j+1+1)<=R j^2^(j+1)*18446744073709551616^2^(j+1):=by rw[Nat.pow_succ 2 (j+1),Ny (2^(j+1)) 2,Nat.pow_mul,<-Nat.mul_pow,Nat.pow_two];exact Zw e1 _
  calc R (j+1)^2^(j+1+1)*2<=R j^2^(j+1)*18446744073709551616^2^(j+1)*2:=Zx _ e3
   _=R j^2^(j+1)*2*18446744073709551616^2^(j+1):=by grind
   _<=18446744073709551616^2^(j+1)*18446744073709551616^2^(j+1):=Zx _ e2
   _=18446744073709551616^2^(j+1+1):=by rw[← Nat.pow_add,Nat.pow_succ 2 (j+1),Nat.mul_two]
def abf (j:Nat) (h:j<32) (hK:K=2^32):R j^K*2^2^(31 - j)<=18446744073709551616^K:=by
 have eK:K=2^(j+1)*2^(31 - j):=by rw[hK,<-Nat.pow_add];grind
 rw[eK,Nat.pow_mul,Nat.pow_mul,<-Nat.mul_pow];exact Zw (afm j h) _
def qY (f:Nat):Nat->Nat
 | 0=>0
 | k+1=>qY f k+(if f / 2^(31 - k) % 2=1 then 2^(31 - k)else 0)
theorem abg (f:Nat) (hf:f<2^32) (k:Nat) (hk:k<=32):qY f k+f % 2^(32 - k)=f:=by
 induction k with
 | zero=>grind[qY]
 | succ k ih=>
  have e:f % 2^(32 - k)=(if f / 2^(31 - k) % 2=1 then 2^(31 - k)else 0)+f % 2^(32 - (k+1)):=by rw[show 32 - k=31 - k+1 by omega,show 32 - (k+1)=31 - k by omega,Nat.pow_succ,Nat.mod_mul];grind
  grind[qY]
theorem Xr (f:Nat) (hf:f<2^32):qY f 32=f:=by
 grind[abg]
theorem NQ (f k:Nat) (hk:k<=32):steps f k<=9223372036854775808:=by
 induction k with
 | zero=>exact aC _
 | succ k ih=>
  have h:=ih ak;have hr:=Ta k ak;simp only[steps];split
  ·have h2:steps f k*R k<=steps f k*18446744073709551616:=Nat.mul_le_mul_left _ ak;omega
  omega
def abh (f k:Nat) (hk:k<=32) (hK:K=2^32):steps f k^K*2^qY f k<=9223372036854775808^K:=by
 induction k with
 | zero=>grind[steps,qY]
 | succ k ih=>
  have h:=ih ak;simp only[steps,qY];split
  ·have hr:=abf k ak hK;have hd:steps f k*R k / 18446744073709551616*18446744073709551616<=steps f k*R k:=ak;have hd':=Zw hd K;rw[Nat.mul_pow,Nat.mul_pow]at hd';generalize steps f k*R k / 18446744073709551616=t at *;generalize steps f k=s at *;refine Nat.le_of_mul_le_mul_right (c:=18446744073709551616^K) ?_ (Nat.pow_pos aT);rw[Nat.pow_add]
   calc t^K*(2^qY f k*2^2^(31 - k))*18446744073709551616^K=(t^K*18446744073709551616^K)*(2^qY f k*2^2^(31 - k)):=by grind
    _<=(s^K*R k^K)*(2^qY f k*2^2^(31 - k)):=Zx _ hd'
    _=(s^K*2^qY f k)*(R k^K*2^2^(31 - k)):=by grind
    _<=9223372036854775808^K*18446744073709551616^K:=BM h hr
  omega
def atJ (f:Nat) (hf:f<2^32) (hK:K=2^32):steps f 32^K*2^f<=9223372036854775808^K:=by
 have h:=abh f 32 ak hK;grind[Xr]
end Ld
namespace Ld
theorem DX (e:Nat):nA e<=9223372036854775808:=by
 unfold nA;split
 ·omega
 ·exact bM (Nat.div_le_self _ _) (NQ _ 32 ak)
def afn (e:Nat) (hK:K=2^32):nA e^K*2^e<=9223372036854775808^K:=by
 have hK0:K≠0:=ak;unfold nA;split
 ·grind
 ·have hf:e % 4294967296<2^32:=ak;have h:=atJ (e % 4294967296) hf hK;have hd:=Zw (Nat.div_mul_le_self (steps (e % 4294967296) 32) (2^(e / 4294967296))) K;rw[Nat.mul_pow,<-Nat.pow_mul]at hd;have ee:e=e / 4294967296*K+e % 4294967296:=by grind
  have e2:2^e=2^(e / 4294967296*K)*2^(e % 4294967296):=by grind
  rw[e2,<-Nat.mul_assoc];exact bM (Zx _ hd) h
def Xt {n:Nat} (h:n<63):nA (n*4294967296)=9223372036854775808 / 2^n:=by
 unfold nA;rw[Nat.mul_div_cancel _ aT,Nat.mul_mod_left,au ak];rfl
end Ld
namespace Cg
structure Cf where
 nodes:Int
 queue:Int
 limit:Int
 age:Int
 fair:Int
 size:Int
 period:Int
 half:Int
structure nJ (c:Cf):Prop where
 n0:1<=c.nodes
 n1:c.nodes<=256
 q0:1<=c.queue
 q1:c.queue<=128
 l0:1<=c.limit
 l1:c.limit<=1048576
 a0:1<=c.age
 a1:c.age<=1048576
 f0:0<=c.fair
 f1:c.fair<=1048576
 s0:0<=c.size
 s1:c.size<=1048576
 p0:1<=c.period
 p1:c.period<=1048576
 h0:1<=c.half
 h1:c.half<=1073741824
def eZ (c:Cf):Int:=c.period*4294967296 / c.half
def vU (a b:Int):Int:=(a+b - 1) / b
def kZ (c:Cf):Int:=if vU 8589934592 (eZ c)<2 then 2 else vU 8589934592 (eZ c)
def cZ (c:Cf):Int:=c.nodes*c.period
def mZ (c:Cf):Int:=cZ c*kZ c
def gZ (c:Cf):Int:=kZ c*(1+vU (mZ c*81) 2147483648)
def iy (c:Cf):Int:=c.fair+c.size*c.nodes
def dU (c:Cf):Int:=iy c / c.age
def bH (c:Cf):Int:=dU c+1+c.queue*c.limit
def pF (c:Cf):Int:=c.age*bH c+iy c
def oJ (c:Cf):Int:=if c.fair=0 then 0 else(258048*gZ c+2*cZ c)*c.fair+cZ c*4294967296
def nK (c:Cf):Int:=if c.fair=0 then 1 else cZ c*4294967296
def kV {a b A B:Int} (a0:0<=a) (b0:0<=b) (hA:a<=A) (hB:b<=B):0<=a*b/\a*b<=A*B:=
 ⟨sW a0 b0,Cj hA hB b0 (DR a0 hA)⟩
def afo {c:Cf} (r:nJ c):4<=eZ c/\eZ c<=4503599627370496:=by
 obtain⟨_,_,_,_,_,_,_,_,_,_,_,_,_,_,_,_⟩:=r;unfold eZ;have h1:c.period*4294967296 / c.half<=c.period*4294967296:=GX _ ak;have h2:4<=c.period*4294967296 / c.half:=(Zv ak).2 ak;omega
def Xu {e:Int} (h:4<=e):0<=vU 8589934592 e/\vU 8589934592 e<=2147483648:=by
 unfold vU;refine⟨uG ak ak,?_⟩;have:(8589934592+e - 1) / e<2147483649:=DN ak ak;omega
def aoL {c:Cf} (r:nJ c):2<=kZ c/\kZ c<=2147483648:=by
 have h:=Xu (afo r).1;grind[kZ]
def wF {c:Cf} (r:nJ c):1<=cZ c/\cZ c<=268435456:=by
 obtain⟨_,_,_,_,_,_,_,_,_,_,_,_,_,_,_,_⟩:=r;unfold cZ;have h1:=kV (a:=c.nodes) (b:=c.period) (A:=256) (B:=1048576) ak ak ak ak;have h2:1*1<=c.nodes*c.period:=Cj ak ak ak ak;omega
def NR {c:Cf} (r:nJ c):cZ c*2<=mZ c/\mZ c<=576460752303423488:=by
 have hc:=wF r;have hk:=aoL r;unfold mZ;have h1:=kV (a:=cZ c) (b:=kZ c) (A:=268435456) (B:=2147483648) ak ak ak ak;have h2:cZ c*2<=cZ c*kZ c:=sZ ak ak;omega
def Tc {c:Cf} (r:nJ c) (hm:mZ c<=2147483648):0<=vU (mZ c*81) 2147483648/\vU (mZ c*81) 2147483648<=81/\0<=gZ c/\gZ c<=176093659136:=by
 have hk:=aoL r;have hb:=NR r;have hc:=wF r;have h0:0<=vU (mZ c*81) 2147483648/\vU (mZ c*81) 2147483648<=81:=by grind[vU]
 unfold gZ;have h1:=kV (a:=kZ c) (b:=1+vU (mZ c*81) 2147483648) (A:=2147483648) (B:=82) ak ak ak ak;omega
def nT {c:Cf} (r:nJ c):0<=c.size*c.nodes/\c.size*c.nodes<=268435456/\0<=iy c/\iy c<=269484032:=by
 obtain⟨_,_,_,_,_,_,_,_,_,_,_,_,_,_,_,_⟩:=r;have h1:=kV (a:=c.size) (b:=c.nodes) (A:=1048576) (B:=256) ak ak ak ak;unfold iy;omega
def zF {c:Cf} (r:nJ c):0<=dU c/\dU c<=269484032:=by
 have h:=nT r;have ha:=r.a0;unfold dU;exact⟨uG ak ak,DR (GX _ ak) ak⟩
def wG {c:Cf} (r:nJ c):0<=c.queue*c.limit/\c.queue*c.limit<=134217728/\1<=bH c/\bH c<=403701761:=by
 have h:=zF r;obtain⟨_,_,_,_,_,_,_,_,_,_,_,_,_,_,_,_⟩:=r;have h1:=kV (a:=c.queue) (b:=c.limit) (A:=128) (B:=1048576) ak ak ak ak;unfold bH;omega
def P_ {c:Cf} (r:nJ c):0<=c.age*bH c/\c.age*bH c<=423311977742336/\1<=pF c/\pF c<=562949953421312:=by
 have h:=wG r;have h2:=nT r;obtain⟨_,_,_,_,_,_,_,_,_,_,_,_,_,_,_,_⟩:=r;have h1:=kV (a:=c.age) (b:=bH c) (A:=1048576) (B:=403701761) ak ak ak ak;have h3:1*1<=c.age*bH c:=Cj ak ak ak ak;unfold pF;omega
def Ji {c:Cf} (r:nJ c) (hm:mZ c<=2147483648):0<=(258048*gZ c+2*cZ c)*c.fair/\(258048*gZ c+2*cZ c)*c.fair<=47647940505341725245440/\0<=oJ c/\oJ c<=47649093426846332092416/\1<=nK c/\nK c<=1152921504606846976:=by
 have hg:=Tc r hm;have hc:=wF r;obtain⟨_,_,_,_,_,_,_,_,_,_,_,_,_,_,_,_⟩:=r;have h1:=kV (a:=258048*gZ c+2*cZ c) (b:=c.fair) (A:=45440617089597440) (B:=1048576) ak ak ak ak;grind[oJ,nK]
end Cg
section
open Go.RowKit
namespace Wd
def mask32 (a:Int) (h:Word a):bits .and .u64 a 4294967295=a % 4294967296:=by
 obtain⟨a0,a1⟩:=h;obtain⟨m,rfl⟩:=Int.eq_ofNat_of_zero_le a0;refine(Nz m 4294967295 ak ak).trans ?_;rw[show m &&& 4294967295=m % 4294967296 from Nat.and_two_pow_sub_one_eq_mod m 32];omega
def halves (a0:0<=a) (a1:a<4294967296) (b0:0<=b) (b1:b<4294967296):0<=a*b/\a*b<=18446744065119617025:=
 have h:a*b<=4294967295*4294967295:=Cj ak ak b0 ak
 ⟨sW a0 b0,h⟩
def school (x y:Int):x*y=x / 4294967296*(y / 4294967296)*18446744073709551616+(x / 4294967296*(y % 4294967296)+x % 4294967296*(y / 4294967296))*4294967296+x % 4294967296*(y % 4294967296):=by
 grind
end Wd
open Wd
def atK (x y:Int) (hx:Word x) (hy:Word y) (w:ay):
  Calls prog 216 #[O x,O y] w fun e w'=>e=.returned (.tuple #[O (bY (x*y)),O (cu (x*y))])/\w'=w:=by
 have mx:=mask32 x hx;have my:=mask32 y hy;have e:=school x y;obtain⟨x0,x1⟩:=hx;obtain⟨y0,y1⟩:=hy;have⟨hh0,hh1⟩:=halves (a:=x / 4294967296) (b:=y / 4294967296) ak ak ak ak;have⟨hl0,hl1⟩:=halves (a:=x / 4294967296) (b:=y % 4294967296) ak ak ak ak;have⟨lh0,lh1⟩:=halves (a:=x % 4294967296) (b:=y / 4294967296) ak ak ak ak;have⟨ll0,ll1⟩:=halves (a:=x % 4294967296) (b:=y % 4294967296) ak ak ak ak;have mt:=mask32 (x / 4294967296*(y % 4294967296)+x % 4294967296*(y % 4294967296) / 4294967296) ⟨by omega,by omega⟩;have eh:x / 4294967296*(y / 4294967296)+(x / 4294967296*(y % 4294967296)+x % 4294967296*(y % 4294967296) / 4294967296) / 4294967296+((x / 4294967296*(y % 4294967296)+x % 4294967296*(y % 4294967296) / 4294967296) % 4294967296+x % 4294967296*(y / 4294967296)) / 4294967296=bY (x*y):=by rw[e];unfold bY;omega
 have el:IntKind.u64.wrap (x*y)=cu (x*y):=d_ _;have EH:Hid _:=eh;have EL:Hid _:=el;clear e eh el;go_enter func216,ntmps216;go_wp2;rw[EH.out,EL.out];go_ret2
 exact⟨rfl,rfl⟩
def isnan (x:Int) (w:ay):Calls prog 218 #[O x] w fun e w'=>e=.returned (.bool false)/\w'=w:=by
 go_enter func218,ntmps218;go_wp2;go_ret;exact⟨by simp,rfl⟩
def compare (x y:Int) (w:ay):Calls prog 177 #[O x,O y] w fun e w'=>e=.returned (J (kU x y))/\w'=w:=by
 unfold kU;by_cases h:x<y
 ·exact an7
 ·by_cases h2:y<x
  ·have h3:¬x=y:=ak;go_enter func177,ntmps177;go_wp2_with (go_at_call 218;refine(isnan _ _).mono ?_;rintro e w' ⟨rfl,rfl⟩)
   go_ret;exact⟨by first | (simp;done) | (simp[h,h3];done),rfl⟩
  ·have h3:x=y:=ak;subst h3;exact an7
theorem afp (x y c:Int) (hx:0<=x) (hy:0<=y) (hc0:0<=c) (hc:c<=1) (w:ay):(callFunc 217 #[O x,O y,O c]).run prog w=
  .ok (.value (.tuple #[O ((x+y+c) % 18446744073709551616),O ((x+y+c) / 18446744073709551616)])) w:=by
 rw[run_callFunc_extern func217 aF aF aF (e:=add64Entry) aF,run_add64 x y c hx hy hc0 hc];rfl
def ZO (x y:Int) (hx:0<=x) (hy:0<=y) (w:ay):(callFunc 217 #[O x,O y,O 0]).run prog w=
  .ok (.value (.tuple #[O ((x+y) % 18446744073709551616),O ((x+y) / 18446744073709551616)])) w:=by
 grind[afp]
end
section
open Go.RowKit Wd
def lu {W w1:ay} (hb:Z W w1):(∀b o,b<W.heap.size->w1.cell? ⟨b,o,none⟩=W.cell? ⟨b,o,none⟩)/\(∀b o,b<W.heap.size->w1.frozen? ⟨b,o,none⟩=W.frozen? ⟨b,o,none⟩):=
 ⟨fun b o h=>hb.cell (p:=⟨b,o,none⟩) h,fun b o h=>hb.frozen (p:=⟨b,o,none⟩) h⟩
def zG {W w1:ay} (hb:Z W w1):(∀a,(W.cell? a).isSome=true->w1.cell? a=W.cell? a)/\(∀a,(W.cell? a).isSome=true->w1.frozen? a=W.frozen? a):=by
 grind[Option.isSome_iff_exists,Below.cell,aU,Below.frozen]
theorem aQ {W w1:ay} (hb:Z W w1) {a:Addr} (h:W.cell? a=some v):w1.cell? a=some v:=
 (hb.cell (aU W a h)).trans h
def jQ {W w1:ay} (hb:Z W w1) {a:Addr} (h:W.cell? a=some v) (hf:W.frozen? a=false):w1.frozen? a=false:=
 (hb.frozen (aU W a h)).trans hf
def fU {w:ay} (o:Obj) {a:Addr} (h:w.cell? a=some v):(w.alloc o).cell? a=some v:=
 (World.cell?_alloc_some w a o (by grind)).trans h
def qZ {w:ay} (c:Array Value) (t:TypeId) {a:Addr} (h:w.frozen? a=false):(w.alloc (.cells c t)).frozen? a=false:=
 (frozen?_alloc_cells w c t a).trans h
def DY (w:ay):Calls prog 176 #[] w fun e w'=>e=.returned (.agg #[O 18446744073709551615,O 18446744073709551615])/\Z w w':=by
 go_enter func176,ntmps176;go_wp2;exact b_ (v:=.agg #[O 18446744073709551615,O 18446744073709551615]) (by simp[results,results176,go_sem]) rfl ⟨rfl,dY⟩
def Xv (n:Int) (w:ay):Calls prog 172 #[O n] w fun e w'=>e=.returned (.agg #[O 0,O n])/\Z w w':=by
 go_enter func172,ntmps172;go_wp2;exact b_ (v:=.agg #[O 0,O n]) (by simp[results,results172,go_sem]) rfl ⟨rfl,dY⟩
def nG (x y:Int) (hx:Word x) (hy:Word y) (w:ay):
  Calls prog 173 #[O x,O y] w fun e w'=>e=.returned (.agg #[O (bY (x*y)),O (cu (x*y))])/\Z w w':=by
 go_enter func173,ntmps173;go_wp2_with (go_at_call 216;refine(atK x y hx hy _).mono ?_;rintro e w' ⟨rfl,rfl⟩)
 exact b_ (v:=.agg #[O (bY (x*y)),O (cu (x*y))]) (by simp[results,results173,go_sem]) rfl ⟨rfl,dY⟩
namespace Wd
theorem Qa {ah al bh bl:Int} (h1:Word ah) (h2:Word al) (h3:Word bh) (h4:Word bl) (h:ah+bh+(al+bl) / 18446744073709551616<18446744073709551616):
  (ah+bh+(al+bl) / 18446744073709551616) % 18446744073709551616=bY (dJ (val ah al) (val bh bl))/\(al+bl) % 18446744073709551616=cu (dJ (val ah al) (val bh bl))/\wu (val ah al) (val bh bl)=true:=by
 obtain⟨_,_⟩:=h1;obtain⟨_,_⟩:=h2;obtain⟨_,_⟩:=h3;obtain⟨_,_⟩:=h4
 have hle:val ah al+val bh bl<=top:=by grind[val,top]
 have e:dJ (val ah al) (val bh bl)=val ah al+val bh bl:=by grind[dJ]
 refine⟨?_,?_,by simp[wu,hle]⟩<;>rw[e]<;>simp only[bY,cu,val]<;>omega
def Xw {ah al bh bl:Int} (h1:Word ah) (h2:Word al) (h3:Word bh) (h4:Word bl) (h:18446744073709551616<=ah+bh+(al+bl) / 18446744073709551616):
  18446744073709551615=bY (dJ (val ah al) (val bh bl))/\18446744073709551615=cu (dJ (val ah al) (val bh bl))/\wu (val ah al) (val bh bl)=false:=by
 obtain⟨_,_⟩:=h1;obtain⟨_,_⟩:=h2;obtain⟨_,_⟩:=h3;obtain⟨_,_⟩:=h4
 have hle:¬val ah al+val bh bl<=top:=by unfold val top;omega
 have e:dJ (val ah al) (val bh bl)=top:=by unfold dJ;rw[au hle]
 refine⟨?_,?_,by simp[wu,hle]⟩<;>rw[e]<;>simp only[bY,cu,top]<;>omega
end Wd
def ZP (ah al bh bl:Int) (h1:Word ah) (h2:Word al) (h3:Word bh) (h4:Word bl) (w:ay):
  Calls prog 175 #[.agg #[O ah,O al],.agg #[O bh,O bl]] w fun e w'=>
   e=.returned (.tuple #[.agg #[O (bY (dJ (val ah al) (val bh bl))),O (cu (dJ (val ah al) (val bh bl)))],.bool (wu (val ah al) (val bh bl))])/\Z w w':=by
 by_cases h:ah+bh+(al+bl) / 18446744073709551616<18446744073709551616
 ·have⟨e1,e2,e3⟩:=Qa h1 h2 h3 h4 h;rw[← e1,<-e2,e3];clear e1 e2 e3;obtain⟨a1,a2⟩:=h1;obtain⟨b1,b2⟩:=h2;obtain⟨c1,c2⟩:=h3;obtain⟨d1,d2⟩:=h4;have k0:0<=(al+bl) / 18446744073709551616:=ak;have k1:(al+bl) / 18446744073709551616<=1:=ak;have k2:((ah+bh+(al+bl) / 18446744073709551616) / 18446744073709551616 != 0)=false:=fE;go_enter func175,ntmps175;go_wp2_with (first | simp only[ZO al bl b1 d1] | simp only[afp ah bh _ a1 c1 k0 k1])
  exact b_ (v:=.tuple #[.agg #[O ((ah+bh+(al+bl) / 18446744073709551616) % 18446744073709551616),O ((al+bl) % 18446744073709551616)],.bool true]) (by simp[results,results175,go_sem]) rfl ⟨rfl,(dY.alloc dF _).alloc fE _⟩
 ·have⟨e1,e2,e3⟩:=Xw h1 h2 h3 h4 ak;rw[← e1,<-e2,e3];clear e1 e2 e3;obtain⟨a1,a2⟩:=h1;obtain⟨b1,b2⟩:=h2;obtain⟨c1,c2⟩:=h3;obtain⟨d1,d2⟩:=h4;have k0:0<=(al+bl) / 18446744073709551616:=ak;have k1:(al+bl) / 18446744073709551616<=1:=ak;have k2:((ah+bh+(al+bl) / 18446744073709551616) / 18446744073709551616 != 0)=true:=fE;go_enter func175,ntmps175;go_wp2_with (first | simp only[ZO al bl b1 d1] | simp only[afp ah bh _ a1 c1 k0 k1] | (go_at_call 176;refine(DY _).mono ?_;rintro e w1 ⟨rfl,hb⟩;have⟨hc,hf⟩:=lu hb))
  have hz:=hb.size;simp at hz;refine b_ (v:=.tuple #[.agg #[O 18446744073709551615,O 18446744073709551615],.bool false]) (by simp[results,results175,go_sem,hc]) rfl ⟨rfl,?_⟩;exact((((dY.alloc dF _).alloc fE _).trans (hb.mono fE)).setCell fE _).setCell fE _
namespace Wd
def afq {ah al bh bl:Int} (h2:Word al) (h4:Word bl) (h:ah≠bh):kU ah bh=kU (val ah al) (val bh bl):=by
 grind[kU,val,Word]
def afr:kU al bl=kU (val ah al) (val ah bl):=by
 grind[kU,val]
end Wd
def aku (ah al bh bl:Int) (h2:Word al) (h4:Word bl) (w:ay):
  Calls prog 128 #[.agg #[O ah,O al],.agg #[O bh,O bl]] w fun e w'=>
   e=.returned (J (kU (val ah al) (val bh bl)))/\Z w w':=by
 by_cases h:ah=bh
 ·subst h;rw[← afr];go_enter func128,ntmps128;go_wp2_with (go_at_call 177;refine(compare al bl _).mono ?_;rintro e w' ⟨rfl,rfl⟩)
  go_ret;exact⟨rfl,dY.alloc dF _⟩
 ·rw[← afq h2 h4 h];have k:(ah != bh)=true:=by simp[h]
  go_enter func128,ntmps128;go_wp2_with (go_at_call 177;refine(compare ah bh _).mono ?_;rintro e w' ⟨rfl,rfl⟩)
  go_ret;exact⟨rfl,dY.alloc dF _⟩
namespace Wd
def aoM:Word 0:=by unfold Word;omega
def afs (h1:Word ah) (h2:Word al) (h3:Word b) (h:bY (ah*b)≠0):
  18446744073709551615=bY (zq (val ah al) b)/\18446744073709551615=cu (zq (val ah al) b)/\IK (val ah al) b=false:=by
 have hn:=oH h1 h3;obtain⟨_,_⟩:=h1;obtain⟨_,_⟩:=h2;obtain⟨_,_⟩:=h3;obtain⟨_,_⟩:=hn;have e0:val ah al*b=ah*b*18446744073709551616+al*b:=by grind[val]
 have hal:0<=al*b:=sW ak ak;grind[top,bY,zq,IK,cu]
def ZQ (h:bY (ah*b)=0):
  dJ (val (cu (ah*b)) 0) (val (bY (al*b)) (cu (al*b)))=zq (val ah al) b/\wu (val (cu (ah*b)) 0) (val (bY (al*b)) (cu (al*b)))=IK (val ah al) b:=by
 have e0:val ah al*b=ah*b*18446744073709551616+al*b:=by grind[val]
 grind[val,cu,bY,dJ,zq,wu,IK]
end Wd
def abj (ah al b:Int) (h1:Word ah) (h2:Word al) (h3:Word b) (w:ay):
  Calls prog 126 #[.agg #[O ah,O al],O b] w fun e w'=>
   e=.returned (.tuple #[.agg #[O (bY (zq (val ah al) b)),O (cu (zq (val ah al) b))],.bool (IK (val ah al) b)])/\Z w w':=by
 by_cases h:bY (ah*b)=0
 ·have⟨e1,e3⟩:=ZQ (al:=al) h;rw[← e1,<-e3];clear e1 e3;have k2:(bY (ah*b) != 0)=false:=by simp[h]
  clear h;have hw0:=aoM;have hwl:=jP (ah*b);have hwh:=lS (oH h2 h3);have hwk:=jP (al*b);go_enter func126,ntmps126;go_wp2_with fail
  refine(nG ah b h1 h3 _).mono ?_;rintro e w1 ⟨rfl,hb⟩;have hz:=hb.size;simp at hz;have hne:¬w.heap.size+1=w1.heap.size:=ak;have c0:w1.cell? ⟨w.heap.size,0,none⟩=some (O ah):=by rw[(lu hb).1 _ _ fE];simp[go_sem]
  have c1:w1.cell? ⟨w.heap.size,1,none⟩=some (O al):=by rw[(lu hb).1 _ _ fE];simp[go_sem]
  have d0:w1.cell? ⟨w.heap.size+1,0,none⟩=some (O 0):=by rw[(lu hb).1 _ _ dF];simp
  have d1:w1.cell? ⟨w.heap.size+1,1,none⟩=some (O 0):=by rw[(lu hb).1 _ _ dF];simp
  have f0:w1.frozen? ⟨w.heap.size+1,0,none⟩=false:=by rw[(lu hb).2 _ _ dF];simp
  have f1:w1.frozen? ⟨w.heap.size+1,1,none⟩=false:=by rw[(lu hb).2 _ _ dF];simp
  go_wp2_with fail
  go_region_held3 (fun w'=>w'.cell? ⟨w.heap.size,0,none⟩=some (O ah)/\w'.cell? ⟨w.heap.size,1,none⟩=some (O al)/\w'.cell? ⟨w1.heap.size,0,none⟩=some (O (bY (ah*b)))/\w'.cell? ⟨w1.heap.size,1,none⟩=some (O (cu (ah*b)))) (simp (maxDischargeDepth:=12) [*,World.cell?_alloc_some,World.cell?_setCell_far])
   (first
    | (go_at_call 173;refine(nG al b h2 h3 _).mono ?_;rintro e w2 ⟨rfl,hb2⟩;have⟨hc2,hf2⟩:=zG hb2;have d2:=aQ hb2 (fU _ d0);have d3:=aQ hb2 (fU _ d1);have f2:=jQ hb2 (fU _ d0) (qZ _ _ f0);have f3:=jQ hb2 (fU _ d1) (qZ _ _ f1))
    | (go_at_call 175;refine(ZP (cu (ah*b)) 0 (bY (al*b)) (cu (al*b)) hwl hw0 hwh hwk _).mono ?_;rintro e w3 ⟨rfl,hb3⟩;have⟨hc3,hf3⟩:=zG hb3;have d4:=aQ hb3 d2;have d5:=aQ hb3 d3;have f4:=jQ hb3 d2 f2;have f5:=jQ hb3 d3 f3))
  go_wp2_with fail
  refine b_ (v:=.tuple #[.agg #[O (bY (dJ (val (cu (ah*b)) 0) (val (bY (al*b)) (cu (al*b))))),O (cu (dJ (val (cu (ah*b)) 0) (val (bY (al*b)) (cu (al*b)))))],.bool (wu (val (cu (ah*b)) 0) (val (bY (al*b)) (cu (al*b))))]) (by simp[results,results126,go_sem,d4,d5]) rfl ⟨rfl,?_⟩;have z2:=hb2.size;simp at z2;exact(((((dY.alloc dF _).trans (hb.mono fE)).alloc ak _).drew.trans (hb2.mono fE)).trans (hb3.mono ak)).setCell dF _ |>.setCell dF _
 ·have⟨e1,e2,e3⟩:=afs h1 h2 h3 h;rw[← e1,<-e2,e3];clear e1 e2 e3;have k2:(bY (ah*b) != 0)=true:=by simp[h]
  go_enter func126,ntmps126;go_wp2_with fail
  refine(nG ah b h1 h3 _).mono ?_;rintro e w1 ⟨rfl,hb⟩;have hz:=hb.size;simp at hz;have c0:w1.cell? ⟨w.heap.size+1,0,none⟩=some (O 0):=by rw[(lu hb).1 _ _ dF];simp
  have c1:w1.cell? ⟨w.heap.size+1,1,none⟩=some (O 0):=by rw[(lu hb).1 _ _ dF];simp
  have f0:w1.frozen? ⟨w.heap.size+1,0,none⟩=false:=by rw[(lu hb).2 _ _ dF];simp
  have f1:w1.frozen? ⟨w.heap.size+1,1,none⟩=false:=by rw[(lu hb).2 _ _ dF];simp
  go_wp2_with fail
  refine(DY _).mono ?_;rintro e w2 ⟨rfl,hb2⟩;have hz2:=hb2.size;simp at hz2;have d0:w2.cell? ⟨w.heap.size+1,0,none⟩=some (O 0):=by rw[(lu hb2).1 _ _ fE,World.cell?_alloc_past (hn:=ak)];exact c0
  have d1:w2.cell? ⟨w.heap.size+1,1,none⟩=some (O 0):=by rw[(lu hb2).1 _ _ fE,World.cell?_alloc_past (hn:=ak)];exact c1
  have g0:w2.frozen? ⟨w.heap.size+1,0,none⟩=false:=by rw[(lu hb2).2 _ _ fE,World.frozen?_alloc_past (hn:=ak)];exact f0
  have g1:w2.frozen? ⟨w.heap.size+1,1,none⟩=false:=by rw[(lu hb2).2 _ _ fE,World.frozen?_alloc_past (hn:=ak)];exact f1
  clear c0 c1 f0 f1;go_wp2_with fail
  refine b_ (v:=.tuple #[.agg #[O 18446744073709551615,O 18446744073709551615],.bool false]) (by simp[results,results126,go_sem,d0,d1]) rfl ⟨rfl,?_⟩;exact((((dY.alloc dF _).trans (hb.mono fE)).alloc ak _).trans (hb2.mono fE)).setCell dF _ |>.setCell dF _
def ZR (ah al n:Int) (h1:Word ah) (h2:Word al) (hm:n<9223372036854775808) (w:ay):
  Calls prog 213 #[.agg #[O ah,O al],J n] w fun e w'=>
   e=.returned (.agg #[O (bY (uI (val ah al) n)),O (cu (uI (val ah al) n))])/\Z w w':=by
 by_cases hn:n<0
 ·rw[aks _ _ hn,afi h2,apN h2];go_enter func213,ntmps213;go_wp2;exact b_ (v:=.agg #[O ah,O al]) (by simp[results,results213,go_sem]) rfl ⟨rfl,dY.alloc dF _⟩
 ·by_cases hk:n<64
  ·obtain ⟨e1,_,e2⟩:=abb ah al n h1 h2 ak hk;rw[← e1,<-e2];clear e1 e2;go_enter func213,ntmps213;go_wp2;go_region
   go_wp2;exact b_ (v:=.agg #[O (ah / 2^n.toNat),O (bits .or .u64 (al / 2^n.toNat) (IntKind.u64.wrap (ah*2^(64 - n).toNat)))]) (by simp[results,results213,go_sem]) rfl ⟨rfl,(dY.alloc dF _).drew⟩
  ·have⟨e1,e2⟩:=abd ah al n h1 h2 ak;rw[← e1,<-e2,<-S_ ah n h1];clear e1 e2;have hk':64<=n:=ak;go_enter func213,ntmps213;go_wp2;exact b_ (v:=.agg #[O 0,O (ah / 2^min (n - 64).toNat 64)]) (by simp[results,results213,go_sem]) rfl ⟨rfl,dY.alloc dF _⟩
def vL (w:ay):Calls prog 95 #[] w fun e w'=>e=.returned (.agg #[O 18446744073709551615,O 18446744073709551615])/\Z w w':=by
 go_enter func95,ntmps95;go_wp2;exact b_ (v:=.agg #[O 18446744073709551615,O 18446744073709551615]) (by simp[results,results95,go_sem]) rfl ⟨rfl,dY⟩
def aft (ah al bh bl:Int) (h2:Word al) (h4:Word bl) (w:ay):
  Calls prog 49 #[.agg #[O ah,O al],.agg #[O bh,O bl]] w fun e w'=>
   e=.returned (J (kU (val ah al) (val bh bl)))/\Z w w':=by
 by_cases h:ah=bh
 ·subst h;rw[← afr];unfold kU;by_cases l:al<bl
  ·go_enter func49,ntmps49;go_wp2;go_ret;exact⟨by simp,dY.alloc dF _⟩
  ·by_cases q:al=bl
   ·subst q;go_enter func49,ntmps49;go_wp2;go_ret;exact⟨by simp,dY.alloc dF _⟩
   ·have q':(al==bl)=false:=(by simp[q]);go_enter func49,ntmps49;go_wp2;go_ret;exact⟨by first | (simp;done) | (simp[q];done) | (simp[l,q];done),dY.alloc dF _⟩
 ·rw[← afq h2 h4 h];have k:(ah==bh)=false:=by simp[h]
  unfold kU;by_cases l:ah<bh
  ·go_enter func49,ntmps49;go_wp2;go_ret;exact⟨by first | (simp;done) | (simp[l];done),dY.alloc dF _⟩
  ·go_enter func49,ntmps49;go_wp2;go_ret;exact⟨by first | (simp;done) | (simp[l,h];done),dY.alloc dF _⟩
namespace Wd
def add1 {ah al bh bl:Int} (h1:Word ah) (h2:Word al) (h3:Word bh) (h4:Word bl) (c:al+bl<18446744073709551616) (h:ah+bh<18446744073709551616):
  ah+bh=bY (dJ (val ah al) (val bh bl))/\al+bl=cu (dJ (val ah al) (val bh bl))/\wu (val ah al) (val bh bl)=true:=by
 grind[Qa,Word]
def add2 {ah al bh bl:Int} (h1:Word ah) (h2:Word al) (h3:Word bh) (h4:Word bl) (c:18446744073709551616<=al+bl) (h:ah+bh+1<18446744073709551616):
  ah+bh+1=bY (dJ (val ah al) (val bh bl))/\IntKind.u64.wrap (al+bl)=cu (dJ (val ah al) (val bh bl))/\wu (val ah al) (val bh bl)=true:=by
 grind[Qa,d_,Word]
def SQ (a b:Int) (h1:Word a) (h2:Word b) (h:18446744073709551616<=a+b):IntKind.u64.wrap (a+b)<a:=by
 obtain⟨_,_⟩:=h1;obtain⟨_,_⟩:=h2;rw[d_];omega
end Wd
def Td (ah al bh bl:Int) (h1:Word ah) (h2:Word al) (h3:Word bh) (h4:Word bl) (w:ay):
  Calls prog 94 #[.agg #[O ah,O al],.agg #[O bh,O bl]] w fun e w'=>
   e=.returned (.tuple #[.agg #[O (bY (dJ (val ah al) (val bh bl))),O (cu (dJ (val ah al) (val bh bl)))],.bool (wu (val ah al) (val bh bl))])/\Z w w':=by
 by_cases c:al+bl<18446744073709551616
 ·by_cases h:ah+bh<18446744073709551616
  ·have⟨e1,e2,e3⟩:=add1 h1 h2 h3 h4 c h;rw[← e1,<-e2,e3];clear e1 e2 e3;obtain⟨a1,a2⟩:=h1;obtain⟨b1,b2⟩:=h2;obtain⟨c1,c2⟩:=h3;obtain⟨d1,d2⟩:=h4;have k:decide (ah<=ah+bh)=true:=fE;go_enter func94,ntmps94;go_wp2;exact b_ (v:=.tuple #[.agg #[O (ah+bh),O (al+bl)],.bool true]) (by simp[results,results94,go_sem]) rfl ⟨rfl,((dY.alloc dF _).alloc fE _).alloc fE _⟩
  ·have⟨e1,e2,e3⟩:=Xw h1 h2 h3 h4 (by obtain⟨_,_⟩:=h2;obtain⟨_,_⟩:=h4;omega)
   rw[← e1,<-e2,e3];clear e1 e2 e3
   exact atw
 ·have kl:=SQ al bl h2 h4 ak;by_cases h:ah+bh+1<18446744073709551616
  ·have⟨e1,e2,e3⟩:=add2 h1 h2 h3 h4 ak h;rw[← e1,<-e2,e3];clear e1 e2 e3;obtain⟨a1,a2⟩:=h1;obtain⟨b1,b2⟩:=h2;obtain⟨c1,c2⟩:=h3;obtain⟨d1,d2⟩:=h4;have k:decide (ah<=ah+bh)=true:=fE;have k':decide (0<ah+bh+1)=true:=fE;go_enter func94,ntmps94;go_wp2;exact b_ (v:=.tuple #[.agg #[O (ah+bh+1),O (IntKind.u64.wrap (al+bl))],.bool true]) (by simp[results,results94,go_sem]) rfl ⟨rfl,((dY.alloc dF _).alloc fE _).alloc fE _⟩
  ·have⟨e1,e2,e3⟩:=Xw h1 h2 h3 h4 (by obtain⟨_,_⟩:=h2;obtain⟨_,_⟩:=h4;omega)
   rw[← e1,<-e2,e3];clear e1 e2 e3
   by_cases g:ah+bh<18446744073709551616
   ·have k:(decide (0<IntKind.u64.wrap (ah+bh+1)))=false:=by rw[d_];simp;omega
    have k':¬0<IntKind.u64.wrap (ah+bh+1):=by rw[d_];omega
    have k2:decide (ah<=ah+bh)=true:=by obtain⟨_,_⟩:=h3;simp;omega
    obtain⟨a1,a2⟩:=h1;obtain⟨b1,b2⟩:=h2;obtain⟨c1,c2⟩:=h3;obtain⟨d1,d2⟩:=h4
    go_enter func94,ntmps94;go_wp2_with (go_at_call 95;refine(vL _).mono ?_;rintro e w1 ⟨rfl,hb⟩;have⟨hc,hf⟩:=lu hb)
    have hz:=hb.size;simp at hz;refine b_ (v:=.tuple #[.agg #[O 18446744073709551615,O 18446744073709551615],.bool false]) (by simp[results,results94,go_sem,hc]) rfl ⟨rfl,?_⟩;exact(((((dY.alloc dF _).alloc fE _).alloc fE _).trans (hb.mono fE)).setCell fE _).setCell fE _
   ·exact atw
def zH (x y:Int) (hx:Word x) (hy:Word y) (w:ay):
  Calls prog 92 #[O x,O y] w fun e w'=>e=.returned (.agg #[O (bY (x*y)),O (cu (x*y))])/\Z w w':=by
 have mx:=mask32 x hx;have my:=mask32 y hy;have e:=school x y;obtain⟨x0,x1⟩:=hx;obtain⟨y0,y1⟩:=hy;have⟨hh0,hh1⟩:=halves (a:=x / 4294967296) (b:=y / 4294967296) ak ak ak ak;have⟨hl0,hl1⟩:=halves (a:=x / 4294967296) (b:=y % 4294967296) ak ak ak ak;have⟨lh0,lh1⟩:=halves (a:=x % 4294967296) (b:=y / 4294967296) ak ak ak ak;have⟨ll0,ll1⟩:=halves (a:=x % 4294967296) (b:=y % 4294967296) ak ak ak ak;have m1:=mask32 (x / 4294967296*(y % 4294967296)) ⟨by omega,by omega⟩;have m2:=mask32 (x % 4294967296*(y / 4294967296)) ⟨by omega,by omega⟩;have m3:=mask32 (x % 4294967296*(y % 4294967296)) ⟨by omega,by omega⟩;have eh:x / 4294967296*(y / 4294967296)+x / 4294967296*(y % 4294967296) / 4294967296+x % 4294967296*(y / 4294967296) / 4294967296+(x % 4294967296*(y % 4294967296) / 4294967296+x / 4294967296*(y % 4294967296) % 4294967296+x % 4294967296*(y / 4294967296) % 4294967296) / 4294967296=bY (x*y):=by rw[e];unfold bY;omega
 have el:IntKind.u64.wrap (IntKind.u64.wrap ((x % 4294967296*(y % 4294967296) / 4294967296+x / 4294967296*(y % 4294967296) % 4294967296+x % 4294967296*(y / 4294967296) % 4294967296)*4294967296)+x % 4294967296*(y % 4294967296) % 4294967296)=cu (x*y):=by rw[e,d_,d_];unfold cu;omega
 have EH:Hid _:=eh;have EL:Hid _:=el;clear e eh el;go_enter func92,ntmps92;go_wp2;rw[EH.out,EL.out];exact b_ (v:=.agg #[O (bY (x*y)),O (cu (x*y))]) (by simp[results,results92,go_sem]) rfl ⟨rfl,dY⟩
def akv (n:Int) (hn:Word n) (w:ay):Calls prog 91 #[O n] w fun e w'=>e=.returned (.agg #[O (bY n),O (cu n)])/\Z w w':=by
 rw[(zu hn).1,(zu hn).2];go_enter func91,ntmps91;go_wp2;exact b_ (v:=.agg #[O 0,O n]) (by simp[results,results91,go_sem]) rfl ⟨rfl,dY⟩
namespace Wd
def NS (a b:Int):dJ a b=dJ b a/\wu a b=wu b a:=by grind[dJ,wu]
end Wd
def Xx (ah al b:Int) (h1:Word ah) (h2:Word al) (h3:Word b) (w:ay):
  Calls prog 48 #[.agg #[O ah,O al],O b] w fun e w'=>
   e=.returned (.tuple #[.agg #[O (bY (zq (val ah al) b)),O (cu (zq (val ah al) b))],.bool (IK (val ah al) b)])/\Z w w':=by
 by_cases h:bY (ah*b)=0
 ·have⟨e1,e3⟩:=ZQ (al:=al) h;rw[← e1,<-e3,(NS _ _).1,(NS _ _).2];clear e1 e3;have k2:decide (0<bY (ah*b))=false:=by simp[h]
  have k3:¬0<bY (ah*b):=by simp[h]
  have hw0:=aoM;have hwl:=jP (ah*b);have hwh:=lS (oH h2 h3);have hwk:=jP (al*b)
  clear h;go_enter func48,ntmps48;go_wp2_with fail
  refine(zH al b h2 h3 _).mono ?_;rintro e w1 ⟨rfl,hb⟩;have hz:=hb.size;simp at hz;have q0:w1.cell? ⟨w.heap.size,0,none⟩=some (O ah):=aQ hb (by simp[go_sem]);have q4:w1.cell? ⟨w.heap.size+1,0,none⟩=some (O 0):=aQ hb (by simp[go_sem]);have q5:w1.cell? ⟨w.heap.size+1,1,none⟩=some (O 0):=aQ hb (by simp[go_sem]);have f4:w1.frozen? ⟨w.heap.size+1,0,none⟩=false:=by rw[(lu hb).2 _ _ dF];simp[go_sem]
  have f5:w1.frozen? ⟨w.heap.size+1,1,none⟩=false:=by rw[(lu hb).2 _ _ dF];simp[go_sem]
  have z0:w.heap.size<w1.heap.size:=ak;have z1:w.heap.size+1<w1.heap.size:=ak;go_wp2_with fail
  refine(zH ah b h1 h3 _).mono ?_;rintro e w2 ⟨rfl,hb2⟩;have hz2:=hb2.size;simp at hz2;have r4:=aQ hb2 (fU _ q4);have r5:=aQ hb2 (fU _ q5);have g4:=jQ hb2 (fU _ q4) (qZ _ _ f4);have g5:=jQ hb2 (fU _ q5) (qZ _ _ f5);have r6:w2.cell? ⟨w1.heap.size,0,none⟩=some (O (bY (al*b))):=aQ hb2 dF;have r7:w2.cell? ⟨w1.heap.size,1,none⟩=some (O (cu (al*b))):=aQ hb2 dF;have y0:w.heap.size<w2.heap.size:=ak;have y1:w.heap.size+1<w2.heap.size:=ak;have y2:w1.heap.size<w2.heap.size:=ak;clear q0 q4 q5 f4 f5 z0;go_wp2_with fail
  refine(Td (bY (al*b)) (cu (al*b)) (cu (ah*b)) 0 hwh hwk hwl hw0 _).mono ?_;rintro e w3 ⟨rfl,hb3⟩;have hz3:=hb3.size;simp at hz3;have s4:=aQ hb3 (fU _ r4);have s5:=aQ hb3 (fU _ r5);have t4:=jQ hb3 (fU _ r4) (qZ _ _ g4);have t5:=jQ hb3 (fU _ r5) (qZ _ _ g5);clear r4 r5 g4 g5 r6 r7;go_wp2;refine b_ (v:=.tuple #[.agg #[O (bY (dJ (val (bY (al*b)) (cu (al*b))) (val (cu (ah*b)) 0))),O (cu (dJ (val (bY (al*b)) (cu (al*b))) (val (cu (ah*b)) 0)))],.bool (wu (val (bY (al*b)) (cu (al*b))) (val (cu (ah*b)) 0))]) (by simp[results,results48,go_sem,s4,s5]) rfl ⟨rfl,?_⟩;exact anT
 ·have⟨e1,e2,e3⟩:=afs h1 h2 h3 h;rw[← e1,<-e2,e3];clear e1 e2 e3;have hpos:0<bY (ah*b):=by have:=lS (oH h1 h3);obtain⟨_,_⟩:=this;omega
  have k2:decide (0<bY (ah*b))=true:=by simp[hpos]
  clear h;go_enter func48,ntmps48;go_wp2_with fail
  refine(zH al b h2 h3 _).mono ?_;rintro e w1 ⟨rfl,hb⟩;have hz:=hb.size;simp at hz;have q0:w1.cell? ⟨w.heap.size,0,none⟩=some (O ah):=aQ hb (by simp[go_sem]);have q4:w1.cell? ⟨w.heap.size+1,0,none⟩=some (O 0):=aQ hb (by simp[go_sem]);have q5:w1.cell? ⟨w.heap.size+1,1,none⟩=some (O 0):=aQ hb (by simp[go_sem]);have f4:w1.frozen? ⟨w.heap.size+1,0,none⟩=false:=by rw[(lu hb).2 _ _ dF];simp[go_sem]
  have f5:w1.frozen? ⟨w.heap.size+1,1,none⟩=false:=by rw[(lu hb).2 _ _ dF];simp[go_sem]
  have z0:w.heap.size<w1.heap.size:=ak;have z1:w.heap.size+1<w1.heap.size:=ak;go_wp2_with fail
  refine(zH ah b h1 h3 _).mono ?_;rintro e w2 ⟨rfl,hb2⟩;have hz2:=hb2.size;simp at hz2;have r4:=aQ hb2 (fU _ q4);have r5:=aQ hb2 (fU _ q5);have g4:=jQ hb2 (fU _ q4) (qZ _ _ f4);have g5:=jQ hb2 (fU _ q5) (qZ _ _ f5);have y1:w.heap.size+1<w2.heap.size:=ak;clear q0 q4 q5 f4 f5 z0;go_wp2_with fail
  refine(vL _).mono ?_;rintro e w3 ⟨rfl,hb3⟩;have hz3:=hb3.size;simp at hz3;have s4:=aQ hb3 (fU _ r4);have s5:=aQ hb3 (fU _ r5);have t4:=jQ hb3 (fU _ r4) (qZ _ _ g4);have t5:=jQ hb3 (fU _ r5) (qZ _ _ g5);clear r4 r5 g4 g5;go_wp2;refine b_ (v:=.tuple #[.agg #[O 18446744073709551615,O 18446744073709551615],.bool false]) (by simp[results,results48,go_sem,s4,s5]) rfl ⟨rfl,?_⟩;exact anT
end
end Go.Proofs.YtdhifkbbjlhcaaaGreatDoor
