import Derived.Test.YtdhifkbbjlhcaaaGreatDoorKz3
import Derived.Lib.BitFns
import Derived.Deep.CutBlock
import Derived.Deep.DeepCutAuto
set_option maxRecDepth 100000
set_option maxHeartbeats 4000000
set_option linter.defProp false
namespace Go.Proofs.YtdhifkbbjlhcaaaGreatDoor
open Go.Proofs.Tryz
section
open Go.RowKit Wd
namespace Wd
def af0:∀n:Fin 256,0<=Lib.len8 (n.val:Int)/\Lib.len8 (n.val:Int)<=8/\((n.val:Int)≠0->2^(Lib.len8 (n.val:Int)).toNat<=2*n.val/\n.val<2^(Lib.len8 (n.val:Int)).toNat):=by decide +kernel
def oO (b:Int) (h0:1<=b) (h1:b<=255):0<=Lib.len8 b/\Lib.len8 b<=8/\(2:Int)^(Lib.len8 b).toNat<=2*b/\b<(2:Int)^(Lib.len8 b).toNat:=by
 have h:=af0 ⟨b.toNat,by omega⟩;simp only[JK (show 0<=b by omega)]at h;obtain⟨h1,h2,h3⟩:=h;have⟨h4,h5⟩:=h3 ak;have e:((2^(Lib.len8 b).toNat:Nat):Int)=(2:Int)^(Lib.len8 b).toNat:=dF;refine⟨h1,h2,?_,?_⟩<;>omega
def Len (x n:Int):Prop:=1<=n/\n<=64/\(2:Int)^n.toNat<=2*x/\x<(2:Int)^n.toNat
def zZ (x b:Int) (d:Nat) (D:Int) (hd:d<=56) (hD:(2:Int)^d=D) (hb:b=x / D) (_hx:0<=x) (h0:1<=b) (h1:b<=255):Len x (d+Lib.len8 b):=by
 have⟨l0,l1,p0,p1⟩:=oO b h0 h1;have lp:1<=Lib.len8 b:=by grind
 have e:(2:Int)^((d:Int)+Lib.len8 b).toNat=D*2^(Lib.len8 b).toNat:=by rw[show ((d:Int)+Lib.len8 b).toNat=d+(Lib.len8 b).toNat by omega,Int.pow_add,hD]
 have hDp:0<D:=by grind
 have q0:=yE x D;have q1:=yC x (show D≠0 by omega);have q2:=yD x hDp;rw[← hb]at q0;have m0:=sZ p0 (show 0<=D by omega);have m1:=sZ (show b+1<=2^(Lib.len8 b).toNat by omega) (show 0<=D by omega);grind[Len]
end Wd
def abA (x:Int) (h0:1<=x) (h1:x<18446744073709551616) (w:ay):
  Calls prog 256 #[O x] w fun e w'=>∃n:Int,e=.returned (J n)/\Len x n/\w'=w:=by
 by_cases c1:4294967296<=x
 ·by_cases c2:65536<=x / 4294967296
  ·by_cases c3:256<=x / 4294967296 / 65536
   ·have hl:=zZ x (x / 4294967296 / 65536 / 256) 56 72057594037927936 ak iW ak ak ak ak;obtain⟨l0,l1,_,_⟩:=oO (x / 4294967296 / 65536 / 256) ak ak;have hix:=fun wx=>G5 (P:=prog) wx 9 .u8 (x / 4294967296 / 65536 / 256) underlying9 ak ak;have HL:Hid (Len x (56+Lib.len8 (x / 4294967296 / 65536 / 256))):=hl;exact zl
   ·have hl:=zZ x (x / 4294967296 / 65536) 48 281474976710656 ak iW ak ak ak ak;obtain⟨l0,l1,_,_⟩:=oO (x / 4294967296 / 65536) ak ak;have hix:=fun wx=>G5 (P:=prog) wx 9 .u8 (x / 4294967296 / 65536) underlying9 ak ak;have HL:Hid (Len x (48+Lib.len8 (x / 4294967296 / 65536))):=hl;exact zl
  ·by_cases c3:256<=x / 4294967296
   ·have hl:=zZ x (x / 4294967296 / 256) 40 1099511627776 ak iW ak ak ak ak;obtain⟨l0,l1,_,_⟩:=oO (x / 4294967296 / 256) ak ak;have hix:=fun wx=>G5 (P:=prog) wx 9 .u8 (x / 4294967296 / 256) underlying9 ak ak;have HL:Hid (Len x (40+Lib.len8 (x / 4294967296 / 256))):=hl;exact zl
   ·have hl:=zZ x (x / 4294967296) 32 4294967296 ak iW ak ak ak ak;obtain⟨l0,l1,_,_⟩:=oO (x / 4294967296) ak ak;have hix:=fun wx=>G5 (P:=prog) wx 9 .u8 (x / 4294967296) underlying9 ak ak;have HL:Hid (Len x (32+Lib.len8 (x / 4294967296))):=hl;exact zl
 ·by_cases c2:65536<=x
  ·by_cases c3:256<=x / 65536
   ·have hl:=zZ x (x / 65536 / 256) 24 16777216 ak iW ak ak ak ak;obtain⟨l0,l1,_,_⟩:=oO (x / 65536 / 256) ak ak;have hix:=fun wx=>G5 (P:=prog) wx 9 .u8 (x / 65536 / 256) underlying9 ak ak;have HL:Hid (Len x (24+Lib.len8 (x / 65536 / 256))):=hl;exact zl
   ·have hl:=zZ x (x / 65536) 16 65536 ak iW ak ak ak ak;obtain⟨l0,l1,_,_⟩:=oO (x / 65536) ak ak;have hix:=fun wx=>G5 (P:=prog) wx 9 .u8 (x / 65536) underlying9 ak ak;have HL:Hid (Len x (16+Lib.len8 (x / 65536))):=hl;exact zl
  ·by_cases c3:256<=x
   ·have hl:=zZ x (x / 256) 8 256 ak iW ak ak ak ak;obtain⟨l0,l1,_,_⟩:=oO (x / 256) ak ak;have hix:=fun wx=>G5 (P:=prog) wx 9 .u8 (x / 256) underlying9 ak ak;have HL:Hid (Len x (8+Lib.len8 (x / 256))):=hl;exact zl
   ·have hl:=zZ x (x) 0 1 ak iW ak ak ak ak;obtain⟨l0,l1,_,_⟩:=oO (x) ak ak;have hix:=fun wx=>G5 (P:=prog) wx 9 .u8 (x) underlying9 ak ak;have HL:Hid (Len x (Lib.len8 (x))):=(by {have h2:=hl;simp only[Int.natCast_zero,Int.zero_add]at h2;exact h2});exact zl
def apU (y:Int) (h0:1<=y) (h1:y<18446744073709551616) (w:ay):
  Calls prog 291 #[O y] w fun e w'=>∃s:Int,e=.returned (J s)/\0<=s/\s<=63/\9223372036854775808<=y*2^s.toNat/\y*2^s.toNat<18446744073709551616/\w'=w:=by
 go_enter func291,ntmps291;go_wp2_with fail
 refine(abA y h0 h1 _).mono ?_;rintro e w1 ⟨n,rfl,hn,rfl⟩;obtain⟨n0,n1,n2,n3⟩:=hn;have N2:Hid ((2:Int)^n.toNat<=2*y/\y<2^n.toNat):=⟨n2,n3⟩;clear n2 n3;go_wp2;go_ret;refine⟨_,rfl,by omega,by omega,?_,?_,rfl⟩
 ·have⟨n2,n3⟩:=N2.out;have e:(2:Int)^n.toNat*2^(64 - n).toNat=18446744073709551616:=by rw[← Int.pow_add,show n.toNat+(64 - n).toNat=64 by omega];rfl
  have hp:(0:Int)<=2^(64 - n).toNat:=Int.pow_nonneg aT;have m:=Nw n2 hp;rw[e,Int.mul_assoc]at m;omega
 ·have⟨n2,n3⟩:=N2.out;have e:(2:Int)^n.toNat*2^(64 - n).toNat=18446744073709551616:=by rw[← Int.pow_add,show n.toNat+(64 - n).toNat=64 by omega];rfl
  have hp:(0:Int)<2^(64 - n).toNat:=Int.pow_pos aT;have m:=Int.mul_lt_mul_of_pos_right n3 hp;rw[e]at m;exact m
def akV (lo y:Int) (h2:Word lo) (h3:Word y) (h:0<y) (w:ay):
  Calls prog 260 #[O 0,O lo,O y] w fun e w'=>e=.returned (.tuple #[O (lo / y),O (lo % y)])/\Z w w':=by
 obtain⟨a1,a2⟩:=h2;obtain⟨b1,b2⟩:=h3
 have k1:(y==0)=false:=fE;go_enter func260,ntmps260;go_wp2;go_region
 go_wp2;go_ret2
 exact⟨rfl,(aI _ _).drew⟩
namespace Wd
def af3 {hi lo y s:Int} (h1:Word hi) (h2:Word lo) (hy0:hi<y) (s0:0<=s) (s1:s<=63) (y0:9223372036854775808<=y*2^s.toNat) (y1:y*2^s.toNat<18446744073709551616):
  ∃U L p z c1 c0 Y qi,bits .or .u64 (IntKind.u64.wrap (hi*2^s.toNat)) (lo / 2^(64 - s).toNat)=U/\IntKind.u64.wrap (lo*2^s.toNat)=L/\y*2^s.toNat=Y/\Y / 4294967296=p/\bits .and .u64 Y 4294967295=z/\L / 4294967296=c1/\bits .and .u64 L 4294967295=c0/\U / p=qi/\
   Y=p*4294967296+z/\Word Y/\Word U/\Word L/\Digit U c1 p z/\(∀r,0<=r->r<Y->Digit r c0 p z)/\val hi lo*2^s.toNat=U*18446744073709551616+L/\c1=L / 4294967296/\c0=L % 4294967296:=by
 obtain⟨e1,_,e2⟩:=aa_ hi lo s h1 h2 s0 ak;have es:IL (val hi lo) s=(val hi lo*2^s.toNat) % 340282366920938463463374607431768211456:=by unfold IL;rw[au ak]
 have hn:=akp h1 h2;have hP:=qI s.toNat;have hlt:val hi lo*2^s.toNat<(y*2^s.toNat)*18446744073709551616:=by
  have a:val hi lo<y*18446744073709551616:=by obtain⟨_,_⟩:=h2;unfold val;omega
  have b:=Int.mul_lt_mul_of_pos_right a (show (0:Int)<2^s.toNat by omega);rw[Int.mul_right_comm]at b;exact b
 have h0:0<=val hi lo*2^s.toNat:=sW hn.1 ak;have es':IL (val hi lo) s=val hi lo*2^s.toNat:=by rw[es];omega
 rw[es']at e1 e2;refine⟨_,_,_,_,_,_,_,_,rfl,rfl,rfl,rfl,rfl,rfl,rfl,rfl,?_⟩;rw[e1,e2];have wL:=jP (val hi lo*2^s.toNat);have wY:Word (y*2^s.toNat):=⟨by omega,y1⟩;rw[mask32 _ wL,mask32 _ wY];have apV:bY (val hi lo*2^s.toNat)*18446744073709551616+cu (val hi lo*2^s.toNat)=val hi lo*2^s.toNat:=iO (val hi lo*2^s.toNat);have hU:0<=bY (val hi lo*2^s.toNat)/\bY (val hi lo*2^s.toNat)<y*2^s.toNat:=by unfold bY;exact⟨uG h0 ak,DN ak hlt⟩
 obtain⟨u0,u1⟩:=hU;obtain⟨l0,l1⟩:=wL;generalize bY (val hi lo*2^s.toNat)=U at *;generalize cu (val hi lo*2^s.toNat)=L at *;generalize y*2^s.toNat=Y at *;refine⟨by omega,wY,⟨u0,by omega⟩,⟨l0,l1⟩,⟨by omega,by omega,by omega,by omega,by omega,by omega,u0,by omega⟩,fun r r0 r1=>⟨by omega,by omega,by omega,by omega,by omega,by omega,r0,by omega⟩,apV.symm,rfl,rfl⟩
end Wd
def akW (hi lo y:Int) (h1:Word hi) (h2:Word lo) (h3:Word y) (h0:0<hi) (h:hi<y) (w:ay):
  Calls prog 260 #[O hi,O lo,O y] w fun e w'=>e=.returned (.tuple #[O (val hi lo / y),O (val hi lo % y)])/\Z w w':=by
 have w1:=h1;have w2:=h2
 obtain⟨c1,c2⟩:=h1;obtain⟨a1,a2⟩:=h2;obtain⟨b1,b2⟩:=h3
 have k1:(y==0)=false:=fE;have k2:(hi==0)=false:=fE;go_enter func260,ntmps260;go_wp2_with fail
 refine(apU y ak b2 _).mono ?_;rintro e w' ⟨s,rfl,s0,s1,y0,y1,rfl⟩;have⟨U,L,p,z,d1,d0,Y,qi,eU,eL,eY,ep,ez,ed1,ed0,eqi,eYp,wY,wU,wL,D1,D0,eV,atT,atU⟩:=af3 w1 w2 h s0 s1 y0 y1;rw[eY]at y0 y1;obtain⟨p0,p1,z0,z1,dd0,dd1,U0,U1⟩:=D1;have D1:Digit U d1 p z:=⟨p0,p1,z0,z1,dd0,dd1,U0,U1⟩;have S1:=Xo D1;rw[eqi]at S1;obtain⟨_,i1,i2,_,i4,i5⟩:=S1;have S1:=Xo D1;rw[eqi]at S1;have uW:Hid (St U d1 p z qi (U - qi*p)):=S1;have HV:Hid (val hi lo*2^s.toNat=U*18446744073709551616+L/\d1=L / 4294967296/\d0=L % 4294967296/\Y=p*4294967296+z/\y*2^s.toNat=Y):=⟨eV,atT,atU,eYp,eY⟩;have HD0:Hid (∀r,0<=r->r<Y->Digit r d0 p z):=D0;obtain⟨U0',U2⟩:=wU;obtain⟨L0,L1⟩:=wL;have mi:0<=qi*p:=sW i4 ak;clear S1 eV atT atU eYp D0 w1 w2 wY;have HQ:Hid (0<=Jg U d1 p z/\Jg U d1 p z<4294967296):=⟨qd D1,Xn D1⟩;have HD1:Hid (Digit U d1 p z):=D1;clear D1;go_upto_block 0 with fail
 rw[eqi];clear eqi;go_cut [15,16] (fun a b wc=>w'=wc/\a=O (Jg U d1 p z)/\∃r:Int,b=O r)
 case first=>
  go_wp2_with fail
  go_loop [15,16] (fun a b=>∃q r:Int,a=O q/\b=O r/\St U d1 p z q r) (fun a _=>(intOf a).toNat)
  case atStart=>exact⟨qi,_,rfl,rfl,uW.out⟩
  case round=>
   obtain⟨q,r,rfl,rfl,hst⟩:=hrel;have HS:Hid (St U d1 p z q r):=hst;obtain⟨hre,r0,r1,_,q0,q1⟩:=hst;clear hre;by_cases g:4294967296<=q
   ·have gb:decide (4294967296<=q)=true:=(by simp[g]);by_cases b:4294967296<=r+p
    ·go_wp2;go_meet
     exact⟨rfl,by rw[Jh HD1.out HS.out (Or.inl g) b],_,rfl⟩
    ·go_wp2;go_round
     case rel=>exact⟨q - 1,r+p,rfl,rfl,P9 HD1.out HS.out (Or.inl g) ak⟩
     case measure=>simp[intOf];omega
   ·have gb:decide (4294967296<=q)=false:=fE;have m0:=sW q0 z0;have m1:q*z<=4294967295*4294967295:=Cj ak ak z0 ak;by_cases t:4294967296*r+d1<q*z
    ·have tb:decide (4294967296*r+d1<q*z)=true:=(by simp[t]);have q2:1<=q:=(by have:=P8 HD1.out HS.out (Or.inr t);have:=qd HD1.out;omega);by_cases b:4294967296<=r+p
     ·go_wp2;go_meet
      exact⟨rfl,by rw[Jh HD1.out HS.out (Or.inr t) b],_,rfl⟩
     ·go_wp2;go_round
      case rel=>exact⟨q - 1,r+p,rfl,rfl,P9 HD1.out HS.out (Or.inr t) ak⟩
      case measure=>simp[intOf];omega
    ·have tb:decide (4294967296*r+d1<q*z)=false:=fE;go_wp2;go_meet;exact⟨rfl,by rw[ZN HD1.out HS.out ak],_,rfl⟩
 case rest=>
  obtain⟨rfl,rfl,r,rfl⟩:=hcut;have⟨eR,R0,R1⟩:=aoK HD1.out;rw[← HV.out.2.2.2.1]at eR R0 R1;have HR:Hid ((U*4294967296+d1) % Y=(U*4294967296+d1) % Y):=rfl;have⟨Q,eQ⟩:=aZ (Jg U d1 p z);have⟨R,eR2⟩:=aZ ((U*4294967296+d1) % Y);rw[eR2]at eR R0 R1;rw[eQ]at eR HQ;have⟨Q0,Q1⟩:=HQ.out;have HE:Hid (Q=(U*4294967296+d1) / Y/\R=(U*4294967296+d1) % Y):=⟨by rw[← eQ,Jg,<-HV.out.2.2.2.1],eR2.symm⟩;rw[eQ];have HDR:Hid (Digit R d0 p z):=HD0.out R R0 R1;have HQ2:Hid (0<=Jg R d0 p z/\Jg R d0 p z<4294967296):=⟨qd HDR.out,Xn HDR.out⟩;have⟨qj,eqj⟩:=aZ (R / p);have S2:=Xo HDR.out;rw[eqj]at S2;have HS2:Hid (St R d0 p z qj (R - qj*p)):=S2;obtain⟨_,j1,j2,_,j4,j5⟩:=S2;have mj:0<=qj*p:=sW j4 ak;obtain⟨_,_,_,_,e0,e1,_,_⟩:=HDR.out;clear HR eQ eR2 uW HQ i1 i2 i4 i5 mi eU eL eY ep ez ed1 ed0;go_upto_block 2 with fail
  try rw[eqj]
  clear eqj;go_cut [18,16] (fun a b wc=>w'=wc/\a=O (Jg R d0 p z)/\∃r:Int,b=O r)
  case first=>
   go_wp2_with fail
   go_loop [18,16] (fun a b=>∃q r:Int,a=O q/\b=O r/\St R d0 p z q r) (fun a _=>(intOf a).toNat)
   case atStart=>exact⟨qj,_,rfl,rfl,HS2.out⟩
   case round=>
    obtain⟨q,r,rfl,rfl,hst⟩:=hrel;have HS:Hid (St R d0 p z q r):=hst;obtain⟨hre,r0,r1,_,q0,q1⟩:=hst;clear hre;by_cases g:4294967296<=q
    ·have gb:decide (4294967296<=q)=true:=(by simp[g]);by_cases b:4294967296<=r+p
     ·go_wp2;go_meet
      exact⟨rfl,by rw[Jh HDR.out HS.out (Or.inl g) b],_,rfl⟩
     ·go_wp2;go_round
      case rel=>exact⟨q - 1,r+p,rfl,rfl,P9 HDR.out HS.out (Or.inl g) ak⟩
      case measure=>simp[intOf];omega
    ·have gb:decide (4294967296<=q)=false:=fE;have m0:=sW q0 z0;have m1:q*z<=4294967295*4294967295:=Cj ak ak z0 ak;by_cases t:4294967296*r+d0<q*z
     ·have tb:decide (4294967296*r+d0<q*z)=true:=(by simp[t]);have q2:1<=q:=(by have:=P8 HDR.out HS.out (Or.inr t);have:=qd HDR.out;omega);by_cases b:4294967296<=r+p
      ·go_wp2;go_meet
       exact⟨rfl,by rw[Jh HDR.out HS.out (Or.inr t) b],_,rfl⟩
      ·go_wp2;go_round
       case rel=>exact⟨q - 1,r+p,rfl,rfl,P9 HDR.out HS.out (Or.inr t) ak⟩
       case measure=>simp[intOf];omega
     ·have tb:decide (4294967296*r+d0<q*z)=false:=fE;go_wp2;go_meet;exact⟨rfl,by rw[ZN HDR.out HS.out ak],_,rfl⟩
  case rest=>
   obtain⟨rfl,rfl,r,rfl⟩:=hcut;have⟨eT,T0,T1⟩:=aoK HDR.out;rw[← HV.out.2.2.2.1]at eT T0 T1;have⟨P,eP⟩:=aZ (Jg R d0 p z);have⟨T,eT2⟩:=aZ ((R*4294967296+d0) % Y);rw[eT2]at eT T0 T1;rw[eP]at eT HQ2;have⟨P0,P1⟩:=HQ2.out;have HF:Hid (P=(R*4294967296+d0) / Y/\T=(R*4294967296+d0) % Y):=⟨by rw[← eP,Jg,<-HV.out.2.2.2.1],eT2.symm⟩;rw[eP];clear eP eT2 HS2 HQ2 j1 j2 j4 j5 mj eR;go_wp2;go_ret2
   have⟨v1,v2,v3,v4,v5⟩:=HV.out;have⟨u1,u2⟩:=HE.out;have⟨u3,u4⟩:=HF.out;have⟨f1,f2⟩:=akt (N:=val hi lo) (y:=y) (P:=2^s.toNat) (Y:=Y) (U:=U) (L:=L) ak (qI _) v5.symm v1 Q R P T (by rw[← v2];exact u1) (by rw[← v2];exact u2) (by rw[← v3];exact u3) (by rw[← v3];exact u4);exact⟨by rw[← f1,<-f2];rfl,aI _ _⟩
def atW (hi lo y:Int) (h1:Word hi) (h2:Word lo) (h3:Word y) (h:hi<y) (w:ay):
  Calls prog 260 #[O hi,O lo,O y] w fun e w'=>e=.returned (.tuple #[O (val hi lo / y),O (val hi lo % y)])/\Z w w':=by
 by_cases z:hi=0
 ·subst z;have e:val 0 lo=lo:=by unfold val;omega
  rw[e];exact akV lo y h2 h3 h w
 ·exact akW hi lo y h1 h2 h3 (by obtain⟨_,_⟩:=h1;omega) h w
namespace Wd
def abB {ah al b:Int} (h1:Word ah) (h2:Word al) (h3:0<b) (h4:b<18446744073709551616):
  ah / b=bY (Cz (val ah al) b)/\val (ah % b) al / b=cu (Cz (val ah al) b)/\val (ah % b) al % b=P6 (val ah al) b/\Word (ah % b)/\ah % b<b:=by
 obtain⟨a0,a1⟩:=h1;obtain⟨l0,l1⟩:=h2
 have m0:=yC ah (show b≠0 by omega);have m1:=yD ah h3;have q0:=uG a0 (show 0<=b by omega);have e:=yE ah b;have ev:val ah al=val (ah % b) al+ah / b*18446744073709551616*b:=by grind[val]
 have hlt:val (ah % b) al<b*18446744073709551616:=by grind[val]
 have h0:0<=val (ah % b) al:=by grind[val]
 have r0:0<=val (ah % b) al / b:=uG h0 ak;have r1:=DN h3 (by rw[SC];exact hlt);have ed:Cz (val ah al) b=ah / b*18446744073709551616+val (ah % b) al / b:=by unfold Cz;rw[au ak,ev,JG _ _ ak,Int.add_comm]
 have er:P6 (val ah al) b=val (ah % b) al % b:=by unfold P6;rw[au ak,ev,Int.add_mul_emod_self_right]
 grind[bY,cu,Word]
end Wd
def akY (ah al b:Int) (h1:Word ah) (h2:Word al) (h3:Word b) (w:ay):
  Calls prog 212 #[.agg #[O ah,O al],O b] w fun e w'=>
   e=.returned (.tuple #[.agg #[O (bY (Cz (val ah al) b)),O (cu (Cz (val ah al) b))],O (P6 (val ah al) b),.bool (S9 b)])/\Z w w':=by
 by_cases z:b=0
 ·subst z;rw[show Cz (val ah al) 0=0 from rfl,show P6 (val ah al) 0=0 from rfl,show S9 0=false from rfl,show bY 0=0 from rfl,show cu 0=0 from rfl];go_enter func212,ntmps212;go_wp2;exact b_ (v:=.tuple #[.agg #[O 0,O 0],O 0,.bool false]) (by simp[results,results212,go_sem]) rfl ⟨rfl,dY.alloc dF _⟩
 ·have hb3:=h3;obtain⟨b0,b1⟩:=h3;have bp:0<b:=ak;have⟨e1,e2,e3,wm,lm⟩:=abB h1 h2 bp b1;have ed:S9 b=true:=by simp[S9,z]
  rw[← e1,<-e2,<-e3,ed];have hal:=h2;obtain⟨a0,a1⟩:=h1;obtain⟨l0,l1⟩:=h2;have k:(b==0)=false:=by simp[z]
  have q0:0<=ah / b:=uG a0 ak;have q1:ah / b<18446744073709551616:=by have:=GX b a0;omega
  have m0:=wm.1;clear e1 e2 e3 ed;have htm:ah.tmod b=ah % b:=Int.tmod_eq_emod_of_nonneg a0;go_enter func212,ntmps212;go_wp2;go_region_held3 (fun w'=>w'.cell? ⟨w.heap.size,0,none⟩=some (O ah)/\w'.cell? ⟨w.heap.size,1,none⟩=some (O al)) (simp (maxDischargeDepth:=12) [*,go_sem,World.cell?_alloc_some])
   (first | (go_at_call 260;refine(atW (ah % b) al b wm hal hb3 lm _).mono ?_;rintro e w1 ⟨rfl,hb⟩;have⟨hc,hf⟩:=zG hb))
  have hz:=hb.size;simp at hz;have c0:w1.cell? ⟨w.heap.size,0,none⟩=some (O ah):=aQ hb (by simp[go_sem]);have d0:w1.cell? ⟨w.heap.size+1,0,none⟩=some (O 0):=aQ hb (by simp[go_sem]);have d1:w1.cell? ⟨w.heap.size+1,1,none⟩=some (O 0):=aQ hb (by simp[go_sem]);have f0:w1.frozen? ⟨w.heap.size+1,0,none⟩=false:=by rw[(lu hb).2 _ _ dF];simp[go_sem]
  have f1:w1.frozen? ⟨w.heap.size+1,1,none⟩=false:=by rw[(lu hb).2 _ _ dF];simp[go_sem]
  clear hc hf htm;go_wp2;refine b_ (v:=.tuple #[.agg #[O (ah / b),O (val (ah % b) al / b)],O (val (ah % b) al % b),.bool true]) (by simp[results,results212,go_sem,d0,d1]) rfl ⟨rfl,?_⟩;exact((dY.alloc dF _).drew.trans (hb.mono fE)).setCell dF _ |>.setCell dF _
def Eh (u v:Int) (hu:Num u) (hv:Num v) (w:ay):
  Calls prog 175 #[.agg #[O (bY u),O (cu u)],.agg #[O (bY v),O (cu v)]] w fun e w'=>
   e=.returned (.tuple #[.agg #[O (bY (dJ u v)),O (cu (dJ u v))],.bool (wu u v)])/\Z w w':=by
 have c:=ZP (bY u) (cu u) (bY v) (cu v) (lS hu) (jP u) (lS hv) (jP v) w;rw[iO,iO]at c;exact c
def Qv (u b:Int) (hu:Num u) (hb:Word b) (w:ay):
  Calls prog 212 #[.agg #[O (bY u),O (cu u)],O b] w fun e w'=>
   e=.returned (.tuple #[.agg #[O (bY (Cz u b)),O (cu (Cz u b))],O (P6 u b),.bool (S9 b)])/\Z w w':=by
 have c:=akY (bY u) (cu u) b (lS hu) (jP u) hb w;rw[iO]at c;exact c
def Om (u b:Int) (hu:Num u) (hb:Word b) (w:ay):
  Calls prog 126 #[.agg #[O (bY u),O (cu u)],O b] w fun e w'=>
   e=.returned (.tuple #[.agg #[O (bY (zq u b)),O (cu (zq u b))],.bool (IK u b)])/\Z w w':=by
 have c:=abj (bY u) (cu u) b (lS hu) (jP u) hb w;rw[iO]at c;exact c
def FX (r:Int) (hr:Word r) (w:ay):
  Calls prog 172 #[O r] w fun e w'=>e=.returned (.agg #[O (bY r),O (cu r)])/\Z w w':=by
 have c:=Xv r w;rw[(zu hr).1,(zu hr).2];exact c
def aoV {W w w0:ay} {a0 a1:Addr} {v0 v1:Value} (hb:Z W w) (h:W.cell? a0=some v0/\W.cell? a1=some v1/\Z w0 W/\w0.heap.size<=W.heap.size):w.cell? a0=some v0/\w.cell? a1=some v1/\Z w0 w/\w0.heap.size<=w.heap.size:=by
 grind[aQ,kR,jm,gN]
def oP (u:Int) (hu:Num u) (w:ay):
  Calls prog 262 #[.agg #[O (bY u),O (cu u)]] w fun e w'=>e=.returned (.tuple #[O (jF u),.bool (FM u)])/\Z w w':=by
 by_cases h:bY u=0
 ·have⟨e1,e2⟩:=ae2 hu h;rw[e1,e2,h];go_enter func262,ntmps262;go_wp2_with fail
  have HS:Hid ((w.alloc (.cells #[O 0,O (cu u)] 179)).drew.cell? ⟨w.heap.size,0,none⟩=some (O 0)/\(w.alloc (.cells #[O 0,O (cu u)] 179)).drew.cell? ⟨w.heap.size,1,none⟩=some (O (cu u))/\Z w (w.alloc (.cells #[O 0,O (cu u)] 179)).drew/\w.heap.size<=(w.alloc (.cells #[O 0,O (cu u)] 179)).drew.heap.size):=⟨by simp,by simp,dY.drew,by simp⟩;go_region_held3 (fun w'=>w'.cell? ⟨w.heap.size,0,none⟩=some (O 0)/\w'.cell? ⟨w.heap.size,1,none⟩=some (O (cu u))/\Z w w'/\w.heap.size<=w'.heap.size) (first | exact HS.out | exact aoV lV lV)
   (first | (go_at_call 172;refine(Xv (cu u) _).mono ?_;rintro e x ⟨rfl,hx⟩))
  have hS:x.cell? ⟨w.heap.size,0,none⟩=some (O 0)/\x.cell? ⟨w.heap.size,1,none⟩=some (O (cu u))/\Z w x/\w.heap.size<=x.heap.size:=lV;obtain⟨c0,c1,hB,hz⟩:=hS;go_wp2;go_ret2
  exact⟨rfl,hB⟩
 ·have⟨e1,e2⟩:=Xl hu h;rw[e1,e2];have k:(bY u==0)=false:=by simp[h]
  go_enter func262,ntmps262;go_wp2_with fail
  have HS:Hid ((w.alloc (.cells #[O (bY u),O (cu u)] 179)).drew.cell? ⟨w.heap.size,0,none⟩=some (O (bY u))/\(w.alloc (.cells #[O (bY u),O (cu u)] 179)).drew.cell? ⟨w.heap.size,1,none⟩=some (O (cu u))/\Z w (w.alloc (.cells #[O (bY u),O (cu u)] 179)).drew/\w.heap.size<=(w.alloc (.cells #[O (bY u),O (cu u)] 179)).drew.heap.size):=⟨by simp,by simp,dY.drew,by simp⟩;go_region_held3 (fun w'=>w'.cell? ⟨w.heap.size,0,none⟩=some (O (bY u))/\w'.cell? ⟨w.heap.size,1,none⟩=some (O (cu u))/\Z w w'/\w.heap.size<=w'.heap.size) (first | exact HS.out | exact aoV lV lV)
   (first | (go_at_call 172;refine(Xv (cu u) _).mono ?_;rintro e x ⟨rfl,hx⟩))
  have hS:x.cell? ⟨w.heap.size,0,none⟩=some (O (bY u))/\x.cell? ⟨w.heap.size,1,none⟩=some (O (cu u))/\Z w x/\w.heap.size<=x.heap.size:=lV;obtain⟨c0,c1,hB,hz⟩:=hS;go_wp2;go_ret2
  exact⟨rfl,hB⟩
def Jo (u b:Int) (hu:Num u) (hb:Word b) (h:b≠0) (w:ay):
  Calls prog 212 #[.agg #[O (bY u),O (cu u)],O b] w fun e w'=>
   e=.returned (.tuple #[.agg #[O (bY (u / b)),O (cu (u / b))],O (u % b),.bool true])/\Z w w':=by
 have c:=Qv u b hu hb w;obtain⟨e1,e2,e3,_⟩:=sK hu hb h;rw[e1,e2,e3]at c;exact c
def apL (u:Int) (hu:Num u) (w:ay):
  Calls prog 212 #[.agg #[O (bY u),O (cu u)],O 0] w fun e w'=>
   e=.returned (.tuple #[.agg #[O 0,O 0],O 0,.bool false])/\Z w w':=
 Qv u 0 hu ⟨by omega,by omega⟩ w
def Ue (x y:Int) (hx:Word x) (hy:Word y) (w:ay):
  Calls prog 173 #[O x,O y] w fun e w'=>e=.returned (.agg #[O (bY (x*y)),O (cu (x*y))])/\Z w w':=nG x y hx hy w
def Oo (u b:Int) (hu:Num u) (hb:Word b) (h:b≠0) (w:ay):
  Calls prog 126 #[.agg #[O (bY (u / b)),O (cu (u / b))],O b] w fun e w'=>
   e=.returned (.tuple #[.agg #[O (bY (u / b*b)),O (cu (u / b*b))],.bool (IK (u / b) b)])/\Z w w':=by
 obtain⟨_,_,_,nq,_,_,_,e⟩:=sK hu hb h;have c:=Om (u / b) b nq hb w;rw[e]at c;exact c
def Ky (u b:Int) (hu:Num u) (hb:Word b) (w:ay):
  Calls prog 220 #[.agg #[O (bY u),O (cu u)],O b] w fun e w'=>e=.returned (.tuple #[O (dnV u b),.bool (dnB u b)])/\Z w w':=by
 by_cases z:b=0
 ·subst z;rw[show dnV u 0=18446744073709551615 from rfl,show dnB u 0=false from rfl];go_enter func220,ntmps220;exact anO
 ·obtain ⟨_,_,_,nq,_⟩:=sK hu hb z;rw[show dnV u b=jF (u / b) by unfold dnV;rw[au z],show dnB u b=FM (u / b) by unfold dnB;rw[au z]];go_enter func220,ntmps220;go_wp2_with fail
  refine(Jo u b hu hb z _).mono ?_;rintro e w1 ⟨rfl,hb1⟩;go_wp2_with fail
  refine(oP (u / b) nq _).mono ?_;rintro e w2 ⟨rfl,hb2⟩;go_wp2;go_ret2
  have z1:=hb1.size;simp at z1;exact⟨rfl,((dY.trans (hb1.mono dF)).alloc ak _).trans (hb2.mono fE)⟩
def apW (u b:Int) (hu:Num u) (hb:Word b) (w:ay):
  Calls prog 261 #[.agg #[O (bY u),O (cu u)],O b] w fun e w'=>e=.returned (.tuple #[O (upV u b),.bool (upB u b)])/\Z w w':=by
 by_cases z:b=0
 ·subst z;rw[show upV u 0=18446744073709551615 from rfl,show upB u 0=false from rfl];go_enter func261,ntmps261;exact anO
 ·obtain ⟨_,_,_,nq,m0,m1,em,_⟩:=sK hu hb z;rw[show upV u b=jF (BP u b) by unfold upV;rw[au z],show upB u b=FM (BP u b) by unfold upB;rw[au z]];by_cases m:u % b=0
  ·have e5:BP u b=u / b:=by unfold BP;rw[aJ m]
   have e6:u / b*b=u:=ak;rw[e5];go_enter func261,ntmps261;go_wp2_with fail
   refine(Jo u b hu hb z _).mono ?_;rintro e w1 ⟨rfl,hb1⟩;have c0:w1.cell? ⟨w.heap.size,0,none⟩=some (O (bY u)):=aQ hb1 dF;have c1:w1.cell? ⟨w.heap.size,1,none⟩=some (O (cu u)):=aQ hb1 dF;have z1:=hb1.size;simp at z1;go_wp2_with fail
   refine(Oo u b hu hb z _).mono ?_;rw[e6];rintro e w2 ⟨rfl,hb2⟩;have z2:=hb2.size;simp at z2;have n2:w.heap.size<w2.heap.size:=ak;have n3:w1.heap.size<w2.heap.size:=ak;replace c0:=aQ hb2 (fU _ c0);replace c1:=aQ hb2 (fU _ c1);have q0:w2.cell? ⟨w1.heap.size,0,none⟩=some (O (bY (u / b))):=aQ hb2 dF;have q1:w2.cell? ⟨w1.heap.size,1,none⟩=some (O (cu (u / b))):=aQ hb2 dF;go_wp2_with fail
   refine(oP (u / b) nq _).mono ?_;rintro e w3 ⟨rfl,hb3⟩;go_wp2;go_ret2
   exact⟨rfl,((((dY.trans (hb1.mono dF)).alloc ak _).trans (hb2.mono fE)).alloc ak _).trans (hb3.mono fE)⟩
  ·have e5:BP u b=u / b+1:=by unfold BP;rw[au m]
   have⟨ea,na⟩:=afk hu hb z m;rw[e5];have hne:=afl (show u / b*b≠u by omega);have k2:(bY (u / b*b)==bY u&&cu (u / b*b)==cu u)=false:=(by simpa using hne);go_enter func261,ntmps261;go_wp2_with fail
   refine(Jo u b hu hb z _).mono ?_;rintro e w1 ⟨rfl,hb1⟩;have c0:w1.cell? ⟨w.heap.size,0,none⟩=some (O (bY u)):=aQ hb1 dF;have c1:w1.cell? ⟨w.heap.size,1,none⟩=some (O (cu u)):=aQ hb1 dF;have z1:=hb1.size;simp at z1;go_wp2_with fail
   refine(Oo u b hu hb z _).mono ?_;rintro e w2 ⟨rfl,hb2⟩;have z2:=hb2.size;simp at z2;have n2:w.heap.size<w2.heap.size:=ak;have n3:w1.heap.size<w2.heap.size:=ak;replace c0:=aQ hb2 (fU _ c0);replace c1:=aQ hb2 (fU _ c1);have q0:w2.cell? ⟨w1.heap.size,0,none⟩=some (O (bY (u / b))):=aQ hb2 dF;have q1:w2.cell? ⟨w1.heap.size,1,none⟩=some (O (cu (u / b))):=aQ hb2 dF;have f0:w2.frozen? ⟨w1.heap.size,0,none⟩=false:=(by rw[(lu hb2).2 _ _ dF];simp[go_sem]);have f1:w2.frozen? ⟨w1.heap.size,1,none⟩=false:=(by rw[(lu hb2).2 _ _ dF];simp[go_sem]);go_wp2_with fail
   all_goals
    clear c0 c1
    go_region_with (first
     | (go_at_call 172;refine(FX 1 ⟨by omega,by omega⟩ _).mono ?_;rintro e x ⟨rfl,hx⟩;have x0:=aQ hx (fU _ q0);have x1:=aQ hx (fU _ q1);have y0:=jQ hx (fU _ q0) (qZ _ _ f0);have y1:=jQ hx (fU _ q1) (qZ _ _ f1))
     | (go_at_call 175;refine(Eh (u / b) 1 nq ⟨by omega,by unfold top;omega⟩ _).mono ?_;rw[ea];rintro e y ⟨rfl,hy⟩;have u0:=aQ hy x0;have u1:=aQ hy x1;have v0:=jQ hy x0 y0;have v1:=jQ hy x1 y1))
    all_goals
     have s1:=hx.size
     have s2:=hy.size
     simp at s1
     have HY:Hid _:=(((((dY.trans (hb1.mono dF)).alloc ak _).trans (hb2.mono fE)).alloc ak _).drew.trans (hx.mono fE)).trans (hy.mono ak)
     go_wp2_with fail
     refine(oP (u / b+1) na _).mono ?_
     rintro e w3 ⟨rfl,hb3⟩
     go_wp2
     go_ret2
     exact⟨rfl,((HY.out.setCell fE _).setCell fE _).trans (hb3.mono fE)⟩
namespace Wd
def FY:Word 4294967296:=⟨by omega,by omega⟩
def af4:Word 9223372036854775808:=⟨by omega,by omega⟩
def abC {a b:Int} (ha:Word a) (hb:Word b):dJ a b=a+b/\Num (a+b):=by
 grind[top,dJ,Num,Word]
end Wd
def Hl (a b:Int) (ha:Word a) (hb:Word b) (w:ay):
  Calls prog 180 #[O a,O b] w fun e w'=>e=.returned (.tuple #[O (dnV (a*4294967296) b),.bool (dnB (a*4294967296) b)])/\Z w w':=by
 go_enter func180,ntmps180;go_wp2_with fail
 refine(nG a 4294967296 ha FY _).mono ?_;rintro e w1 ⟨rfl,hb1⟩;go_wp2_with fail
 refine(Ky (a*4294967296) b (oH ha FY) hb _).mono ?_;exact afa
def abD (a b:Int) (ha:Word a) (hb:Word b) (w:ay):
  Calls prog 215 #[O a,O b] w fun e w'=>e=.returned (.tuple #[O (upV (a*4294967296) b),.bool (upB (a*4294967296) b)])/\Z w w':=by
 go_enter func215,ntmps215;go_wp2_with fail
 refine(nG a 4294967296 ha FY _).mono ?_;rintro e w1 ⟨rfl,hb1⟩;go_wp2_with fail
 refine(apW (a*4294967296) b (oH ha FY) hb _).mono ?_;exact afa
def Z9 (n:Int) (hn:n<9223372036854775808) (w:ay):
  Calls prog 264 #[J n] w fun e w'=>e=.returned (.tuple #[O (ofV n),.bool (ofB n)])/\Z w w':=by
 by_cases h:n<0
 ·rw[show ofV n=0 by unfold ofV;rw[aJ h],show ofB n=false by unfold ofB;rw[aJ h]]
  go_enter func264,ntmps264;go_wp2;go_ret2
  exact⟨rfl,aI _ _⟩
 ·have hw:Word n:=⟨by omega,by omega⟩;rw[show ofV n=jF (n*4294967296) by unfold ofV;rw[au h],show ofB n=FM (n*4294967296) by unfold ofB;rw[au h]];have h0:0<=n:=ak;have ew:IntKind.u64.wrap n=n:=by rw[d_];omega
  go_enter func264,ntmps264;go_wp2_with fail
  refine(nG n 4294967296 hw FY _).mono ?_;rintro e w1 ⟨rfl,hb1⟩;go_wp2_with fail
  refine(oP (n*4294967296) (oH hw FY) _).mono ?_;exact afa
def Uf (a b:Int) (ha:Word a) (hb:Word b) (w:ay):
  Calls prog 265 #[O a,O b] w fun e w'=>e=.returned (.tuple #[O (jF (a+b)),.bool (FM (a+b))])/\Z w w':=by
 have⟨ea,na⟩:=abC ha hb;go_enter func265,ntmps265;go_wp2_with fail
 refine(FX a ha _).mono ?_;rintro e w1 ⟨rfl,hb1⟩;go_wp2_with fail
 refine(FX b hb _).mono ?_;rintro e w2 ⟨rfl,hb2⟩;go_wp2_with fail
 refine(Eh a b (NN ha) (NN hb) _).mono ?_;rw[ea];rintro e w3 ⟨rfl,hb3⟩;go_wp2_with fail
 refine(oP (a+b) na _).mono ?_;rintro e w4 ⟨rfl,hb4⟩;go_wp2;go_ret2
 have z1:=hb1.size;have z2:=hb2.size;have z3:=hb3.size;exact⟨rfl,(((hb1.trans (hb2.mono z1)).trans (hb3.mono ak)).alloc ak _).trans (hb4.mono fE)⟩
def af5 (a f:Int) (ha:Word a) (hf:Word f) (w:ay):
  Calls prog 268 #[O a,O f] w fun e w'=>e=.returned (O (wE a f))/\Z w w':=by
 have hm:=FN hf;have⟨e1,e2⟩:=akr (f:=f) ha;by_cases h:f<=9223372036854775808
 ·have em:J8 f=f:=by unfold J8;split<;>omega
  rw[em]at e1 e2 hm;go_enter func268,ntmps268;go_wp2_with fail
  refine(nG a f ha hf _).mono ?_;rintro e w1 ⟨rfl,hb1⟩;go_wp2_with fail
  refine(Ky (a*f) 9223372036854775808 (oH ha hf) af4 _).mono ?_;exact aoB
 ·have em:J8 f=9223372036854775808:=by unfold J8;rw[au ak]
  rw[em]at e1 e2 hm;go_enter func268,ntmps268;go_wp2_with fail
  refine(nG a 9223372036854775808 ha hm _).mono ?_;rintro e w1 ⟨rfl,hb1⟩;go_wp2_with fail
  refine(Ky (a*9223372036854775808) 9223372036854775808 (oH ha hm) af4 _).mono ?_;exact aoB
end
end Go.Proofs.YtdhifkbbjlhcaaaGreatDoor
