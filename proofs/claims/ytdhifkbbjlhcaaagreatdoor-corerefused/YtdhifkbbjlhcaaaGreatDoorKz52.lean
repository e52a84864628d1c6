import Derived.Test.YtdhifkbbjlhcaaaGreatDoorKz49
import Derived.Test.YtdhifkbbjlhcaaaGreatDoorKz50
import Derived.Test.YtdhifkbbjlhcaaaGreatDoorKz51
set_option maxRecDepth 100000
set_option maxHeartbeats 8000000
set_option linter.defProp false
namespace Go.Proofs.YtdhifkbbjlhcaaaGreatDoor
open Go.Proofs.Tryz
variable {ao:Option Addr} {sc:Nat} {w:ay}
section
open Go.RowKit Wd Tr Cg Ld
def Jc {e:Int} {ea sa ra:Option Addr} {ec sc rc:Nat}:Calls prog 23 #[.agg (d9 (coded e) (.slice ea 0 ec) (.slice sa 0 sc) (.slice ra 0 rc)),.agg (d9 (coded e) aV aV aV)] w fun r w'=>r=.returned (.bool true)/\Z w w':=by
 have eA:d9 (coded e) (.slice ea 0 ec) (.slice sa 0 sc) (.slice ra 0 rc)= #[J e,J 0,.slice ea 0 ec,J 0,J 0,J 0,J 0,J 0,J 0,J 0,.slice sa 0 sc,.slice ra 0 rc,J 0,O 0,O 0,J 0,J 0,J 0,J 0,J 0,J 0,J 0,J 0,J 0,J 0,J 0,J 0]:=rfl;have eB:d9 (coded e) aV aV aV= #[J e,J 0,.slice none 0 0,J 0,J 0,J 0,J 0,J 0,J 0,J 0,.slice none 0 0,.slice none 0 0,J 0,O 0,O 0,J 0,J 0,J 0,J 0,J 0,J 0,J 0,J 0,J 0,J 0,J 0,J 0]:=rfl;rw[eA,eB];have⟨W,hW,bW,hX,hY,oz⟩:=E_ w #[J e,J 0,.slice ea 0 ec,J 0,J 0,J 0,J 0,J 0,J 0,J 0,.slice sa 0 sc,.slice ra 0 rc,J 0,O 0,O 0,J 0,J 0,J 0,J 0,J 0,J 0,J 0,J 0,J 0,J 0,J 0,J 0] #[J e,J 0,.slice none 0 0,J 0,J 0,J 0,J 0,J 0,J 0,J 0,.slice none 0 0,.slice none 0 0,J 0,O 0,O 0,J 0,J 0,J 0,J 0,J 0,J 0,J 0,J 0,J 0,J 0,J 0,J 0] 42 42;have hsj:=IG (w:=W) TN sa none 0 sc 0;have esj:BK TN (.slice sa 0 sc)= #[J 0,J 0,J 0,J 0,J 0,J 0,J 0,.slice sa 0 sc]:=rfl;have esk:BK TN (.slice none 0 0)= #[J 0,J 0,J 0,J 0,J 0,J 0,J 0,.slice none 0 0]:=rfl;rw[esj,esk]at hsj;have hsi:=fun V:World=>yx (w:=V) (ao:=sa) (bo:=none) (l:= []) (c:=sc) (c':=0) ⟨0,0,fun h=>absurd h dF,fun k n h=>(by simp at h)⟩ ⟨0,0,fun h=>absurd h dF,fun k n h=>(by simp at h)⟩ dF;simp only[jh]at hsi;have HB:Hid _:=bW;have HX:Hid _:=hX;have HY:Hid _:=hY;have HZ:Hid _:=oz;have HSI:Hid _:=hsi;have hx:=mU hX;have hy:=mU hY;simp only[Cs,Nat.reduceAdd]at hx hy;obtain⟨-, -,x2,x3,x4,x5,x6,x7,x8,x9,x10,JA, -⟩:=hx;obtain⟨-, -,y2,y3,y4,y5,y6,y7,y8,y9,y10,y11, -⟩:=hy;clear hX hY bW oz eA eB esj esk hsi;go_enter func23,ntmps23;go_upto_region 5 with(first
  | (go_at_call 38;refine yM.mono ?_;rintro r w0 ⟨rfl,rfl⟩)
  | (go_at_call 39;refine AR.mono ?_;rintro r w0 ⟨rfl,rfl⟩)
  | (go_at_call 40;refine hsj.mono ?_;rintro r w3 ⟨rfl,b3⟩;have hX3:=bP HX.out b3;have hY3:=bP HY.out b3;have B3:=HB.out.trans (b3.mono HB.out.size);have hsi:=HSI.out w3;have x10:=fK 10 hX3;have y10:w3.cell? ⟨w.heap.size+1,10,none⟩=some (.slice none 0 0):=aj hY3 rfl)
  | (go_at_call 32;refine hsi.mono ?_;rintro r w4 ⟨rfl,b4⟩))
 have hx:=mU (bP hX3 b4);have hy:=mU (bP hY3 b4);have Bw:Hid _:=B3.trans (b4.mono B3.size);clear x2 y2 x3 y3 x4 y4 x5 y5 x6 y6 x7 y7 x8 y8 x9 y9 x10 y10 JA y11 hX3 hY3 B3 b3 b4 hsi hsj HSI HX HY;simp only[Cs,Nat.reduceAdd]at hx hy;obtain⟨x0,x1, -, -, -, -, -, -, -, -, -, -,x12,x13,x14,x15,x16,x17,x18,x19,x20,x21,x22,x23,x24,x25,x26, -⟩:=hx;obtain⟨y0,y1, -, -, -, -, -, -, -, -, -, -,y12,y13,y14,y15,y16,y17,y18,y19,y20,y21,y22,y23,y24,y25,y26, -⟩:=hy;go_wp2;go_ret;exact⟨rfl,Bw.out⟩
def MK {ao bo:Option Addr} {n c c':Nat}:Calls prog 39 #[.slice ao n c,.slice bo 0 c'] w fun e w'=>(∃b,e=.returned (.bool b))/\w'=w:=by
 cases n with
 | zero=>exact AR.mono fun e w' h=>⟨⟨_,h.1⟩,h.2⟩
 | succ n=>obtain⟨m,hm⟩:∃m:Nat,n+1=m:=⟨_,rfl⟩;have h0:((m:Int)==0)=false:=fE;have h1:decide ((m:Int)=0)=false:=fE;rw[hm];clear hm;go_enter func39,ntmps39;go_wp2;go_ret;exact⟨⟨_,rfl⟩,rfl⟩
def Nv {ao bo:Option Addr} {n c c':Nat}:Calls prog 32 #[.slice ao n c,.slice bo 0 c'] w fun e w'=>(∃b,e=.returned (.bool b))/\Z w w':=by
 cases n with
 | zero=>exact(yx (w:=w) (ao:=ao) (bo:=bo) (l:= []) (c:=c) (c':=c') ⟨0,0,fun h=>absurd h dF,fun k n h=>(by simp at h)⟩ ⟨0,0,fun h=>absurd h dF,fun k n h=>(by simp at h)⟩ dF).mono fun e w' h=>⟨⟨_,h.1⟩,h.2⟩
 | succ n=>obtain⟨m,hm⟩:∃m:Nat,n+1=m:=⟨_,rfl⟩;have h0:((m:Int)==0)=false:=fE;have h1:decide ((m:Int)=0)=false:=fE;rw[hm];clear hm;go_enter func32,ntmps32;go_wp2;go_ret;exact⟨⟨_,rfl⟩,aI _ _⟩
def R7 (j:Jv) (sa:Option Addr) (n sc:Nat):
  Calls prog 40 #[.agg #[J j.ac,J j.nd,J j.lm,J j.sb,J j.st,J j.sr,J j.en,.slice sa n sc],.agg #[J 0,J 0,J 0,J 0,J 0,J 0,J 0,.slice none 0 0]] w fun e w'=>(∃b,e=.returned (.bool b))/\Z w w':=by
 obtain⟨W,hW,bW,hB,hR, -⟩:=E_ w #[J j.ac,J j.nd,J j.lm,J j.sb,J j.st,J j.sr,J j.en,.slice sa n sc] #[J 0,J 0,J 0,J 0,J 0,J 0,J 0,.slice none 0 0] 38 38;have hx:=mU hB;have hy:=mU hR;simp only[Cs,Nat.reduceAdd]at hx hy;obtain⟨a0,a1,a2,a3,a4,a5,a6,a7, -⟩:=hx;obtain⟨b0,b1,b2,b3,b4,b5,b6,b7, -⟩:=hy;have HB:Hid _:=bW;clear hB hR bW;obtain⟨p0,h0⟩:∃p,(j.ac==0)=p:=⟨_,rfl⟩;have d0:decide (j.ac=0)=p0:=h0;obtain⟨p1,h1⟩:∃p,(j.nd==0)=p:=⟨_,rfl⟩;have d1:decide (j.nd=0)=p1:=h1;obtain⟨p2,h2⟩:∃p,(j.lm==0)=p:=⟨_,rfl⟩;have d2:decide (j.lm=0)=p2:=h2;obtain⟨p3,h3⟩:∃p,(j.sb==0)=p:=⟨_,rfl⟩;have d3:decide (j.sb=0)=p3:=h3;obtain⟨p4,h4⟩:∃p,(j.st==0)=p:=⟨_,rfl⟩;have d4:decide (j.st=0)=p4:=h4;obtain⟨p5,h5⟩:∃p,(j.sr==0)=p:=⟨_,rfl⟩;have d5:decide (j.sr=0)=p5:=h5;obtain⟨p6,h6⟩:∃p,(j.en==0)=p:=⟨_,rfl⟩;have d6:decide (j.en=0)=p6:=h6;obtain⟨p7,h7⟩:∃p,((n:Int)==0)=p:=⟨_,rfl⟩;have d7:decide ((n:Int)=0)=p7:=h7;go_enter func40,ntmps40;go_upto_region 1 with fail
 cases p0 with
 | false=>exact xM
 | true=>
  cases p1 with
  | false=>exact xM
  | true=>
   cases p2 with
   | false=>exact xM
   | true=>
    cases p3 with
    | false=>exact xM
    | true=>
     cases p4 with
     | false=>exact xM
     | true=>
      cases p5 with
      | false=>exact xM
      | true=>
       cases p6 with
       | false=>exact xM
       | true=>
        cases p7 with
        | false=>exact xM
        | true=>exact xM
def Jd (a:FV) {ea sa ra:Option Addr} {ec n sc m rc:Nat}:Calls prog 23 #[.agg (d9 a (.slice ea 0 ec) (.slice sa n sc) (.slice ra m rc)),.agg (d9 (coded a.code) aV aV aV)] w fun r w'=>(∃b,r=.returned (.bool b))/\Z w w':=by
 have hsj:=fun W=>R7 (w:=W) a.job sa n sc;have hsr:=fun W=>MK (w:=W) (ao:=ra) (bo:=none) (n:=m) (c:=rc) (c':=0);have hsi:=fun W=>Nv (w:=W) (ao:=sa) (bo:=none) (n:=n) (c:=sc) (c':=0);obtain⟨cd,id,es,jb,rk,raw,us,fac,free,hold,IU,cf,bnd⟩:=a;obtain⟨j0,j1,j2,j3,j4,j5,j6,js⟩:=jb;obtain⟨c0,c1,c2,c3,c4,c5,c6,c7⟩:=cf;simp only[d9,coded,aV,TN,cf0]at hsj ⊢;clear es rk js;have⟨W,hW,bW,hX,hY,hz⟩:=E_ w #[J cd,J id,.slice ea 0 ec,J j0,J j1,J j2,J j3,J j4,J j5,J j6,.slice sa n sc,.slice ra m rc,J raw,O us,O fac,J free,J hold,J IU,J c0,J c1,J c2,J c3,J c4,J c5,J c6,J c7,J bnd] #[J cd,J 0,.slice none 0 0,J 0,J 0,J 0,J 0,J 0,J 0,J 0,.slice none 0 0,.slice none 0 0,J 0,O 0,O 0,J 0,J 0,J 0,J 0,J 0,J 0,J 0,J 0,J 0,J 0,J 0,J 0] 42 42;have HB:Hid _:=bW;have HX:Hid _:=hX;have HY:Hid _:=hY;have HJ:Hid _:=hsj;have HI:Hid _:=hsi;have x2:=fK 2 hX;have y2:=fK 2 hY;have JA:=fK 11 hX;have y11:=fK 11 hY;have hx:=mU hX;have hy:=mU hY;simp only[Cs,Nat.reduceAdd]at hx hy;obtain⟨-, -, -,x3,x4,x5,x6,x7,x8,x9,x10, -⟩:=hx;obtain⟨-, -, -,y3,y4,y5,y6,y7,y8,y9,y10, -⟩:=hy;clear hX hY bW hsj hsi;go_enter func23,ntmps23;go_upto_region 5 with(first
  | (go_at_call 38;refine yM.mono ?_;rintro r w0 ⟨rfl,rfl⟩)
  | (go_at_call 39;refine(hsr _).mono ?_;rintro r w0 ⟨⟨br,rfl⟩,rfl⟩)
  | (go_at_call 40;refine(HJ.out _).mono ?_;rintro r w3 ⟨⟨bj,rfl⟩,b3⟩;have hX3:=bP HX.out b3;have hY3:=bP HY.out b3;have B3:=HB.out.trans (b3.mono HB.out.size);have hsi:=HI.out w3;have x10:=fK 10 hX3;have y10:w3.cell? ⟨w.heap.size+1,10,none⟩=some (.slice none 0 0):=aj hY3 rfl)
  | (go_at_call 32;refine hsi.mono ?_;rintro r w4 ⟨⟨bs,rfl⟩,b4⟩))
 have hx:=mU (bP hX3 b4);have hy:=mU (bP hY3 b4);have Bw:Hid _:=B3.trans (b4.mono B3.size);clear x2 y2 x3 y3 x4 y4 x5 y5 x6 y6 x7 y7 x8 y8 x9 y9 x10 y10 JA y11 hX3 hY3 B3 b3 b4 hsi HI HX HY HJ HB hz hW hsr;simp only[Cs,Nat.reduceAdd]at hx hy;obtain⟨x0,x1, -, -, -, -, -, -, -, -, -, -,x12,x13,x14,x15,x16,x17,x18,x19,x20,x21,x22,x23,x24,x25,x26, -⟩:=hx;obtain⟨y0,y1, -, -, -, -, -, -, -, -, -, -,y12,y13,y14,y15,y16,y17,y18,y19,y20,y21,y22,y23,y24,y25,y26, -⟩:=hy;obtain⟨p1,h1⟩:∃p,(id==0)=p:=⟨_,rfl⟩;have d1:decide (id=0)=p1:=h1;obtain⟨p12,h12⟩:∃p,(raw==0)=p:=⟨_,rfl⟩;have d12:decide (raw=0)=p12:=h12;obtain⟨p13,h13⟩:∃p,(us==0)=p:=⟨_,rfl⟩;have d13:decide (us=0)=p13:=h13;obtain⟨p14,h14⟩:∃p,(fac==0)=p:=⟨_,rfl⟩;have d14:decide (fac=0)=p14:=h14;obtain⟨p15,h15⟩:∃p,(free==0)=p:=⟨_,rfl⟩;have d15:decide (free=0)=p15:=h15;obtain⟨p16,h16⟩:∃p,(hold==0)=p:=⟨_,rfl⟩;have d16:decide (hold=0)=p16:=h16;obtain⟨p17,h17⟩:∃p,(IU==0)=p:=⟨_,rfl⟩;have d17:decide (IU=0)=p17:=h17;obtain⟨p18,h18⟩:∃p,(c0==0)=p:=⟨_,rfl⟩;have d18:decide (c0=0)=p18:=h18;obtain⟨p19,h19⟩:∃p,(c1==0)=p:=⟨_,rfl⟩;have d19:decide (c1=0)=p19:=h19;obtain⟨p20,h20⟩:∃p,(c2==0)=p:=⟨_,rfl⟩;have d20:decide (c2=0)=p20:=h20;obtain⟨p21,h21⟩:∃p,(c3==0)=p:=⟨_,rfl⟩;have d21:decide (c3=0)=p21:=h21;obtain⟨p22,h22⟩:∃p,(c4==0)=p:=⟨_,rfl⟩;have d22:decide (c4=0)=p22:=h22;obtain⟨p23,h23⟩:∃p,(c5==0)=p:=⟨_,rfl⟩;have d23:decide (c5=0)=p23:=h23;obtain⟨p24,h24⟩:∃p,(c6==0)=p:=⟨_,rfl⟩;have d24:decide (c6=0)=p24:=h24;obtain⟨p25,h25⟩:∃p,(c7==0)=p:=⟨_,rfl⟩;have d25:decide (c7=0)=p25:=h25;obtain⟨p26,h26⟩:∃p,(bnd==0)=p:=⟨_,rfl⟩;have d26:decide (bnd=0)=p26:=h26;go_cut [9] (fun v x=>(∃b,v=.bool b)/\w4=x)
 case first=>
  cases p1
  ·exact FH
  cases p12
  ·exact FH
  cases p13
  ·exact FH
  cases p14
  ·exact FH
  cases p15
  ·exact FH
  exact FH
 case rest=>
  obtain⟨⟨b9,rfl⟩,rfl⟩:=hcut
  cases br
  ·exact mX
  cases bj
  ·exact mX
  cases bs
  ·exact mX
  cases b9
  ·exact mX
  cases p16
  ·exact mX
  cases p17
  ·exact mX
  cases p18
  ·exact mX
  cases p19
  ·exact mX
  cases p20
  ·exact mX
  cases p21
  ·exact mX
  cases p22
  ·exact mX
  cases p23
  ·exact mX
  cases p24
  ·exact mX
  cases p25
  ·exact mX
  cases p26
  ·exact mX
  exact mX
def Wz {w W:ay} {c:Cf} {n sc:Nat} (hB:MH w c W) (h:gq c≠0):Calls prog 8 #[gY c,.slice ao n sc] w fun e w'=>e=.returned (.bool true)/\Z w w':=by
 have hs:=hB.shown;have hb:=hB.bad h;have HB:Hid _:=hB;have hW:=hB.eq;clear hB;unfold gY;go_enter func8,ntmps8;exact aeX
def ajM {W:ay} {B:Nat} {s:Sv} {ua:Option Addr} {uc g:Nat} {qs:List Pj} (h:uE B s (.slice ua s.la.length uc) g qs W):kD W ua s.la:=by
 grind[uE.asf]
def Dn.few {lab:Nat->Nat} {w0 w:ay} {x:Nat} {s:Sv} (h:Dn lab w0 w x s):s.la.length<=1000000:=by
 have:=Wf.len (rX h.kp.ok.load);grind
def ajN {s:Sv} {c:Cd} (h:¬(1<=c.kind/\c.kind<=8)):(yS s c).2.evs= []:=by
 unfold yS;split
 ·rfl
 ·unfold doS;rw[au ak,au ak,au ak,au ak,au ak,au ak,au ak,au ak];grind[Rh,yg,Gr,coded]
def R8 {w W:ay} {c:Cf} {l:List Cd} (hB:MH w c W) (h:gq c=0) (hA:uD w ao l) (hk:∀c∈l,GH c) (hn:l.length*80<=140737488351232):Calls prog 8 #[gY c,.slice ao l.length sc] w fun e w'=>e=.returned (.bool true)/\Z w w':=by
 have hs:=hB.shown;have hb:=hB.good h;have hA:=hA.below hB.dQ;have HB:Hid _:=hB;have hW:=hB.eq;have HA:Hid _:=hA;have HK:Hid _:=hk;have hkn:=Fa h;have⟨n,hN⟩:=aZ l.length;rw[hN]at hn ⊢;have HN:Hid _:=hN;clear hB hA hk hN h;unfold gY;go_enter func8,ntmps8;go_wp2_with (first
  | (go_at_call 9;refine hs.mono ?_;rintro e w1 ⟨rfl,b1⟩;have⟨q0,q1,q2,q3,q4,q5,q6,q7⟩:=(HB.out.box.below b1).cells)
  | (go_at_call 10;refine(hb _ b1).mono ?_;rintro e w2 ⟨x,rfl,lab,D⟩))
 have HD:Hid _:=D;clear hs hb hW hkn q0 q1 q2 q3 q4 q5 q6 q7 D b1;go_loopg [8] n (fun gk p wr=>∃i:Nat,i+gk=n/\p=J i/\∃lab s,Dn lab W wr x s)
 case atStart=>exact⟨0,by omega,rfl,lab,_,HD.out⟩
 case round=>
  obtain⟨i,hi,rfl,la,s,D⟩:=hrel;have HD:Hid _:=D;clear D;by_cases hlt:i<n
  ·have hlt':(i:Int)<n:=ak;by_cases h3:i<300
   ·have h3':(i:Int)<300:=ak;obtain⟨cm,hcm⟩:∃cm,l[i]?=some cm:=⟨_,aY (by rw[HN.out];exact hlt)⟩;have⟨g,o,hao,hcc⟩:=HA.out;obtain rfl:=hao (by rw[HN.out];omega);have⟨nm1,nm2⟩:=HK.out cm (dW hcm);have hcl:=fun k v hv=>hcc i cm hcm k v hv;have hst:=HD.out.state;clear hao hcc;go_upto_region 11 with(first
     | (go_at_call 11;refine hst.mono ?_;rintro e w3 ⟨ua,uc,g3,rfl,b3,qs,T3⟩)
     | (refine eF rfl 32 (.tmp 9) (.tmp 38) rfl w3.heap.size (uL s.cf s.now (.slice ua s.la.length uc) (.slice (some ⟨g3,0,none⟩) s.js.length s.js.length) s.hd) gM gM 32 _ (aK w3 _) Tryz.RH rfl (by simp[uL,Value.oneCell']) ?_;have⟨v3,hv3,bv3,gv3,zv3⟩:=qG w3 #[J 0,J 0,J 0,J 0,J 0,J 0,J 0,J 0,J 0,.slice none 0 0,.slice none 0 0,J 0] (uL s.cf s.now (.slice ua s.la.length uc) (.slice (some ⟨g3,0,none⟩) s.js.length s.js.length) s.hd) 32;rw[hv3]))
    have D3:Dn la W v3 x s:=HD.out.below (b3.trans (bv3.mono b3.size));have hdd:=D3.deed cm nm1 nm2;have c0:v3.cell? ⟨g,o+i*8,none⟩=some (J cm.kind):=aR D3.dQ (hcl 0 _ rfl);have c1:=aR D3.dQ (hcl 1 _ rfl);have c2:=aR D3.dQ (hcl 2 _ rfl);have c3:=aR D3.dQ (hcl 3 _ rfl);have c4:=aR D3.dQ (hcl 4 _ rfl);have c5:=aR D3.dQ (hcl 5 _ rfl);have c6:=aR D3.dQ (hcl 6 _ rfl);have c7:=aR D3.dQ (hcl 7 _ rfl);have hlk:(yS s cm).2.evs.length≠0->1<=cm.kind/\cm.kind<=8:=fun h=>vK fun k=>h (by rw[ajN k];rfl);have hls:= @aeo s cm;have hbr:=anq s cm;have⟨r,hr⟩:=aZ (yS s cm);rw[hr]at hdd hlk hls hbr;unfold fM at hdd;have H3:Hid _:=D3;have HT:Hid _:=T3;have F6:Hid _:=hcl;have HLK:Hid _:=hlk;have HLS:Hid _:=hls;have WM:Hid _:=hbr;have Sw:Hid _:=gv3;have HB3:Hid _:=bv3;clear hst hv3 D3 T3 hcl hlk hls hbr gv3 bv3 hr;go_upto_region 12 with(first
     | (go_at_call 12;refine hdd.mono ?_;rintro e w4 ⟨v4',rfl,J3,D4,M4,A4⟩;obtain⟨ea,ec,ja,jc,ra,rc,rfl, -⟩:=FC A4)
     | (refine eF rfl 42 (.tmp 10) (.tmp 44) rfl w4.heap.size (d9 r.2 (.slice ea r.2.evs.length ec) (.slice ja r.2.job.set.length jc) (.slice ra r.2.WK.length rc)) gM gM 42 _ (aK w4 _) Tryz.lJ rfl (by simp[d9,Value.oneCell']) ?_;have⟨v4,hv4,bv4,gv4,zv4⟩:=qG w4 #[J 0,J 0,.slice none 0 0,J 0,J 0,J 0,J 0,J 0,J 0,J 0,.slice none 0 0,.slice none 0 0,J 0,O 0,O 0,J 0,J 0,J 0,J 0,J 0,J 0,J 0,J 0,J 0,J 0,J 0,J 0] (d9 r.2 (.slice ea r.2.evs.length ec) (.slice ja r.2.job.set.length jc) (.slice ra r.2.WK.length rc)) 42;rw[hv4];simp only[Act.put]))
    have aIc:=HB3.out.size;have aId:=M4.fF.size;have aBK:w3.heap.size<v3.heap.size:=ak;have HD4:Hid _:=D4;have HG4:Hid _:=gv4;have Bw:Hid _:=bv4;have hg3:v4.heap[w3.heap.size]?=some (.cells _ 32 (0,0)):=bP ((M4.Ww (HD.out.top b3.size) aBK).trans Sw.out) bv4;have aBL:Hid _:=hg3;have HKJ:Hid (∀j,wr.heap.size<=j->j<w3.heap.size->v4.heap[j]?=w3.heap[j]?):=fun j h1 h2=>(bv4.block j ak).trans ((M4.Ww (HD.out.top h1) ak).trans (HB3.out.block j h2));have a0:v4.cell? ⟨w4.heap.size,0,none⟩=some (J r.2.code):=aj gv4 rfl;have k0:v4.cell? ⟨g,o+i*8,none⟩=some (J cm.kind):=aR (D4.dQ.trans (bv4.mono D4.dQ.size)) (F6.out 0 _ rfl);have⟨cd,hcd⟩:=aZ r.2.code;rw[hcd]at a0;have HCD:Hid _:=hcd;clear c0 c1 c2 c3 c4 c5 c6 c7 hdd hv4 gv4 bv4 hg3 D4 M4 A4 hcd;go_cut [63] (fun v y=>v=.bool (decide (cd=0/\1<=cm.kind/\cm.kind<=8))/\v4=y)
    case first=>
     by_cases z0:cd=0
     ·by_cases z1:1<=cm.kind
      ·by_cases z2:cm.kind<=8
       ·go_wp2_with fail
        go_meet;exact⟨aP Value.bool (dS (And.intro z0 ⟨z1,z2⟩)).symm,rfl⟩
       ·exact W9
      ·exact W9
     ·exact W9
    case rest=>
     obtain⟨rfl,rfl⟩:=hcut;clear a0 k0;by_cases hz:cd=0/\1<=cm.kind/\cm.kind<=8
     ·rw[dS hz];clear hz;go_wp2;go_roundg (n - (i+1))
      case measure=>omega
      case rel=>exact⟨i+1,by omega,by go_num,J3,r.1,HD4.out.below Bw.out⟩
     ·rw[dH hz];have hrs:r.1=s:=by
       by_cases z:cd=0
       ·exact HLS.out (fun e=>hz ⟨z,e⟩)
       ·exact (WM.out (by rw[HCD.out];exact z)).1
      have hev:r.2.evs.length=0:=by
       by_cases z:cd=0
       ·exact vK fun e=>hz ⟨z,HLK.out e⟩
       ·rw[(WM.out (by rw[HCD.out];exact z)).2];rfl
      have HRS:Hid _:=hrs;have HEV:Hid _:=hev;have hst:=(HD4.out.below Bw.out);have HD5:Hid _:=hst;clear hz hrs hev hst;go_upto_region 13 with fail
      refine aG (S:=Z v4) (L:=99) aF ?_;have hS0:Z v4 v4.drew:=aA v4;have HF:Hid (∀xx:ay,(Z v4) xx->xx.cell? ⟨w3.heap.size,0,none⟩=some (J s.cf.nodes)/\xx.cell? ⟨w3.heap.size,1,none⟩=some (J s.cf.queue)/\xx.cell? ⟨w3.heap.size,2,none⟩=some (J s.cf.limit)/\xx.cell? ⟨w3.heap.size,3,none⟩=some (J s.cf.age)/\xx.cell? ⟨w3.heap.size,4,none⟩=some (J s.cf.fair)/\xx.cell? ⟨w3.heap.size,5,none⟩=some (J s.cf.size)/\xx.cell? ⟨w3.heap.size,6,none⟩=some (J s.cf.period)/\xx.cell? ⟨w3.heap.size,7,none⟩=some (J s.cf.half)/\xx.cell? ⟨w3.heap.size,8,none⟩=some (J s.now)/\xx.cell? ⟨w3.heap.size,9,none⟩=some (.slice ua s.la.length uc)/\xx.cell? ⟨w3.heap.size,10,none⟩=some (.slice (some ⟨g3,0,none⟩) s.js.length s.js.length)/\xx.cell? ⟨w3.heap.size,11,none⟩=some (J s.hd)/\True):=fun xx b=>by have h:=bP aBL.out b;exact⟨aj h rfl,aj h rfl,aj h rfl,aj h rfl,aj h rfl,aj h rfl,aj h rfl,aj h rfl,aj h rfl,aj h rfl,aj h rfl,aj h rfl,trivial⟩
      refine tk 0 ?_;refine tk 1 ?_;refine last_one (i:=2) aF rfl ?_;intro K hK;go_simp;go_at_call 11;refine(HD5.out.below hS0).state.mono ?_;rintro e w6 ⟨ub,uc2,g6,rfl,b6,qs2,T6⟩;have hS6:=hS0.trans (b6.mono hS0.size);have T3:=HT.out.kept (V:=w6) (bM ak hS6.size) (fun j h1 h2=>(hS6.block j ak).trans (HKJ.out j h1 h2));rw[HRS.out]at T6 ⊢;have hss:=Nt (w:=w6) (c:=s.cf) (now:=s.now) (hd:=s.hd) (uc:=uc) (ud:=uc2) (jc:=qs.length) (jd:=qs2.length) (ajM T3) (ajM T6) (by have:=HD.out.few;omega) T3.ajI T6.ajI (T3.same.trans T6.same.symm) (by have:=HD.out.kp.ok.many;rw[← T3.same,dL]at this;omega) (fun p hp=>bM (T3.sets p hp).few ak);have l3:qs.length=s.js.length:=(by rw[← T3.same,dL]);have l6:qs2.length=s.js.length:=(by rw[← T6.same,dL]);rw[l3,l6]at hss;have HSS:Hid (Unit->_):=fun _=>hss;clear T3 T6 hss l3 l6;go_simp;refine jE hK hS6 ?_;clear hK K;refine last_one (i:=3) aF rfl ?_;intro K hK;go_simp;go_at_call 22;refine(HSS.out ()).mono ?_;rintro e w7 ⟨rfl,b7⟩;have hS7:=hS6.trans (b7.mono hS6.size);go_simp;refine jE hK hS7 ?_;clear hK K hS6 HSS;refine tk 4 ?_;refine aO aF ?_ _;have hg7:=bP HG4.out hS7;have x0:w7.cell? ⟨w4.heap.size,0,none⟩=some (J r.2.code):=aj hg7 rfl;have HG7:Hid _:=hg7;have WW:Hid _:=hS7;clear hS0 hS7 b6 b7;rw[HCD.out]at x0;clear hg7;have hsa:Calls prog 23 #[.agg (d9 r.2 (.slice ea r.2.evs.length ec) (.slice ja r.2.job.set.length jc) (.slice ra r.2.WK.length rc)),.agg (d9 (coded cd) aV aV aV)] w7 fun e w'=>(∃b,e=.returned (.bool b)/\(cd≠0->b=true))/\Z w7 w':=by
       by_cases z:cd=0
       ·have h:=Jd (w:=w7) r.2 (ea:=ea) (sa:=ja) (ra:=ra) (ec:=ec) (n:=r.2.job.set.length) (sc:=jc) (m:=r.2.WK.length) (rc:=rc);rw[HCD.out]at h;rw[HEV.out];exact h.mono fun e w' ⟨⟨b,hb⟩,hw⟩=>⟨⟨b,hb,fun hz=>absurd z hz⟩,hw⟩
       ·have e:=(WM.out (by rw[HCD.out];exact z)).2
        rw[HCD.out]at e;rw[e];exact Jc.mono fun e w' ⟨h,hw⟩=>⟨⟨true,h,fun _=>rfl⟩,hw⟩
      have HSA:Hid (Unit->_):=fun _=>hsa;clear hsa;go_upto_region 15 with(first
       | (refine wpList_load_row rfl 42 (.tmp 10) rfl w4.heap.size gM 42 _ (0,0) _ HG7.out underlying42 rfl Tryz.lJ ?_)
       | (go_at_call 23;refine(HSA.out ()).mono ?_;rintro e w8 ⟨⟨b,rfl,hbt⟩,b8⟩))
      have x0':w8.cell? ⟨w4.heap.size,0,none⟩=some (J cd):=aR b8 x0;have HD8:Hid _:=(HD4.out.below Bw.out).below (WW.out.trans (b8.mono WW.out.size));have HBT:Hid _:=hbt;clear x0 b8 hbt;by_cases z:cd=0
      ·clear HBT;subst z;exact aor
      ·obtain rfl:=HBT.out z;have zd:decide (cd=0)=false:=dH z;have ze:(cd==0)=false:=(by simpa using z);have zn:(cd != 0)=true:=(by simpa using z);exact aor
   ·have h3':¬(i:Int)<300:=ak;exact WX
  ·exact ae7
def R9 (c:Cf) {l:List Cd} (hT:V8.Tab w/\_root_.Go.Proofs.YtdhifkbbjlhcaaaGreatDoor.Tab w/\N2.Tab w) (hA:uD w ao l) (hk:∀c∈l,GH c) (hn:l.length*80<=140737488351232):Calls prog 8 #[gY c,.slice ao l.length sc] w fun e w'=>e=.returned (.bool true)/\Z w w':=by
 have⟨W,hB⟩:=begins c hT;by_cases h:gq c=0
 ·exact R8 hB h hA hk hn
 ·exact Wz hB h
end
section
open Go.ChangeShapes Go.WideShapes Go.ChangeAt Go.RowKit Go.Joins Wd Ld Cg Tr Lg
def ML (os:Os) (started:os.Started) (H:Type) (enc:TypeId×Value->H):
  ReturnsInHanded {} Tryz.checked os 8 .any (fun w args=>(Rows.coreRefusedSpec.pre enc prog f8 [] false w args/\laidMetH prog uz w)/\sizedMet enc prog f8 (OpenSpec.ofChange Rows.coreRefusedSpec) false w args)
   (Rows.coreRefusedSpec.post enc prog f8 false true false false):=by
 refine returnsInHanded_of_change_and (C:=Tryz.checked) (X:=fun w _=>laidMetH prog uz w) (fun _ _ _ hh h=>h.of_heap hh) Tryz.own started aF func8
  (ChangeSpec.witness_at (enc:=enc) (C:=Tryz.checked) (os:=os) (X:=fun w _=>laidMetH prog uz w) false (Bp os) #[.agg #[.int .i64 0,.int .i64 0,.int .i64 0,.int .i64 0,.int .i64 0,.int .i64 0,.int .i64 0,.int .i64 0],.slice none 0 0] 8 rfl aF aF aF aF aF (Mw os _)) ?_
 intro W base args ds gs before hval0 hW _ hsz0 hL _;have hsz:(DataW.weightsEach prog (f8.params.toList++Rows.coreRefusedSpec.plain.varTypes prog) (ds++gs)).all (· <=reachBytes)=true:=hsz0;have hval:∀(j:Nat) t v,f8.params[j]?=some t->args[j]?=some v->Value.okWide prog W .any base t v:=hval0;have hW':=hW;obtain⟨p,q,hA0,hV,rfl,hfz,hnd⟩:=hW;have hA:DataW.TrodAll enc prog W 0 (fun _=>true) true f8.params.toList args.toList ds p:=hA0;rw[params8]at hA hval hsz;obtain⟨v0,v1,d0,d1,p0,p1,rfl,rfl,rfl,h0,h1⟩:=trodAll_two hA;obtain⟨rfl,rfl⟩:=trodVars_none hV;have hk0:=h0;obtain⟨c,rfl⟩:=ajg (hval 0 23 v0 rfl rfl) h0;have hk1:=h1;obtain⟨ao,n,sc,rfl⟩:=okWide_slice underlying24 (hval 1 24 v1 rfl rfl);obtain⟨fuel1,hf1⟩:=h1;obtain⟨hn,l,rfl,hl,hok⟩:=RP hf1 (fun k hk=>jY (vC.1 hsz k (DataW.weights_mem_each (j:=1) (t:=24) rfl rfl k hk)));clear hA0 hval0;simp only[vW]at hW';have hT:=AO hL;have ajO:∀x∈p0,x.block<W.heap.size:=fun x hx=>hW'.lt x (by grind);have a0:∀(W':ay),Z W W'->DataW.Trod enc prog W' 0 (fun b=>decide (b<W.heap.size)) true 23 _ d0 p0:=
  fun W' hn=>Below.trod Tryz.laidOut aF (jY (by simp_all)) hk0 hn ajO
 have hlt1:∀x∈p1,x.block<W.heap.size:=by grind[DataW.Whole.lt]
 have a1:∀(W':ay),Z W W'->DataW.Trod enc prog W' 0 (fun b=>decide (b<W.heap.size)) true 24 _ d1 p1:=
  fun W' hn=>Below.trod Tryz.laidOut aF (jY (by simp_all)) hk1 hn hlt1
 refine(R9 c hT hl hok hn).mono fun e W' ⟨he,hg⟩=>?_;subst he;exact⟨_,rfl,_,_,_,[],_,[],hW',trodAll_mk1 (shut_bool underlying4 _),trodAll_mk2 (a0 W' hg) (a1 W' hg),rfl,hg.frame _,fun h=>by grind⟩
def WA:Rows.CoreRefusedSaid:=
 OpenClaim.holds_of_wide 8 f8 rfl rfl rfl rfl rfl rfl rfl ⟨rfl,rfl,rfl,rfl,rfl⟩ rfl rfl rfl rfl rfl aF func8 MI
  (jY aF) (by unfold Func.isWrapper;first | (rw[aJ (by decide +kernel)];kernel_rfl) | (rw[au (by decide +kernel)];exact⟨rfl,rfl⟩))
  (fun os started H enc _=>ML os started H enc)
theorem refused_holds:Rows.CoreRefusedCardSaid:=
 Claim7.holds_tied_plain_at .later [] [.data,.data,.data] true (true, "1052b75edc62fdce1d8e6733364656b1f33caa93aa0fa9595ed0dac812750d56") false
  WA (fun _ h=>by grind) (by as_aux_lemma=>kernel_rfl) (fun _ h=>by grind) coreRefused_row_tie rfl ⟨rfl,rfl⟩ (by as_aux_lemma=>kernel_rfl) rfl
  (fun f fn hf hfn=>by
   obtain rfl:f=8:=ji ((show prog.funcNamed "backfill/backfilllaw18.CoreRefused" =some 8 by as_aux_lemma=>kernel_rfl).symm.trans hf) |>.symm
   obtain rfl:fn=f8:=(ji (func8.symm.trans hfn)).symm
   exact⟨by as_aux_lemma=>kernel_rfl,fun j t ht=>by
    rw[params8]at ht
    have h3:t=23\/t=24:=by grind
    rcases h3 with rfl | rfl
    ·exact W_
    ·exact (show prog.wantsStandIn 24=false by as_aux_lemma=>kernel_rfl)⟩)
  (by as_aux_lemma=>kernel_rfl)
#print axioms refused_holds
end
end Go.Proofs.YtdhifkbbjlhcaaaGreatDoor
