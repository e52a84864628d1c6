import Derived.Test.YtdhifkbbjlhcaaaGreatDoorKz9
import Derived.Test.YtdhifkbbjlhcaaaGreatDoorKz10
set_option maxRecDepth 20000
set_option maxHeartbeats 2000000
set_option linter.defProp false
namespace Go.Proofs.YtdhifkbbjlhcaaaGreatDoor
open Go.Proofs.Tryz
variable {acc xs:List Int} {ao:Option Addr} {f:Jv->Jv} {i:Nat} {j:Jv} {js:List Jv} {la:List Tr.Ac} {now:Int} {s:Sv} {w:ay}
namespace Rw
open Go.RowKit Wd Ld Cg Lg
def aN (w:ay):Z w w.drew:=⟨rfl,rfl,rfl,aC _,fun _ _=>rfl⟩
def fD (W:ay) (ao:Option Addr) (l:List Int):Prop:=∃g o,(0<l.length->ao=some ⟨g,o,none⟩)/\∀k n,l[k]?=some n->W.cell? ⟨g,o+k,none⟩=some (J n)
theorem fD.below {W W':ay} {l:List Int} (h:fD W ao l) (b:Z W W'):fD W' ao l:=by
 grind[aR,fD]
def wM {c:Nat} (hA:fD w ao xs) (hl:xs.length<=140737488355328) (p:Int):
  Calls prog 194 #[.slice ao xs.length c,J p] w fun e w'=>(∃i:Int,e=.returned (J i)/\decide (0<=i)=decide (p∈xs))/\w=w':=by
 have⟨q,hq⟩:=aZ xs.length;obtain⟨g,o,hg,hc⟩:=hA;rw[hq]at hg hl ⊢;go_enter func194,ntmps194;go_wp2;go_loopg [8] q (fun gk pv wr=>∃j:Nat,j+gk=q/\pv=J j/\w=wr/\∀i x,i<j->xs[i]?=some x->x≠p)
 case atStart=>exact⟨0,by omega,rfl,rfl,fun i x hi=>by omega⟩
 case round=>
  obtain⟨j,hj,rfl,rfl,hinv⟩:=hrel;by_cases hlt:j<q
  ·have hlt':(j:Int)<q:=ak;obtain⟨x,hx⟩:∃x,xs[j]?=some x:=⟨_,aY ak⟩;obtain rfl:=hg ak;have d0:=hc j x hx;have QA:Hid _:=hinv;clear hc hg hinv;by_cases e:x=p
   ·subst e;have hmem:=dW hx;have HM:Hid _:=hmem;clear hmem hx;go_wp2;go_ret;exact⟨⟨j,rfl,by simp[HM.out]⟩,rfl⟩
   ·have e':(p==x)=false:=(by simpa using fun h:p=x=>e h.symm);have HX:Hid _:=hx;clear hx;go_wp2;go_roundg (q - (j+1))
    case measure=>omega
    case rel=>
     refine⟨j+1,by omega,rfl,rfl,fun i y hi hy=>?_⟩;by_cases hij:i=j
     ·subst hij;rw[HX.out]at hy
      cases hy;exact e
     ·exact QA.out i y ak hy
  ·exact anL
def oW {c:Nat} (hA:fD w ao xs) (hl:xs.length<=140737488355328) (p:Int):
  Calls prog 154 #[.slice ao xs.length c,J p] w fun e w'=>e=.returned (.bool (decide (p∈xs)))/\w=w':=by
 have hi:=wM (c:=c) hA hl p;clear hA;exact anQ
def jbV (j:Jb):Value:=.agg #[J j.ac,J j.nd,J j.lm,J j.sb,J j.st,J j.sr,J j.en,.slice j.sa j.sl j.sc]
def al9 (j:Jb) (now:Int) (w:ay):
  Calls prog 162 #[jbV j,J now] w fun e w'=>e=.returned (J (wrap64 (Tt now j)))/\Z w w':=by
 unfold jbV Tt;have b0:∀o,Z w (w.alloc o):=fun o=>(aI _ w).alloc (aC _) o;by_cases h3:j.st=3
 ·rw[aJ (.inl h3),h3];exact J6
 by_cases h4:j.st=4
 ·rw[aJ (.inr (.inl h4)),h4];exact J6
 by_cases h5:j.st=5
 ·rw[aJ (.inr (.inr h5)),h5];exact J6
 rw[au ak];by_cases h2:j.st=2
 ·rw[aJ h2,h2];exact J6
 ·rw[au h2,show wrap64 0=0 by unfold wrap64;omega]
  exact J6
structure Ai (W:ay) (g o:Nat) (j:Jb):Prop where
 ac:W.cell? ⟨g,o,none⟩=some (J j.ac)
 nd:W.cell? ⟨g,o+1,none⟩=some (J j.nd)
 lm:W.cell? ⟨g,o+2,none⟩=some (J j.lm)
 sb:W.cell? ⟨g,o+3,none⟩=some (J j.sb)
 st:W.cell? ⟨g,o+4,none⟩=some (J j.st)
 sr:W.cell? ⟨g,o+5,none⟩=some (J j.sr)
 en:W.cell? ⟨g,o+6,none⟩=some (J j.en)
 se:W.cell? ⟨g,o+7,none⟩=some (.slice j.sa j.sl j.sc)
theorem Ai.below {W W':ay} {g o:Nat} {j:Jb} (h:Ai W g o j) (b:Z W W'):Ai W' g o j:=⟨aR b h.ac,aR b h.nd,aR b h.lm,aR b h.sb,aR b h.st,aR b h.sr,aR b h.en,aR b h.se⟩
def ahK (W:ay) (ao:Option Addr) (l:List Jb):Prop:=∃g o,(0<l.length->ao=some ⟨g,o,none⟩)/\∀k j,l[k]?=some j->Ai W g (o+k*8) j
def Dp (acc:List Int) (now:Int) (js:List Jb):Int:=wrap64 (lK acc now js)
def aqW {j:Jb} (h:j.ac∈acc):FR acc now j=j.nd*Tt now j:=by grind[FR]
def al_ {j:Jb} (h:j.ac∉acc):FR acc now j=0:=by grind[FR]
def aqX {js:List Jb} {j:Jb} (h:js[i]?=some j) (hm:j.ac∈acc):wrap64 (Dp acc now (js.take i)+wrap64 (j.nd*wrap64 (Tt now j)))=Dp acc now (js.take (i+1)):=by
 unfold Dp;rw[wrap_one,Kg h,aqW hm]
def ama {js:List Jb} {j:Jb} (h:js[i]?=some j) (hm:FR acc now j=0):Dp acc now (js.take i)=Dp acc now (js.take (i+1)):=by
 grind[Dp,Kg]
def ahL {js:List Jb}:Dp acc now (js.take 0)=0:=by simp[Dp,lK,wrap64]
def amb {js:List Jb}:Dp acc now (js.take js.length)=Dp acc now js:=dF
def Ai.new (w:ay) (j:Jb):Ai (w.alloc (.cells #[J j.ac,J j.nd,J j.lm,J j.sb,J j.st,J j.sr,J j.en,.slice j.sa j.sl j.sc] 38)) w.heap.size 0 j:=
 ⟨aj (aK _ _) rfl,aj (aK _ _) rfl,aj (aK _ _) rfl,aj (aK _ _) rfl,aj (aK _ _) rfl,aj (aK _ _) rfl,aj (aK _ _) rfl,aj (aK _ _) rfl⟩
def Ai.eight {g:Nat} {j:Jb} (h:Ai w g 0 j):w.cell? ⟨g,0,none⟩=some (J j.ac)/\w.cell? ⟨g,1,none⟩=some (J j.nd)/\w.cell? ⟨g,2,none⟩=some (J j.lm)/\w.cell? ⟨g,3,none⟩=some (J j.sb)/\w.cell? ⟨g,4,none⟩=some (J j.st)/\w.cell? ⟨g,5,none⟩=some (J j.sr)/\w.cell? ⟨g,6,none⟩=some (J j.en)/\w.cell? ⟨g,7,none⟩=some (.slice j.sa j.sl j.sc):=by
 obtain⟨h0,h1,h2,h3,h4,h5,h6,h7⟩:=h;grind
def amc {ao bo:Option Addr} {js:List Jb} {c c':Nat} (hJ:ahK w ao js) (hl:js.length<=140737488355328) (hA:fD w bo xs) (hl':xs.length<=140737488355328) (now:Int):
  Calls prog 116 #[.slice ao js.length c,.slice bo xs.length c',J now] w fun e w'=>e=.returned (J (Dp xs now js))/\Z w w':=by
 have HCT:Hid (∀W,Z w W->∀p,Calls prog 154 #[.slice bo xs.length c',J p] W fun e w'=>e=.returned (.bool (decide (p∈xs)))/\W=w'):=fun W hb p=>oW (hA.below hb) hl' p;clear hA;rw[← amb];have⟨q,hq⟩:=aZ js.length;have⟨m,hm⟩:=aZ xs.length;obtain⟨g,o,hg,hc⟩:=hJ;rw[hm]at HCT hl' ⊢;rw[hq]at hg hl ⊢;clear hm;have HQ:Hid (js.length=q):=hq;clear hq;go_enter func116,ntmps116;go_wp2;go_loopg [7,12] q (fun gk ps pj wr=>∃i:Nat,i+gk=q/\pj=J i/\ps=J (Dp xs now (js.take i))/\Z w wr)
 case atStart=>exact⟨0,by omega,rfl,by rw[ahL],aI _ _⟩
 case round=>
  obtain⟨i,hi,rfl,rfl,hb⟩:=hrel;by_cases hlt:i<q
  ·have hlt':(i:Int)<q:=ak;obtain⟨j,hj⟩:∃j,js[i]?=some j:=⟨_,aY (by rw[HQ.out];exact hlt)⟩;obtain rfl:=hg ak;have⟨d0,d1,d2,d3,d4,d5,d6,d7⟩:=(hc i j hj).below hb;have b1:Z w (wr.alloc (.cells #[J j.ac,J j.nd,J j.lm,J j.sb,J j.st,J j.sr,J j.en,.slice j.sa j.sl j.sc] 38)):=hb.alloc hb.size _;have hct:=HCT.out _ b1 j.ac;have HJ:=Ai.new wr j;have HB1:Hid _:=b1;have HJH:Hid _:=HJ;clear hc hg hb b1 HJ;by_cases hmem:j.ac∈xs
   ·have HS:Hid _:=aqX (now:=now) hj hmem;rw[dS hmem]at hct;generalize Dp xs now (js.take i)=s at HS;have hra:=al9 j now;unfold jbV at hra;generalize wrap64 (Tt now j)=r at HS hra;clear hj hmem;go_wp2_with (first | (go_at_call 154;refine hct.mono ?_;rintro e w1 ⟨rfl,hw1⟩;rw[← hw1];clear hw1))
    clear hct d0 d1 d2 d3 d4 d5 d6 d7;have⟨W0,hW0⟩:=aZ (wr.alloc (.cells #[J j.ac,J j.nd,J j.lm,J j.sb,J j.st,J j.sr,J j.en,.slice j.sa j.sl j.sc] 38));rw[hW0]at HB1 HJH ⊢;clear hW0;have S0:Hid _:=HJH.out.below (aN W0);have HB2:Hid _:=HB1.out.trans ((aN W0).mono HB1.out.size);clear HJH HB1;go_region_held3 (fun w'=>w'.cell? ⟨wr.heap.size,0,none⟩=some (J j.ac)/\w'.cell? ⟨wr.heap.size,1,none⟩=some (J j.nd)/\w'.cell? ⟨wr.heap.size,2,none⟩=some (J j.lm)/\w'.cell? ⟨wr.heap.size,3,none⟩=some (J j.sb)/\w'.cell? ⟨wr.heap.size,4,none⟩=some (J j.st)/\w'.cell? ⟨wr.heap.size,5,none⟩=some (J j.sr)/\w'.cell? ⟨wr.heap.size,6,none⟩=some (J j.en)/\w'.cell? ⟨wr.heap.size,7,none⟩=some (.slice j.sa j.sl j.sc))
     (first | exact Ai.eight S0.out | exact Ai.eight S1)
     (first | (go_at_call 162;refine(hra _).mono ?_;rintro e w2 ⟨rfl,b2⟩;have S1:=Ai.below S0.out b2))
    all_goals
     go_wp2
     go_roundg (q - (i+1))
     case measure=>omega
     case rel=>exact⟨i+1,by omega,rfl,by rw[← HS.out];simp only[fO,wrap64],HB2.out.trans (b2.mono HB2.out.size)⟩
   ·have HS:Hid _:=ama (now:=now) (acc:=xs) hj (al_ hmem);rw[dH hmem]at hct;clear hj hmem;go_wp2_with (first | (go_at_call 154;refine hct.mono ?_;rintro e w1 ⟨rfl,rfl⟩))
    go_roundg (q - (i+1))
    case measure=>omega
    case rel=>exact⟨i+1,by omega,rfl,by rw[HS.out],HB1.out⟩
  ·obtain rfl:i=q:=ak;exact FK
end Rw
section
open Wd Tr Cg Ld
theorem Ra:∀ {l:List Nat} {js:List Jv},l.Nodup->∀m:Nat,(mQ now l js)[m]?=if m∈l then(js[m]?).map (fQ 4 now)else js[m]?
 | [],js,_,m=>by simp[mQ]
 | n::l,js,h,m=>by
  have⟨h1,h2⟩:=NC.1 h;unfold mQ;rw[Ra h2 m];grind[Oa,rY,lT]
def rF (now:Int) (j:Jv):Jv:=if BD now j=true then fQ 4 now j else j
def Vd (now:Int) (js:List Jv):mQ now (qo now js) js=js.map (rF now):=by
 apply Zy;grind[qo,Ra,CW,qN,rF]
theorem uY (s:Sv):(kE s).js=s.js.map (rF (s.now+1)):=Vd _ _
theorem wT (now:Int) (j:Jv):Ed j (rF now j):=by
 unfold rF;split
 ·exact ⟨rfl,rfl,rfl,rfl⟩
 ·exact ⟨rfl,rfl,rfl,rfl⟩
def ahM (h:∀j∈js,(f j).st=1↔j.st=1):gU (js.map f)=gU js:=by
 grind[gU,PS]
def aaF {a now:Int} :∀ {js:List Jv},(∀j∈js,(f j).ac=j.ac/\(f j).nd*pI now (f j)=j.nd*pI now j)->qK a now (js.map f)=qK a now js
 | [],_=>rfl
 | j::js,h=>by
  simp only[nI,qK];rw[aaF (fun x hx=>h x (ny _ hx)),(h j (pJ ..)).1,(h j (pJ ..)).2]
def acZ (i:Int):List Jv->Int
 | []=>0
 | j::js=>(if j.st=2/\j.ac=i then j.nd else 0)+acZ i js
def OO (a now:Int):∀js:List Jv,qK a (now+1) js=qK a now js+acZ a js
 | []=>rfl
 | j::js=>by
  simp only[qK,acZ,OO a now js];grind[pI]
def o8 (nodes:Int):List Jv->List Int->List Int
 | [],us=>us
 | j::l,us=>o8 nodes l (if ko j=true then Lr.Lg.vO us nodes j.ac j.nd else us)
def Ig (nodes:Int):∀(l pre:List Jv) (us:List Int),gu nodes (pre++l) (rR ko l pre.length) us=o8 nodes l us
 | [],pre,us=>rfl
 | j::l,pre,us=>by
  have ih:=fun us=>Ig nodes l (pre++ [j]) us;grind[rR,o8,gu]
theorem Dq (nodes:Int) (js:List Jv) (us:List Int):gu nodes js (Qp js) us=o8 nodes js us:=Ig nodes js [] us
def Ih (nodes:Int):∀(js:List Jv) (us:List Int),(o8 nodes js us).length=us.length
 | [],_=>rfl
 | j::js,us=>by
  unfold o8;rw[Ih nodes js];grind[Lr.Lg.ZW]
theorem Ii (nodes:Int):∀(js:List Jv) (us:List Int),Lr.Lg.Kj us->Lr.Lg.Kj (o8 nodes js us)
 | [],_,h=>h
 | j::js,us,h=>by
  unfold o8;apply Ii nodes js;grind[Lr.Lg.akF]
def az5 (v:Int):jF v<=v:=by grind[jF]
def aqY (u n:Int):Lr.Lg.chN u n<=u+n*4294967296:=by
 grind[Lr.Lg.chN,jF]
def aqZ {us:List Int} {nodes a n:Int} {u u':Int} (h:us[i]?=some u) (h':(Lr.Lg.vO us nodes a n)[i]?=some u') (hn:0<=n):u'<=u+(if a=(i:Int)then n else 0)*4294967296:=by
 unfold Lr.Lg.vO at h';by_cases hc:Lr.Lg.Sg us a=true/\0<=n/\n<=nodes
 ·rw[aJ hc]at h';have⟨h0,h1⟩:=Lr.Lg.Jj.1 hc.1;by_cases e:a=(i:Int)
  ·subst e;rw[aJ rfl];simp only[gJ]at h';rw[h,List.getElem?_set]at h';simp only[DT]at h';split at h'
   ·cases h';exact aqY u n
   omega
  grind
 grind
def Li (nodes:Int):∀(js:List Jv) (us:List Int) (i:Nat) (u u':Int),(∀j∈js,0<=j.nd)->us[i]?=some u->(o8 nodes js us)[i]?=some u'->u'<=u+acZ (i:Int) js*4294967296
 | [],us,i,u,u',_,h,h'=>by
  grind[o8,acZ]
 | j::js,us,i,u,u',hn,h,h'=>by
  unfold o8 at h'
  have hlen:i<(if ko j=true then Lr.Lg.vO us nodes j.ac j.nd else us).length:=by grind[Lr.Lg.vO]
  obtain⟨v,hv⟩:∃v,(if ko j=true then Lr.Lg.vO us nodes j.ac j.nd else us)[i]?=some v:=⟨_,aY hlen⟩
  have ih:=Li nodes js _ i v u' (fun x hx=>hn x (ny _ hx)) hv h'
  have hj:=hn j (pJ ..)
  simp only[acZ]
  by_cases hr:ko j=true
  ·rw[aJ hr]at hv
   have:=aqZ h hv hj
   grind[ko]
  grind
def Lj {us:List Int} {a:Ac} (hl:us.length=la.length) (h:(mE la us)[i]?=some a):us[i]?=some a.us/\∃b,la[i]?=some b:=by
 have hi:=(bO.1 h).1;rw[zU]at hi;have hu:us[i]?=some us[i]:=by grind
 have hb:=aY hi;rw[akK hb hu]at h;grind
def aph {a:Ac} (h:la[i]?=some a):(nX la)[i]?=some a.us:=by
 grind[nX]
theorem Dr (la:List Ac):(nX la).length=la.length:=by simp[nX]
theorem Yz (h:nN la):Lr.Lg.Kj (nX la):=fun u hu=>by
 grind[kS,nX,nN]
def apj {us:List Int} (hl:us.length=la.length) (h:Lr.Lg.Kj us):nN (mE la us):=fun _ a ha=>h a.us (dW (Lj hl ha).1)
structure Kept (s:Sv):Prop where
 Ve:gq s.cf=0
 ok:jk s
 us:nN s.la
theorem Rb:(rF now j).st=1↔j.st=1:=by
 unfold rF;grind[BD,fQ]
def amd:(rF now j).nd*pI now (rF now j)=j.nd*pI now j:=by
 grind[rF,BD,pI,fQ]
def ac0 {c:Cf} (h:m_ c now j=true):m_ c (now+1) (rF (now+1) j)=true:=by
 unfold rF;grind[BD,m_,fQ,mq]
theorem YA {a b:Jv} (h:iF a b=false):iF (rF now a) (rF now b)=false:=by
 have one:∀ {x y:Jv},iF x y=false->iF (rF now x) y=false:=fun {x y} h=>by unfold rF;grind[BD,Ob,fQ]
 grind[qJ]
theorem nP (l:List Ac) (s:ByteArray):bq (l.map aB) s=bq l s:=by
 induction l with
 | nil=>rfl
 | cons a l ih=>grind[bq,aB]
def YB (l:List Ac) (i:Nat) (a:Ac):uJ (l.map aB) i (aB a)=uJ l i a:=by
 grind[uJ,nP,aB]
theorem Ij (l:List Ac):∀(f i:Nat),lD (l.map aB) f i=lD l f i
 | 0,_=>rfl
 | f+1,i=>by
  simp only[lD];rw[jI]
  cases l[i]? with
  | none=>rfl
  | some a=>simp only[Option.map_some];rw[YB,Ij l f (i+1)]
theorem qO (l:List Ac) (n:Nat):up (l.map aB) n=up l n:=by
 grind[up,aB]
theorem Dt (l:List Ac):∀f n:Nat,pG (l.map aB) f n=pG l f n
 | 0,_=>rfl
 | f+1,n=>by simp only[pG,qO,Dt l f]
theorem Ik (l:List Ac):∀(f i:Nat),ig (l.map aB) f i=ig l f i
 | 0,_=>rfl
 | f+1,i=>by
  simp only[ig];rw[dL,show fV (l.map aB) i=fV l i by grind[fV,Dt]];split
  ·rfl
  ·cases fV l i with
   | none=>rfl
   | some d=>simp only;rw[Ik l f (i+1)]
theorem Il (l:List Ac):dw (l.map aB)=dw l:=by
 unfold dw;grind[Ij,Ik,aB,isRoot]
theorem OP {us:List Int}:dw (mE la us)=dw la:=by grind[Il,qm]
def YC {x:Jv} (h:(js.map f)[i]?=some x):∃j,js[i]?=some j/\x=f j:=by
 grind
theorem Ar (v:Kept s) (hn:s.now+1<=1099511627776):Kept (kE s):=by
 have k:=v.ok;have hlen:(gu s.cf.nodes s.js (Qp s.js) (nX s.la)).length=s.la.length:=by rw[Dq,Ih,Dr]
 refine⟨v.Ve,?_,apj hlen (by grind[Dq,Ii,Yz,Kept.us])⟩;refine⟨?_,?_,?_,?_,?_,?_,?_,?_,?_⟩
 ·have:=k.n0;grind[kE]
 ·exact hn
 ·grind[OP,jk.load,kE]
 ·grind[uY,jk.many]
 ·show Eb s.cf (s.now+1) (mE s.la _).length (kE s).js (kE s).js.length=true;rw[zU,uY,zX];intro i x hx;obtain⟨j,hj,rfl⟩:=YC hx;rw[TT (js:=s.js) (fun m=>by grind[wT,Ed.sb])];have h:=k.job hj;unfold IQ at h ⊢;simp only[lW]at h ⊢;refine⟨?_,ac0 h.2⟩;rw[(wT _ j).head];grind[zO]
 ·rw[uY,ahM (fun j _=>Rb)];exact k.queue
 ·grind[uY,sO,YA,jk.apart]
 ·show uS (s.now+1) (kE s).js (mE s.la _) (mE s.la _).length=true;rw[kW];intro i a ha;have⟨h1,b,hb⟩:=Lj hlen ha;rw[Dq]at h1;have h2:=Li s.cf.nodes s.js (nX s.la) i b.us a.us (fun j hj=>by
   have⟨m,hm⟩:=kS hj
   have:=(k.head hm).2.2.1
   omega) (aph hb) h1
  have h3:=kW.1 k.usage i b hb;rw[uY,aaF (fun j _=>⟨(wT _ j).ac,amd⟩),OO,Int.add_mul];omega
 ·have:=k.hold;grind[holdB,kE,uY,Rb,wT,Ed.sb]
def ahN (v:Kept s) {us:List Int} (hl:us.length=s.la.length) (hw:Lr.Lg.Kj us) (hu:∀(i:Nat) (u u':Int),(nX s.la)[i]?=some u->us[i]?=some u'->u'<=u):Kept {s with la:=mE s.la us}:=by
 have k:=v.ok;refine⟨v.Ve,?_,apj hl hw⟩;refine⟨k.n0,k.n1,?_,k.many,?_,k.queue,k.apart,?_,k.hold⟩
 ·grind[OP,jk.load]
 ·grind[zU,jk.jobs]
 ·show uS s.now s.js (mE s.la us) (mE s.la us).length=true;rw[kW];intro i a ha;have⟨h1,b,hb⟩:=Lj hl ha;have:=hu i b.us a.us (aph hb) h1;grind[kW,jk.usage]
def YD {L S:List Int} (hL:L.Nodup) (hS:S.Nodup) (h:∀x∈S,x∈L):(L.filter fun k=> !decide (k∈S)).length+S.length=L.length:=by
 have hp:(L.filter fun k=>decide (k∈S)).Perm S:=by grind
 have h1:=hp.length_eq;have h2:L.length=(L.filter fun k=>decide (k∈S)).length+(L.filter fun k=> !decide (k∈S)).length:=by
  clear h hp h1 hL;induction L with
  | nil=>rfl
  | cons x L ih=>grind
 omega
theorem wW {n:Int} {x:Int}:x∈dZ n js↔0<=x/\x<n/\lM js x=false:=by
 unfold dZ;rw[xJ,jH];simp only[GZ,Fx];constructor
 ·grind
 ·rintro ⟨h1,h2,h⟩;exact⟨⟨x.toNat,by omega,by omega⟩,h⟩
def aaG (n:Int) (js:List Jv):(dZ n js).Pairwise (· < ·):=by
 grind[dZ,List.pairwise_lt_range]
def YE (n:Int) (js:List Jv):(dZ n js).Nodup:=(aaG n js).imp (fun h=>by omega)
def Gl:List Jv->Nat
 | []=>0
 | j::js=>(if ko j=true then j.set.length else 0)+Gl js
def ac1 (n:Int) (j:Jv) (js:List Jv):dZ n (j::js)=(dZ n js).filter fun k=> !(ko j&&decide (k∈j.set)):=by
 unfold dZ;rw[List.filter_filter];grind[lM]
def ahO (n:Int):(dZ n []).length=n.toNat:=by
 grind[dZ,lM,JH]
def mH {n:Int}:∀ {js:List Jv},(∀j∈js,ko j=true->tT n (-1) j.set=true)->js.Pairwise (fun a b=>ko a=true->ko b=true->zP a.set b.set=false)->(dZ n js).length+Gl js=n.toNat
 | [],_,_=>by simp[ahO,Gl]
 | j::js,hr,hp=>by
  have⟨p1,p2⟩:=qH.1 hp;have ih:=mH (fun x hx=>hr x (ny _ hx)) p2;rw[ac1];unfold Gl;by_cases hj:ko j=true
  ·have hs:=hr j (pJ ..) hj;rw[aJ hj];simp only[hj,rO];have:=YD (YE n js) ((Qh hs).imp (fun h=>by omega)) (fun x hx=>by
    have⟨h1,h2⟩:=Ea hs x hx
    grind[wW,lM,zQ])
   omega
  grind[JH]
def Ll {a b:Jv} (ha:a.st=2) (hb:b.st=2) (h:iF a b=false):zP a.set b.set=false:=by
 grind[iF,Kh]
def jk.aq0 (k:jk s):s.js.Pairwise (fun a b=>ko a=true->ko b=true->zP a.set b.set=false):=by
 rw[tF];intro i m hi hm hlt ha hb;unfold ko at ha hb;exact Ll (jY ha) (jY hb) (sO.1 k.apart i m _ _ ak (aY hi) (aY hm))
def jk.mH (k:jk s):(dZ s.cf.nodes s.js).length+Gl s.js=s.cf.nodes.toNat:=_root_.Go.Proofs.YtdhifkbbjlhcaaaGreatDoor.mH (fun j hj h=>by
 have⟨n,hn⟩:=kS hj;unfold ko at h;have:=(k.run hn (jY h)).1;grind[mq]) k.aq0
def ac2 {n:Int} (m:Nat):tT n (-1) ((dZ n js).take m)=true:=zN.2 ⟨fun x hx=>by
 grind[wW],(aaG n js).sublist (List.take_sublist m _)⟩
def Lm (k:jk s) {n:Nat} (hj:s.js[n]?=some j) (h1:j.st=1) (hsb:j.sb<s.now) (hf:j.nd<=(dZ s.cf.nodes s.js).length):
  jk {s with js:=bX s.js n (dR s.now (iC s.cf s.js n)),hd:= -1}:=by
 have⟨r1,r2,r3⟩:=k.pend hj h1;have hh:=k.head hj;have hg:iC s.cf s.js n=(dZ s.cf.nodes s.js).take j.nd.toNat:=by unfold iC;rw[hj]
 refine Kt k hj (f:=dR s.now (iC s.cf s.js n)) (fun j=>⟨rfl,rfl,rfl,rfl⟩) ?_ (by show (2:Int)≠1;omega) (fun m b hm hb=>?_) ?_ ?_
 ·unfold m_;have e:(dR s.now (iC s.cf s.js n) j).st=2:=rfl;have es:(dR s.now (iC s.cf s.js n) j).set=(dZ s.cf.nodes s.js).take j.nd.toNat:=hg;rw[au (by rw[e];omega),au (by rw[e];omega),au (by
   simp only[not_or]
   refine⟨?_,?_,?_⟩
   ·have:mq s.cf.nodes (dR s.now (iC s.cf s.js n) j)=true:=by
     unfold mq
     rw[es,ac2]
     simp only[rO,nS]
     show (((dZ s.cf.nodes s.js).take j.nd.toNat).length:Int)=j.nd
     rw[vX]
     omega
    rw[this];simp
   ·show ¬s.now<=j.sb;omega
   ·show ¬s.now<s.now;omega),aJ e]
  simp only[lW,nS];refine⟨?_,r2⟩;show s.now<s.now+j.lm;omega
 ·by_cases h2:b.st=2
  ·unfold iF;have:zP (dR s.now (iC s.cf s.js n) j).set b.set=false:=(by rw[NA];intro h;have⟨x,hx,hxb⟩:=zQ.1 h;have hx':x∈(dZ s.cf.nodes s.js).take j.nd.toNat:=(by rw[← hg];exact hx);have ht:=(wW.1 (JU hx')).2.2;unfold lM at ht;rw[List.any_eq_false]at ht;have:=ht b (dW hb);simp[ko,h2,hxb]at this);rw[this,Bool.and_false]
  ·have ht:=k.times hb;by_cases h1':b.st=1
   ·rw[qJ];exact Qq (k.pend hb h1').2.2
   ·unfold m_ at ht;rw[au h1']at ht;by_cases h6:b.st=6
    ·rw[aJ h6]at ht;simp only[lW,nS]at ht;rw[qJ];exact Qq (DV.1 ht.2.2.2)
    ·rw[au h6]at ht;split at ht
     ·cases ht
     ·refine XI h2 ?_;show b.en<=s.now;split at ht
      ·simp only[lW,nS]at ht;omega
      ·split at ht
       ·simp only[lW,nS]at ht;omega
       ·cases ht
 ·have e1:pI s.now j=0:=by unfold pI;rw[au ak,au ak]
  have e2:pI s.now (dR s.now (iC s.cf s.js n) j)=0:=by unfold pI;rw[au (by show ¬((2:Int)=3\/(2:Int)=4\/(2:Int)=5);omega),aJ (show (dR s.now (iC s.cf s.js n) j).st=2 from rfl)];show s.now - s.now=0;omega
  rw[e1,e2];exact kL _
 ·unfold holdB;simp
def OQ {n:Nat} {set:List Int} (hj:js[n]?=some j) (h1:j.st=1):Gl (bX js n (dR now set))=Gl js+set.length:=by
 unfold bX;rw[hj];show Gl (js.set n (dR now set j))=_;induction js generalizing n with
 | nil=>grind
 | cons x js ih=>
  cases n with
  | zero=>grind[Gl,ko,dR]
  | succ n=>grind[Gl]
def Fits (now:Int):Nat->List Int->List Jv->Prop
 | _,[],_=>True
 | f,n::l,js=>0<=n/\n∉l/\∃j,js[n.toNat]?=some j/\j.st=1/\j.sb<now/\0<=j.nd/\j.nd<=(f:Int)/\Fits now (f - j.nd.toNat) l js
def EC:∀ {l:List Int} {f:Nat} {js:List Jv},Fits now f l js->∀x∈l,0<=x
 | [],_,_,_,x,hx=>by grind
 | n::l,f,js,h,x,hx=>by
  obtain⟨h0,_,j,_,_,_,_,_,hl⟩:=h;rcases lZ.1 hx with rfl | hx
  ·omega
  ·exact EC hl x hx
theorem Au {n:Nat} {g:Jv->Jv}:∀ {l:List Int} {f:Nat} {js:List Jv},Fits now f l js->(n:Int)∉l->Fits now f l (bX js n g)
 | [],_,_,_,_=>trivial
 | m::l,f,js,h,hn=>by
  obtain⟨h0,h1,j,h2,h3,h4,h5,h6,h7⟩:=h;simp only[lZ,not_or]at hn;exact⟨h0,h1,j,by grind[lT],h3,h4,h5,h6,Au h7 hn.2⟩
def Av:∀(l:List Int) {s:Sv},jk s->Fits s.now (dZ s.cf.nodes s.js).length l s.js->jk {s with js:=dA s.cf s.now l s.js,hd:= -1}
 | [],s,k,_=>by
  refine⟨k.n0,k.n1,k.load,k.many,k.jobs,k.queue,k.apart,k.usage,?_⟩
  unfold holdB
  simp
 | n::l,s,k,h=>by
  obtain⟨h0,h1,j,h2,h3,h4,h5,h6,h7⟩:=h
  have k':=Lm k h2 h3 h4 h6
  have e1:=k.mH
  have e2:=k'.mH
  have e3:=OQ (now:=s.now) (set:=iC s.cf s.js n.toNat) h2 h3
  have e4:(iC s.cf s.js n.toNat).length=j.nd.toNat:=by grind[iC]
  have e5:(dZ s.cf.nodes (bX s.js n.toNat (dR s.now (iC s.cf s.js n.toNat)))).length=(dZ s.cf.nodes s.js).length - j.nd.toNat:=by grind
  have:=Av l k' (by
   grind[Au])
  exact this
def Bg {c:Cf} {m:Nat}:∀ {l:List Int} {js:List Jv},(∀x∈l,x.toNat≠m)->(dA c now l js)[m]?=js[m]?
 | [],_,_=>rfl
 | n::l,js,h=>by
  unfold dA;rw[Bg (fun x hx=>h x (ny _ hx)),lT (iN (h n (pJ ..)))]
theorem xY {c:Cf} :∀(l:List Int) (js:List Jv),(dA c now l js).length=js.length
 | [],_=>rfl
 | n::l,js=>by unfold dA;rw[xY l,afL]
def ac3 (k:jk s) {h:Int} (hh:h= -1\/0<=h/\∃j,s.js[h.toNat]?=some j/\j.st=1/\j.sb<s.now):jk {s with hd:=h}:=by
 refine⟨k.n0,k.n1,k.load,k.many,k.jobs,k.queue,k.apart,k.usage,?_⟩;grind[holdB]
end
end Go.Proofs.YtdhifkbbjlhcaaaGreatDoor
