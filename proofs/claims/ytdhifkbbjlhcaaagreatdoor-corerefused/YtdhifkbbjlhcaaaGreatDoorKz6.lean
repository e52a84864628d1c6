import Derived.Test.YtdhifkbbjlhcaaaGreatDoorKz3
import Derived.Test.YtdhifkbbjlhcaaaGreatDoorKz5
set_option maxRecDepth 20000
set_option maxHeartbeats 1000000
set_option linter.defProp false
namespace Go.Proofs.YtdhifkbbjlhcaaaGreatDoor
open Go.Proofs.Tryz
variable {acc l:List Int} {n x y:Int}
section
open Go.RowKit Wd
namespace Lg
structure Jb where
 ac:Int
 nd:Int
 lm:Int
 sb:Int
 st:Int
 sr:Int
 en:Int
 sa:Option Addr
 sl:Nat
 sc:Nat
def Tt (now:Int) (j:Jb):Int:=if j.st=3\/j.st=4\/j.st=5 then j.en - j.sr else if j.st=2 then now - j.sr else 0
def FR (acc:List Int) (now:Int) (j:Jb):Int:=if j.ac∈acc then j.nd*Tt now j else 0
def lK (acc:List Int) (now:Int):List Jb->Int
 | []=>0
 | j::js=>FR acc now j+lK acc now js
def CG (x y:Int):Prop:=∃k,x=y+18446744073709551616*k
theorem CG.trans {x y z:Int} (h:CG x y) (g:CG y z):CG x z:=by obtain⟨k,h⟩:=h;obtain⟨m,g⟩:=g;exact⟨k+m,by omega⟩
theorem CG.add {x y u v:Int} (h:CG x y) (g:CG u v):CG (x+u) (y+v):=by obtain⟨k,h⟩:=h;obtain⟨m,g⟩:=g;exact⟨k+m,by omega⟩
def CG.mul (n:Int) (h:CG x y):CG (n*x) (n*y):=by
 obtain⟨k,rfl⟩:=h;grind[CG]
def tQ (x:Int):CG (wrap64 x) x:=by
 exact aoF
def Qg (h:CG x y):wrap64 x=wrap64 y:=by
 grind[wrap64,CG]
def wrap_one (s n d:Int):wrap64 (wrap64 s+wrap64 (n*wrap64 d))=wrap64 (s+n*d):=
 Qg ((tQ s).add ((tQ _).trans ((tQ d).mul n)))
def D_ (acc:List Int) (now:Int):∀a b:List Jb,lK acc now (a++b)=lK acc now a+lK acc now b
 | [],b=>by simp[lK]
 | j::a,b=>by simp only[mP,lK,D_ acc now a b];omega
theorem Ke (acc:List Int) (now:Int) (js:List Jb) (j:Jb):lK acc now (js++ [j])=lK acc now js+FR acc now j:=by
 rw[D_];simp[lK]
theorem Kg {now:Int} {js:List Jb} {i:Nat} {j:Jb} (h:js[i]?=some j):lK acc now (js.take (i+1))=lK acc now (js.take i)+FR acc now j:=by
 grind[Zz,Ke]
end Lg
end
section
open Wd Tr Cg
structure Jv where
 ac:Int
 nd:Int
 lm:Int
 sb:Int
 st:Int
 sr:Int
 en:Int
 set:List Int
structure Sv where
 cf:Cf
 now:Int
 la:List Ac
 js:List Jv
 hd:Int
def tT (n:Int):Int->List Int->Bool
 | _,[]=>true
 | last,x::l=>(decide (last<x)&&decide (x<n))&&tT n x l
def Ea:∀ {l:List Int} {last:Int},tT n last l=true->∀x∈l,last<x/\x<n
 | [],_,_,x,hx=>by grind
 | y::l,last,h,x,hx=>by
  simp only[tT,lW,nS]at h;rcases lZ.1 hx with rfl | hx
  ·omega
  ·have:=Ea h.2 x hx;omega
def Qh:∀ {l:List Int} {last:Int},tT n last l=true->l.Pairwise (· < ·)
 | [],_,_=>List.Pairwise.nil
 | y::l,last,h=>by
  simp only[tT,lW,nS]at h;exact qH.2 ⟨fun x hx=>(Ea h.2 x hx).1,Qh h.2⟩
def zN:∀ {l:List Int} {last:Int},tT n last l=true↔(∀x∈l,last<x/\x<n)/\l.Pairwise (· < ·)
 | [],_=>by simp[tT]
 | y::l,last=>by
  constructor
  ·intro h;exact⟨Ea h,Qh h⟩
  ·rintro ⟨h1,h2⟩;simp only[tT,lW,nS];have⟨h3,h4⟩:=qH.1 h2;refine⟨h1 y (pJ ..),zN.2 ⟨fun x hx=>⟨h3 x hx,(h1 x (ny _ hx)).2⟩,h4⟩⟩
def mq (n:Int) (j:Jv):Bool:=tT n (-1) j.set&&decide ((j.set.length:Int)=j.nd)
def m_ (c:Cf) (now:Int) (j:Jv):Bool:=
 if j.st=1 then decide (j.sr=0)&&(decide (j.en=0)&&decide (j.set.length=0))
 else if j.st=6 then decide (j.sr=0)&&(decide (j.sb<=j.en)&&(decide (j.en<=now)&&decide (j.set.length=0)))
 else if mq c.nodes j=false\/j.sr<=j.sb\/now<j.sr then false
 else if j.st=2 then decide (now<j.sr+j.lm)&&decide (j.en=0)
 else if j.st=3\/j.st=5 then decide (j.sr<=j.en)&&(decide (j.en<j.sr+j.lm)&&decide (j.en<=now))
 else if j.st=4 then decide (j.en=j.sr+j.lm)&&decide (j.en<=now)
 else false
def zO (c:Cf) (now:Int) (N:Nat) (p:Int) (j:Jv):Bool:=
 (decide (1<=j.ac)&&(decide (j.ac<(N:Int))&&(decide (1<=j.nd)&&(decide (j.nd<=c.nodes)&&(decide (1<=j.lm)&&decide (j.lm<=c.limit))))))
 &&(decide (0<=j.sb)&&(decide (j.sb<=now)&&(decide (j.sb+bH c<=1099511627776)&&decide (p<=j.sb))))
def IQ (c:Cf) (now:Int) (N:Nat) (p:Int) (j:Jv):Bool:=zO c now N p j&&m_ c now j
def oK (js:List Jv) (i:Nat):Int:=if i=0 then 0 else match js[i - 1]? with
 | none=>0
 | some j=>j.sb
def Eb (c:Cf) (now:Int) (N:Nat) (js:List Jv) (n:Nat):Bool:=(List.range n).all fun i=>match js[i]? with
 | none=>true
 | some j=>IQ c now N (oK js i) j
theorem Tv {c:Cf} {now:Int} {N:Nat} {js:List Jv} {n:Nat}:Eb c now N js n=true↔∀i,i<n->∀j,js[i]?=some j->IQ c now N (oK js i) j=true:=by
 grind[Eb]
def gU (js:List Jv):Nat:=(js.filter fun j=>decide (j.st=1)).length
def Kh (a b:Jv):Bool:=(decide (a.st=2)||decide (b.sr<a.en))&&((decide (b.st=2)||decide (a.sr<b.en))&&((decide (a.st=2)||decide (a.sr<a.en))&&(decide (b.st=2)||decide (b.sr<b.en))))
def zP (a b:List Int):Bool:=a.any fun n=>b.any fun m=>decide (n=m)
theorem zQ {a b:List Int}:zP a b=true↔∃n,n∈a/\n∈b:=by
 grind[zP]
def iF (a b:Jv):Bool:=Kh a b&&zP a.set b.set
theorem abo (a b:Jv):Kh a b=Kh b a:=by
 grind[Kh]
theorem meet_comm (a b:List Int):zP a b=zP b a:=by
 grind[zQ]
theorem qJ (a b:Jv):iF a b=iF b a:=by
 grind[iF,abo,meet_comm]
def Ki (js:List Jv) (n:Nat):Bool:=(List.range n).all fun i=>match js[i]? with
 | none=>true
 | some a=>(js.take i).all fun b=> !iF a b
def abp {js:List Jv} {n:Nat}:Ki js n=true↔∀i,i<n->∀a,js[i]?=some a->∀b∈js.take i,iF a b=false:=by
 grind[Ki]
def pI (now:Int) (j:Jv):Int:=if j.st=3\/j.st=4\/j.st=5 then j.en - j.sr else if j.st=2 then now - j.sr else 0
def qK (a now:Int):List Jv->Int
 | []=>0
 | j::js=>(if j.ac=a then j.nd*pI now j else 0)+qK a now js
def Tw (a now:Int):∀x y:List Jv,qK a now (x++y)=qK a now x+qK a now y
 | [],y=>by simp[qK]
 | j::x,y=>by simp only[mP,qK,Tw a now x y];omega
def XA (now:Int) (js:List Jv) (n:Nat) (a:Ac):Bool:=decide (a.us<=qK (n:Int) now js*4294967296)
def uS (now:Int) (js:List Jv) (la:List Ac) (n:Nat):Bool:=(List.range n).all fun i=>match la[i]? with
 | none=>true
 | some a=>XA now js i a
theorem XB {now:Int} {js:List Jv} {la:List Ac} {n:Nat}:uS now js la n=true↔∀i,i<n->∀a,la[i]?=some a->XA now js i a=true:=by
 grind[uS]
def holdB (s:Sv):Bool:=decide (s.hd= -1)||(decide (0<=s.hd)&&match s.js[s.hd.toNat]? with
 | none=>false
 | some j=>decide (j.st=1)&&decide (j.sb<s.now))
end
namespace Lr
open Go.RowKit Wd
namespace Lg
def Kj (l:List Int):Prop:=∀u,u∈l->Word u
def chN (u n:Int):Int:=jF (u+jF (n*4294967296))
def Sg (l:List Int) (a:Int):Bool:=decide (0<=a)&&decide (a<l.length)
def FT (l:List Int) (a:Int):Int:=if Sg l a then(l[a.toNat]?).getD 0 else 0
def g_ (l:List Int):List Int->Int->Int
 | [],s=>s
 | a::az,s=>g_ l az (jF (s+FT l a))
def pK (f:Int) (l:List Int):List Int:=l.map fun u=>wE u f
def XC (l:List Int) (N a n:Int):Int:=if Sg l a then(if 0<=n/\n<=N then 0 else 1)else 120
def vO (l:List Int) (N a n:Int):List Int:=if Sg l a=true/\0<=n/\n<=N then l.set a.toNat (chN ((l[a.toNat]?).getD 0) n)else l
def Jj {a:Int}:Sg l a=true↔0<=a/\a<l.length:=by simp[Sg]
theorem Kj.get (h:Kj l) {k:Nat} {u:Int} (hk:l[k]?=some u):Word u:=h u (dW hk)
theorem wd0:Word 0:=⟨by omega,by omega⟩
theorem Tz (h:Kj l) (a:Int):Word (FT l a):=by
 grind[FT,wd0,Kj.get]
theorem TG {u n:Int} (hu:Word u) (hn:0<=n):Word (chN u n):=by
 grind[chN,Word,jF]
theorem akF (h:Kj l) (N a n:Int):Kj (vO l N a n):=by
 grind[vO,TG,wd0,Kj]
theorem ZW (l:List Int) (N a n:Int):(vO l N a n).length=l.length:=by grind[vO]
def afB {f:Int} (h:Kj l) (hf:Word f):Kj (pK f l):=by
 intro u hu;obtain⟨x,hx,rfl⟩:=jH.1 hu;have hx':=h x hx;exact⟨G9 hx' hf,by have:=Jf (f:=f) hx';have:=hx'.2;omega⟩
theorem afC (l:List Int) (f:Int):(pK f l).length=l.length:=by simp[pK]
theorem qL (h:Kj l):∀(az:List Int) (s:Int),Word s->Word (g_ l az s)
 | [],_,hs=>hs
 | a::az,s,hs=>qL h az _ (zy (by grind[Tz,Word]))
def afD {l az:List Int} {j:Nat} {a s:Int} (h:az[j]?=some a):g_ l (az.drop j) s=g_ l (az.drop (j+1)) (jF (s+FT l a)):=by
 grind[tu,g_]
def Les (b a:List Int):Prop:=b.length=a.length/\∀(k:Nat) u v,a[k]?=some u->b[k]?=some v->v<=u
def atP {a b:List Int} {f:Int} (h:Les b a) (hf:Word f):Les (pK f b) (pK f a):=by
 refine⟨by simp[pK,h.1],fun k u v h1 h2=>?_⟩;simp only[pK,jI,Option.map_eq_some_iff]at h1 h2;obtain⟨x,hx,rfl⟩:=h1;obtain⟨y,hy,rfl⟩:=h2;exact Xm hf (h.2 k x y hx hy)
def akG {f:Int} (h:Kj l) {k:Nat} {u v:Int} (h1:l[k]?=some u) (h2:(pK f l)[k]?=some v):v<=u:=by
 simp only[pK,jI,Option.map_eq_some_iff]at h2;obtain⟨x,hx,rfl⟩:=h2;rw[h1]at hx
 cases hx;exact Jf (h.get h1)
structure Jb where
 ac:Int
 nd:Int
 lm:Int
 sb:Int
 st:Int
 sr:Int
 en:Int
 sa:Option Addr
 sl:Nat
 sc:Nat
def Tt (now:Int) (j:Jb):Int:=if j.st=3\/j.st=4\/j.st=5 then j.en - j.sr else if j.st=2 then now - j.sr else 0
def FR (acc:List Int) (now:Int) (j:Jb):Int:=if j.ac∈acc then j.nd*Tt now j else 0
def lK (acc:List Int) (now:Int):List Jb->Int
 | []=>0
 | j::js=>FR acc now j+lK acc now js
def CG (x y:Int):Prop:=∃k,x=y+18446744073709551616*k
theorem CG.trans {x y z:Int} (h:CG x y) (g:CG y z):CG x z:=by obtain⟨k,h⟩:=h;obtain⟨m,g⟩:=g;exact⟨k+m,by omega⟩
theorem CG.add {x y u v:Int} (h:CG x y) (g:CG u v):CG (x+u) (y+v):=by obtain⟨k,h⟩:=h;obtain⟨m,g⟩:=g;exact⟨k+m,by omega⟩
def CG.mul (n:Int) (h:CG x y):CG (n*x) (n*y):=by
 obtain⟨k,rfl⟩:=h;grind[CG]
def tQ (x:Int):CG (wrap64 x) x:=by
 exact aoF
def Qg (h:CG x y):wrap64 x=wrap64 y:=by
 grind[wrap64,CG]
def wrap_one (s n d:Int):wrap64 (wrap64 s+wrap64 (n*wrap64 d))=wrap64 (s+n*d):=
 Qg ((tQ s).add ((tQ _).trans ((tQ d).mul n)))
def D_ (acc:List Int) (now:Int):∀a b:List Jb,lK acc now (a++b)=lK acc now a+lK acc now b
 | [],b=>by simp[lK]
 | j::a,b=>by simp only[mP,lK,D_ acc now a b];omega
theorem Ke (acc:List Int) (now:Int) (js:List Jb) (j:Jb):lK acc now (js++ [j])=lK acc now js+FR acc now j:=by
 rw[D_];simp[lK]
theorem Kg {now:Int} {js:List Jb} {i:Nat} {j:Jb} (h:js[i]?=some j):lK acc now (js.take (i+1))=lK acc now (js.take i)+FR acc now j:=by
 grind[Zz,Ke]
def yO (acc:List Int) (j:Jb):Int:=if j.st=2/\j.ac∈acc then j.nd else 0
def Ec (acc:List Int):List Jb->Int
 | []=>0
 | j::js=>yO acc j+Ec acc js
theorem zR (acc:List Int):∀a b:List Jb,Ec acc (a++b)=Ec acc a+Ec acc b
 | [],b=>by simp[Ec]
 | j::a,b=>by simp only[mP,Ec,zR acc a b];omega
def NZ {js:List Jb} {i:Nat} {j:Jb} (h:js[i]?=some j):Ec acc (js.take (i+1))=Ec acc (js.take i)+yO acc j:=by
 obtain⟨hi,rfl⟩:=bO.1 h;rw[Zz hi,zR];simp[Ec]
end Lg
end Lr
end Go.Proofs.YtdhifkbbjlhcaaaGreatDoor
