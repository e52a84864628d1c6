import Derived.Test.YtdhifkbbjlhcaaaGreatDoorKz5
import Derived.Test.YtdhifkbbjlhcaaaGreatDoorKz3
set_option maxRecDepth 20000
set_option maxHeartbeats 1000000
set_option linter.defProp false
namespace Go.Proofs.YtdhifkbbjlhcaaaGreatDoor
open Go.Proofs.Tryz
variable {a:Tr.Ac} {b w x:Int} {f:Nat->Int} {k n:Nat} {l:List Tr.Ac}
namespace Tr
open Wd
def Wu (l:List Ac):Prop:=Wf (l.map aB)
def Ku (l:List Ac) (n:Nat):Int:=match l[n]? with
 | some a=>a.sh
 | none=>0
def CX (l:List Ac) (n:Nat):Int:=match l[n]? with
 | some a=>a.us
 | none=>0
theorem TU (h:l[n]?=some a):Ku l n=a.sh:=by unfold Ku;rw[h]
def atQ (h:l[n]?=some a):CX l n=a.us:=by unfold CX;rw[h]
theorem qO (l:List Ac) (n:Nat):up (l.map aB) n=up l n:=by
 grind[up,aB]
theorem qp:∀ {d n},lX (l.map aB) d n↔lX l d n
 | 0,_=>Iff.rfl
 | d+1,n=>by
  show (n≠0/\lX (l.map aB) d (up (l.map aB) n))↔(n≠0/\lX l d (up l n));rw[qO,qp]
theorem nM (l:List Ac) (n:Nat):dh (l.map aB) n=dh l n:=by
 grind[dh,aB]
theorem qw:∀ {s k},NV (l.map aB) n s k↔NV l n s k
 | 0,_=>Iff.rfl
 | s+1,k=>by
  show (k≠n/\k≠0/\NV (l.map aB) n s (up (l.map aB) k))↔(k≠n/\k≠0/\NV l n s (up l k));rw[qO,qw]
theorem sP:wI (l.map aB) n k↔wI l n k:=⟨fun ⟨s,h⟩=>⟨s,qw.1 h⟩,fun⟨s,h⟩=>⟨s,qw.2 h⟩⟩
section
variable {l:List Ac} {n k j:Nat} {a:Ac}
theorem Wu.len (h:Wu l):l.length<=64:=by grind[Wf.len,dL,Wu]
theorem Wu.pos (h:Wu l):0<l.length:=by grind[Wf.pos,Wu]
theorem Wu.root (h:Wu l):∃a,l[0]?=some a/\a.pa= -1/\a.sh=1:=by
 have h0:=Wf.root h;grind[aB,eH]
theorem Wu.row (h:Wu l) (ha:l[n]?=some a) (hn:0<n):0<=a.pa/\a.pa<(l.length:Int)/\1<=a.sh/\a.sh<=4096:=by
 have:=Wf.row h n (aB a) (by grind) hn;grind[zJ,aB]
theorem Wu.tO (h:Wu l) (hn:n<l.length):up l n<l.length:=by
 have:=Wf.tO h (n:=n) (by grind);grind[qO]
theorem Wu.deep (h:Wu l) (hn:n<l.length):∃d,d<=4/\lX l d n:=by
 grind[Wf.deep,dL,qp,Wu]
theorem Wu.kid (h:Wu l) (hk:k∈dh l n):k≠0/\k<l.length/\up l k=n:=by
 rw[← nM]at hk;grind[Qe,dL,qO,up,Wu]
theorem Wu.Qf (h:Wu l) (h0:k≠0) (hk:k<l.length):k∈dh l (up l k):=by
 have:=Tr.Qf h h0 (by rwa [dL]);grind[nM,qO]
def Wu.qF (h:Wu l) {d:Nat} (hk:k∈dh l n) (hd:lX l d n):lX l (d+1) k:=by
 rw[← nM]at hk;exact qp.1 (Tr.qF h hk (qp.2 hd))
def Wu.sh (h:Wu l) (hn:n<l.length):1<=Ku l n/\Ku l n<=4096:=by
 obtain⟨a,ha⟩:∃a,l[n]?=some a:=⟨_,aY hn⟩;rw[TU ha];by_cases h0:0<n
 ·have:=h.row ha h0;omega
 grind[root]
def WL (l:List Ac) (n:Nat):Nat:=(pG l 5 n).getD 0
theorem Wu.WL (h:Wu l) (hn:n<l.length):lX l (WL l n) n/\Tr.WL l n<=4:=by
 have⟨d,h1,h2⟩:=h.deep hn;have:=tN h2 (f:=5) ak;grind[Tr.WL]
theorem afN {d:Nat} (hd:lX l d n) (h4:d<=4):WL l n=d:=by
 unfold WL;rw[tN hd (f:=5) ak];rfl
def Kv (l:List Ac):WL l 0=0:=afN (d:=0) rfl ak
def Wu.Qr (h:Wu l) (hn:n<l.length) (h0:n≠0):Tr.WL l n=Tr.WL l (up l n)+1:=by
 have⟨h1,h2⟩:=h.WL hn
 cases hd:Tr.WL l n with
 | zero=>grind[lX]
 | succ d=>grind[afN,lX]
def Wu.aoS (h:Wu l) (hn:n<l.length) (h0:n≠0):up l n≠n:=fun e=>by
 have:=h.Qr hn h0;grind
end
def oM (l:List Ac) (p:Int):Nat->Int
 | 0=>0
 | k+1=>oM l p k+(match l[k]? with
  | some a=>if a.pa=p then a.sh else 0
  | none=>0)
def Od (l:List Ac) (p:Nat):Int:=oM l p l.length
def om (l:List Ac) (p:Nat) (k:Nat):List Nat:=(List.range k).filter fun i=>decide ((l[i]?.map (·.pa))=some (p:Int))
def afO {p k:Nat} (h:l[k]?=some a) (e:a.pa=p):om l p (k+1)=om l p k++ [k]:=by
 grind[om,SL]
def akN {p k:Nat} (h:l[k]?=some a) (e:a.pa≠p):om l p (k+1)=om l p k:=by
 grind[om,SL]
def TV {p:Int} (h:l[k]?=some a) (e:a.pa=p):oM l p (k+1)=oM l p k+a.sh:=by
 grind[oM]
theorem akO {p:Int} (h:l[k]?=some a) (e:a.pa≠p):oM l p (k+1)=oM l p k:=by
 grind[oM]
def XJ (l:List Ac) (p:Int):∀k,oM (l.map aB) p k=oM l p k
 | 0=>rfl
 | k+1=>by
  simp only[oM];rw[XJ l p k,jI]
  cases l[k]?<;>rfl
def afP (l:List Ac):Prop:=∀(n:Nat) (a:Ac),l[n]?=some a->1<=a.sh/\a.sh<=4096
def Wu.afQ (h:Wu l):afP l:=fun n a ha=>by
 have:=h.sh (bO.1 ha).1;rwa [TU ha]at this
def uU (h:afP l) (p:Nat):∀k,((om l p k).length:Int)<=oM l p k/\oM l p k<=4096*(om l p k).length
 | 0=>by simp[oM,om]
 | k+1=>by
  have ih:=uU h p k;grind[oM,om,SL,afP]
theorem Jl (l:List Ac) (p k:Nat):(om l p k).length<=k:=by
 grind[om]
def Oe (h:Wu l) (p:Nat) (hk:k<=64):0<=oM l p k/\oM l p k<=262144:=by
 have h1:=uU h.afQ p k;grind[Jl]
def TW (h:Wu l) (p:Nat):0<=Od l p/\Od l p<=262144:=Oe h p h.len
def T9 (h:afP l) {p n:Nat} (ha:l[n]?=some a) (e:a.pa=p):∀ {k},n<k->a.sh<=oM l p k
 | 0,hk=>by omega
 | k+1,hk=>by
  by_cases ek:n=k
  ·subst ek;rw[TV ha e];have:=(uU h p n).1;omega
  ·have ih:=T9 h ha e (k:=k) ak;grind[oM,afP]
def Qs (h:Wu l) (hn:n<l.length) (h0:n≠0):1<=Ku l n/\Ku l n<=Od l (up l n):=by
 obtain⟨a,ha⟩:∃a,l[n]?=some a:=⟨_,aY hn⟩;have h1:=h.row ha ak;have h2:=D6 ha;have:=T9 h.afQ ha (p:=up l n) ak hn;grind[TU,Od]
def tX (l:List Ac):Nat->Nat->Int
 | 0,_=>1
 | d+1,n=>tX l d (up l n)*Ku l n
def abx (l:List Ac):Nat->Nat->Int
 | 0,_=>1
 | d+1,n=>abx l d (up l n)*Od l (up l n)
def lG (l:List Ac) (n:Nat):Int:=tX l (WL l n) n
def lN (l:List Ac) (n:Nat):Int:=abx l (WL l n) n
def afR (l:List Ac):lG l 0=1:=by unfold lG;rw[Kv];rfl
def afS (l:List Ac):lN l 0=1:=by unfold lN;rw[Kv];rfl
def apQ (h:Wu l) (hn:n<l.length) (h0:n≠0):lG l n=lG l (up l n)*Ku l n:=by
 unfold lG;rw[h.Qr hn h0];rfl
def apR (h:Wu l) (hn:n<l.length) (h0:n≠0):lN l n=lN l (up l n)*Od l (up l n):=by
 unfold lN;rw[h.Qr hn h0];rfl
def anc (l:List Ac):Nat->Nat->List Nat
 | 0,_=> []
 | d+1,n=>up l n::anc l d (up l n)
def BS (f:Nat->Nat):List Nat->Nat
 | []=>1
 | a::m=>BS f m*f a
def oN:Nat->Int
 | 0=>1
 | d+1=>oN d*4096
def Kw (h:Wu l):∀ {d n},n<l.length->lX l d n->1<=tX l d n/\tX l d n<=abx l d n/\tX l d n<=oN d/\abx l d n<=oN d*BS (fun p=>(dh l p).length) (anc l d n)
 | 0,_,_,_=>by simp[tX,abx,oN,BS,anc]
 | d+1,n,hn,hd=>by
  have⟨i1,i2,i3,i4⟩:=Kw h (h.tO hn) hd.2;have⟨s1,s2⟩:=Qs h hn hd.1;have s3:=(h.sh hn).2;have s4:Od l (up l n)<=4096*(dh l (up l n)).length:=(uU h.afQ (up l n) l.length).2;simp only[tX,abx,oN,anc,BS];refine⟨?_,?_,?_,?_⟩
  ·calc (1:Int)=1*1:=rfl
    _<=tX l d (up l n)*Ku l n:=Cj i1 s1 ak ak
  ·exact Cj i2 s2 ak ak
  ·exact Cj i3 s3 ak ak
  ·have hp:(0:Int)<=oN d:=ak;refine DR (Cj i4 s4 ak (sW hp (Int.natCast_nonneg _))) ?_;grind
theorem Z5:∀ {d n},lX l d n->∀p∈anc l d n,∃e,e<d/\lX l e p
 | 0,_,_,_,hp=>by cases hp
 | d+1,n,hd,p,hp=>by
  rcases lZ.1 hp with rfl | hp
  ·grind[lX]
  ·have⟨e,h1,h2⟩:=Z5 hd.2 p hp;grind
def Og:∀ {d n},lX l d n->(anc l d n).Nodup
 | 0,_,_=>List.nodup_nil
 | d+1,n,hd=>by
  refine NC.2 ⟨fun hp=>?_,Og hd.2⟩;grind[Z5,lC,lX]
def akP {α:Type} {f g:α->Nat} {l:List α} (h:∀a∈l,f a<=g a):lF f l<=lF g l:=by
 induction l with
 | nil=>exact aC _
 | cons a l ih=>grind[lF]
def aby {l:List Nat} (hn:l.Nodup) {p:Nat->Bool} (hu:∀j∈l,∀k∈l,p j=true->p k=true->j=k):lF (fun a=>if p a then 1 else 0) l<=1:=by
 by_cases h:∃k∈l,p k=true
 ·obtain ⟨k,hk,hp⟩:=h;exact Nat.le_of_eq (afy hn hk hp (fun j hj hpj=>hu j hj k hk hpj hp))
 grind[xO,AY]
def afT (h:Wu l) {ps:List Nat} (hps:ps.Nodup):lF (fun p=>(dh l p).length) ps<=63:=by
 have e1:∀p,(dh l p).length=lF (fun i=>if decide ((l[i]?.map (·.pa))=some (p:Int))then 1 else 0) (List.range l.length):=fun p=>Xy _ _;rw[xO (g:=fun p:Nat=>lF (fun i=>if decide ((l[i]?.map (·.pa))=some (p:Int))then 1 else 0) (List.range l.length)) (fun p _=>e1 p),abk];have e2:lF (fun i=>lF (fun p:Nat=>if decide ((l[i]?.map (·.pa))=some (p:Int))then 1 else 0) ps) (List.range l.length)<=lF (fun i=>if decide (i≠0)then 1 else 0) (List.range l.length):=by
  refine akP (fun i _=>?_);by_cases hi:i=0
  ·subst hi;obtain⟨a,ha,hpa,_⟩:=h.root;have:lF (fun p:Nat=>if decide ((l[0]?.map (·.pa))=some (p:Int))then 1 else 0) ps=0:=by
    rw[xO (g:=fun _=>0) (fun p _=>au (by
     rw[ha]
     simp[hpa])),AY]
   rw[this];exact ni _
  ·have:(if decide (i≠0)=true then 1 else 0)=1:=(by simp[hi]);rw[this];refine aby hps (fun p _ q _ hp hq=>?_);simp only[nS]at hp hq;rw[hp]at hq;injection hq with hq;omega
 refine bM e2 ?_;have hpos:=h.pos;have hlen:=h.len;obtain⟨m,hm⟩:∃m,l.length=m+1:=⟨l.length - 1,by omega⟩;rw[hm,List.range_succ_eq_map];simp only[lF];have:∀(xs:List Nat),lF (fun i=>if decide (i≠0)=true then 1 else 0) xs<=xs.length:=fun xs=>by
  induction xs with
  | nil=>exact aC _
  | cons a xs ih=>simp only[lF,dK];split<;>omega
 have:=this (List.map Nat.succ (List.range m));rw[dL,SE]at this;simp only[ne_eq,not_true_eq_false,decide_false,Bool.false_eq_true,if_false,rJ];simp only[ne_eq]at this;omega
def zY (x y:Nat):4*(x*y)<=(x+y)*(x+y):=by
 rcases Nat.le_total x y with h | h
 ·grind[Nat.exists_eq_add_of_le,Nat.mul_add,Ny]
 grind[Nat.exists_eq_add_of_le,Nat.add_mul,Ny]
def Oh {a b c e:Nat} (h:a+b+c+e<=63):a*b*(c*e)<65536:=by
 have h1:=zY a b;have h2:=zY c e;have h3:=zY (a+b) (c+e);have h4:(a+b+(c+e))*(a+b+(c+e))<=63*63:=BM ak ak;have h5:=BM h1 h2;have h6:4*(a*b)*(4*(c*e))=16*(a*b*(c*e)):=by grind
 have h7:(a+b)*(a+b)*((c+e)*(c+e))=(a+b)*(c+e)*((a+b)*(c+e)):=by grind
 have h8:(a+b)*(c+e)<=992:=ak;have h9:=BM h8 h8;omega
def Ee (h:Wu l) (hn:n<l.length):1<=lG l n/\lG l n<=lN l n/\lG l n<=281474976710656/\lN l n<18446744073709551616:=by
 have⟨hd,h4⟩:=h.WL hn;have⟨b1,b2,b3,b4⟩:=Kw h hn hd;have hs:=afT h (Og hd);unfold lG lN;revert hd h4 b1 b2 b3 b4 hs
 generalize WL l n=d;intro hd h4 b1 b2 b3 b4 hs;have p0:oN 0=1:=rfl;have p1:oN 1=4096:=rfl;have p2:oN 2=16777216:=rfl;have p3:oN 3=68719476736:=rfl;have p4:oN 4=281474976710656:=rfl;have key:BS (fun p=>(dh l p).length) (anc l d n)<65536:=by
  match d,h4 with
  | 0,_=>simp[anc,BS]
  | 1,_=>grind[anc,BS,lF]
  | 2,_=>simp only[anc,BS,lF]at hs ⊢;have:=Oh (a:=(dh l (up l (up l n))).length) (b:=(dh l (up l n)).length) (c:=0) (e:=0) ak;have:=zY (dh l (up l (up l n))).length (dh l (up l n)).length;have h9:=BM (show (dh l (up l (up l n))).length+(dh l (up l n)).length<=63 by omega) (show (dh l (up l (up l n))).length+(dh l (up l n)).length<=63 by omega);grind
  | 3,_=>
   simp only[anc,BS,lF]at hs ⊢;generalize (dh l (up l (up l (up l n)))).length=x at *;generalize (dh l (up l (up l n))).length=y at *;generalize (dh l (up l n)).length=z at *;have h9:x*y*z<=63*63*16\/z>16:=by
    by_cases hz:z<=16
    ·exact .inl (BM (BM ak ak) hz)
    omega
   rw[Nat.one_mul];rcases h9 with h9 | h9
   ·omega
   ·have hxy:=zY x y;have h10:=BM (show x+y<=46 by omega) (show x+y<=46 by omega);have h11:x*y*z<=529*63:=BM ak ak;omega
  | 4,_=>simp only[anc,BS,lF]at hs ⊢;rw[Nat.one_mul,Nat.mul_assoc];exact Oh ak
  | k+5,h4=>omega
 grind
end Tr
namespace Tr
open Wd Ld
def nN (l:List Ac):Prop:=∀(n:Nat) (a:Ac),l[n]?=some a->Word a.us
def Jm (h:nN l) (n:Nat):Word (CX l n):=by
 grind[CX,Word,nN]
def T_ (a b:Int):Int:=jF (a+b)
def Oi {a b:Int} (ha:Word a) (hb:Word b):Word (T_ a b):=zy (by grind[Word])
def akQ {a b:Int} (ha:Word a) (hb:Word b):a<=T_ a b/\b<=T_ a b:=by
 grind[T_,jF,Word]
def sumTo (f:Nat->Int) (s:Int) (ks:List Nat):Int:=ks.foldl (fun s k=>T_ s (f k)) s
def CY:∀ {ks:List Nat} {s:Int},Word s->(∀k∈ks,Word (f k))->Word (sumTo f s ks)
 | [],_,hs,_=>hs
 | k::ks,_,hs,hf=>CY (ks:=ks) (Oi hs (hf k dF)) (fun j hj=>hf j (by grind))
def Ua:∀ {ks:List Nat} {s:Int},Word s->(∀k∈ks,Word (f k))->s<=sumTo f s ks/\∀k∈ks,f k<=sumTo f s ks
 | [],_,_,_=>⟨kL _,fun _ h=>by cases h⟩
 | k::ks,s,hs,hf=>by
  have hk:=hf k dF;obtain⟨h1,h2⟩:=Ua (ks:=ks) (Oi hs hk) (fun j hj=>hf j (by simp[hj]));have⟨h3,h4⟩:=akQ hs hk;refine⟨DR h3 h1,fun j hj=>?_⟩;rcases lZ.1 hj with rfl | hj
  ·exact DR h4 h1
  ·exact h2 j hj
def sumTo_congr {f g:Nat->Int}:∀ {ks:List Nat} {s:Int},(∀k∈ks,f k=g k)->sumTo f s ks=sumTo g s ks
 | [],_,_=>rfl
 | k::ks,s,hf=>by
  show sumTo f (T_ s (f k)) ks=sumTo g (T_ s (g k)) ks;rw[hf k dF];exact sumTo_congr (fun j hj=>hf j (by grind))
def XK (f:Nat->Int) (s:Int) (ks:List Nat) (k:Nat):sumTo f s (ks++ [k])=T_ (sumTo f s ks) (f k):=by
 grind[sumTo]
def sm (l:List Ac):Nat->Nat->Int
 | 0,n=>CX l n
 | f+1,n=>sumTo (sm l f) (CX l n) (dh l n)
def g_ (l:List Ac) (n:Nat):Int:=sm l 5 n
def afU (h:Wu l):∀ {f g n d},n<l.length->lX l d n->4<d+f->4<d+g->sm l f n=sm l g n
 | 0,_,n,d,hn,hd,hf,_=>by
  grind[Wu.deep,lC]
 | f+1,0,n,d,hn,hd,_,hg=>by
  grind[Wu.deep,lC]
 | f+1,g+1,n,d,hn,hd,hf,hg=>by
  refine sumTo_congr (fun k hk=>?_)
  exact afU h (h.kid hk).2.1 (h.qF hk hd) ak ak
def Ub (h:Wu l) (hn:n<l.length):g_ l n=sumTo (g_ l) (CX l n) (dh l n):=by
 show sumTo (sm l 4) (CX l n) (dh l n)=_;refine sumTo_congr (fun k hk=>?_);have⟨d,h1,h2⟩:=h.deep hn;exact afU h (h.kid hk).2.1 (h.qF hk h2) ak ak
def Z6 (hu:nN l):∀f n,Word (sm l f n)
 | 0,n=>Jm hu n
 | f+1,n=>CY (Jm hu n) (fun k _=>Z6 hu f k)
theorem qL (hu:nN l) (n:Nat):Word (g_ l n):=Z6 hu 5 n
def Oj (h:Wu l) (hu:nN l) (hn:n<l.length) (h0:n≠0):g_ l n<=g_ l (up l n):=by
 rw[Ub h (h.tO hn)];exact(Ua (Jm hu _) (fun k _=>qL hu k)).2 n (h.Qf h0 hn)
def Uc (h:Wu l) (hu:nN l):∀ {d n},n<l.length->lX l d n->g_ l n<=g_ l 0
 | 0,_,_,hd=>by grind[lX]
 | d+1,n,hn,hd=>DR (Oj h hu hn hd.1) (Uc h hu (h.tO hn) hd.2)
def wV (l:List Ac) (fl:Int):Int:=if g_ l 0<fl then fl else g_ l 0
def apS (hu:nN l) {fl:Int} (hf:Word fl):Word (wV l fl):=by
 grind[wV,qL]
def atS (h:Wu l) (hu:nN l) (fl:Int) (hn:n<l.length):g_ l n<=wV l fl:=by
 obtain⟨d,_,hd⟩:=h.deep hn;have:=Uc h hu hn hd;grind[wV]
def uV (l:List Ac) (w:Int) (n:Nat):Int:=g_ l n*9223372036854775808 / w
def efZ (l:List Ac) (w:Int):Nat->Nat->Int
 | 0,n=>uV l w n
 | d+1,n=>uV l w n+(efZ l w d (up l n) - uV l w n)*Ku l n / Od l (up l n)
def uK (l:List Ac) (w:Int) (n:Nat):Int:=efZ l w (WL l n) n
def Z7 (l:List Ac) (w:Int):uK l w 0=uV l w 0:=by unfold uK;rw[Kv];rfl
theorem afV (h:Wu l) (w:Int) (hn:n<l.length) (h0:n≠0):uK l w n=uV l w n+(uK l w (up l n) - uV l w n)*Ku l n / Od l (up l n):=by
 unfold uK;rw[h.Qr hn h0];rfl
def XL (hu:nN l) (hw:Word w) (hn:g_ l n<=w):0<=uV l w n/\uV l w n<=9223372036854775808:=by
 have hs:=qL hu n;obtain⟨h1,h2⟩:=hs;obtain⟨h3,h4⟩:=hw;unfold uV;refine⟨uG ak h3,?_⟩;by_cases e:w=0
 ·grind
 ·have hp:0<w:=ak;refine DR (SB hp (Nw hn ak)) ?_;simp_all
def Z8 (h:Wu l) (hu:nN l) (hw:Word w) (hn:n<l.length) (h0:n≠0):uV l w n<=uV l w (up l n):=by
 have hs:=Oj h hu hn h0;obtain⟨h3,h4⟩:=hw;unfold uV;by_cases e:w=0
 ·grind
 ·exact SB ak (Nw hs ak)
def Qt {x s t:Int} (hx:0<=x) (hs:1<=s) (ht:s<=t):0<=x*s / t/\x*s / t<=x:=by
 have htp:0<t:=ak;refine⟨uG (sW hx ak) ak,?_⟩;refine DR (SB htp (sZ ht hx)) ?_;grind[Int.mul_ediv_cancel]
def Ol (h:Wu l) (hu:nN l) (hw:Word w) (hsw:∀n,n<l.length->g_ l n<=w):∀ {d n},n<l.length->lX l d n->uV l w n<=uK l w n/\uK l w n<=9223372036854775808
 | 0,n,hn,hd=>by
  obtain rfl:n=0:=hd
  rw[Z7]
  exact⟨kL _,(XL hu hw (hsw 0 hn)).2⟩
 | d+1,n,hn,hd=>by
  have⟨i1,i2⟩:=Ol h hu hw hsw (h.tO hn) hd.2
  have h1:=Z8 h hu hw hn hd.1
  have⟨s1,s2⟩:=Qs h hn hd.1
  have⟨p1,p2⟩:=Qt (x:=uK l w (up l n) - uV l w n) ak s1 s2
  grind[afV,lX]
structure WOk (l:List Ac) (w:Int):Prop where
 word:Word w
 most:∀n,n<l.length->g_ l n<=w
def wOk (h:Wu l) (hu:nN l) {fl:Int} (hf:Word fl):WOk l (wV l fl):=⟨apS hu hf,fun _ hn=>atS h hu fl hn⟩
def Ef (h:Wu l) (hu:nN l) (hw:WOk l w) (hn:n<l.length):0<=uV l w n/\uV l w n<=uK l w n/\uK l w n<=9223372036854775808:=by
 obtain⟨d,_,hd⟩:=h.deep hn;have:=Ol h hu hw.word hw.most hn hd;exact⟨(XL hu hw.word (hw.most n hn)).1,this.1,this.2⟩
def afW (h:Wu l) (hu:nN l) (hw:WOk l w) (hn:n<l.length) (h0:n≠0):uV l w n<=uK l w (up l n)/\uK l w n<=uK l w (up l n):=by
 have h1:=Z8 h hu hw.word hn h0;have h2:=Ef h hu hw (h.tO hn);have⟨s1,s2⟩:=Qs h hn h0;have⟨p1,p2⟩:=Qt (x:=uK l w (up l n) - uV l w n) ak s1 s2;grind[afV]
def atN (n d:Int):Int:=if n*4096<d then 1 else n
def atD (n d:Int):Int:=if n*4096<d then 4096 else d
def cl (x b:Int):Int:=(x+(b - 1)) / b
def apT (hb:0<b):cl x b=if x % b=0 then x / b else x / b+1:=by
 have e:=yE x b;have h1:=yC x (show b≠0 by omega);have h2:=yD x hb;unfold cl;by_cases h:x % b=0
 ·rw[aJ h];have:x+(b - 1)=(b - 1)+x / b*b:=by grind
  rw[this,JG _ _ ak,GY ak ak];omega
 ·rw[au h];have:x+(b - 1)=(x % b - 1)+(x / b+1)*b:=by grind
  rw[this,JG _ _ ak,GY ak ak];omega
def A_ (hx:0<=x) (hb:0<b):0<=cl x b:=uG ak ak
def aoU (hx:0<=x) (hb:0<b):cl x b<=x:=by
 unfold cl;have:x+(b - 1)<(x+1)*b:=by rw[Int.add_mul,Int.one_mul];have:x*1<=x*b:=sZ ak hx;omega
 have:=DN hb this;omega
def afY (hx:1<=x) (hb:0<b):1<=cl x b:=by
 unfold cl;refine Int.le_ediv_of_mul_le hb ak
theorem akR (hb:0<b):cl 0 b=0:=by
 unfold cl;exact GY ak ak
def akS (e n d:Int):Int:=cl (cl (e*atD n d) 2147483648) (atN n d)
def IW (e n d:Int):Int:=jF (akS e n d)
def Qu {n d:Int} (hn:1<=n) (hd:n<=d) (h:d<18446744073709551616):1<=atN n d/\1<=atD n d/\atD n d<18446744073709551616:=by
 grind[atN,atD]
def prod_bound {e d:Int} (he:0<=e) (he':e<=9223372036854775808) (hd:1<=d) (hd':d<18446744073709551616):0<=e*d/\e*d<=170141183460469231722463931679029329920:=by
 refine⟨sW he ak,?_⟩;exact DR (Cj he' (show d<=18446744073709551615 by omega) ak ak) aT
def XM {e n d:Int} (he:0<=e) (hn:1<=n) (hd:n<=d) (h:d<18446744073709551616):0<=akS e n d:=by
 obtain⟨h1,h2,_⟩:=Qu hn hd h;exact A_ (A_ (sW he ak) ak) ak
def afZ {e n d:Int} (he:0<=e) (hn:1<=n) (hd:n<=d) (h:d<18446744073709551616):Word (IW e n d):=zy (XM he hn hd h)
def pow_zero {n d:Int} (hn:1<=n) (hd:n<=d) (h:d<18446744073709551616):IW 0 n d=0:=by
 obtain⟨h1,h2,_⟩:=Qu hn hd h;unfold IW akS;grind[akR,jF]
def pow_pos {e n d:Int} (he:1<=e) (hn:1<=n) (hd:n<=d) (h:d<18446744073709551616):1<=IW e n d:=by
 obtain⟨h1,h2,_⟩:=Qu hn hd h;have:1<=akS e n d:=afY (afY (by
  have:=Cj he h2 ak ak
  omega) ak) ak
 grind[IW,jF]
def mF (l:List Ac) (w:Int) (n:Nat):Int:=((nA (IW (uK l w n) (lG l n) (lN l n)).toNat:Nat):Int)
def akT {e:Nat} (he:0<e):nA e<9223372036854775808:=by
 have h1:=DX e;by_cases h:nA e=9223372036854775808
 ·exfalso;obtain⟨K,hK⟩:∃K,K=2^32:=⟨_,rfl⟩;have h2:=afn e hK;rw[h]at h2;clear hK;obtain⟨f,rfl⟩:∃f,e=f+1:=⟨e - 1,by omega⟩;have h3:0<9223372036854775808^K:=Nat.pow_pos ak;have h4:2<=2^(f+1):=by rw[Nat.pow_succ];have:=Nat.pow_pos (n:=f) (show 0<2 by omega);omega
  have h5:=BM (aC (9223372036854775808^K)) h4;generalize 9223372036854775808^K=P at *;omega
 omega
def abz:nA 0=9223372036854775808:=by
 have:=Xt (n:=0) ak;rw[ND]at this;rw[this]
section
variable {l:List Ac} {w:Int} {n:Nat}
def akU (h:Wu l) (hu:nN l) (hw:WOk l w) (hn:n<l.length):0<=mF l w n/\mF l w n<=9223372036854775808/\(mF l w n=9223372036854775808↔uK l w n=0):=by
 have⟨h1,h2,h3⟩:=Ef h hu hw hn;have⟨d1,d2,d3,d4⟩:=Ee h hn;refine⟨Int.natCast_nonneg _,by have:=DX (IW (uK l w n) (lG l n) (lN l n)).toNat;unfold mF;omega,fun e=>?_,fun e=>?_⟩
 ·by_cases h0:uK l w n=0
  ·exact h0
  ·exfalso;have hp:=pow_pos (e:=uK l w n) ak d1 d2 d4;have:=akT (e:=(IW (uK l w n) (lG l n) (lN l n)).toNat) ak;unfold mF at e;omega
 ·unfold mF;rw[e,pow_zero d1 d2 d4];show ((nA 0:Nat):Int)=_;rw[abz];rfl
def Ud (h:Wu l) (hu:nN l) (hw:WOk l w) (hn:n<l.length):Word (mF l w n):=by
 have:=akU h hu hw hn;exact⟨this.1,by omega⟩
end
def Alike (l m:List Ac):Prop:=l.map aB=m.map aB
section
variable {l m:List Ac}
def N_ {u v x y s t:Int} (hs:1<=s) (ht:s<=t) (huv:u<=v) (hxy:x<=y):u+(x - u)*s / t<=v+(y - v)*s / t:=by
 have htp:0<t:=ak;have e1:u+(x - u)*s / t=((x - u)*s+u*t) / t:=by rw[JG _ _ ak];omega
 have e2:v+(y - v)*s / t=((y - v)*s+v*t) / t:=by rw[JG _ _ ak];omega
 rw[e1,e2];refine SB htp ?_;have a1:(x - u)*s+u*t=x*s+u*(t - s):=by rw[Int.sub_mul,Int.mul_sub];omega
 have a2:(y - v)*s+v*t=y*s+v*(t - s):=by rw[Int.sub_mul,Int.mul_sub];omega
 rw[a1,a2];exact Int.add_le_add (Nw hxy ak) (Nw huv ak)
end
end Tr
end Go.Proofs.YtdhifkbbjlhcaaaGreatDoor
