import Derived.Test.YtdhifkbbjlhcaaaGreatDoorChecked
import Derived.Test.YtdhifkbbjlhcaaaGreatDoorKz4
import Derived.WalkSpells
import Derived.WalkLawsBesides
import Derived.Deep.QuietTactic
import Derived.BigQuiet
import Derived.RowKit3
import Derived.Lib.Strings
import Derived.Deep.CutBlock
import Derived.Deep.DeepCutAuto
import Derived.Laws.AppendOwnNone
set_option maxRecDepth 20000
set_option maxHeartbeats 1000000
set_option linter.defProp false
namespace Go.Proofs.YtdhifkbbjlhcaaaGreatDoor
open Go.Proofs.Tryz
variable {W w:ay} {ao:Option Addr} {b k n:Nat} {cs:Array Value} {e:TypeId} {s:ByteArray} {v:Value} {α:Type}
namespace Tr
structure Ac where
 nm:ByteArray
 pa:Int
 sh:Int
 cl:Bool
 us:Int
def zI:ByteArray:=⟨#[114,111,111,116]⟩
def eH:Ac:=⟨zI, -1,1,false,0⟩
def iR (c:UInt8):Bool:=(decide (97<=c.toNat)&&decide (c.toNat<=122))||(decide (65<=c.toNat)&&decide (c.toNat<=90))||(decide (48<=c.toNat)&&decide (c.toNat<=57))||c.toNat==45||c.toNat==95
def j_ (s:ByteArray):Bool:=decide (1<=s.size)&&decide (s.size<=32)&&s.data.toList.all iR
def zJ (n:Int):Bool:=decide (1<=n)&&decide (n<=4096)
def bq:List Ac->ByteArray->Option Nat
 | [],_=>none
 | a::l,s=>if a.nm=s then some 0 else(bq l s).map (· +1)
theorem nU {l:List Ac} :∀ {k},bq l s=some k->(∃a,l[k]?=some a/\a.nm=s)/\∀(j:Nat) (b:Ac),j<k->l[j]?=some b->b.nm≠s:=by
 induction l with
 | nil=>intro k h;cases h
 | cons a l ih=>
  intro k h;simp only[bq]at h;by_cases e:a.nm=s
  ·grind
  ·rw[au e]at h
   cases hf:bq l s with
   | none=>grind
   | some m=>rw[hf]at h;simp at h;subst h;have⟨⟨b,hb,hbs⟩,hn⟩:=ih hf;grind
theorem NU {l:List Ac} :bq l s=none->∀(j:Nat) (b:Ac),l[j]?=some b->b.nm≠s:=by
 induction l with
 | nil=>grind
 | cons a l ih=>
  intro h j b hb;simp only[bq]at h;by_cases e:a.nm=s
  ·grind
  ·rw[au e]at h
   cases j with
   | zero=>grind
   | succ j=>refine ih ?_ j b (by grind);simp_all
def uQ {l:List Ac} (h:bq l s=some k):k<l.length:=by
 grind[nU]
def up (l:List Ac) (n:Nat):Nat:=match l[n]? with
 | some a=>a.pa.toNat
 | none=>0
def lX (l:List Ac):Nat->Nat->Prop
 | 0,n=>n=0
 | d+1,n=>n≠0/\lX l d (up l n)
theorem lC {l:List Ac}:∀ {d e n},lX l d n->lX l e n->d=e
 | 0,0,_,_,_=>rfl
 | 0,_+1,_,h,h'=>absurd h h'.1
 | _+1,0,_,h,h'=>absurd h' h.1
 | d+1,e+1,_,h,h'=>by rw[lC h.2 h'.2]
def pG (l:List Ac):Nat->Nat->Option Nat
 | 0,_=>none
 | f+1,n=>if n=0 then some 0 else(pG l f (up l n)).map (· +1)
theorem zK {l:List Ac}:∀ {f n d},pG l f n=some d->lX l d n/\d<f
 | 0,_,_,h=>by cases h
 | f+1,n,d,h=>by
  simp only[pG]at h;by_cases e:n=0
  ·grind[lX]
  ·rw[au e]at h
   cases hd:pG l f (up l n)with
   | none=>grind
   | some m=>rw[hd]at h;simp at h;subst h;have⟨h1,h2⟩:=zK hd;grind[lX]
theorem tN {l:List Ac}:∀ {f n d},lX l d n->d<f->pG l f n=some d
 | 0,_,_,_,h=>by omega
 | f+1,n,0,h,_=>by
  grind[pG,lX]
 | f+1,n,d+1,h,hf=>by
  simp only[pG]
  rw[au h.1,tN h.2 ak]
  rfl
def fV (l:List Ac) (n:Nat):Option Nat:=pG l (l.length+1) n
def NV (l:List Ac) (n:Nat):Nat->Nat->Prop
 | 0,k=>k=n
 | s+1,k=>k≠n/\k≠0/\NV l n s (up l k)
def wI (l:List Ac) (n k:Nat):Prop:=∃s,NV l n s k
def Bz (l:List Ac) (n:Nat):Nat->Nat->Bool
 | 0,k=>k==n
 | f+1,k=>if k=n then true else if k=0 then false else Bz l n f (up l k)
def DZ {l:List Ac} :∀ {s k d},NV l n s k->lX l d k->s<=d/\lX l (d - s) n
 | 0,k,d,h,hd=>by
  grind[NV]
 | s+1,k,0,h,hd=>absurd hd h.2.1
 | s+1,k,d+1,h,hd=>by
  have⟨h1,h2⟩:=DZ h.2.2 hd.2
  grind
def Te {l:List Ac} :∀ {f k d},lX l d k->d<=f->(Bz l n f k=true↔wI l n k)
 | 0,k,d,hd,hf=>by
  have e:d=0:=ak
  subst e
  have e:k=0:=hd
  subst e
  simp only[Bz,beq_iff_eq]
  refine⟨fun h=>⟨0,h⟩,fun⟨s,h⟩=>?_⟩
  cases s with
  | zero=>exact h
  | succ s=>exact absurd rfl h.2.1
 | f+1,k,d,hd,hf=>by
  simp only[Bz]
  by_cases e:k=n
  ·simp only[aJ e,true_iff]
   exact⟨0,e⟩
  ·rw[au e]
   by_cases e0:k=0
   ·rw[aJ e0]
    simp only[Bool.false_eq_true,false_iff]
    rintro ⟨s,h⟩
    cases s with
    | zero=>exact e h
    | succ s=>exact h.2.1 e0
   ·rw[au e0]
    cases d with
    | zero=>exact absurd hd e0
    | succ d=>
     rw[Te hd.2 ak]
     refine⟨fun ⟨s,h⟩=>⟨s+1,e,e0,h⟩,fun⟨s,h⟩=>?_⟩
     cases s with
     | zero=>exact absurd h e
     | succ s=>exact⟨s,h.2.2⟩
def dh (l:List Ac) (n:Nat):List Nat:=(List.range l.length).filter fun i=>decide ((l[i]?.map (·.pa))=some (n:Int))
def dG (l:List Ac) (n:Nat):List Nat:=(List.range l.length).filter fun i=>Bz l n l.length i
structure Wf (l:List Ac):Prop where
 root:l[0]?=some eH
 len:l.length<=64
 row:∀(i:Nat) (a:Ac),l[i]?=some a->0<i->j_ a.nm=true/\0<=a.pa/\a.pa<(l.length:Int)/\zJ a.sh=true/\a.us=0
 uniq:∀(i j:Nat) (a b:Ac),l[i]?=some a->l[j]?=some b->a.nm=b.nm->i=j
 deep:∀i,i<l.length->∃d,d<=4/\lX l d i
theorem J9 {l l':List Ac}:∀ {d n},lX l d n->(∀k,k≠0->up l' k=up l k)->lX l' d n
 | 0,_,h,_=>h
 | d+1,n,h,hu=>⟨h.1,by rw[hu n h.1];exact J9 h.2 hu⟩
def D6 {l:List Ac} {a:Ac} (h:l[n]?=some a):up l n=a.pa.toNat:=by unfold up;rw[h]
theorem Wf.pos {l:List Ac} (h:Wf l):0<l.length:=(bO.1 h.root).1
theorem Wf.tO {l:List Ac} (h:Wf l) (hn:n<l.length):up l n<l.length:=by
 obtain⟨a,ha⟩:∃a,l[n]?=some a:=⟨_,aY hn⟩;rw[D6 ha];by_cases h0:0<n
 ·have:=h.row n a ha h0;omega
 ·obtain rfl:n=0:=ak;rw[h.root]at ha;grind[eH]
def Wf.turn {l l':List Ac} (h:Wf l) (hl:l'.length=l.length) (h0:l'[0]?=l[0]?)
  (hr:∀(i:Nat) (a':Ac),0<i->l'[i]?=some a'->∃a,l[i]?=some a/\a'.nm=a.nm/\a'.pa=a.pa/\zJ a'.sh=true/\a'.us=a.us):Wf l':=by
 have hall:∀(i:Nat) (a':Ac),l'[i]?=some a'->∃a,l[i]?=some a/\a'.nm=a.nm/\a'.pa=a.pa:=by grind
 have hup:∀k,up l' k=up l k:=by grind[up]
 refine⟨h0.trans h.root,by rw[hl];exact h.len,fun i a' ha hi=>?_,fun i j a b ha hb e=>?_,fun i hi=>?_⟩
 ·have⟨a,h1,h2,h3,h4,h5⟩:=hr i a' hi ha;have:=h.row i a h1 hi;grind
 ·grind[uniq]
 ·have⟨d,h1,h2⟩:=h.deep i ak;exact⟨d,h1,J9 h2 (fun k _=>hup k)⟩
theorem Wf.add {l:List Ac} (h:Wf l) {nm:ByteArray} {p d:Nat} {sh:Int} (hnm:j_ nm=true) (hf:bq l nm=none) (hp:p<l.length) (hsh:zJ sh=true) (hd:lX l d p) (hd4:d<4) (hlen:l.length<64):
  Wf (l++ [⟨nm,p,sh,false,0⟩]):=by
 have at_:∀(i:Nat) (a:Ac),(l++ [⟨nm,p,sh,false,0⟩])[i]?=some a->l[i]?=some a\/(i=l.length/\a=⟨nm,p,sh,false,0⟩):=by grind
 have hup:∀k,k<l.length->up (l++ [⟨nm,p,sh,false,0⟩]) k=up l k:=by grind[up]
 have M_:∀d n,n<l.length->lX l d n->lX (l++ [⟨nm,p,sh,false,0⟩]) d n:=fun d=>by
  induction d with
  | zero=>intro n _ h;exact h
  | succ d ih=>grind[tO,lX]
 refine⟨?_,by grind,fun i a ha hi=>?_,fun i j a b ha hb e=>?_,fun i hi=>?_⟩
 ·grind[root]
 ·rcases at_ i a ha with ha | ⟨rfl,rfl⟩
  ·have:=h.row i a ha hi;grind
  grind
 ·grind[uniq,NU]
 ·by_cases hil:i<l.length
  ·grind[deep]
  ·have e:i=l.length:=(by grind);subst e;refine⟨d+1,by omega,by omega,?_⟩;grind[up]
def ou (l:List Ac) (n:Nat) (p:Int):List Ac:=match l[n]? with
 | some a=>l.set n {a with pa:=p}
 | none=>l
section
variable {l:List Ac} {n:Nat} {p:Nat} {a:Ac}
theorem vM (p:Int):(ou l n p).length=l.length:=by grind[ou]
def aoN (ha:l[n]?=some a) (p:Int):(ou l n p)[n]?=some {a with pa:=p}:=by
 grind[ou]
theorem J_ (p:Int) (hk:k≠n):(ou l n p)[k]?=l[k]?:=by
 grind[ou]
def Tf (p:Int) (hk:k≠n):up (ou l n p) k=up l k:=by grind[up,J_]
def akw (ha:l[n]?=some a):ou l n a.pa=l:=by
 apply Zy;intro k;by_cases hk:k=n
 ·subst hk;rw[aoN ha,ha]
 ·exact J_ _ hk
def afu (p:Int):∀ {s k},NV (ou l n p) n s k↔NV l n s k
 | 0,_=>Iff.rfl
 | s+1,k=>by
  refine⟨fun h=>⟨h.1,h.2.1,?_⟩,fun h=>⟨h.1,h.2.1,?_⟩⟩
  ·have:=h.2.2;rw[Tf p h.1]at this;exact(afu p).1 this
  ·rw[Tf p h.1];exact(afu p).2 h.2.2
theorem nL (l:List Ac) (n:Nat):wI l n n:=⟨0,rfl⟩
theorem wJ (h1:k≠0) (h:wI l n (up l k)):wI l n k:=by
 obtain⟨s,hs⟩:=h;by_cases e:k=n
 ·exact ⟨0,e⟩
 ·exact ⟨s+1,e,h1,hs⟩
theorem Ka (p:Int):∀ {d k},lX l d k->¬wI l n k->lX (ou l n p) d k
 | 0,_,h,_=>h
 | d+1,k,h,hb=>by
  have hk:k≠n:=by grind[nL]
  refine⟨h.1,?_⟩;rw[Tf p hk];exact Ka p h.2 (fun hb'=>hb (wJ h.1 hb'))
def afv (p:Int) {e:Nat} (hn:lX (ou l n p) e n):∀ {s k},NV l n s k->lX (ou l n p) (e+s) k
 | 0,k,h=>by
  grind[NV]
 | s+1,k,h=>by
  refine⟨h.2.1,?_⟩
  rw[Tf p h.1]
  exact afv p hn h.2.2
def akx (h:Wf l) (ha:l[n]?=some a) (hn:n≠0) (hp:p<l.length) (hb:¬wI l n p):∀i,i<l.length->∃d,lX (ou l n p) d i:=by
 obtain⟨dp,_,hdp⟩:=h.deep p hp;have h1:=Ka (p:Int) hdp hb;have h2:lX (ou l n p) (dp+1) n:=⟨hn,by grind[ou,up]⟩;intro i hi;by_cases hbi:wI l n i
 ·obtain ⟨s,hs⟩:=hbi;exact⟨_,afv (p:Int) h2 hs⟩
 ·obtain ⟨d,_,hd⟩:=h.deep i hi;exact⟨d,Ka (p:Int) hd hbi⟩
def Wf.move (h:Wf l) (ha:l[n]?=some a) (hn:n≠0) (hp:p<l.length) (hd:∀i,i<l.length->∃d,d<=4/\lX (ou l n p) d i):Wf (ou l n p):=by
 have at_:∀(i:Nat) (b:Ac),(ou l n p)[i]?=some b->∃c,l[i]?=some c/\b.nm=c.nm/\b.sh=c.sh/\b.us=c.us/\(b.pa=c.pa\/b.pa=p):=by grind[ou]
 refine⟨by grind[J_,root],by grind[vM,len],fun i b hb hi=>?_,fun i j b c hb hc e=>?_,fun i hi=>hd i (by rwa [vM]at hi)⟩
 ·have⟨c,h1,h2,h3,h4,h5⟩:=at_ i b hb;have:=h.row i c h1 hi;grind[vM]
 grind[uniq]
end
def dJ (l:List Ac) (nm pn:ByteArray) (sh:Int):Int×Int×List Ac:=
 if j_ nm=false then(0,60,l)
 else if (bq l nm).isSome then(0,61,l)
 else match bq l pn with
  | none=>(0,62,l)
  | some p=>if zJ sh=false then(0,63,l)else if 4<=(fV l p).getD 0 then(0,64,l)else if 64<=l.length then(0,65,l)else(l.length,0,l++ [⟨nm,p,sh,false,0⟩])
def jr (l:List Ac) (nm:ByteArray):Nat×Int:=match bq l nm with
 | none=>(0,62)
 | some 0=>(0,66)
 | some (n+1)=>(n+1,0)
def dO (l:List Ac) (nm:ByteArray) (sh:Int):Int×List Ac:=match jr l nm with
 | (n,0)=>if zJ sh=false then(63,l)else(0,match l[n]? with
  | some a=>l.set n {a with sh:=sh}
  | none=>l)
 | (_,e)=>(e,l)
def gK (l:List Ac) (nm:ByteArray):Int×List Ac:=match jr l nm with
 | (n,0)=>(0,match l[n]? with
  | some a=>l.set n {a with cl:=true}
  | none=>l)
 | (_,e)=>(e,l)
def rP (l:List Ac):Bool:=(List.range l.length).any fun i=>decide (4<(fV l i).getD 0)
def h_ (l:List Ac) (nm pn:ByteArray):Int×List Ac:=match jr l nm with
 | (n,0)=>match bq l pn with
  | none=>(62,l)
  | some p=>if Bz l n l.length p then(67,l)else if rP (ou l n p)then(64,l)else(0,ou l n p)
 | (_,e)=>(e,l)
theorem qg {l:List Ac} {nm:ByteArray} (h:jr l nm=(n,0)):bq l nm=some n/\n≠0:=by
 grind[jr]
def NY:∀(n d:Nat) (g:Nat->Nat),(∀e,e<=d->g e<n)->(∀e e',e<=d->e'<=d->g e=g e'->e=e')->d<n
 | 0,_,g,h,_=>absurd (h 0 (ni _)) ak
 | n+1,0,_,_,_=>by omega
 | n+1,d+1,g,h,hi=>by
  have:=NY n d (fun e=>if g e=n then g (d+1)else g e) (fun e he=>by
   grind) (fun e e' he he' heq=>by
   grind)
  omega
def itr (l:List Ac):Nat->Nat->Nat
 | 0,i=>i
 | k+1,i=>itr l k (up l i)
def afw {l:List Ac} (h:∀k,k<l.length->up l k<l.length):∀ {k i},i<l.length->itr l k i<l.length
 | 0,_,hi=>hi
 | k+1,i,hi=>afw (k:=k) h (h i hi)
def Qb {l:List Ac}:∀ {k d i},lX l d i->k<=d->lX l (d - k) (itr l k i)
 | 0,_,_,h,_=>h
 | k+1,0,_,_,hk=>by omega
 | k+1,d+1,i,h,hk=>by
  rw[show d+1 - (k+1)=d - k by omega];exact Qb h.2 ak
theorem Qc {l:List Ac} (h:∀k,k<l.length->up l k<l.length) {d i:Nat} (hi:i<l.length) (hd:lX l d i):d<l.length:=
 NY l.length d (fun e=>itr l e i) (fun e _=>afw h hi) (fun e e' he he' heq=>by
  have h1:=Qb hd he;have h2:=Qb hd he';grind[lC])
theorem AU {l:List Ac} (h:∀k,k<l.length->up l k<l.length) {d i:Nat} (hi:i<l.length) (hd:lX l d i):fV l i=some d:=tN hd (by have:=Qc h hi hd;omega)
def Wf.depth {l:List Ac} (h:Wf l) {i:Nat} (hi:i<l.length):∃d,fV l i=some d/\d<=4/\lX l d i:=by
 grind[deep,AU,tO]
theorem Wf.dQ {l:List Ac} (h:Wf l) (n:Nat) (hk:k<l.length):Bz l n l.length k=true↔wI l n k:=by
 obtain⟨d,_,h2⟩:=h.deep k hk;exact Te h2 (by have:=Qc (fun k hk=>h.tO hk) hk h2;omega)
theorem Wf.dJ {l:List Ac} (h:Wf l) (nm pn:ByteArray) (sh:Int):Wf (Tr.dJ l nm pn sh).2.2:=by
 unfold Tr.dJ;by_cases h1:j_ nm=false
 ·grind
 rw[au h1];by_cases h2:(bq l nm).isSome=true
 ·grind
 rw[au h2]
 cases hp:bq l pn with
 | none=>omega
 | some p=>
  simp only;by_cases h3:zJ sh=false
  ·grind
  rw[au h3];by_cases h4:4<=(fV l p).getD 0
  ·grind
  rw[au h4];by_cases h5:64<=l.length
  ·grind
  rw[au h5];have⟨d,k1,k2,k3⟩:=h.depth (uQ hp);rw[k1]at h4;simp at h4;refine h.add (by grind) ?_ (uQ hp) (by grind) k3 h4 ak;simp_all
theorem Tg {l:List Ac} (h:Wf l) {a a':Ac} (ha:l[n]?=some a) (hn:n≠0) (e1:a'.nm=a.nm) (e2:a'.pa=a.pa) (e3:zJ a'.sh=true) (e4:a'.us=a.us):Wf (l.set n a'):=by
 refine h.turn dF (by grind) (fun i b hi hb=>?_);by_cases e:i=n
 ·grind
 ·rw[List.getElem?_set_ne (fun x=>e x.symm)]at hb;exact⟨b,hb,rfl,rfl,(h.row i b hb hi).2.2.2.1,rfl⟩
theorem Wf.dO {l:List Ac} (h:Wf l) (nm:ByteArray) (sh:Int):Wf (Tr.dO l nm sh).2:=by
 unfold Tr.dO;grind[Tg,jr]
theorem Wf.gK {l:List Ac} (h:Wf l) (nm:ByteArray):Wf (Tr.gK l nm).2:=by
 unfold Tr.gK;split
 ·rename_i n hk;have⟨hf,hn⟩:=qg hk;obtain⟨⟨a,ha,_⟩,_⟩:=nU hf;simp only[ha];exact Tg h ha hn rfl rfl (h.row n a ha ak).2.2.2.1 rfl
 omega
theorem Kc {l:List Ac} (h:Wf l) {n p:Nat} {a:Ac} (ha:l[n]?=some a) (hp:p<l.length):∀k,k<(ou l n p).length->up (ou l n p) k<(ou l n p).length:=fun k hk=>by
 rw[vM]at hk ⊢;by_cases e:k=n
 ·subst e;rw[D6 (aoN ha p)];simpa using hp
 ·rw[Tf p e];exact h.tO hk
theorem Wf.h_ {l:List Ac} (h:Wf l) (nm pn:ByteArray):Wf (Tr.h_ l nm pn).2:=by
 unfold Tr.h_;split
 ·rename_i n hk;have⟨hf,hn⟩:=qg hk;obtain⟨⟨a,ha,_⟩,_⟩:=nU hf
  cases hp:bq l pn with
  | none=>exact h
  | some p=>
   simp only;have hpl:=uQ hp;by_cases h1:Bz l n l.length p=true
   ·rw[aJ h1];exact h
   rw[au h1];by_cases h2:rP (ou l n p)=true
   ·rw[aJ h2];exact h
   rw[au h2];refine h.move ha hn hpl (fun i hi=>?_);obtain⟨d,hd⟩:=akx h ha hn hpl (fun hb=>h1 ((h.dQ n hpl).2 hb)) i hi;refine⟨d,?_,hd⟩;have hil:i<(ou l n p).length:=(by rw[vM];exact hi);have hdv:=AU (Kc h ha hpl) hil hd;have:¬(4<(fV (ou l n p) i).getD 0):=fun hh=>h2 (by
    unfold rP
    rw[List.any_eq_true]
    exact⟨i,GZ.2 hil,by simpa using hh⟩)
   rw[hdv]at this;simp at this;omega
 ·exact h
section
variable {l:List Ac} {n q:Nat} {a b:Ac}
theorem aky (h:Wf l) (ha:l[n]?=some a):bq l a.nm=some n:=by
 cases hf:bq l a.nm with
 | none=>grind[NU]
 | some m=>obtain⟨⟨c,hc,e⟩,_⟩:=nU hf;rw[h.uniq m n c a hc ha e]
def Ti {l':List Ac} {nm pn:ByteArray} (h:h_ l nm pn=(0,l')):∃n p,bq l nm=some n/\n≠0/\bq l pn=some p/\Bz l n l.length p=false/\l'=ou l n (p:Int):=by
 grind[Tr.h_,qg]
theorem Qd {nm pn:ByteArray} (h:(h_ l nm pn).1≠0):(h_ l nm pn).2=l:=by
 grind[Tr.h_]
end
def uJ (l:List Ac) (i:Nat) (a:Ac):Int:=
 if j_ a.nm=false then 60 else if bq l a.nm≠some i then 61 else if a.pa<0\/(l.length:Int)<=a.pa then 62 else if zJ a.sh=false then 63 else 0
def lD (l:List Ac):Nat->Nat->Int
 | 0,_=>0
 | f+1,i=>match l[i]? with
  | none=>0
  | some a=>if uJ l i a=0 then lD l f (i+1)else uJ l i a
def ig (l:List Ac):Nat->Nat->Int
 | 0,_=>0
 | f+1,i=>if l.length<=i then 0 else match fV l i with
  | none=>67
  | some d=>if 4<d then 64 else ig l f (i+1)
def isRoot (a:Ac):Bool:=decide (a.nm=zI)&&decide (a.pa= -1)&&decide (a.sh=1)&& !a.cl
def aB (a:Ac):Ac:={a with us:=0}
def dw (l:List Ac):Int:=match l[0]? with
 | none=>66
 | some a=>if isRoot a=false then 66 else if 64<l.length then 65 else if lD l l.length 1≠0 then lD l l.length 1 else ig l l.length 1
def rows_ok {l:List Ac} (h:∀(i:Nat) (a:Ac),0<i->l[i]?=some a->uJ l i a=0):∀ {f i},0<i->lD l f i=0
 | 0,_,_=>rfl
 | f+1,i,hi=>by
  simp only[lD]
  cases ha:l[i]? with
  | none=>rfl
  | some a=>simp only[h i a hi ha,DT];exact rows_ok h ak
def ZT {l:List Ac}:∀ {f i},lD l f i=0->∀(j:Nat) (a:Ac),i<=j->j<i+f->l[j]?=some a->uJ l j a=0
 | 0,i,_,j,a,h1,h2,_=>by omega
 | f+1,i,h,j,a,h1,h2,ha=>by
  simp only[lD]at h;by_cases e:i=j
  ·grind
  ·cases hb:l[i]? with
   | none=>grind
   | some b=>
    rw[hb]at h;simp only at h;by_cases e0:uJ l i b=0
    ·rw[aJ e0]at h;exact ZT h j a ak ak ha
    omega
def ZU {l:List Ac} (h:∀i,i<l.length->∃d,fV l i=some d/\d<=4):∀ {f i},ig l f i=0
 | 0,_=>rfl
 | f+1,i=>by
  simp only[ig];by_cases e:l.length<=i
  ·omega
  ·rw[au e];have⟨d,h1,h2⟩:=h i ak;rw[h1];simp only;rw[au ak];exact ZU h
def ZV {l:List Ac}:∀ {f i},ig l f i=0->∀j,i<=j->j<i+f->j<l.length->∃d,fV l j=some d/\d<=4
 | 0,i,_,j,h1,h2,_=>by omega
 | f+1,i,h,j,h1,h2,hj=>by
  simp only[ig]at h;rw[au ak]at h
  cases hd:fV l i with
  | none=>grind
  | some d=>
   rw[hd]at h;simp only at h;by_cases e4:4<d
   ·omega
   ·rw[au e4]at h;by_cases e:i=j
    ·grind
    ·exact ZV h j ak ak hj
theorem akz {l:List Ac} (h:Wf l):dw l=0:=by
 unfold dw;rw[h.root];simp only;rw[au (by simp[isRoot,eH]),au (by have:=h.len;omega),rows_ok (fun i a hi ha=>?_) ak]
 ·simp only[ne_eq,not_true_eq_false,if_false];exact ZU (fun i hi=>by obtain⟨d,h1,h2,_⟩:=h.depth hi;grind)
 ·have hr:=h.row i a ha hi;grind[uJ,aky]
theorem rX {l:List Ac} (h:dw l=0):Wf (l.map aB):=by
 unfold dw at h
 cases h0:l[0]? with
 | none=>grind
 | some r=>
  rw[h0]at h;simp only at h;by_cases c1:isRoot r=false
  ·grind
  rw[au c1]at h;by_cases c2:64<l.length
  ·omega
  rw[au c2]at h;by_cases c3:lD l l.length 1=0
  ·rw[au ak]at h;have hpos:=(bO.1 h0).1;have hrow:∀(i:Nat) (a:Ac),0<i->l[i]?=some a->j_ a.nm=true/\bq l a.nm=some i/\0<=a.pa/\a.pa<(l.length:Int)/\zJ a.sh=true:=fun i a hi ha=>by
    have hr:=ZT c3 i a ak (by have:=(bO.1 ha).1;omega) ha
    grind[uJ]
   have M_:=fun i (hi:0<i) hil=>ZV h i hi ak hil;have hup:∀k,up (l.map aB) k=up l k:=(by grind[up,aB]);have ayx:∀d n,lX l d n->lX (l.map aB) d n:=(by grind[J9]);simp[isRoot]at c1;refine⟨?_,by grind,fun i b hb hi=>?_,fun i j b c hb hc e=>?_,fun i hi=>?_⟩
   ·grind[aB,eH]
   ·grind[aB]
   ·grind[nU,aB]
   ·simp at hi;by_cases hi0:0<i
    ·have⟨d,g1,g2⟩:=M_ i hi0 hi;exact⟨d,g2,ayx _ _ (zK g1).1⟩
    ·obtain rfl:i=0:=ak;exact⟨0,by omega,rfl⟩
  omega
section
variable {l:List Ac}
theorem zL:k∈dh l n↔∃a,l[k]?=some a/\a.pa=n:=by
 grind[dh]
theorem Qe (h:Wf l) (hk:k∈dh l n):k≠0/\k<l.length/\up l k=n:=by
 have⟨a,ha,hp⟩:=zL.1 hk;refine⟨fun e=>?_,(bO.1 ha).1,by rw[D6 ha,hp];simp⟩;subst e;rw[h.root]at ha;grind[eH]
def qF (h:Wf l) {n k d:Nat} (hk:k∈dh l n) (hd:lX l d n):lX l (d+1) k:=by
 grind[Qe,lX,dh]
theorem Qf (h:Wf l) (h0:k≠0) (hk:k<l.length):k∈dh l (up l k):=by
 obtain⟨a,ha⟩:∃a,l[k]?=some a:=⟨_,aY hk⟩;refine zL.2 ⟨a,ha,?_⟩;have:=h.row k a ha ak;rw[D6 ha];omega
theorem sM (h:Wf l) {n k j:Nat} (hk:k∈dh l n) (hj:j<l.length) (hb:wI l k j):wI l n j/\j≠n:=by
 have⟨h1,h2,h3⟩:=Qe h hk;obtain⟨s,hs⟩:=hb;have key:∀s j,NV l k s j->wI l n j:=fun s=>by
  induction s with
  | zero=>grind[wJ,nL,NV]
  | succ s ih=>grind[wJ,NV]
 refine⟨key s j hs,fun e=>?_⟩;subst e;obtain⟨d,_,hd⟩:=h.deep j hj;have⟨g1,g2⟩:=DZ hs hd;have:=lC g2 (qF h hk hd);omega
theorem uR (h:Wf l) {n j:Nat} (hj:j<l.length) (hb:wI l n j) (hne:j≠n):∃k,k∈dh l n/\wI l k j:=by
 obtain⟨s,hs⟩:=hb;have key:∀s j,j<l.length->j≠n->NV l n s j->∃k,k∈dh l n/\wI l k j:=fun s=>by
  induction s with
  | zero=>grind[NV]
  | succ s ih=>
   intro j hj hne hs;by_cases e:up l j=n
   ·grind[Qf,nL,NV]
   ·have⟨k,h1,h2⟩:=ih _ (h.tO hj) e hs.2.2;grind[wJ,NV]
 grind
def FP:∀ {s k},NV l n s k->itr l s k=n
 | 0,_,h=>h
 | s+1,k,h=>FP (s:=s) (k:=up l k) h.2.2
theorem AX (h:Wf l) {n k k' j:Nat} (hk:k∈dh l n) (hk':k'∈dh l n) (hn:n<l.length) (hj:j<l.length) (hb:wI l k j) (hb':wI l k' j):k=k':=by
 obtain⟨s,hs⟩:=hb;obtain⟨s',hs'⟩:=hb';obtain⟨d,_,hd⟩:=h.deep j hj;obtain⟨dn,_,hdn⟩:=h.deep n hn;have⟨g1,g2⟩:=DZ hs hd;have⟨g3,g4⟩:=DZ hs' hd;have e1:=lC g2 (qF h hk hdn);have e2:=lC g4 (qF h hk' hdn);have e:s=s':=ak;subst e;rw[← FP hs,<-FP hs']
end
def lF {α:Type} (f:α->Nat):List α->Nat
 | []=>0
 | a::l=>f a+lF f l
def afx (f g:α->Nat) (l:List α):lF (fun a=>f a+g a) l=lF f l+lF g l:=by
 induction l with
 | nil=>rfl
 | cons a l ih=>grind[lF]
theorem xO {f g:α->Nat} {l:List α} (h:∀a∈l,f a=g a):lF f l=lF g l:=by
 induction l with
 | nil=>rfl
 | cons a l ih=>grind[lF]
theorem AY (l:List α):lF (fun _=>0) l=0:=by
 induction l with
 | nil=>rfl
 | cons a l ih=>simp only[lF,ih]
def abk {α β:Type} (f:α->β->Nat) (l:List α) (m:List β):lF (fun a=>lF (f a) m) l=lF (fun b=>lF (fun a=>f a b) l) m:=by
 induction l with
 | nil=>grind[lF,AY]
 | cons a l ih=>simp only[lF];rw[ih,<-afx]
def Xy (p:α->Bool) (l:List α):(l.filter p).length=lF (fun a=>if p a then 1 else 0) l:=by
 induction l with
 | nil=>rfl
 | cons a l ih=>grind[lF]
def afy {l:List Nat} (hn:l.Nodup) {p:Nat->Bool} (hk:k∈l) (hp:p k=true) (hu:∀j∈l,p j=true->j=k):lF (fun a=>if p a then 1 else 0) l=1:=by
 induction l with
 | nil=>grind
 | cons a l ih=>grind[lF,xO,AY]
def Tj (n:Nat):(List.range n).Nodup:=List.nodup_range
def CF {l:List Ac} (h:Wf l):(dG l 0).length=l.length:=by
 have:dG l 0=List.range l.length:=by
  unfold dG;refine JH.2 (fun j hj=>?_);have hjl:=GZ.1 hj;refine(h.dQ 0 hjl).2 ?_;obtain⟨d,_,hd⟩:=h.deep j hjl;have key:∀d j,lX l d j->wI l 0 j:=fun d=>by
   induction d with
   | zero=>exact fun j hd=>⟨0,hd⟩
   | succ d ih=>exact fun j hd=>wJ hd.1 (ih _ hd.2)
  exact key d j hd
 rw[this,SE]
end Tr
section
open Go.RowKit Tr
def ba_eq {a b:ByteArray} (h:a=b):(a.toList==b.toList)=true:=by grind
def atM {a b:ByteArray} (h:a≠b):(a.toList==b.toList)=false:=by
 rw[Lib.toList_data,Lib.toList_data];simp only[beq_eq_false_iff_ne,ne_eq];intro e
 cases a with
 | mk x=>simp_all
structure vN (W:ay) (g o:Nat) (a:Ac):Prop where
 nm:W.cell? ⟨g,o,none⟩=some (.string a.nm)
 pa:W.cell? ⟨g,o+1,none⟩=some (J a.pa)
 sh:W.cell? ⟨g,o+2,none⟩=some (J a.sh)
 cl:W.cell? ⟨g,o+3,none⟩=some (.bool a.cl)
 us:W.cell? ⟨g,o+4,none⟩=some (O a.us)
theorem aR {w w':ay} (b:Z w w') {a:Addr} (h:w.cell? a=some v):w'.cell? a=some v:=(b.cell (aU w _ h)).trans h
theorem vN.below {W W':ay} {g o:Nat} {a:Ac} (h:vN W g o a) (b:Z W W'):vN W' g o a:=⟨aR b h.nm,aR b h.pa,aR b h.sh,aR b h.cl,aR b h.us⟩
def kD (W:ay) (ao:Option Addr) (l:List Ac):Prop:=∃g o,(0<l.length->ao=some ⟨g,o,none⟩)/\∀k a,l[k]?=some a->vN W g (o+k*5) a
theorem kD.below {W W':ay} {l:List Ac} (h:kD W ao l) (b:Z W W'):kD W' ao l:=by
 grind[vN.below,kD]
def afz:Option Nat->Int
 | none=> -1
 | some k=>k
def akA (l:List Ac):Prop:=∀(k:Nat) (a:Ac),l[k]?=some a->0<k->0<=a.pa/\a.pa<(l.length:Int)
theorem aj {f:Nat×Nat} (h:w.heap[b]?=some (.cells cs e f)) (hv:cs[k]?=some v):w.cell? ⟨b,k,none⟩=some v:=by
 grind[World.cell?]
def jL (l:List Ac) (n:Int):Bool:=decide (0<=n)&&decide (n<l.length)
def abl (l:List Ac) (n:Int):Int:=if jL l n then afz (fV l n.toNat)else -1
def zh {j:Nat} (h:j<s.size):(s.data.toList.drop j).all iR=(iR s[j]&&(s.data.toList.drop (j+1)).all iR):=by
 have hj:j<s.data.toList.length:=by simp_all
 rw[tu hj,List.all_cons];rfl
theorem aD (h:w.heap[b]?=some (.cells cs e (0,0))):w.frozen? ⟨b,k,none⟩=false:=by
 grind[World.frozen?]
def cells5 {v0 v1 v2 v3 v4:Value} (h:w.heap[b]?=some (.cells #[v0,v1,v2,v3,v4] e (0,0))):
  (w.cell? ⟨b,0,none⟩=some v0/\w.cell? ⟨b,1,none⟩=some v1/\w.cell? ⟨b,2,none⟩=some v2/\w.cell? ⟨b,3,none⟩=some v3/\w.cell? ⟨b,4,none⟩=some v4)/\∀k,w.frozen? ⟨b,k,none⟩=false:=
 ⟨⟨aj h rfl,aj h rfl,aj h rfl,aj h rfl,aj h rfl⟩,fun _=>aD h⟩
def Tk {u0 u1 u2 u3 u4:Value} (h:w.heap[b]?=some (.cells #[u0,u1,u2,u3,u4] e (0,0))) (v0 v1 v2 v3 v4:Value):
  (((((w.setCell ⟨b,0,none⟩ v0).setCell ⟨b,1,none⟩ v1).setCell ⟨b,2,none⟩ v2).setCell ⟨b,3,none⟩ v3).setCell ⟨b,4,none⟩ v4).heap[b]?=some (.cells #[v0,v1,v2,v3,v4] e (0,0)):=
 bS _ b 4 _ e v4 (bS _ b 3 _ e v3 (bS _ b 2 _ e v2 (bS _ b 1 _ e v1 (bS _ b 0 _ e v0 h))))
def _root_.Go.RowKit.Below.Tk {B b:Nat} {w w1:ay} (h:Below B w w1) (hb:B<=b) (v0 v1 v2 v3 v4:Value):Below B w (((((w1.setCell ⟨b,0,none⟩ v0).setCell ⟨b,1,none⟩ v1).setCell ⟨b,2,none⟩ v2).setCell ⟨b,3,none⟩ v3).setCell ⟨b,4,none⟩ v4):=
 ((((h.setCell (p:=⟨b,0,none⟩) hb v0).setCell (p:=⟨b,1,none⟩) hb v1).setCell (p:=⟨b,2,none⟩) hb v2).setCell (p:=⟨b,3,none⟩) hb v3).setCell (p:=⟨b,4,none⟩) hb v4
def Tm (a:Ac):Value:=.agg #[.string a.nm,J a.pa,J a.sh,.bool a.cl,O a.us]
def akB:Ac:=⟨⟨#[]⟩,0,0,false,0⟩
def akC (l:List Ac) (n:Int):Value:=if jL l n then .tuple #[Tm ((l[n.toNat]?).getD akB),.bool true]else .tuple #[Tm akB,.bool false]
def ints (xs:List Nat):List Value:=xs.map fun(k:Nat)=>J (k:Int)
def Tryz.akD:(prog.info? 3).map (fun i=>(i.zero,i.size,i.bytes))=some (some (J 0),1,8):=aF
def xP (l:List Ac) (n:Int):List Nat:=if jL l n then dG l n.toNat else []
def dP:List Ac->List Value
 | []=> []
 | a::l=>.string a.nm::J a.pa::J a.sh::.bool a.cl::O a.us::dP l
theorem FQ (l:List Ac):(dP l).length=l.length*5:=by
 induction l with
 | nil=>rfl
 | cons s l ih=>simp[dP,ih];omega
theorem abm (a b:List Ac):dP (a++b)=dP a++dP b:=by
 induction a with
 | nil=>rfl
 | cons s l ih=>simp[dP,ih]
def abn (l:List Ac):∀u∈dP l,u.oneCell'=true:=by
 induction l with
 | nil=>intro u h;cases h
 | cons r l ih=>
  intro u h;simp only[dP,lZ]at h;rcases h with rfl | rfl | rfl | rfl | rfl | h
  ·rfl
  ·rfl
  ·rfl
  ·rfl
  ·rfl
  grind
def D8 (l:List Ac):∀j a,l[j]?=some a->(dP l)[j*5]?=some (.string a.nm)/\(dP l)[j*5+1]?=some (J a.pa)/\(dP l)[j*5+2]?=some (J a.sh)/\(dP l)[j*5+3]?=some (.bool a.cl)/\(dP l)[j*5+4]?=some (O a.us):=by
 induction l with
 | nil=>grind
 | cons x l ih=>
  intro j a h
  cases j with
  | zero=>grind[dP]
  | succ j=>grind[dP]
theorem Xz {g o:Nat} {l:List Ac} (h:∀k a,l[k]?=some a->vN W g (o+k*5) a):∀j u,(dP l)[j]?=some u->W.cell? ((⟨g,o,none⟩:Addr).add j)=some u:=by
 intro j u hu;have ha:(⟨g,o,none⟩:Addr).add j=⟨g,o+j,none⟩:=by grind[Addr.add]
 rw[ha];have hj:j<l.length*5:=by grind[FQ]
 obtain⟨a,hr⟩:∃a,l[j / 5]?=some a:=⟨_,aY ak⟩;have⟨e0,e1,e2,e3,e4⟩:=D8 l _ a hr;have c:=h _ a hr;have hm:j % 5=0\/j % 5=1\/j % 5=2\/j % 5=3\/j % 5=4:=ak;rcases hm with hm | hm | hm | hm | hm
 ·grind[vN.nm]
 ·rw[show j / 5*5+1=j by omega]at e1;rw[e1]at hu
  cases hu;have:=c.pa;grind
 ·rw[show j / 5*5+2=j by omega]at e2;rw[e2]at hu
  cases hu;have:=c.sh;grind
 ·rw[show j / 5*5+3=j by omega]at e3;rw[e3]at hu
  cases hu;have:=c.cl;grind
 ·rw[show j / 5*5+4=j by omega]at e4;rw[e4]at hu
  cases hu;have:=c.us;grind
def AZ {B:Nat} {l:List Ac} (h:w.ownsRow B 58 5 v l.length (dP l)):∃ao c,v=.slice ao l.length c/\kD w ao l/\(ao=none->l= []/\c=0):=by
 rcases h.2 with⟨rfl,h0⟩ | ⟨g,cap,cur,rfl,hb,hg,h1,h2,h3,h4⟩
 ·have e:=DV.1 h0;subst e;exact⟨none,0,rfl,⟨0,0,fun h=>by omega,fun k a ha=>by grind⟩,fun _=>⟨rfl,rfl⟩⟩
 ·refine ⟨_,_,rfl,⟨g,0,fun _=>rfl,fun k a ha=>?_⟩,fun h=>by grind⟩;have hk:=(bO.1 ha).1;have⟨e0,e1,e2,e3,e4⟩:=D8 l k a ha;rw[← h4,List.getElem?_take_of_lt ak,Array.getElem?_toList]at e0 e1 e2 e3 e4;rw[rJ];exact aoE
def Tryz.aoO:(prog.info? 58).map (fun i=>(i.zero,i.size,i.bytes))=some (some (.agg #[.string ⟨#[]⟩,J 0,J 0,.bool false,O 0]),5,48):=aF
def jR {P:Program} {w:ay} {ops:Array Oper} {rest:List Oper} {o:Oper} {a:Act} {Q:Exit->Act->World->Prop} (hgd:o.guard=none) (s x:Operand) (t:TypeId)
  (ho:o.op=.call {callee:=.builtin .append,args:= #[s,x],argTypes:= #[t,t]})
  (base:Nat) (e:TypeId) (i:TypeInfo) (z:Value) (size bytes:Nat) (ht:P.underlying t=some (.slice e)) (hi:P.info? e=some i) (hz:i.zero=some z)
  (hsize:i.size=size) (hby:i.bytes=bytes) (hzs:z.cells.size=size) (hsz:0<size)
  (v:Value) (n:Nat) (xs:List Value) (hs:a.eval s=v) (hown:w.ownsRow base e size v n xs)
  (ao:Option Addr) (m c:Nat) (news:List Value) (hx:a.eval x=.slice ao m c) (hnil:ao=none->m=0/\c=0) (hl:news.length=m*size) (hnews:∀ad,ao=some ad->∀j u,news[j]?=some u->w.cell? (ad.add j)=some u) (h1:∀u∈news,u.oneCell'=true)
  (h63:n+m<=maxLen) (hbytes:(n+m)*bytes<=140737488355328) (hbase:base<=w.heap.size)
  (h:∀v' w',w'.ownsRow base e size v' (n+m) (xs++news)->w.grownBy w' v.ownBlock->wpList P ops Q rest (a.put o.dst v') w'):
  wpList P ops Q (o::rest) a w:=by
 cases ao with
 | none=>exact anJ
 | some ad=>grind[JI]
def afA {l:List Ac} (h:kD W ao l):∀ad,ao=some ad->∀j u,(dP l)[j]?=some u->W.cell? (ad.add j)=some u:=by
 grind[FQ,Xz,kD]
def Tn:∀(l:List Ac) (n:Nat) (a:Ac) (x:Int),l[n]?=some a->(dP l).set (n*5+1) (J x)=dP (l.set n {a with pa:=x})
 | [],n,a,x,h=>by grind
 | b::l,0,a,x,h=>by simp at h;subst h;rfl
 | b::l,n+1,a,x,h=>by
  have:=Tn l n a x (by grind);rw[show (n+1)*5+1=n*5+1+1+1+1+1+1 by omega];simp only[dP,jg,this]
def Tp:∀(l:List Ac) (n:Nat) (a:Ac) (x:Int),l[n]?=some a->(dP l).set (n*5+2) (J x)=dP (l.set n {a with sh:=x})
 | [],n,a,x,h=>by grind
 | b::l,0,a,x,h=>by simp at h;subst h;rfl
 | b::l,n+1,a,x,h=>by
  have:=Tp l n a x (by grind);rw[show (n+1)*5+2=n*5+2+1+1+1+1+1 by omega];simp only[dP,jg,this]
def Tq:∀(l:List Ac) (n:Nat) (a:Ac) (x:Bool),l[n]?=some a->(dP l).set (n*5+3) (.bool x)=dP (l.set n {a with cl:=x})
 | [],n,a,x,h=>by grind
 | b::l,0,a,x,h=>by simp at h;subst h;rfl
 | b::l,n+1,a,x,h=>by
  have:=Tq l n a x (by grind);rw[show (n+1)*5+3=n*5+3+1+1+1+1+1 by omega];simp only[dP,jg,this]
def mJ (w:ay) (l:List Value) (t:TypeId):∀j u,l[j]?=some u->(w.alloc (.cells l.toArray t)).cell? ((⟨w.heap.size,0,none⟩:Addr).add j)=some u:=by
 grind[Addr.add,World.cell?,aK]
def wh {B e sz n:Nat} {us:List Value} (h:W.ownsRow B e sz v n us) (hk:v.ownBlock=some k):B<=k/\∃cs,W.heap[k]?=some (.cells cs e (0,0)):=by
 rcases h.2 with⟨rfl,_⟩ | ⟨g,cap,cur,rfl,hb,hg,_⟩
 ·grind[Value.ownBlock]
 grind[Value.ownBlock]
theorem zM {W W':ay} {B e sz n:Nat} {us:List Value} (h:W.ownsRow B e sz v n us) (hg:∀k,v.ownBlock=some k->W'.heap[k]?=W.heap[k]?):W'.ownsRow B e sz v n us:=by
 exact ZH
end
end Go.Proofs.YtdhifkbbjlhcaaaGreatDoor
