import Derived.Test.YtdhifkbbjlhcaaaGreatDoorKz6
import Derived.Test.YtdhifkbbjlhcaaaGreatDoorKz8
import Derived.Test.YtdhifkbbjlhcaaaGreatDoorKz7
set_option maxRecDepth 20000
set_option maxHeartbeats 1000000
set_option linter.defProp false
namespace Go.Proofs.YtdhifkbbjlhcaaaGreatDoor
open Go.Proofs.Tryz
variable {f:Jv->Jv} {j:Jv} {js:List Jv} {n:Nat} {now:Int} {s:Sv}
section
open Wd Tr Cg
def akI (js:List Jv):gU js<=js.length:=SI _ _
def akJ {c:Cf} {N:Nat} {p:Int} (r:nJ c) (h:IQ c now N p j=true):0<=pI now j/\pI now j<=1048576/\1<=j.nd/\j.nd<=256:=by
 unfold IQ zO at h;simp only[lW,nS]at h;obtain⟨⟨⟨a1,a2,a3,a4,a5,a6⟩,b1,b2,b3,b4⟩,ht⟩:=h;have:=r.n1;have:=r.l1;grind[pI,m_]
structure jk (s:Sv):Prop where
 n0:0<=s.now
 n1:s.now<=1099511627776
 load:dw s.la=0
 many:s.js.length<=4096
 jobs:Eb s.cf s.now s.la.length s.js s.js.length=true
 queue:(gU s.js:Int)<=s.cf.queue
 apart:Ki s.js s.js.length=true
 usage:uS s.now s.js s.la s.la.length=true
 hold:holdB s=true
def asD {i:Nat} (hi:i<js.length):oK (js++ [j]) i=oK js i:=by
 grind[oK]
theorem afK {a now:Int} (hj:j.st=1):qK a now (js++ [j])=qK a now js:=by
 rw[Tw];grind[pI,qK]
section
variable (n:Int) (js:List Jv)
end
end
section
open Wd Tr Cg Ld
structure Hg where
 kd:Int
 jb:Int
 at_:Int
 nd:Int
 lm:Int
 ls:List Int
def TN:Jv:=⟨0,0,0,0,0,0,0,[]⟩
def cf0:Cf:=⟨0,0,0,0,0,0,0,0⟩
structure FV where
 code:Int
 id:Int
 evs:List Hg
 job:Jv
 WK:List Pr
 raw:Int
 us:Int
 fac:Int
 free:Int
 hold:Int
 IU:Int
 cf:Cf
 bnd:Int
def coded (e:Int):FV:=⟨e,0,[],TN,[],0,0,0,0,0,0,cf0,0⟩
def told (l:List Hg):FV:={coded 0 with evs:=l}
structure Cd where
 kind:Int
 nm:ByteArray
 pa:ByteArray
 sh:Int
 nd:Int
 lm:Int
 jb:Int
 tk:Int
def ko (j:Jv):Bool:=decide (j.st=2)
def rR (p:Jv->Bool):List Jv->Nat->List Nat
 | [],_=> []
 | j::l,k=>if p j=true then k::rR p l (k+1)else rR p l (k+1)
def BR (p:Jv->Bool) (js:List Jv):List Nat:=rR p js 0
theorem FW {p:Jv->Bool}:∀ {js:List Jv} {k n:Nat},n∈rR p js k↔∃i j,n=k+i/\js[i]?=some j/\p j=true
 | [],k,n=>by simp[rR]
 | j::js,k,n=>by
  have ih:= @FW p js (k+1) n;have rest:(∃i j',n=k+1+i/\js[i]?=some j'/\p j'=true)↔∃i j',n=k+(i+1)/\(j::js)[i+1]?=some j'/\p j'=true:=by
   constructor
   ·rintro ⟨i,j',h1,h2,h3⟩;exact⟨i,j',by omega,by grind,h3⟩
   grind
  unfold rR;by_cases hp:p j=true
  ·rw[aJ hp,lZ,ih,rest];constructor
   ·rintro (h | ⟨i,j',h1,h2,h3⟩)
    ·simp_all
    grind
   grind
  grind
theorem qN {p:Jv->Bool} :n∈BR p js↔∃j,js[n]?=some j/\p j=true:=by
 grind[BR,FW]
def Kq (p:Jv->Bool):∀(js:List Jv) (k:Nat),(rR p js k).Pairwise (· < ·)
 | [],_=>List.Pairwise.nil
 | j::js,k=>by
  unfold rR;split
  ·refine qH.2 ⟨fun n hn=>?_,Kq p js (k+1)⟩;grind[FW]
  ·exact Kq p js (k+1)
def Qo (p:Jv->Bool) (js:List Jv):(BR p js).Pairwise (· < ·):=Kq p js 0
theorem CW (p:Jv->Bool) (js:List Jv):(BR p js).Nodup:=(Qo p js).imp (fun h=>by omega)
def bX (js:List Jv) (n:Nat) (f:Jv->Jv):List Jv:=match js[n]? with
 | none=>js
 | some j=>js.set n (f j)
def afL (js:List Jv) (n:Nat) (f:Jv->Jv):(bX js n f).length=js.length:=by grind[bX]
theorem rY (h:js[n]?=some j):(bX js n f)[n]?=some (f j):=by
 grind[bX]
theorem lT {n m:Nat} (h:m≠n):(bX js n f)[m]?=js[m]?:=by
 grind[bX]
theorem Oa (h:js[n]?=none):bX js n f=js:=by unfold bX;rw[h]
def fQ (st now:Int) (j:Jv):Jv:={j with st:=st,en:=now}
def dR (now:Int) (set:List Int) (j:Jv):Jv:={j with st:=2,sr:=now,set:=set}
def lM (js:List Jv) (k:Int):Bool:=js.any fun j=>ko j&&decide (k∈j.set)
def dZ (n:Int) (js:List Jv):List Int:=((List.range n.toNat).map fun k:Nat=>(k:Int)).filter fun k=> !lM js k
def nX (la:List Ac):List Int:=la.map Ac.us
def mE:List Ac->List Int->List Ac
 | a::la,u::us=>{a with us:=u}::mE la us
 | la,_=>la
theorem zU:∀(la:List Ac) (us:List Int),(mE la us).length=la.length
 | [],us=>by simp[mE]
 | a::la,[]=>by simp[mE]
 | a::la,u::us=>by simp[mE,zU la us]
theorem qm:∀(la:List Ac) (us:List Int),(mE la us).map aB=la.map aB
 | [],us=>by simp[mE]
 | a::la,[]=>by simp[mE]
 | a::la,u::us=>by simp[mE,qm la us,aB]
def Jk:∀ {la:List Ac} {us:List Int},us.length=la.length->nX (mE la us)=us
 | [],[],_=>rfl
 | a::la,u::us,h=>by
  have:=Jk (la:=la) (us:=us) (by grind);grind[nX,mE]
def TP:∀la:List Ac,mE la (nX la)=la
 | []=>rfl
 | a::la=>by
  have:=TP la;unfold nX at this ⊢;simp[mE,this]
def akK {la:List Ac} {us:List Int} {a:Ac} {u:Int} (h:la[n]?=some a) (hu:us[n]?=some u):(mE la us)[n]?=some {a with us:=u}:=by
 induction la generalizing us n with
 | nil=>grind
 | cons b la ih=>
  cases us with
  | nil=>grind
  | cons v us=>grind[mE]
def gu (nodes:Int) (js:List Jv):List Nat->List Int->List Int
 | [],us=>us
 | n::l,us=>gu nodes js l (match js[n]? with
  | none=>us
  | some j=>Lr.Lg.vO us nodes j.ac j.nd)
def gV (n:Nat) (st now:Int):Hg:=⟨3,n,now,st,0,[]⟩
def mQ (now:Int):List Nat->List Jv->List Jv
 | [],js=>js
 | n::l,js=>mQ now l (bX js n (fQ 4 now))
def BD (now:Int) (j:Jv):Bool:=decide (j.st=2)&&decide (j.sr+j.lm<=now)
def qo (now:Int) (js:List Jv):List Nat:=BR (BD now) js
def Qp (js:List Jv):List Nat:=BR ko js
def iC (c:Cf) (js:List Jv) (n:Nat):List Int:=(dZ c.nodes js).take (match js[n]? with
 | none=>0
 | some j=>j.nd.toNat)
def dA (c:Cf) (now:Int):List Int->List Jv->List Jv
 | [],js=>js
 | n::l,js=>dA c now l (bX js n.toNat (dR now (iC c js n.toNat)))
def tV (c:Cf) (now:Int):List Int->List Jv->List Hg
 | [],_=> []
 | n::l,js=>⟨2,n,now,0,0,iC c js n.toNat⟩::tV c now l (bX js n.toNat (dR now (iC c js n.toNat)))
def kE (s:Sv):Sv:={s with now:=s.now+1,la:=mE s.la (gu s.cf.nodes s.js (Qp s.js) (nX s.la)),js:=mQ (s.now+1) (qo (s.now+1) s.js) s.js}
theorem zX {c:Cf} {N:Nat} :Eb c now N js js.length=true↔∀(i:Nat) (j:Jv),js[i]?=some j->IQ c now N (oK js i) j=true:=by
 grind[Tv]
theorem sO:Ki js js.length=true↔∀(i k:Nat) (a b:Jv),i≠k->js[i]?=some a->js[k]?=some b->iF a b=false:=by
 rw[abp];constructor
 ·intro h i k a b hne ha hb;have hi:=(bO.1 ha).1;have hk:=(bO.1 hb).1;rcases Nat.lt_or_gt_of_ne hne with hl | hl
  ·have:=h k hk b hb a (dW (i:=i) (by grind));grind[qJ]
  ·exact h i hi a ha b (dW (i:=k) (by grind))
 grind[kS]
theorem kW {la:List Ac}:uS now js la la.length=true↔∀(i:Nat) (a:Ac),la[i]?=some a->a.us<=qK (i:Int) now js*4294967296:=by
 grind[XB,XA]
def TT {js IV:List Jv} (h:∀(i:Nat),(IV[i]?).map Jv.sb=(js[i]?).map Jv.sb) (i:Nat):oK IV i=oK js i:=by
 grind[oK]
def akL (hf:∀j,(f j).sb=j.sb) (i:Nat):((bX js n f)[i]?).map Jv.sb=(js[i]?).map Jv.sb:=by
 grind[Oa,rY,lT]
theorem Kr {j j':Jv} (h:js[n]?=some j):gU (js.set n j')+(if j.st=1 then 1 else 0)=gU js+(if j'.st=1 then 1 else 0):=by
 induction js generalizing n with
 | nil=>grind
 | cons x js ih=>
  cases n with
  | zero=>grind[gU]
  | succ n=>grind[gU]
def akM {a now:Int} {j j':Jv} (h:js[n]?=some j) (ha:j'.ac=j.ac):qK a now (js.set n j')=qK a now js+(if j.ac=a then j'.nd*pI now j' - j.nd*pI now j else 0):=by
 induction js generalizing n with
 | nil=>grind
 | cons x js ih=>
  cases n with
  | zero=>grind[qK]
  | succ n=>grind[qK]
structure Ed (j j':Jv):Prop where
 ac:j'.ac=j.ac
 nd:j'.nd=j.nd
 lm:j'.lm=j.lm
 sb:j'.sb=j.sb
theorem Ed.head {c:Cf} {N:Nat} {p:Int} {j j':Jv} (h:Ed j j'):zO c now N p j'=zO c now N p j:=by
 grind[zO,ac,nd,lm,sb]
def Kt (k:jk s) {hd':Int} (hj:s.js[n]?=some j) (hs:∀j,Ed j (f j)) (ht:m_ s.cf s.now (f j)=true) (hp:(f j).st≠1)
  (hc:∀(m:Nat) (b:Jv),m≠n->s.js[m]?=some b->iF (f j) b=false) (hr:j.nd*pI s.now j<=j.nd*pI s.now (f j))
  (hh:holdB {s with js:=bX s.js n f,hd:=hd'}=true):jk {s with js:=bX s.js n f,hd:=hd'} where
 n0:=k.n0
 n1:=k.n1
 load:=k.load
 many:=by grind[bX,jk.many]
 jobs:=by
  show Eb s.cf s.now s.la.length (bX s.js n f) (bX s.js n f).length=true
  rw[zX]
  intro i x hx
  rw[TT (akL (fun j=>(hs j).sb))]
  grind[rY,zX,jk.jobs,IQ,Ed.head,lT]
 queue:=by
  show (gU (bX s.js n f):Int)<=s.cf.queue
  have h1:=Kr (j':=f j) hj
  have h2:=k.queue
  grind[bX]
 apart:=by
  grind[bX,sO,lT,qJ,jk.apart]
 usage:=by
  show uS s.now (bX s.js n f) s.la s.la.length=true
  rw[kW]
  intro i a ha
  have h1:=kW.1 k.usage i a ha
  unfold bX
  rw[hj]
  show a.us<=qK (i:Int) s.now (s.js.set n (f j))*4294967296
  rw[akM hj (hs j).ac,(hs j).nd]
  omega
 hold:=hh
def jk.job (k:jk s) (hj:s.js[n]?=some j):IQ s.cf s.now s.la.length (oK s.js n) j=true:=zX.1 k.jobs n j hj
def jk.times (k:jk s) (hj:s.js[n]?=some j):m_ s.cf s.now j=true:=by have:=k.job hj;grind[IQ]
theorem jk.head (k:jk s) (hj:s.js[n]?=some j):1<=j.ac/\j.ac<s.la.length/\1<=j.nd/\j.nd<=s.cf.nodes/\1<=j.lm/\j.lm<=s.cf.limit/\0<=j.sb/\j.sb<=s.now/\j.sb+bH s.cf<=1099511627776:=by
 have:=k.job hj;grind[IQ,zO]
def jk.pend (k:jk s) (hj:s.js[n]?=some j) (h1:j.st=1):j.sr=0/\j.en=0/\j.set= []:=by
 have:=k.times hj;grind[m_]
def jk.run (k:jk s) (hj:s.js[n]?=some j) (h2:j.st=2):mq s.cf.nodes j=true/\j.sb<j.sr/\j.sr<=s.now/\s.now<j.sr+j.lm/\j.en=0:=by
 have:=k.times hj;grind[m_]
def XI {a b:Jv} (h:b.st≠2) (hb:b.en<=a.sr):iF a b=false:=by
 grind[iF,Kh]
theorem Ob {a a' b:Jv} (h:iF a b=false) (hs:a'.set=a.set) (hr:a'.sr=a.sr) (h2:a.st=2) (h2':a'.st≠2):iF a' b=false:=by
 unfold iF at h ⊢;rw[hs]
 cases hm:zP a.set b.set with
 | false=>simp
 | true=>rw[hm,Bool.and_true]at h;rw[Bool.and_true];unfold Kh at h ⊢;rw[hr];simp only[h2,h2',decide_true,decide_false,Bool.true_or,Bool.false_or,rO,Bool.and_eq_false_imp,Bool.or_eq_true,nS,JJ,Bool.or_eq_false_iff]at h ⊢;intro h3 h4 h5;exact h h4
theorem Qq {a b:Jv} (h:a.set= []):iF a b=false:=by
 grind[iF,zP]
def Oc (k:jk s) (hj:s.js[n]?=some j) (h2:j.st=2) {st:Int} (hst:st=3\/st=5):jk {s with js:=bX s.js n (fQ st s.now)}:=by
 have⟨r1,r2,r3,r4,r5⟩:=k.run hj h2;have k':=Kt (hd':=s.hd) k hj (f:=fQ st s.now) (fun j=>⟨rfl,rfl,rfl,rfl⟩) (by
  grind[m_,fQ,mq]) (by show st≠1;omega) (fun m b hm hb=>Ob (sO.1 k.apart n m j b (iN hm) hj hb) rfl rfl h2 (by show st≠2;omega)) (by
  grind[pI,fQ]) (by
  have:=k.hold
  grind[holdB,lT])
 omega
def abw (k:jk s) (hj:s.js[n]?=some j) (h1:j.st=1):jk {s with js:=bX s.js n (fQ 6 s.now),hd:=if s.hd=n then -1 else s.hd}:=by
 have⟨r1,r2,r3⟩:=k.pend hj h1;have hh:=k.head hj;refine Kt k hj (f:=fQ 6 s.now) (fun j=>⟨rfl,rfl,rfl,rfl⟩) ?_ (by grind[fQ]) (fun m b hm hb=>Qq (by grind[fQ])) ?_ ?_
 ·grind[m_,fQ]
 ·grind[pI,fQ]
 ·have:=k.hold;grind[holdB,lT]
def afM (k:jk s) (hh:zO s.cf s.now s.la.length 0 j=true) (hs:j.sb=s.now) (h1:j.st=1) (hr:j.sr=0) (he:j.en=0) (hset:j.set= []) (hq:(gU s.js:Int)<s.cf.queue) (hm:s.js.length<4096):jk {s with js:=s.js++ [j]} where
 n0:=k.n0
 n1:=k.n1
 load:=k.load
 many:=by grind
 jobs:=by
  grind[Eb,jk.jobs,bO,IQ,zO,oK,jk.head,m_]
 queue:=by
  grind[gU]
 apart:=by
  grind[Ki,SK,Qq,jk.apart]
 usage:=by
  grind[kW,afK,jk.usage]
 hold:=by
  have:=k.hold
  grind[holdB]
end
end Go.Proofs.YtdhifkbbjlhcaaaGreatDoor
