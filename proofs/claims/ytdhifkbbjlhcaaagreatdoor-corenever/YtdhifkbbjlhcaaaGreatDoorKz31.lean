import Derived.Test.YtdhifkbbjlhcaaaGreatDoorKz19
import Derived.Test.YtdhifkbbjlhcaaaGreatDoorKz30
import Derived.Test.YtdhifkbbjlhcaaaGreatDoorKz29
set_option maxRecDepth 20000
set_option maxHeartbeats 1000000
set_option linter.defProp false
namespace Go.Proofs.YtdhifkbbjlhcaaaGreatDoor
open Go.Proofs.Tryz
variable {n:Nat} {s:Sv}
section
open Wd Tr Cg Ld
def bT (js:List Jv):List Pq.Pr.Rn:=(js.filter ko).map fun j=>⟨j.nd,j.sr+j.lm⟩
def dz (s:Sv):Int:=s.cf.nodes - Pq.Pr.fG (bT s.js)
def Ev (c:Cf):Int:=(nA (QF c.period c.half):Nat)
def Lu (c:Cf) (us:List Int):List Int:=Lr.Lg.pK (Ev c) us
def Lv (j:Jv):Jb:=⟨j.ac,j.nd,j.lm,j.sb,j.st,j.sr,j.en,J 0⟩
noncomputable def f_ (s:Sv):List Pr:=rT (qQ s.cf s.la) (mF s.la (wV s.la (Cc s.cf))) s.cf s.now (s.js.map Lv)
def kG (n:Nat) (j:Jv):Pq.Pr.Wt:=⟨(n:Int),j.nd,j.lm⟩
def yI (js:List Jv) (n:Int):Pq.Pr.Wt:=match js[n.toNat]? with
 | none=>⟨0,0,0⟩
 | some j=>kG n.toNat j
noncomputable def eX (s:Sv):List Pq.Pr.Wt:=(f_ s).map fun r=>yI s.js r.a
noncomputable def bQ (s:Sv):Pq.Pr.Pln:=Pq.Pr.jK s.now (dz s) (eX s) s.hd (bT s.js)
noncomputable def fq (s:Sv):Sv:=if gU s.js=0 then s else {s with js:=dA s.cf s.now (bQ s).st s.js,hd:=(bQ s).ho}
noncomputable def Im (s:Sv):List Hg:=if gU s.js=0 then []else
 ⟨5,0,s.now,0,0,(f_ s).map Pr.a⟩::(tV s.cf s.now (bQ s).st s.js++if (bQ s).ho≠ -1/\(bQ s).ho≠s.hd then [⟨4,(bQ s).ho,s.now,0,0,[]⟩]else [])
def o_ (s:Sv):Sv:=if s.now % s.cf.period=0 then {s with la:=mE s.la (Lu s.cf (nX s.la))}else s
def ahV (s:Sv):List Hg:=if s.now % s.cf.period=0 then [⟨7,0,s.now,0,0,[]⟩]else []
noncomputable def iD (s:Sv):Sv:=fq (o_ (kE s))
noncomputable def qR (s:Sv):List Hg:=⟨6,0,s.now+1,0,0,[]⟩::((qo (s.now+1) s.js).map (fun n=>gV n 4 (s.now+1))++(ahV (kE s)++Im (o_ (kE s))))
noncomputable def iA:Nat->Sv->Sv
 | 0,s=>s
 | n+1,s=>iA n (iD s)
noncomputable def pz:Nat->Sv->List Hg
 | 0,_=> []
 | n+1,s=>qR s++pz n (iD s)
def kX (la:List Ac):Nat->Nat->Bool
 | 0,_=>false
 | f+1,n=>if n=0 then false else match la[n]? with
  | none=>false
  | some a=>a.cl||kX la f a.pa.toNat
def nH (la:List Ac) (n:Nat):Bool:=kX la (la.length+1) n
noncomputable def nY (s:Sv) (n:Nat) (c:Cd):Int:=
 if nH s.la n=true then 184
 else if ¬(1<=c.nd/\c.nd<=s.cf.nodes)then 185
 else if ¬(1<=c.lm/\c.lm<=s.cf.limit)then 186
 else if s.cf.queue<=(gU s.js:Int)then 187
 else if 4096<=s.js.length then 188
 else if 1099511627776<s.now+bH s.cf then 180 else 0
def EG (s:Sv) (n:Nat) (c:Cd):Jv:=⟨n,c.nd,c.lm,s.now,1,0,0,[]⟩
noncomputable def lU (s:Sv) (c:Cd):Sv×FV:=match bq s.la c.nm with
 | none=>(s,coded 181)
 | some n=>if n=0 then(s,coded 181)else if nY s n c≠0 then(s,coded (nY s n c))
  else({s with js:=s.js++ [EG s n c]},{told [⟨1,s.js.length,s.now,c.nd,c.lm,[]⟩]with id:=s.js.length})
def EI (s:Sv) (n:Nat) (st:Int):Sv×FV:=({s with js:=bX s.js n (fQ st s.now)},told [gV n st s.now])
def EK (s:Sv) (n:Nat):Sv×FV:=({s with js:=bX s.js n (fQ 6 s.now),hd:=if s.hd=n then -1 else s.hd},told [gV n 6 s.now])
def oG (s:Sv) (k:Int):Option Jv:=if 0<=k then s.js[k.toNat]? else none
def jU (s:Sv) (c:Cd):Sv×FV:=match oG s c.jb with
 | none=>(s,coded 182)
 | some j=>if j.st=1 then EK s c.jb.toNat else if j.st=2 then EI s c.jb.toNat 5 else(s,coded 183)
def iB (s:Sv) (c:Cd):Sv×FV:=match oG s c.jb with
 | none=>(s,coded 182)
 | some j=>if j.st=2 then EI s c.jb.toNat 3 else(s,coded 183)
noncomputable def nQ (s:Sv) (c:Cd):Sv×FV:=
 if ¬(1<=c.tk/\c.tk<=256)then(s,coded 189)else if 1099511627776<s.now+c.tk then(s,coded 180)
 else(iA c.tk.toNat s,told (pz c.tk.toNat s))
def nD (s:Sv) (c:Cd):Sv×FV:=
 if (dJ s.la c.nm c.pa c.sh).2.1≠0 then(s,coded (dJ s.la c.nm c.pa c.sh).2.1)else({s with la:=(dJ s.la c.nm c.pa c.sh).2.2},{coded 0 with id:=(dJ s.la c.nm c.pa c.sh).1})
def yc (s:Sv) (c:Cd):Sv×FV:=({s with la:=(dO s.la c.nm c.sh).2},coded (dO s.la c.nm c.sh).1)
def Lx (s:Sv) (c:Cd):Sv×FV:=({s with la:=(h_ s.la c.nm c.pa).2},coded (h_ s.la c.nm c.pa).1)
def Dv (s:Sv) (c:Cd):Sv×FV:=({s with la:=(gK s.la c.nm).2},coded (gK s.la c.nm).1)
def Rh (s:Sv) (c:Cd):FV:=match oG s c.jb with
 | none=>coded 182
 | some j=>{coded 0 with job:=j}
def LC (s:Sv):Int:=match oG s s.hd with
 | none=>0
 | some j=>if j.nd<=dz s then 0 else Pq.Pr.atO (Pq.Pr.aX s.now (dz s) (bT s.js) j.nd)
noncomputable def Gr (s:Sv):FV:={coded 0 with WK:=f_ s,hold:=s.hd,IU:=LC s}
def Ri (j:Jv):Lg.Jb:=⟨j.ac,j.nd,j.lm,j.sb,j.st,j.sr,j.en,none,0,0⟩
noncomputable def yg (s:Sv) (c:Cd):FV:=match bq s.la c.nm with
 | none=>coded 181
 | some n=>{coded 0 with raw:=Lg.lK ((dG s.la n).map fun k:Nat=>(k:Int)) s.now (s.js.map Ri),us:=Lr.Lg.g_ (nX s.la) ((dG s.la n).map fun k:Nat=>(k:Int)) 0,fac:=mF s.la (wV s.la (Cc s.cf)) n}
noncomputable def doS (s:Sv) (c:Cd):Sv×FV:=
 if c.kind=1 then lU s c else if c.kind=2 then jU s c else if c.kind=3 then iB s c else if c.kind=4 then nQ s c
 else if c.kind=5 then nD s c else if c.kind=6 then yc s c else if c.kind=7 then Lx s c else if c.kind=8 then Dv s c
 else(s,if c.kind=9 then Rh s c else if c.kind=10 then Gr s else if c.kind=11 then yg s c else if c.kind=12 then {coded 0 with free:=dz s}
  else {coded 0 with cf:=s.cf,bnd:=bH s.cf})
def vcm (c:Cd):V8.Cm:=⟨c.kind,c.nm.data.toList,c.pa.data.toList,c.sh,c.nd,c.lm,c.jb,c.tk⟩
noncomputable def yS (s:Sv) (c:Cd):Sv×FV:=if V8.tZ (vcm c)≠0 then(s,coded (V8.tZ (vcm c)))else doS s c
def Vm:∀ {js:List Jv},(∀j∈js,ko j=true->(j.set.length:Int)=j.nd)->Pq.Pr.fG (bT js)=(Gl js:Int)
 | [],_=>rfl
 | j::js,h=>by
  have ih:=Vm (js:=js) (fun x hx=>h x (ny _ hx));grind[bT,Gl,Pq.Pr.fG]
theorem Kept.rng (v:Kept s):nJ s.cf:=xV v.Ve
theorem Kept.free (v:Kept s):dz s=((dZ s.cf.nodes s.js).length:Int):=by
 have h1:=v.ok.mH;have h2:=Vm (js:=s.js) (fun j hj h=>by
  have⟨n,hn⟩:=kS hj
  unfold ko at h
  have:=(v.ok.run hn (jY h)).1
  grind[mq])
 have h3:=v.rng.n0;grind[dz]
def aaN {r:Pq.Pr.Rn} (h:r∈bT s.js):∃(n:Nat) (j:Jv),s.js[n]?=some j/\j.st=2/\r=⟨j.nd,j.sr+j.lm⟩:=by
 grind[bT,kS,ko]
theorem Kept.right (v:Kept s):Pq.Pr.right (dz s) (bT s.js)=true:=by
 have h1:=v.free;have h2:=v.ok.mH;have h3:=v.rng.n1;refine Pq.Pr.fP.2 ⟨⟨by omega,by omega⟩,?_⟩;rw[vC];intro r hr;obtain⟨n,j,hj,_,rfl⟩:=aaN hr;have:=v.ok.head hj;grind[Pq.Pr.qX]
theorem Kept.qQ (v:Kept s):_root_.Go.Proofs.YtdhifkbbjlhcaaaGreatDoor.qQ s.cf s.la=s.la.length:=by grind[YtdhifkbbjlhcaaaGreatDoor.qQ,ok,jk.load,Ve]
def ahW {F:Nat} {f:Nat->Int} {c:Cf} {now:Int}:∀ {l:List Jb} {k i:Nat} {j:Jb},l[i]?=some j->t_ F j=true->∃p,p∈tJ F f c now l k/\p.a=((k+i:Nat):Int)
 | [],_,_,_,h,_=>by grind
 | x::l,k,i,j,h,hp=>by
  unfold tJ
  cases i with
  | zero=>simp_all
  | succ i=>have⟨p,h1,h2⟩:=ahW (F:=F) (f:=f) (c:=c) (now:=now) (k:=k+1) (show l[i]?=some j by grind) hp;grind
theorem ahX {r:Pr} (h:r∈f_ s):∃(n:Nat) (j:Jv),s.js[n]?=some j/\j.st=1/\r.a=(n:Int):=by
 unfold f_ at h;grind[Er,sQ,Ep,Lv]
theorem Kept.amj (v:Kept s) {j:Jv} (hj:s.js[n]?=some j) (h1:j.st=1):∃r,r∈f_ s/\r.a=(n:Int):=by
 have hh:=v.ok.head hj;have⟨p,hp,he⟩:=ahW (F:=_root_.Go.Proofs.YtdhifkbbjlhcaaaGreatDoor.qQ s.cf s.la) (f:=mF s.la (wV s.la (Cc s.cf))) (c:=s.cf) (now:=s.now) (l:=s.js.map Lv) (k:=0) (i:=n) (j:=Lv j) (by grind) (Ep.2 ⟨h1,by show 0<=j.ac;omega,by grind[qQ,Lv]⟩);grind[sQ,f_]
theorem YK:((f_ s).map Pr.a).Nodup:=by
 grind[sQ,KW,f_]
theorem Rj {r:Pr} (h:r∈f_ s):∃(n:Nat) (j:Jv),s.js[n]?=some j/\j.st=1/\yI s.js r.a=kG n j/\r.a=(n:Int):=by
 grind[ahX,yI]
theorem adf:(eX s).map Pq.Pr.Wt.job=(f_ s).map Pr.a:=by
 unfold eX;rw[Fv];apply List.map_congr_left;intro r hr;obtain⟨n,j,_,_,h3,h4⟩:=Rj hr;grind[kG]
def um {w:Pq.Pr.Wt} (h:w∈eX s):∃(n:Nat) (j:Jv),s.js[n]?=some j/\j.st=1/\w=kG n j:=by
 grind[eX,Rj]
def Kept.yh (v:Kept s) {j:Jv} (hj:s.js[n]?=some j) (h1:j.st=1):kG n j∈eX s:=by
 grind[amj,eX,yI]
def Kept.Vn (v:Kept s):Pq.Pr.Chk s.now (dz s) (eX s) s.hd (bT s.js):=by
 have hr:=v.rng;have k:=v.ok;refine⟨k.n0,by have:=k.n1;omega,v.right,fun r h=>?_,fun w h=>?_,?_,?_⟩
 ·obtain ⟨n,j,hj,h2,rfl⟩:=aaN h;have h3:=k.run hj h2;have h4:=k.head hj;have h5:=hr.l1;have h6:=k.n1;grind
 ·obtain ⟨n,j,hj,h2,rfl⟩:=um h;have h4:=k.head hj;have h5:=hr.l1;have h6:=hr.n1;grind[dz,kG]
 ·grind[adf,YK]
 ·have:=k.hold;unfold holdB at this;simp only[Bool.or_eq_true,lW,nS]at this;rcases this with h | ⟨h,h'⟩
  ·omega
  ·cases hx:s.js[s.hd.toNat]? with
   | none=>grind
   | some x=>rw[hx]at h';simp only[lW,nS]at h';refine .inr ⟨_,v.yh hx h'.1,?_⟩;grind[kG]
def Rk {now:Int} {js:List Jv} (hsb:∀j∈js,j.sb<now) {ws:List Pq.Pr.Wt} (hw:∀w∈ws,∃(n:Nat) (j:Jv),js[n]?=some j/\j.st=1/\0<=j.nd/\w=kG n j):∀(st:List Pq.Pr.Wt) (f:Nat),(∀w∈st,w∈ws)->(st.map Pq.Pr.Wt.job).Nodup->(∀(i:Nat) (w:Pq.Pr.Wt),st[i]?=some w->w.nd<=(f:Int) - Pq.Pr.o9 (st.take i))->Fits now f (st.map Pq.Pr.Wt.job) js
 | [],_,_,_,_=>trivial
 | w::st,f,h1,h2,h3=>by
  obtain⟨n,j,hj,hs,h0,rfl⟩:=hw w (h1 w (pJ ..));rw[nI,NC]at h2;have h4:=h3 0 _ rfl;simp only[xL,Pq.Pr.o9]at h4;have h4':j.nd<=(f:Int):=by grind[kG]
  refine⟨by grind[kG],h2.1,j,?_,hs,hsb j (dW hj),h0,h4',?_⟩
  ·grind[kG]
  ·refine Rk hsb hw st _ (fun x hx=>h1 x (ny _ hx)) h2.2 (fun i x hx=>?_);have:=h3 (i+1) x (by grind);grind[Pq.Pr.o9,kG]
def I5 (s:Sv):Prop:=∀j∈s.js,j.sb<s.now
def Vo (v:Kept s) (ha:I5 s):Kept (fq s):=by
 unfold fq;split
 ·exact v
 ·have⟨st,Y,hw⟩:=Pq.Pr.xZ v.Vn;have hmem:∀w∈st,w∈eX s:=fun w h=>by have⟨i,hi⟩:=kS h;have:=(hw.each i w hi).1;exact JX this
  have hnd:(st.map Pq.Pr.Wt.job).Nodup:=by rw[List.nodup_iff_pairwise_ne,tF];intro i k hi hk hlt e;simp only[dL]at hi hk;have:=(hw.each k st[k] (aY hk)).2.2.2;rw[NA]at this;apply this;rw[List.contains_iff_mem];simp only[List.getElem_map]at e;rw[← e];refine jH.2 ⟨st[i],?_,rfl⟩;exact dW (i:=i) (by rw[List.getElem?_take];simp[hlt])
  have hfit:Fits s.now (dZ s.cf.nodes s.js).length (bQ s).st s.js:=by
   have e:(bQ s).st=st.map Pq.Pr.Wt.job:=hw.sts;rw[e];refine Rk ha (ws:=eX s) (fun w h=>?_) st _ hmem hnd (fun i w hi=>?_)
   ·have⟨n,j,hj,h1,h2⟩:=um h;have:=v.ok.head hj;exact⟨n,j,hj,h1,by omega,h2⟩
   ·have:=(hw.each i w hi).2.1;rw[v.free]at this;exact this
  have k:=Av (bQ s).st v.ok hfit;refine⟨v.Ve,?_,v.us⟩;refine ac3 k (h:=(bQ s).ho) ?_;by_cases hho:(bQ s).ho<0
  ·exact .inl (hw.over hho).1
  ·obtain ⟨h,hf,_⟩:=hw.hold (by show 0<=(bQ s).ho;omega)
   obtain⟨n,j,hj,h1,rfl⟩:=um (JX hf);have e:=List.find?_some hf;have e':((n:Nat):Int)=(bQ s).ho:=jY e;refine .inr ⟨by omega,j,?_,h1,ha j (dW hj)⟩;show (dA s.cf s.now (bQ s).st s.js)[(bQ s).ho.toNat]?=some j;rw[← e',gJ,Bg,hj];intro x hx;have hx0:=EC hfit x hx;have es:(bQ s).st=st.map Pq.Pr.Wt.job:=hw.sts;rw[es]at hx;obtain⟨w,hw1,rfl⟩:=jH.1 hx;have⟨i,hi⟩:=kS hw1;have:=(hw.each i w hi).2.2.1;have e2:(bQ s).ho=(Pq.Pr.jK s.now (dz s) (eX s) s.hd (bT s.js)).ho:=rfl;rw[← e2,<-e']at this;omega
theorem qp (l:List Ac) (n:Nat):fV (l.map aB) n=fV l n:=by grind[fV,Dt]
def NK (l:List Ac) (n:Nat) (a:Ac):(l.map aB).set n (aB a)=(l.set n a).map aB:=by simp_all
def add_plain (l:List Ac) (nm pn:ByteArray) (sh:Int):Tr.dJ (l.map aB) nm pn sh=((Tr.dJ l nm pn sh).1,(Tr.dJ l nm pn sh).2.1,(Tr.dJ l nm pn sh).2.2.map aB):=by
 unfold Tr.dJ;rw[nP,nP,dL];by_cases h1:j_ nm=false
 ·grind
 rw[au h1,au h1];by_cases h2:(bq l nm).isSome=true
 ·grind
 rw[au h2,au h2]
 cases bq l pn with
 | none=>rfl
 | some p=>grind[qp,aB]
def Ay (l:List Ac) (nm:ByteArray):jr (l.map aB) nm=jr l nm:=by grind[jr,nP]
def Ip (l:List Ac) (nm:ByteArray) (sh:Int):dO (l.map aB) nm sh=((dO l nm sh).1,(dO l nm sh).2.map aB):=by
 unfold dO;rw[Ay];rcases jr l nm with⟨n,e⟩;by_cases he:e=0
 ·subst he;simp only;by_cases h3:zJ sh=false
  ·grind
  rw[au h3,au h3,jI]
  cases l[n]? with
  | none=>rfl
  | some a=>simp only[Option.map_some];rw[← NK];rfl
 grind
def Iq (l:List Ac) (nm:ByteArray):gK (l.map aB) nm=((gK l nm).1,(gK l nm).2.map aB):=by
 unfold gK;rw[Ay];rcases jr l nm with⟨n,e⟩;by_cases he:e=0
 ·subst he;simp only;exact aow
 grind
theorem ahY (l:List Ac) (n:Nat) (p:Int):ou (l.map aB) n p=(ou l n p).map aB:=by
 unfold ou;exact aow
theorem qw (l:List Ac) (n:Nat):∀f k:Nat,Bz (l.map aB) n f k=Bz l n f k
 | 0,_=>rfl
 | f+1,k=>by simp only[Bz,qO,qw l n f]
theorem Vp (l:List Ac):rP (l.map aB)=rP l:=by
 grind[rP,qp]
def LD (l:List Ac) (nm pn:ByteArray):h_ (l.map aB) nm pn=((h_ l nm pn).1,(h_ l nm pn).2.map aB):=by
 unfold h_;rw[Ay,nP];rcases jr l nm with⟨n,e⟩;by_cases he:e=0
 ·subst he;simp only
  cases bq l pn with
  | none=>rfl
  | some p=>grind[qw,ahY,Vp]
 grind
def Jy {la la':List Ac} (h:Wf (la.map aB)->Wf (la'.map aB)) (hl:dw la=0):dw la'=0:=by
 grind[Il,akz,rX]
def J4 (v:Kept s) {la:List Ac} (hl:dw la=0) (hn:s.la.length<=la.length) (hu:∀(i:Nat) (a:Ac),la[i]?=some a->(∃b,s.la[i]?=some b/\a.us=b.us)\/(s.la.length<=i/\a.us=0)):Kept {s with la:=la}:=by
 have k:=v.ok;refine⟨v.Ve,⟨k.n0,k.n1,hl,k.many,?_,k.queue,k.apart,?_,k.hold⟩,fun i a ha=>?_⟩
 ·show Eb s.cf s.now la.length s.js s.js.length=true;rw[zX];intro i j hj;have h:=k.job hj;grind[IQ,zO]
 ·show uS s.now s.js la la.length=true;rw[kW];intro i a ha;rcases hu i a ha with⟨b,hb,e⟩ | ⟨_,e⟩
  ·grind[kW,jk.usage]
  ·rw[e];have:0<=qK (i:Int) s.now s.js:=by
    have hall:∀j∈s.js,0<=j.nd*pI s.now j:=fun j hj=>by have⟨m,hm⟩:=kS hj;have h1:=k.head hm;have h2:=k.times hm;refine sW ak ?_;grind[pI,m_]
    have pos:∀l:List Jv,(∀j∈l,0<=j.nd*pI s.now j)->0<=qK (i:Int) s.now l:=by
     intro l;induction l with
     | nil=>grind[qK]
     | cons j l ih=>grind[qK]
    grind
   omega
 ·rcases hu i a ha with⟨b,hb,e⟩ | ⟨_,e⟩
  ·rw[e];exact v.us i b hb
  grind[Word]
def Nq (l:List Ac) (n:Nat) (f:Ac->Ac):List Ac:=match l[n]? with
 | some a=>l.set n (f a)
 | none=>l
def ZG {l:List Ac} {f:Ac->Ac} (hf:∀a,(f a).us=a.us) {i:Nat} {a:Ac} (h:(Nq l n f)[i]?=some a):∃b,l[i]?=some b/\a.us=b.us:=by
 grind[Nq]
def SV {l:List Ac} {f:Ac->Ac}:(Nq l n f).length=l.length:=by
 grind[Nq]
theorem YL (v:Kept s) (nm:ByteArray) (sh:Int):Kept {s with la:=(dO s.la nm sh).2}:=by
 have hw:=Jy (fun h=>by have:=h.dO nm sh;rw[Ip]at this;exact this) v.ok.load
 have hk:(dO s.la nm sh).2=s.la\/∃n,(dO s.la nm sh).2=Nq s.la n (fun a=>{a with sh:=sh}):=by
  unfold dO;split
  ·rename_i n _;split
   ·exact .inl rfl
   ·exact .inr ⟨n,rfl⟩
  ·exact .inl rfl
 exact anP
theorem adg (v:Kept s) (nm:ByteArray):Kept {s with la:=(gK s.la nm).2}:=by
 have hw:=Jy (fun h=>by have:=h.gK nm;rw[Iq]at this;exact this) v.ok.load
 have hk:(gK s.la nm).2=s.la\/∃n,(gK s.la nm).2=Nq s.la n (fun a=>{a with cl:=true}):=by
  unfold gK;split
  ·rename_i n _;exact .inr ⟨n,rfl⟩
  ·exact .inl rfl
 exact anP
theorem ahZ (v:Kept s) (nm pn:ByteArray):Kept {s with la:=(h_ s.la nm pn).2}:=by
 have hw:=Jy (fun h=>by have:=h.h_ nm pn;rw[LD]at this;exact this) v.ok.load
 by_cases h0:(h_ s.la nm pn).1=0
 ·obtain ⟨n,p,_,_,_,_,e⟩:=Ti (l:=s.la) (l':=(h_ s.la nm pn).2) (nm:=nm) (pn:=pn) (by rw[← h0]);have e:(h_ s.la nm pn).2=Nq s.la n (fun a=>{a with pa:=(p:Int)}):=e;refine J4 v hw (by rw[e,SV];exact aC _) (fun i a ha=>.inl ?_);rw[e]at ha;exact ZG (by intro _;rfl) ha
 ·rw[Qd h0];exact v
theorem amk (v:Kept s) (nm pn:ByteArray) (sh:Int):Kept {s with la:=(Tr.dJ s.la nm pn sh).2.2}:=by
 have hw:=Jy (fun h=>by have:=h.dJ nm pn sh;rw[add_plain]at this;exact this) v.ok.load
 have hk:(Tr.dJ s.la nm pn sh).2.2=s.la\/∃p:Nat,(Tr.dJ s.la nm pn sh).2.2=s.la++ [⟨nm,p,sh,false,0⟩]:=by
  unfold Tr.dJ;split
  ·exact .inl rfl
  ·split
   ·exact .inl rfl
   ·split
    ·exact .inl rfl
    ·rename_i p _;split
     ·exact .inl rfl
     ·split
      ·exact .inl rfl
      ·split
       ·exact .inl rfl
       ·exact .inr ⟨p,rfl⟩
 rcases hk with e | ⟨p,e⟩
 ·rw[e];exact v
 ·refine J4 v hw (by rw[e];simp) (fun i a ha=>?_)
  rw[e]at ha;by_cases hi:i<s.la.length
  ·rw[List.getElem?_append_left hi]at ha;exact .inl ⟨a,ha,rfl⟩
  ·rw[SK ak]at ha;refine .inr ⟨by omega,?_⟩
   cases hd:i - s.la.length with
   | zero=>rw[hd]at ha;simp at ha;rw[← ha]
   | succ d=>rw[hd]at ha;simp at ha
theorem Gs (v:Kept s):I5 (kE s):=fun j hj=>by
 rw[uY]at hj;obtain⟨x,hx,rfl⟩:=jH.1 hj;have⟨n,hn⟩:=kS hx;have:=v.ok.head hn;grind[wT,Ed.sb,kE]
theorem Az (v:Kept s):Kept (o_ s):=by
 unfold o_;split
 ·refine ahN v (by grind[Lu,Lr.Lg.afC,Dr]) (Lr.Lg.afB (Yz v.us) (Gb _)) (fun i u u' h1 h2=>Lr.Lg.akG (Yz v.us) h1 h2)
 omega
theorem wZ (s:Sv):(o_ s).cf=s.cf/\(o_ s).now=s.now/\(o_ s).js=s.js/\(o_ s).hd=s.hd/\(o_ s).la.map aB=s.la.map aB:=by
 grind[o_,qm]
def uo (v:Kept s) (hn:s.now+1<=1099511627776):Kept (iD s):=by
 have v2:=Az (Ar v hn);refine Vo v2 (fun j hj=>?_);obtain⟨_,e1,e2,_⟩:=wZ (kE s);rw[e2]at hj;rw[e1];exact Gs v j hj
theorem w_ (s:Sv):(iD s).now=s.now+1/\(iD s).cf=s.cf:=by
 grind[iD,fq,wZ,kE]
theorem Bl:∀(n:Nat) {s:Sv},Kept s->s.now+n<=1099511627776->Kept (iA n s)
 | 0,_,v,_=>v
 | n+1,s,v,h=>by
  unfold iA;exact Bl n (uo v ak) (by grind[w_])
theorem YM (v:Kept s) (c:Cd):Kept (lU s c).1:=by
 unfold lU;split
 ·omega
 ·rename_i n hf;split
  ·omega
  ·split
   ·omega
   ·rename_i hn hr;have hr:nY s n c=0:=ak;unfold nY at hr;split at hr
    ·omega
    ·split at hr
     ·omega
     ·split at hr
      ·omega
      ·split at hr
       ·omega
       ·split at hr
        ·omega
        ·split at hr
         ·omega
         ·rename_i h1 h2 h3 h4 h5 h6;have hl:=uQ hf;have hb:=v.ok.n0;refine⟨v.Ve,afM v.ok (j:=EG s n c) ?_ rfl rfl rfl rfl rfl ak ak,v.us⟩;grind[zO,EG]
def LG {k:Int} {j:Jv} (h:oG s k=some j):0<=k/\s.js[k.toNat]?=some j:=by
 grind[oG]
theorem YN (v:Kept s) (c:Cd):Kept (jU s c).1:=by
 unfold jU
 cases hj:oG s c.jb with
 | none=>omega
 | some j=>
  have⟨h0,hj⟩:=LG hj;simp only;by_cases h1:j.st=1
  ·rw[aJ h1];have:=abw v.ok hj h1;refine⟨v.Ve,?_,v.us⟩;exact this
  ·rw[au h1];by_cases h2:j.st=2
   ·rw[aJ h2];exact⟨v.Ve,Oc v.ok hj h2 (.inr rfl),v.us⟩
   grind
theorem Rl (v:Kept s) (c:Cd):Kept (iB s c).1:=by
 unfold iB
 cases hj:oG s c.jb with
 | none=>omega
 | some j=>
  have⟨h0,hj⟩:=LG hj;simp only;by_cases h2:j.st=2
  ·rw[aJ h2];exact⟨v.Ve,Oc v.ok hj h2 (.inl rfl),v.us⟩
  grind
theorem YO (v:Kept s) (c:Cd):Kept (nQ s c).1:=by
 grind[nQ,Bl]
theorem Vq (v:Kept s) (c:Cd):Kept (nD s c).1:=by
 grind[nD,amk]
theorem aml (v:Kept s) (c:Cd):Kept (doS s c).1:=by
 unfold doS;grind[YM,YN,Rl,YO,Vq,YL,ahZ,adg,yc,Lx,Dv]
def Rm (v:Kept s) (c:Cd):Kept (yS s c).1:=by
 grind[yS,aml]
end
end Go.Proofs.YtdhifkbbjlhcaaaGreatDoor
