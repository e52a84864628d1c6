import Derived.Test.YtdhifkbbjlhcaaaGreatDoorKz32
import Derived.Test.YtdhifkbbjlhcaaaGreatDoorKz39
set_option maxRecDepth 20000
set_option maxHeartbeats 1000000
set_option linter.defProp false
namespace Go.Proofs.YtdhifkbbjlhcaaaGreatDoor
open Go.Proofs.Tryz
variable {L:List A3.Ag.En} {js:List Jv} {n:Nat} {now:Int} {s:Sv}
section
open Wd Tr Cg Ld
def E8 {α:Type} (p:Jv->Bool) (h:Jv->α) (d:α):∀(l pre:List Jv),(l.filter p).map h=(rR p l pre.length).map (fun n=>match (pre++l)[n]? with | some j=>h j | none=>d)
 | [],pre=>rfl
 | j::l,pre=>by
  have ih:=E8 p h d l (pre++ [j]);grind[rR]
def VQ {α:Type} (p:Jv->Bool) (h:Jv->α) (d:α) (l:List Jv):(l.filter p).map h=(BR p l).map (fun n=>match l[n]? with | some j=>h j | none=>d):=E8 p h d l []
def aiN (js:List Jv) (z:Int):Pq.Pr.Rn:=match js[z.toNat]? with
 | some j=>⟨j.nd,j.sr+j.lm⟩
 | none=>⟨0,0⟩
def GD (js:List Jv) (e:A3.Ag.En):Int:=match js[e.id.toNat]? with
 | some j=>j.nd
 | none=>0
def yO (js:List Jv):List Int:=(Qp js).map fun n:Nat=>(n:Int)
def adN (js:List Jv):bT js=(yO js).map (aiN js):=by
 unfold bT yO;rw[VQ ko _ ⟨0,0⟩,Fv];rfl
section
variable {js:List Jv} {L:List A3.Ag.En}
def amL (h:kY js L) (z:Int):z∈A3.Ag.ids L↔z∈yO js:=by
 unfold A3.Ag.ids yO;rw[jH,jH];constructor
 ·grind[qN,ko,Qp,kY]
 ·rintro ⟨n,hn,rfl⟩;have⟨j,h1,h2⟩:=qN.1 hn;exact⟨⟨(n:Int),j.sr+j.lm⟩,(h.2 _).2 ⟨n,j,h1,by grind[ko],rfl⟩,rfl⟩
def adO (h:kY js L):(A3.Ag.ids L).Nodup:=by
 unfold A3.Ag.ids;refine yZ.2 (List.Pairwise.imp_of_mem (fun {a b} ha hb hab=>?_) h.1);grind[A3.Ag.Dm,kY]
def adP (js:List Jv):(yO js).Nodup:=yZ.2 ((CW ko js).imp (fun h e=>h ak))
def L9 (h:kY js L):(yO js).Perm (A3.Ag.ids L):=(JO (adP js) (adO h)).2 (fun z=>(amL h z).symm)
def arz (js:List Jv):(yO js).Pairwise (· <= ·):=yZ.2 ((Qo ko js).imp (fun h=>by omega))
def amM (h:kY js L):A3.rH (GD js) L=(A3.Ag.ids L).map (aiN js):=by
 grind[A3.rH,A3.Ag.ids,List.map_congr_left,GD,aiN,kY]
def VR (h:kY js L):(A3.rH (GD js) L).Perm (bT js):=by
 rw[amM h,adN];exact((L9 h).map _).symm
def xB (p:Jv->Bool):∀(l:List Jv) (k:Nat),(rR p l k).length<=l.length
 | [],_=>aC _
 | j::l,k=>by
  have:=xB p l (k+1);grind[rR]
def Bn (h:kY js L):L.length<=js.length:=by
 have h1:=(L9 h).length_eq;have h2:(yO js).length<=js.length:=by unfold yO;rw[dL];exact xB _ _ _
 grind[A3.Ag.ids]
end
def Iw (nodes:Int) (js:List Jv):∀(l:List Nat) (n:Nat) (us:List Int),gu nodes js (l++ [n]) us=(match js[n]? with
  | none=>gu nodes js l us
  | some j=>Lr.Lg.vO (gu nodes js l us) nodes j.ac j.nd)
 | [],n,us=>by grind[gu]
 | m::l,n,us=>by
  rw[mP];unfold gu;exact Iw nodes js l n _
def AJ (nodes:Int) (js:List Jv):∀(l:List Nat) (us:List Int),(gu nodes js l us).length=us.length
 | [],us=>rfl
 | n::l,us=>by
  unfold gu;rw[AJ nodes js l];grind[Lr.Lg.ZW]
end
section
open Go.RowKit Wd Tr Cg Ld
structure Apt (c:Cf) (js:List Jv):Prop where
 rise:∀(n:Nat) (j:Jv),js[n]?=some j->j.st=2->tT c.nodes (-1) j.set=true
 apart:∀(m n:Nat) (a b:Jv),m≠n->js[m]?=some a->js[n]?=some b->a.st=2->b.st=2->∀k∈a.set,k∉b.set
def Kept.apt (v:Kept s):Apt s.cf s.js where
 rise n j hj h2:=by
  have hset:=(v.ok.run hj h2).1
  grind[mq]
 apart m n a b hne ha hb h1 h2 k hk hin:=by
  have:=Ll h1 h2 (sO.1 v.ok.apart m n a b hne ha hb)
  grind[zQ]
def Apt.cut {c:Cf} (v:Apt c js) {j:Jv} {f:Jv->Jv} (hj:js[n]?=some j) (hf:(f j).st≠2):Apt c (bX js n f) where
 rise m x hx h2:=by
  grind[kP,rise]
 apart m q a b hne ha hb h1 h2:=by
  grind[kP,apart]
def aiO {c:Cf} (hc:1<=c.nodes) (v:Apt c js) {F:Nat} (h:kH c js F) {j:Jv} {f:Jv->Jv} (hj:js[n]?=some j) (h2:j.st=2) (hf:(f j).st≠2):kH c (bX js n f) (OY c.nodes.toNat F j.set):=by
 have hset:=v.rise n j hj h2;have hn:((c.nodes.toNat:Nat):Int)=c.nodes:=JK ak;have hrise:tT ((c.nodes.toNat:Nat):Int) (-1) j.set=true:=by rw[hn];exact hset
 have⟨hm,hup⟩:=zN.1 hset;have h0:∀x∈j.set,0<=x:=fun x hx=>by have:=hm x hx;omega
 have hall:N2.Nd.rz F (Ez j.set) false j.set.length=true:=N2.Nd.Jw F _ false _ (fun k hk=>by
  have e:Ez j.set k=j.set[k]:=by unfold Ez;simp[List.getD,hk]
  have hx:=hm j.set[k] (tH hk)
  rw[e,dS ak,rO,h]
  have ht:lM js ((j.set[k].toNat:Nat):Int)=true:=jM.2 ⟨n,j,hj,h2,by rw[JK ak];exact tH hk⟩
  rw[ht]
  simp)
 intro k;unfold OY N2.Nd.rV;rw[OZ hrise _ (aC _),hall];simp only[DT];have hnd:(j.set.map Int.toNat).Nodup:=by refine List.Pairwise.map (R:=fun a b:Int=>a<b/\0<=a/\0<=b) _ (fun a b hab=>by omega) ?_;rw[tF]at hup ⊢;intro a b ha hb hab;exact⟨hup a b ha hb hab,h0 _ (tH ha),h0 _ (tH hb)⟩
 have hlen:j.set.length=(j.set.map Int.toNat).length:=dF;rw[Vr h0,hlen,N2.Nd.Gj F _ hnd _ (aC _),oC,h k];have hmem:(k∈j.set.map Int.toNat)↔(k:Int)∈j.set:=by
  rw[jH];constructor
  ·rintro ⟨x,hx,e⟩;have:=h0 x hx;rw[show (k:Int)=x by omega];exact hx
  ·intro hx;exact⟨(k:Int),hx,by omega⟩
 have htk:lM (bX js n f) (k:Int)=(lM js (k:Int)&& !decide ((k:Int)∈j.set)):=by
  rw[JQ,lW,jM,jM];constructor
  ·rintro ⟨m,x,h1,h3,h4⟩;rcases (kP hj).1 h1 with⟨rfl,rfl⟩ | ⟨hne,h1⟩
   ·exact absurd h3 hf
   ·refine ⟨⟨m,x,h1,h3,h4⟩,?_⟩;simp only[Fx,JJ];intro hin;exact v.apart m n x j hne h1 hj h3 h2 _ h4 hin
  ·rintro ⟨⟨m,x,h1,h3,h4⟩,h5⟩;simp only[Fx,JJ]at h5;have hne:m≠n:=fun e=>by
    subst e;rw[hj]at h1
    cases h1;exact h5 h4
   exact⟨m,x,(kP hj).2 (.inr ⟨hne,h1⟩),h3,h4⟩
 rw[htk];by_cases hin:(k:Int)∈j.set
 ·have hx:=hm _ hin;have ht:=jM.2 ⟨n,j,hj,h2,hin⟩;rw[ht,dS (hmem.2 hin),dS hin,dS hx.2];rfl
 ·rw[dH (fun e=>hin (hmem.1 e)),dH hin];simp
def Bo {now:Int}:∀ {L:List A3.Ag.En},A3.Ag.Gh L->(∀e,e∈A3.Ag.vT now L↔e∈L/\e.tm<=now)/\(∀e,e∈A3.Ag.mR now L↔e∈L/\now<e.tm)
 | [],_=>⟨fun e=>by simp[A3.Ag.vT],fun e=>by simp[A3.Ag.mR]⟩
 | f::L,h=>by
  have⟨h1,h2⟩:=qH.1 h;have⟨i1,i2⟩:=Bo (now:=now) (L:=L) h2;by_cases hf:f.tm<=now
  ·have e1:A3.Ag.vT now (f::L)=f::A3.Ag.vT now L:=(by simp[A3.Ag.vT,hf]);have e2:A3.Ag.mR now (f::L)=A3.Ag.mR now L:=(by simp[A3.Ag.mR,hf]);grind
  ·have e1:A3.Ag.vT now (f::L)= []:=(by simp[A3.Ag.vT,hf]);have e2:A3.Ag.mR now (f::L)=f::L:=(by simp[A3.Ag.mR,hf]);grind[A3.Ag.rZ]
def aiP (h:A3.Ag.Gh L):A3.Ag.Gh (A3.Ag.mR now L):=List.Pairwise.sublist (List.dropWhile_sublist _) h
def amN (h:A3.Ag.Gh L):A3.Ag.Gh (A3.Ag.vT now L):=List.Pairwise.sublist (List.takeWhile_sublist _) h
def Zc (now:Int) (js:List Jv):List Int:=(qo now js).map fun n:Nat=>(n:Int)
def amO (v:Kept s) {j:Jv} (hj:s.js[n]?=some j) (h2:j.st=2):s.now<j.sr+j.lm:=(v.ok.run hj h2).2.2.2.1
def Zd (v:Kept s) (h:kY s.js L):(A3.Ag.vT (s.now+1) L).map A3.Ag.En.id=Zc (s.now+1) s.js:=by
 have hp:=(Bo (now:=s.now+1) h.1).1;have htm:∀e∈A3.Ag.vT (s.now+1) L,e.tm=s.now+1:=fun e he=>by have⟨h1,h3⟩:=(hp e).1 he;obtain⟨n,j,h4,h5,rfl⟩:=(h.2 e).1 h1;have:=amO v h4 h5;simp only at h3 ⊢;omega
 have s1:((A3.Ag.vT (s.now+1) L).map A3.Ag.En.id).Pairwise (· < ·):=by refine yZ.2 (List.Pairwise.imp_of_mem (fun {a b} ha hb hab=>?_) (amN h.1));have e1:=htm a ha;have e2:=htm b hb;have:=(A3.Ag.rZ a b).1 hab;omega
 have s2:(Zc (s.now+1) s.js).Pairwise (· < ·):=yZ.2 ((Qo _ s.js).imp (fun h=>by omega));have hmem:∀z,z∈(A3.Ag.vT (s.now+1) L).map A3.Ag.En.id↔z∈Zc (s.now+1) s.js:=fun z=>by
  unfold Zc;rw[jH,jH];constructor
  ·rintro ⟨e,he,rfl⟩;have⟨h1,h3⟩:=(hp e).1 he;obtain⟨n,j,h4,h5,rfl⟩:=(h.2 e).1 h1;exact⟨n,qN.2 ⟨j,h4,by unfold BD;simp only at h3;simp[h5,h3]⟩,rfl⟩
  ·rintro ⟨n,hn,rfl⟩;have⟨j,h1,h2⟩:=qN.1 hn;unfold BD at h2;simp only[lW,nS]at h2;exact⟨⟨(n:Int),j.sr+j.lm⟩,(hp _).2 ⟨(h.2 _).2 ⟨n,j,h1,h2.1,rfl⟩,h2.2⟩,rfl⟩
 have hperm:=(JO (s1.imp (fun h=>by omega)) (s2.imp (fun h=>by omega))).2 hmem;exact PL (fun a b _ _ h h'=>by omega) s1 s2 hperm
def aiQ (h:kY js L) (hn:n∈qo now js):A3.Ag.BI n (A3.Ag.mR now L)=A3.Ag.mR now L:=by
 unfold A3.Ag.BI;rw[JH];intro e he;have⟨h1,h2⟩:=((Bo (now:=now) h.1).2 e).1 he;grind[qN,BD,kY,qo]
def aiR (h:kY js L) (now:Int):kY (mQ now (qo now js) js) (A3.Ag.mR now L):=by
 refine⟨aiP h.1,fun e=>?_⟩;rw[(Bo (now:=now) h.1).2 e,h.2 e,Vd];constructor
 ·grind[BD,rF]
 ·rintro ⟨n,j,h1,h2,rfl⟩;obtain⟨i,hi,rfl⟩:=YC h1;unfold rF at h2 ⊢;grind[BD,fQ]
def L_ {c:Cf} (n:Int):∀(l:List Int) (js:List Jv),dA c now (l++ [n]) js=bX (dA c now l js) n.toNat (dR now (iC c (dA c now l js) n.toNat))
 | [],_=>rfl
 | m::l,js=>by
  rw[mP];show dA c now (l++ [n]) _=_;rw[L_ n l];rfl
def Ma {c:Cf} (n:Int):∀(l:List Int) (js:List Jv),tV c now (l++ [n]) js=tV c now l js++ [⟨2,n,now,0,0,iC c (dA c now l js) n.toNat⟩]
 | [],_=>rfl
 | m::l,js=>by
  rw[mP];show _::tV c now (l++ [n]) _=_::_++_;rw[Ma n l];rfl
theorem Kept.fits (v:Kept s) (ha:I5 s):Fits s.now (dZ s.cf.nodes s.js).length (bQ s).st s.js:=by
 have⟨st,Y,hw⟩:=Pq.Pr.xZ v.Vn;have hmem:∀w∈st,w∈eX s:=fun w h=>by have⟨i,hi⟩:=kS h;have:=(hw.each i w hi).1;grind[Pq.Pr.OV]
 have hnd:(st.map Pq.Pr.Wt.job).Nodup:=by rw[List.nodup_iff_pairwise_ne,tF];intro i k hi hk hlt e;simp only[dL]at hi hk;have:=(hw.each k st[k] (aY hk)).2.2.2;rw[NA]at this;apply this;rw[List.contains_iff_mem];simp only[List.getElem_map]at e;rw[← e];refine jH.2 ⟨st[i],?_,rfl⟩;exact dW (i:=i) (by grind)
 have e:(bQ s).st=st.map Pq.Pr.Wt.job:=hw.sts;rw[e];refine Rk ha (ws:=eX s) (fun w h=>?_) st _ hmem hnd (fun i w hi=>?_)
 ·have⟨n,j,hj,h1,h2⟩:=um h;have:=v.ok.head hj;grind
 ·have:=(hw.each i w hi).2.1;grind[free]
def Me:∀ {l:List Int} {f:Nat} {js:List Jv},(∀j∈js,1<=j.nd)->Fits now f l js->l.length<=f
 | [],_,_,_,_=>ni _
 | n::l,f,js,h1,h=>by
  obtain⟨_,_,j,h2,_,_,h5,h6,h7⟩:=h;have:=Me h1 h7;grind
def adQ (v:Kept s):Kept {s with hd:= -1}:=⟨v.Ve,Av [] v.ok trivial,v.us⟩
def Ze (v:Kept s) {n:Int} {l:List Int} (h:Fits s.now (dZ s.cf.nodes s.js).length (n::l) s.js):
  Kept {s with js:=bX s.js n.toNat (dR s.now (iC s.cf s.js n.toNat)),hd:= -1}/\Fits s.now (dZ s.cf.nodes (bX s.js n.toNat (dR s.now (iC s.cf s.js n.toNat)))).length l (bX s.js n.toNat (dR s.now (iC s.cf s.js n.toNat))):=by
 obtain⟨h0,h1,j,h2,h3,h4,h5,h6,h7⟩:=h;have k':=Lm v.ok h2 h3 h4 h6;have e1:=v.ok.mH;have e2:=k'.mH;have e3:=OQ (now:=s.now) (set:=iC s.cf s.js n.toNat) h2 h3;have e4:(iC s.cf s.js n.toNat).length=j.nd.toNat:=by unfold iC;rw[h2];show ((dZ s.cf.nodes s.js).take j.nd.toNat).length=_;rw[vX];omega
 have e5:(dZ s.cf.nodes (bX s.js n.toNat (dR s.now (iC s.cf s.js n.toNat)))).length=(dZ s.cf.nodes s.js).length - j.nd.toNat:=by have e2':(dZ s.cf.nodes (bX s.js n.toNat (dR s.now (iC s.cf s.js n.toNat)))).length+Gl (bX s.js n.toNat (dR s.now (iC s.cf s.js n.toNat)))=s.cf.nodes.toNat:=e2;omega
 refine⟨⟨v.Ve,k',v.us⟩,?_⟩;rw[e5];exact Au h7 (by rw[JK h0];exact h1)
def Mg:∀(l:List Int) {m:List Int} {s:Sv},Kept s->Fits s.now (dZ s.cf.nodes s.js).length (l++m) s.js->Kept {s with js:=dA s.cf s.now l s.js,hd:= -1}/\Fits s.now (dZ s.cf.nodes (dA s.cf s.now l s.js)).length m (dA s.cf s.now l s.js)
 | [],m,s,v,h=>⟨adQ v,h⟩
 | n::l,m,s,v,h=>by
  have⟨v1,h1⟩:=Ze v h;exact Mg l v1 h1
def VT (v:Kept s) {n:Int} {l:List Int} (h:Fits s.now (dZ s.cf.nodes s.js).length (n::l) s.js):∃(k:Nat) (j:Jv),n=(k:Int)/\s.js[k]?=some j/\j.st=1/\j.sb<s.now/\1<=j.nd/\j.nd.toNat<=(dZ s.cf.nodes s.js).length/\iC s.cf s.js k=(dZ s.cf.nodes s.js).take j.nd.toNat/\1<=j.lm/\j.lm<=s.cf.limit:=by
 obtain⟨h0,_,j,h2,h3,h4,h5,h6,_⟩:=h;have hh:=v.ok.head h2;grind[iC]
end
end Go.Proofs.YtdhifkbbjlhcaaaGreatDoor
