import Derived.Test.YtdhifkbbjlhcaaaGreatDoorKz43
set_option maxRecDepth 20000
set_option maxHeartbeats 1000000
set_option linter.defProp false
namespace Go.Proofs.YtdhifkbbjlhcaaaGreatDoor
open Go.Proofs.Tryz
variable {c:Cg.Cf} {j j':Jv} {js:List Jv} {n:Nat} {now t u:Int} {s:Sv}
section
open Wd Tr Cg Ld
def bz (u:Int) (j:Jv):Int:=if j.st=2/\u<j.sr+j.lm then j.nd else 0
def dV (u:Int):List Jv->Int
  | []=>0
  | j::l=>bz u j+dV u l
def Fg (F u:Int):∀js:List Jv,Pq.Pr.pQ (F - Pq.Pr.fG (bT js)) (bT js) u=F - dV u js
  | []=>by simp[bT,Pq.Pr.pQ,Pq.Pr.fG,dV]
  | j::js=>by
    have ih:=Fg F u js;rw[Pq.Pr.pR]at ih ⊢;grind[bT,ko,bz,dV,Pq.Pr.fG,Pq.Pr.su]
theorem WB {u:Int} {j':Jv}:∀ {js:List Jv} {n:Nat} {j:Jv},js[n]?=some j->dV u (js.set n j')=dV u js - bz u j+bz u j'
  | x::js,0,j,h=>by grind[dV]
  | x::js,n+1,j,h=>by
    have:=WB (u:=u) (j':=j') (js:=js) (n:=n) (j:=j) (by grind);grind[dV]
def Br {f:Jv->Jv} (h:js[n]?=some j):dV u (bX js n f)=dV u js - bz u j+bz u (f j):=by
  grind[bX,WB]
def MN (u:Int):∀a b:List Jv,dV u (a++b)=dV u a+dV u b
  | [],b=>by simp[dV]
  | j::a,b=>by have:=MN u a b;grind[dV]
theorem WC {f:Jv->Jv}:∀ {js:List Jv},(∀j∈js,bz u (f j)=bz u j)->dV u (js.map f)=dV u js
  | [],_=>rfl
  | j::js,h=>by
    have:=WC (f:=f) (js:=js) (fun x hx=>h x (ny _ hx));grind[dV]
def II:∀ {st:List Pq.Pr.Wt} {js:List Jv},(∀w∈st,∃(n:Nat) (j:Jv),js[n]?=some j/\j.st=1/\w=kG n j)->(st.map Pq.Pr.Wt.job).Nodup->
    dV u (dA c now (st.map Pq.Pr.Wt.job) js)=dV u js+(Pq.Pr.o9 st - Pq.Pr.su (st.map (Pq.Pr.rOf now)) u)
  | [],js,_,_=>by simp[dA,Pq.Pr.o9,Pq.Pr.su]
  | w::st,js,h,hn=>by
    obtain⟨n,j,hj,h1,rfl⟩:=h w (pJ ..);rw[nI,NC]at hn;have ih:=II (st:=st) (js:=bX js n (dR now (iC c js n))) (fun x hx=>by
      grind[lT]) hn.2
    have hb:=Br (u:=u) (f:=dR now (iC c js n)) hj;grind[dA,kG,dR,bz,Pq.Pr.o9,Pq.Pr.su,Pq.Pr.rOf]
theorem yA:∀ {l:List Int} {js:List Jv} {f:Nat},Fits now f l js->∀ {n:Nat} {j':Jv},(dA c now l js)[n]?=some j'->∃j,js[n]?=some j/\(j'=j\/(n:Int)∈l/\j.st=1/\∃set,j'=dR now set j)
  | [],js,f,_,n,j',h=>⟨j',h,.inl rfl⟩
  | m::l,js,f,hf,n,j',h=>by
    obtain⟨h0,h1,j,h2,h3,_,_,_,h7⟩:=hf;have hf':=Au (n:=m.toNat) (g:=dR now (iC c js m.toNat)) h7 (by rw[JK h0];exact h1);have⟨k,hk,hk'⟩:=yA hf' (show (dA c now l (bX js m.toNat (dR now (iC c js m.toNat))))[n]?=some j' from h);grind[rY,lT]
theorem Bt:∀ {l:List Int} {js:List Jv} {f:Nat},Fits now f l js->∀ {n:Nat} {j':Jv},(n:Int)∈l->(dA c now l js)[n]?=some j'->j'.st=2
  | m::l,js,f,hf,n,j',hm,h=>by
    have hf0:=hf;obtain⟨h0,h1,j,h2,h3,_,_,_,h7⟩:=hf;have hf':=Au (n:=m.toNat) (g:=dR now (iC c js m.toNat)) h7 (by rw[JK h0];exact h1);have h':(dA c now l (bX js m.toNat (dR now (iC c js m.toNat))))[n]?=some j':=h;rcases lZ.1 hm with e | hm
    · have e':n=m.toNat:=ak
      subst e'
      rw[Bg (fun x hx he=>h1 (by have:=EC h7 x hx;grind)),rY h2]at h'
      cases h';rfl
    · exact Bt hf' hm h'
def anr (l:List Ac) (w:Int) (n:Nat):0<=mF l w n/\mF l w n<=9223372036854775808:=
  ⟨Int.natCast_nonneg _,by grind[DX,mF]⟩
def aep (v:Kept s):(eX s).Pairwise fun a b=>∀j k,s.js[a.job.toNat]?=some j->s.js[b.job.toNat]?=some k->j.sb<=k.sb+dU s.cf:=by
  unfold eX;rw[yZ];have hm:∀r∈f_ s,∃(n:Nat) (j:Jv),s.js[n]?=some j/\yI s.js r.a=kG n j/\∃f,0<=f/\f<=9223372036854775808/\r.b=BQ s.cf s.now j.sb j.nd f:=fun r hr=>by
    have h:=hr;unfold f_ at h;have⟨i,b,h1,h2,h3⟩:=Er _ _ _ ((sQ _ _ _ _ _).mem_iff.1 h);rw[jI]at h1
    cases hj:s.js[i]? with
    | none=>grind
    | some j=>
      rw[hj]at h1
      cases h1;have hh:=v.ok.head hj;have hb:=anr s.la (wV s.la (Cc s.cf)) (Lv j).ac.toNat;refine⟨i,j,hj,?_,_,hb.1,hb.2,?_⟩
      · grind[yI]
      · rw[h3]
        exact N9 v.Ve ⟨hh.2.2.2.2.2.2.1,hh.2.2.2.2.2.2.2.1,v.ok.n1,hh.2.2.1,hh.2.2.2.1⟩ hb.2
  have hs:(f_ s).Pairwise (ZX QK Pr.a):=Hw ..;refine hs.imp_of_mem fun {a b} ha hb hab j k hj hk=>?_;have⟨n,j',h1,h2,f,f0,f1,h3⟩:=hm a ha;have⟨m,k',g1,g2,g,g0,g1',g3⟩:=hm b hb;rw[h2]at hj;rw[g2]at hk;have hj:s.js[n]?=some j:=hj;have hk:s.js[m]?=some k:=hk;rw[h1]at hj;rw[g1]at hk
  cases hj;cases hk
  have r:=v.rng;have hh:=v.ok.head h1;have hk:=v.ok.head g1;have hle:b.b<=a.b:=by grind[ZX,QK]
  refine vK fun hc=>?_;have h:=abv (low:=0) (high:=9223372036854775808) r (elder:=k.sb) (later:=j.sb) (n1:=k.nd) (n2:=j.nd) (now:=s.now) ⟨by omega,by omega,v.ok.n1,hk.2.2.1,hk.2.2.2.1⟩ ⟨by omega,by omega,v.ok.n1,hh.2.2.1,hh.2.2.2.1⟩ ak ak ak ak;have p1:=G_ (c:=s.cf) (now:=s.now) (sub:=j.sb) (n:=j.nd) r f1;have p2:=G_ (c:=s.cf) (now:=s.now) (sub:=k.sb) (n:=k.nd) r g0;omega
namespace Pq.Pr
def JE (now sh:Int):∀(l:List Wt) (s:Ps) (x:Int),∃f,(jC now sh s x l).st=s.st++f
  | [],s,x=>⟨[],by simp[jC]⟩
  | w::l,s,x=>by
    unfold jC;split
    · have⟨f,h⟩:=JE now sh l (sw now s w) x
      grind[sw]
    · split
      · have⟨f,h⟩:=JE now sh l (sw now s w) (x - w.nd)
        grind[sw]
      · exact JE now sh l s x
def Pt {now free ho:Int} {ws:List Wt} {rs:List Rn} (hc:Chk now free ws ho rs) {h0:Wt} (hm:h0∈ws) (hj:h0.job=ho) (hf:free<h0.nd):(jK now free ws ho rs).ho=ho/\Du now free rs h0.nd (jK now free ws ho rs).sh:=by
  have⟨e1,hp⟩:=Gq hc.un h0 noW hm hj;have hh:=hc.wt h0 hm;have⟨s,hs⟩:=Gn (now:=now) hc.rt (need:=h0.nd) ak hh.2.2.2.1;grind[jT,gD,jK,pnV,hdV,kQ,endP,atO,Du]
def ajP {now free ho:Int} {ws:List Wt} {rs:List Rn} (hc:Chk now free ws ho rs) (h1:(jK now free ws ho rs).ho≠ -1) (h2:(jK now free ws ho rs).ho≠ho):
    ∃a h b,gQ ho ws=a++h::b/\h.job=(jK now free ws ho rs).ho/\∀w∈a,w.job∈(jK now free ws ho rs).st:=by
  have hpos:∀w∈ws,1<=w.nd/\w.nd<=256:=fun w hw=>by have:=hc.wt w hw;omega
  have key:∀s0:Ps,Good now free rs s0->(pnV now free ws ho rs)=kQ now s0 noW (gQ ho ws)->∃a h b,gQ ho ws=a++h::b/\h.job=(jK now free ws ho rs).ho/\∀w∈a,w.job∈(jK now free ws ho rs).st:=fun s0 g0 e=>by
    obtain⟨r1,a,r2,r3,r4⟩:=Bj (gQ ho ws) s0 g0 (fun w hw=>hpos w (xJ.1 hw).1);unfold jK at h1 h2 ⊢;rw[e]at h1 h2 ⊢;unfold kQ at h1 h2 ⊢;rw[au (fun hh=>hh rfl)]at h1 h2 ⊢
    cases hb:(iZ now s0 (gQ ho ws)).2 with
    | nil=>rw[hb]at h1;exact absurd (by unfold endP;rw[aJ (show noW.job= -1 from rfl)]) h1
    | cons w b=>
      rw[hb]at h1 r2;simp only at h1 ⊢;have hw:=hc.wt w (xJ.1 (by rw[r2];simp:w∈gQ ho ws)).1;have hj:¬w.job= -1:=ak;refine⟨a,w,b,r2,?_,fun x hx=>?_⟩
      · unfold endP;rw[au hj]
      · unfold endP Gm
        rw[au hj,au hj]
        have⟨f,hf⟩:=JE now (atO (aX now (iZ now s0 (gQ ho ws)).1.fr (iZ now s0 (gQ ho ws)).1.rs w.nd)) b (iZ now s0 (gQ ho ws)).1 (exO w.nd (aX now (iZ now s0 (gQ ho ws)).1.fr (iZ now s0 (gQ ho ws)).1.rs w.nd))
        simp only[hf,r3]
        exact jH.2 ⟨x,by simp[hx],rfl⟩
  have hg0:Good now free rs ⟨free,rs,[]⟩:=ahQ (fP.1 hc.rt).1.1;by_cases hex:∃h0∈ws,h0.job=ho
  · obtain⟨h0,hm,hj⟩:=hex
    by_cases hf:h0.nd<=free
    · have⟨e1,hp⟩:=Gq hc.un h0 noW hm hj
      have hnj:h0.job≠ -1:=by have:=hc.wt h0 hm;omega
      have e2:gD now ⟨free,rs,[]⟩ h0=(sw now ⟨free,rs,[]⟩ h0,noW):=aJ ⟨hnj,hf⟩
      exact key _ (sD hg0 (w:=h0) hf (hpos h0 hm)) (by unfold pnV hdV;rw[e1,e2])
    · exact absurd (Pt hc hm hj ak).1 h2
  · have hn:∀w∈ws,w.job≠ho:=fun w hw e=>hex ⟨w,hw,e⟩
    have e2:gD now ⟨free,rs,[]⟩ noW=(⟨free,rs,[]⟩,noW):=au (fun hh=>hh.1 rfl)
    exact key _ hg0 (by unfold pnV hdV;rw[Gp ws noW hn,e2])
end Pq.Pr
def GN (h:u<=t):∀ {js:List Jv},(∀j∈js,0<=j.nd)->dV t js<=dV u js
  | [],_=>kL _
  | j::js,hn=>by
    have:=GN h (js:=js) (fun x hx=>hn x (ny _ hx));grind[dV,bz]
def GQ:∀ {js:List Jv},(∀j∈js,j.st=2->j.sr+j.lm<=u)->dV u js=0
  | [],_=>rfl
  | j::js,h=>by
    have:=GQ (js:=js) (fun x hx=>h x (ny _ hx));grind[dV,bz]
def Kept.nds (v:Kept s):∀j∈s.js,0<=j.nd:=fun j hj=>by
  have⟨n,hn⟩:=kS hj;have:=v.ok.head hn;omega
def aer (v:Kept s) (ha:I5 s) (h:(fq s).js[n]?=some j'):∃j,s.js[n]?=some j/\(j'=j\/j.st=1/\∃set,j'=dR s.now set j):=by
  grind[fq,yA,Kept.fits]
def Pv (v:Kept s) (ha:I5 s) (h0:gU s.js≠0):
    ((fq s).hd= -1/\∀(n:Nat) (j:Jv),(fq s).js[n]?=some j->j.st≠1)\/
    ∃(n:Nat) (h:Jv) (T:Int),(fq s).hd=n/\s.js[n]?=some h/\(fq s).js[n]?=some h/\h.st=1/\s.now<T/\T<=s.now+s.cf.limit/\
      (∀u,s.now<=u->(h.nd<=s.cf.nodes - dV u (fq s).js↔T<=u))/\
      ((s.hd=n/\∀u,s.now<=u->h.nd<=s.cf.nodes - dV u s.js->T<=u)\/
       (s.hd≠n/\∀(m:Nat) (k:Jv),(fq s).js[m]?=some k->k.st=1->h.sb<=k.sb+dU s.cf)):=by
  have vp:=Vo v ha;have hc:=v.Vn;have hfits:=v.fits ha;have⟨st,Y,hw⟩:=Pq.Pr.xZ hc;have e:fq s={s with js:=dA s.cf s.now (bQ s).st s.js,hd:=(bQ s).ho}:=au h0;have hst:(bQ s).st=st.map Pq.Pr.Wt.job:=hw.sts;have hmem:∀w∈st,w∈eX s:=fun w h=>by have⟨i,hi⟩:=kS h;exact JX (hw.each i w hi).1
  have hnd:(st.map Pq.Pr.Wt.job).Nodup:=by
    have:∀ {l:List Int} {f:Nat} {js:List Jv},Fits s.now f l js->l.Nodup:=by
      intro l;induction l with
      | nil=>intro _ _ _;exact List.nodup_nil
      | cons n l ih=>intro f js hf;obtain⟨_,h1,_,_,_,_,_,_,h7⟩:=hf;exact NC.2 ⟨h1,ih h7⟩
    rw[← hst];exact this hfits
  have hbu:∀u,s.cf.nodes - dV u (fq s).js=Pq.Pr.pQ (dz s - Pq.Pr.o9 st) (bT s.js++st.map (Pq.Pr.rOf s.now)) u:=fun u=>by
    have h1:=II (c:=s.cf) (now:=s.now) (u:=u) (st:=st) (js:=s.js) (fun w hx=>by
      have⟨n,j,hj,h1,h2⟩:=um (hmem w hx)
      exact⟨n,j,hj,h1,h2⟩) hnd
    have h2:=Fg s.cf.nodes u s.js;rw[Pq.Pr.pR]at h2 ⊢;rw[Pq.Pr.QT,e];show s.cf.nodes - dV u (dA s.cf s.now (bQ s).st s.js)=_;rw[hst,h1];unfold dz;omega
  have hpe:∀(n:Nat) (j:Jv),(fq s).js[n]?=some j->j.st=1->s.js[n]?=some j/\(n:Int)∉(bQ s).st:=fun n j hj h1=>by
    rw[e]at hj;have hj:(dA s.cf s.now (bQ s).st s.js)[n]?=some j:=hj;refine⟨?_,fun hx=>by have:=Bt hfits hx hj;omega⟩;have⟨k,hk,hk'⟩:=yA hfits hj;rcases hk' with rfl | ⟨hx,_⟩
    · exact hk
    · have:=Bt hfits hx hj;omega
  by_cases hho:(bQ s).ho<0
  · refine .inl ⟨?_,fun n j hj h1=>?_⟩
    · rw[e];exact(hw.over hho).1
    · have⟨hj',hx⟩:=hpe n j hj h1
      have hwi:=v.yh hj' h1
      have⟨pre,f,rest,h,Y,s',hd⟩:=Pq.Pr.OU hc
      obtain⟨_,_,hf,hp⟩:=hd.over (by rw[← hd.hh];exact(hw.over hho).1)
      refine hx ?_
      show (n:Int)∈(Pq.Pr.jK s.now (dz s) (eX s) s.hd (bT s.js)).st
      rw[hd.st,hd.ps,hf,vW]
      exact jH.2 ⟨_,hp.mem_iff.2 hwi,rfl⟩
  · obtain⟨h,hf,h1,h2,_⟩:=hw.hold (by show 0<=(bQ s).ho;omega)
    obtain⟨n,j,hj,hj1,rfl⟩:=um (JX hf)
    have hn:((n:Nat):Int)=(bQ s).ho:=jY (List.find?_some (p:=fun w:Pq.Pr.Wt=>decide (w.job=(bQ s).ho)) hf)
    obtain⟨⟨i1,i2,i3⟩,_⟩:=Pq.Pr.jT h2
    simp only at i1 i2 i3
    have hj':(fq s).js[n]?=some j:=by
      rw[e]
      show (dA s.cf s.now (bQ s).st s.js)[n]?=some j
      rw[Bg fun x hx=>?_,hj]
      have hx0:=EC hfits x hx
      rw[hst]at hx
      obtain⟨w,hw1,rfl⟩:=jH.1 hx
      have⟨i,hi⟩:=kS hw1
      have:=(hw.each i w hi).2.2.1
      have e2:(bQ s).ho=(Pq.Pr.jK s.now (dz s) (eX s) s.hd (bT s.js)).ho:=rfl
      omega
    have hiff:∀u,s.now<=u->(j.nd<=s.cf.nodes - dV u (fq s).js↔(bQ s).sh<=u):=fun u hu=>by
      constructor
      · intro hh
        refine vK fun hc=>?_
        have:=i3 u hu (by show u<(bQ s).sh;omega)
        rw[← hbu]at this
        have:s.cf.nodes - dV u (fq s).js<j.nd:=this
        omega
      · intro hh
        have h3:=GN hh vp.nds
        have h4:j.nd<=Pq.Pr.pQ (dz s - Pq.Pr.o9 st) (bT s.js++st.map (Pq.Pr.rOf s.now)) (bQ s).sh:=i2
        rw[← hbu]at h4
        omega
    have aqV:(fq s).now=s.now/\(fq s).cf=s.cf:=by rw[e];exact⟨rfl,rfl⟩
    have hrun:∀k∈(fq s).js,k.st=2->s.now<k.sr+k.lm/\k.sr+k.lm<=s.now+s.cf.limit:=fun k hk h2=>by
      have⟨m,hm⟩:=kS hk
      have h3:=vp.ok.run hm h2
      have h4:=vp.ok.head hm
      rw[aqV.1]at h3
      rw[aqV.2]at h4
      omega
    have hh:=v.ok.head hj
    refine .inr ⟨n,j,(bQ s).sh,by rw[e];exact hn.symm,hj,hj',hj1,?_,?_,hiff,?_⟩
    · refine vK fun hcc=>?_
      have h3:(bQ s).sh=s.now:=by have:s.now<=(bQ s).sh:=i1;omega
      have h4:=(hiff s.now (kL _)).2 ak
      have h5:=hbu s.now
      rw[Pq.Pr.pR,Pq.Pr.Ju]at h5
      · have:dz s - Pq.Pr.o9 st<j.nd:=h1
        omega
      · intro r hr
        rcases pX.1 hr with hr | hr
        · exact(hc.re r hr).1
        · obtain⟨w,hw1,rfl⟩:=jH.1 hr
          have:=hw.pos w hw1
          show s.now<s.now+w.lm
          omega
    · refine(hiff _ (by have:=v.rng.l0;omega)).1 ?_
      rw[GQ fun k hk h2=>(hrun k hk h2).2]
      omega
    · by_cases hk:s.hd=n
      · refine .inl ⟨hk,fun u hu hle=>?_⟩
        have hnf:dz s<(kG n j).nd:=by
          refine vK fun hc=>?_
          have hwi:=v.yh hj hj1
          have⟨t,ht⟩:=(hw.old (kG n j) (by rw[hk];exact Pq.Pr.EF (w:=kG n j) (v.Vn).un hwi)).1 ak
          have h5:(n:Int)∈(bQ s).st:=by
            show (n:Int)∈(Pq.Pr.jK s.now (dz s) (eX s) s.hd (bT s.js)).st
            rw[ht,hk];exact pJ ..
          exact(hpe n j hj' hj1).2 h5
        obtain⟨_,_,_,g3⟩:=Pq.Pr.Pt hc (v.yh hj hj1) hk.symm hnf
        refine vK fun hc=>?_
        have h5:=g3 u hu (by show u<(bQ s).sh;omega)
        have h6:=Fg s.cf.nodes u s.js
        have h7:Pq.Pr.pQ (dz s) (bT s.js) u<j.nd:=h5
        unfold dz at h7
        omega
      · refine .inr ⟨hk,fun m k hm hk1=>?_⟩
        have⟨hm',hmx⟩:=hpe m k hm hk1
        have⟨a,w,b,hsp,hwj,hin⟩:=Pq.Pr.ajP hc (by show (bQ s).ho≠ -1;omega) (by show (bQ s).ho≠s.hd;omega)
        have hwj:w.job=(bQ s).ho:=hwj
        have hww:w∈eX s:=(xJ.1 (by rw[hsp];simp:w∈Pq.Pr.gQ s.hd (eX s))).1
        have hwe:w=kG n j:=Pq.Pr.OT hc.un hww (v.yh hj hj1) (by rw[hwj,<-hn];rfl)
        subst hwe
        have hlead:=v.rng
        have hl0:0<=dU s.cf:=by
          unfold dU iy
          exact uG (by have:=sW hlead.s0 (by have:=hlead.n0;omega:0<=s.cf.nodes);have:=hlead.f0;omega) (by have:=hlead.a0;omega)
        by_cases hmn:m=n
        · subst hmn;rw[hj]at hm';cases hm';omega
        have hmi:=v.yh hm' hk1
        have hmo:kG m k∈Pq.Pr.gQ s.hd (eX s):=by
          unfold Pq.Pr.gQ
          refine xJ.2 ⟨hmi,dS fun he=>?_⟩
          have he:(m:Int)=s.hd:=he
          have hfit:=(hw.old (kG m k) (by rw[← he];exact Pq.Pr.EF (w:=kG m k) hc.un hmi))
          by_cases hle:(kG m k).nd<=dz s
          · have⟨t,ht⟩:=hfit.1 hle
            refine hmx ?_
            show (m:Int)∈(Pq.Pr.jK s.now (dz s) (eX s) s.hd (bT s.js)).st
            rw[ht,he];exact pJ ..
          · have:=hfit.2 ak
            have:(bQ s).ho=s.hd:=this
            omega
        rw[hsp]at hmo
        have ant:=(PN (fun w=>decide (w.job≠s.hd)) (aep v))
        have ant:(Pq.Pr.gQ s.hd (eX s)).Pairwise _:=ant
        rw[hsp]at ant
        have hb:kG m k∈b:=by
          rcases pX.1 hmo with h3 | h3
          · exact absurd (hin _ h3) hmx
          · rcases lZ.1 h3 with h3 | h3
            · have:(m:Int)=(n:Int):=aP Pq.Pr.Wt.job h3
              omega
            · exact h3
        have:=(qH.1 (List.pairwise_append.1 ant).2.1).1 _ hb j k (by show s.js[((n:Nat):Int).toNat]?=_;rw[gJ];exact hj) (by show s.js[((m:Nat):Int).toNat]?=_;rw[gJ];exact hm')
        exact this
theorem ajQ (v:Kept s) (ha:I5 s) (h0:gU s.js≠0) (hne:s.hd≠(fq s).hd) (hh:0<=s.hd) {k:Jv} (hk:(fq s).js[s.hd.toNat]?=some k):k.st≠1:=fun h1=>by
  have⟨st,Y,hw⟩:=Pq.Pr.xZ v.Vn;have e:fq s={s with js:=dA s.cf s.now (bQ s).st s.js,hd:=(bQ s).ho}:=au h0;rw[e]at hk hne;have hk:(dA s.cf s.now (bQ s).st s.js)[s.hd.toNat]?=some k:=hk;have hne:s.hd≠(bQ s).ho:=hne;have⟨j,hj,hj'⟩:=yA (v.fits ha) hk;have hx:∀x:Int,x∈(bQ s).st->x=s.hd->False:=by grind[Bt,Kept.fits]
  have hj1:j.st=1:=by grind
  have hwi:=v.yh hj hj1;have hfit:=hw.old (kG s.hd.toNat j) (by
    have:=Pq.Pr.EF v.Vn.un hwi
    grind[kG])
  by_cases hle:(kG s.hd.toNat j).nd<=dz s
  · have⟨t,ht⟩:=hfit.1 hle
    refine hx s.hd ?_ rfl
    show s.hd∈(Pq.Pr.jK s.now (dz s) (eX s) s.hd (bT s.js)).st
    grind
  · exact hne (hfit.2 ak).symm
def elder (t:Int) (j:Jv):Int:=if j.st=1/\j.sb<=t then 1 else 0
def dN (t:Int):List Jv->Int
 | []=>0
 | j::l=>elder t j+dN t l
def Pw (t:Int) (j:Jv):0<=elder t j/\elder t j<=1:=by grind[elder]
def Px (t:Int):∀js,0<=dN t js
 | []=>kL _
 | j::l=>by have:=Px t l;grind[dN,elder]
def yB {t:Int} {j':Jv}:∀ {js:List Jv} {n:Nat} {j:Jv},js[n]?=some j->dN t (js.set n j')=dN t js - elder t j+elder t j'
 | x::js,0,j,h=>by grind[dN]
 | x::js,n+1,j,h=>by
  have:=yB (t:=t) (j':=j') (js:=js) (n:=n) (j:=j) (by grind);grind[dN]
def MO (t:Int):∀a b:List Jv,dN t (a++b)=dN t a+dN t b
 | [],b=>by simp[dN]
 | j::a,b=>by have:=MO t a b;grind[dN]
def IJ (t:Int):∀js:List Jv,dN t js<=(gU js:Int)
 | []=>by simp[dN,gU]
 | j::l=>by
  have:=IJ t l;grind[gU,dN,elder]
def GR:∀ {js IV:List Jv},IV.length=js.length->(∀(n:Nat) (j j':Jv),js[n]?=some j->IV[n]?=some j'->elder t j'<=elder t j)->dN t IV<=dN t js
 | [],[],_,_=>kL _
 | j::js,j'::IV,hl,h=>by
  have h1:=GR (js:=js) (IV:=IV) (by grind) (fun n a b ha hb=>h (n+1) a b (by grind) (by grind));have h2:=h 0 j j' rfl rfl;grind[dN]
def aes {js IV:List Jv} (hl:IV.length=js.length) (h:∀(n:Nat) (j j':Jv),js[n]?=some j->IV[n]?=some j'->elder t j'<=elder t j) (hj:js[n]?=some j) (hj':IV[n]?=some j') (hlt:elder t j'<elder t j):dN t IV+1<=dN t js:=by
 have h1:=yB (t:=t) (j':=j') hj;have h2:=GR (t:=t) (js:=js.set n j') (IV:=IV) (by grind) (fun m a b ha hb=>by
  grind)
 omega
def MP:∀ {js:List Jv} {n:Nat} {j:Jv},js[n]?=some j->j.st=1->j.sb<=t->1<=dN t js
 | x::js,0,j,h,h1,h2=>by have:=Px t js;grind[dN,elder]
 | x::js,n+1,j,h,h1,h2=>by
  have:=MP (js:=js) (n:=n) (j:=j) (by grind) h1 h2;have:=Pw t x;grind[dN]
structure Turn (s:Sv):Prop where
 v:Kept s
 done:∀(n:Nat) (j:Jv),s.js[n]?=some j->j.st≠1->j.st≠6->j.sr<=j.sb+bH s.cf
 wait:∃T,(s.hd≠ -1->s.now<T/\T<=s.now+s.cf.limit/\∃h,s.js[s.hd.toNat]?=some h/\h.nd<=s.cf.nodes - dV T s.js)/\
  ∀(n:Nat) (j:Jv),s.js[n]?=some j->j.st=1->j.sb+dU s.cf<s.now->
   (s.hd= -1->s.now+1+s.cf.limit*dN (j.sb+dU s.cf) s.js<=j.sb+bH s.cf)/\
   (s.hd≠ -1->(∃h,s.js[s.hd.toNat]?=some h/\h.sb<=j.sb+dU s.cf)/\T+s.cf.limit*(dN (j.sb+dU s.cf) s.js - 1)<=j.sb+bH s.cf)
def JF (r:nJ c):0<=dU c:=by
 unfold dU iy;exact uG (by have:=sW r.s0 (by have:=r.n0;omega:0<=c.nodes);have:=r.f0;omega) (by have:=r.a0;omega)
def MQ (r:nJ c):dU c+2<=bH c:=by
 unfold bH;have:=Cj r.q0 r.l0 ak (by have:=r.q0;omega);omega
def Turn.late (h:Turn s) (hj:s.js[n]?=some j) (h1:j.st=1):s.now<j.sb+bH s.cf:=by
 have r:=h.v.rng;have hl:=JF r;have hb:=MQ r;have⟨T,hT,hw⟩:=h.wait;by_cases hr:j.sb+dU s.cf<s.now
 ·have⟨w1,w2⟩:=hw n j hj h1 hr;have he:=MP (t:=j.sb+dU s.cf) hj h1 ak;by_cases hh:s.hd= -1
  ·have:=w1 hh;have:=sW (show 0<=s.cf.limit by have:=r.l0;omega) (show 0<=dN (j.sb+dU s.cf) s.js by omega);omega
  ·have:=(w2 hh).2;have:=hT hh;have:=sW (show 0<=s.cf.limit by have:=r.l0;omega) (show 0<=dN (j.sb+dU s.cf) s.js - 1 by omega);omega
 ·omega
theorem Kept.held (v:Kept s):s.hd= -1\/∃(n:Nat) (h:Jv),s.hd=n/\s.js[n]?=some h/\h.st=1:=by
 have:=v.ok.hold;grind[holdB]
theorem aeu {s s':Sv} (h:Turn s) (v':Kept s') (e1:s'.cf=s.cf) (e2:s'.now=s.now) (e3:s'.js=s.js) (e4:s'.hd=s.hd):Turn s':=by
 refine⟨v',?_,?_⟩
 ·rw[e1,e3];exact h.done
 ·rw[e1,e2,e3,e4];exact h.wait
theorem Py (h:Turn s) (hj:s.js[n]?=some j) (h2:j.st=2) {st:Int} (hst:st=3\/st=5) (v':Kept {s with js:=bX s.js n (fQ st s.now)}):Turn {s with js:=bX s.js n (fQ st s.now)}:=by
 have hbz:∀u,dV u (bX s.js n (fQ st s.now))<=dV u s.js:=fun u=>by have:=Br (u:=u) (f:=fQ st s.now) hj;have:=h.v.ok.head hj;grind[bz,fQ]
 have hel:∀t,dN t (bX s.js n (fQ st s.now))=dN t s.js:=fun t=>by unfold bX;rw[hj];have:=yB (t:=t) (j':=fQ st s.now j) hj;grind[elder,fQ]
 have hat:∀ {m:Nat} {k:Jv},(bX s.js n (fQ st s.now))[m]?=some k->k.st=1->s.js[m]?=some k:=by grind[bX,fQ]
 have hhd:∀ {m:Nat} {k:Jv},s.js[m]?=some k->k.st=1->(bX s.js n (fQ st s.now))[m]?=some k:=by grind[bX]
 have⟨T,hT,hw⟩:=h.wait;refine⟨v',fun m k hm h1 h6=>?_,T,fun hh=>?_,fun m k hm h1 hr=>?_⟩
 ·by_cases e:m=n
  ·subst e;rw[show ({s with js:=bX s.js m (fQ st s.now)}:Sv).js[m]?=_ from rY hj]at hm
   cases hm;exact h.done m j hj ak ak
  ·rw[show ({s with js:=bX s.js n (fQ st s.now)}:Sv).js[m]?=_ from lT e]at hm;exact h.done m k hm h1 h6
 ·have⟨t1,t2,x,t3,t4⟩:=hT hh;exact Xf
 ·have⟨w1,w2⟩:=hw m k (hat hm h1) h1 hr;refine⟨fun hh=>?_,fun hh=>?_⟩
  ·grind
  ·have⟨⟨x,t3,t4⟩,w3⟩:=w2 hh;exact Xf
theorem aev (h:Turn s) (hj:s.js[n]?=some j) (h1:j.st=1) (v':Kept (EK s n).1):Turn (EK s n).1:=by
 have hbz:∀u,dV u (bX s.js n (fQ 6 s.now))=dV u s.js:=fun u=>by have:=Br (u:=u) (f:=fQ 6 s.now) hj;grind[bz,fQ]
 have hel:∀t,dN t (bX s.js n (fQ 6 s.now))=dN t s.js - elder t j:=fun t=>by unfold bX;rw[hj];have:=yB (t:=t) (j':=fQ 6 s.now j) hj;grind[elder,fQ]
 have hat:∀ {m:Nat} {k:Jv},(bX s.js n (fQ 6 s.now))[m]?=some k->k.st=1->m≠n/\s.js[m]?=some k:=by grind[bX,fQ]
 have r:=h.v.rng;have hl0:=r.l0;have⟨T,hT,hw⟩:=h.wait;refine⟨v',fun m k hm h1' h6=>?_,T,fun hh=>?_,fun m k hm hk hr=>?_⟩
 ·have hm:(bX s.js n (fQ 6 s.now))[m]?=some k:=hm;by_cases e:m=n
  ·grind[rY,fQ]
  ·rw[lT e]at hm;exact h.done m k hm h1' h6
 ·have hh':(if s.hd=n then -1 else s.hd)≠ -1:=hh;by_cases e:s.hd=n
  ·omega
  rw[au e]at hh';have⟨t1,t2,x,t3,t4⟩:=hT hh';have⟨q,y,g1,g2,g3⟩:=(h.v.held).resolve_left hh';grind[gJ,bX,EK]
 ·have⟨hne,hm⟩:=hat hm hk;have⟨w1,w2⟩:=hw m k hm hk hr;have hx:=Pw (k.sb+dU s.cf) j;have hmu:=sZ (show dN (k.sb+dU s.cf) s.js - elder (k.sb+dU s.cf) j<=dN (k.sb+dU s.cf) s.js by omega) (show 0<=s.cf.limit by omega);have aIj:=sZ (show dN (k.sb+dU s.cf) s.js - elder (k.sb+dU s.cf) j - 1<=dN (k.sb+dU s.cf) s.js - 1 by omega) (show 0<=s.cf.limit by omega);refine⟨fun hh=>?_,fun hh=>?_⟩
  ·grind[bX,fQ,elder,EK]
  ·have hh':(if s.hd=n then -1 else s.hd)≠ -1:=hh;by_cases e:s.hd=n
   ·omega
   rw[au e]at hh';have⟨⟨x,t3,t4⟩,w3⟩:=w2 hh';have⟨q,y,g1,g2,g3⟩:=(h.v.held).resolve_left hh';rw[g1,gJ,g2]at t3;grind[bX,Int.toNat,EK]
theorem ajR (h:Turn s) {x:Jv} (hx:x.st=1/\x.sb=s.now) (v':Kept {s with js:=s.js++ [x]}):Turn {s with js:=s.js++ [x]}:=by
 have hl0:=JF h.v.rng;have hbz:∀u,dV u (s.js++ [x])=dV u s.js:=fun u=>by rw[MN];grind[dV,bz]
 have hel:∀t,t<s.now->dN t (s.js++ [x])=dN t s.js:=fun t ht=>by rw[MO];grind[dN,elder]
 have hat:∀ {m:Nat} {k:Jv},(s.js++ [x])[m]?=some k->s.js[m]?=some k\/k=x:=by grind
 have hhd:s.hd≠ -1->(s.js++ [x])[s.hd.toNat]?=s.js[s.hd.toNat]?:=fun hh=>by exact Xf
 have⟨T,hT,hw⟩:=h.wait;refine⟨v',fun m k hm h1' h6=>?_,T,fun hh=>?_,fun m k hm hk hr=>?_⟩
 ·rcases hat hm with hm | rfl
  ·exact h.done m k hm h1' h6
  omega
 ·grind
 grind
def Pz (v:Kept s) (hn:s.now+1<=1099511627776):∃a,Kept a/\I5 a/\a.cf=s.cf/\a.now=s.now+1/\a.js=s.js.map (rF (s.now+1))/\a.hd=s.hd/\iD s=fq a:=by
 obtain⟨f0,f1,f2,f3,_⟩:=wZ (kE s);grind[kE,Az,Ar,uY,Gs,I5,iD]
theorem PE {js IV:List Jv} (ejs:IV=js.map (rF (now+1))) (hj:IV[n]?=some j) (h1:j.st=1):js[n]?=some j:=by
 grind[Rb,rF,BD]
theorem GU {js IV:List Jv} (ejs:IV=js.map (rF (now+1))) (hu:now+1<=u):dV u IV=dV u js:=by
 grind[WC,rF,BD,bz,fQ]
def aew (h:Turn s) (hn:s.now+1<=1099511627776):Turn (iD s):=by
 have v':=uo h.v hn;have r:=h.v.rng;have hlim:=r.l0;have hlead:=JF r;have hbd:=MQ r;have hbe:bH s.cf=dU s.cf+1+s.cf.queue*s.cf.limit:=rfl;have⟨a,va,aa,ecf,asl,ejs,ehd,et⟩:=Pz h.v hn;rw[et]at v' ⊢;have epn:(fq a).now=s.now+1:=by grind[fq]
 have epc:(fq a).cf=s.cf:=by grind[fq]
 have hap:∀ {n:Nat} {j:Jv},a.js[n]?=some j->j.st=1->s.js[n]?=some j:=by grind[PE]
 have hbz:∀u,s.now+1<=u->dV u a.js=dV u s.js:=by grind[GU]
 have awR:∀ {n:Nat} {j:Jv},(fq a).js[n]?=some j->∃k,s.js[n]?=some k/\j.sb=k.sb/\(j.st=1->j=k)/\(j.st≠1->j.st≠6->(k.st≠1/\k.st≠6/\j.sr=k.sr)\/(k.st=1/\j.sr=s.now+1)):=fun {n j} hj=>by
  have⟨k,hk,hk'⟩:=aer va aa hj;have hk0:=hk;rw[ejs]at hk;have⟨m,hm,e⟩:=YC hk;have hs:k.sb=m.sb:=by grind[wT,Ed.sb]
  have h1:k.st=1↔m.st=1:=by grind[Rb]
  refine⟨m,hm,?_,fun h=>?_,fun h h6=>?_⟩
  ·grind[dR]
  ·grind[dR]
  ·rcases hk' with rfl | ⟨h2,set,rfl⟩
   ·refine .inl ⟨fun x=>h (h1.2 x),fun x=>h6 ?_,?_⟩
    ·grind[rF,BD]
    ·rw[e];unfold rF;split<;>rfl
   grind[dR]
 have hlen:(fq a).js.length=s.js.length:=by grind[fq,xY]
 have hmono:∀t,∀(n:Nat) (j j':Jv),s.js[n]?=some j->(fq a).js[n]?=some j'->elder t j'<=elder t j:=by grind[elder]
 have hel:=fun t=>GR hlen (hmono t);have hpq:∀t,dN t (fq a).js<=s.cf.queue:=fun t=>by have:=IJ t (fq a).js;have:=v'.ok.queue;grind
 have hmul:∀ {x y:Int},x<=y->s.cf.limit*x<=s.cf.limit*y:=fun h=>sZ h ak;have hqc:s.cf.limit*s.cf.queue=s.cf.queue*s.cf.limit:=by grind
 have hdone:∀(n:Nat) (j:Jv),(fq a).js[n]?=some j->j.st≠1->j.st≠6->j.sr<=j.sb+bH (fq a).cf:=fun n j hj h1 h6=>by
  obtain⟨k,hk,hs,_,hst⟩:=awR hj;rw[epc];rcases hst h1 h6 with⟨g1,g2,g3⟩ | ⟨g1,g2⟩
  ·have:=h.done n k hk g1 g2;omega
  ·have:=h.late hk g1;omega
 have⟨T,hT,hw⟩:=h.wait;by_cases h0:gU a.js=0
 ·have hnone:∀(n:Nat) (j:Jv),(fq a).js[n]?=some j->j.st≠1:=by grind[fq,List.filter_eq_nil_iff,gU]
  refine⟨v',hdone,0,fun hh=>?_,fun n j hj h1=>absurd h1 (hnone n j hj)⟩;grind[Kept.held]
 ·rcases Pv va aa h0 with⟨p1,p2⟩ | ⟨n,x,T',p1,p2,p3,p4,p5,p6,p7,p8⟩
  ·exact ⟨v',hdone,0,fun hh=>absurd p1 hh,fun n j hj h1=>absurd h1 (p2 n j hj)⟩
  ·rw[asl]at p5 p6 p7 p8;rw[ecf]at p6 p7 p8;have hx:=hap p2 p4;refine⟨v',hdone,?_⟩;rw[epn,epc,p1,gJ];have hne:((n:Nat):Int)≠ -1:=ak;refine⟨T',fun _=>⟨p5,p6,x,p3,(p7 T' ak).2 (kL _)⟩,fun m j hj h1 hr=>⟨fun hh=>absurd hh hne,fun _=>?_⟩⟩;obtain⟨k,hk,_,e1,_⟩:=awR hj;obtain rfl:=e1 h1;have⟨E,hE⟩:=aZ (dN (j.sb+dU s.cf) (fq a).js);have⟨D,hD⟩:=aZ (dN (j.sb+dU s.cf) s.js);have hED:E<=D:=(by grind);have hEq:E<=s.cf.queue:=(by grind);have m1:=hmul hEq;have m2:s.cf.limit*(E - 1)=s.cf.limit*E - s.cf.limit:=(by grind);have m3:s.cf.limit*(D - 1)=s.cf.limit*D - s.cf.limit:=(by grind);have m4:=hmul hED;have hxs:=(h.v.ok.head hx).2.2.2.2.2.2.2.1;rw[hE];rw[ehd]at p8;rcases p8 with⟨q1,q2⟩ | ⟨q1,q2⟩
   ·-- who held holds still
    grind[gJ]
   ·have q3:=q2 m j hj h1;refine⟨⟨_,p3,q3⟩,?_⟩;by_cases hr':j.sb+dU s.cf<s.now
    ·have⟨w1,w2⟩:=hw m j hk h1 hr';by_cases hh:s.hd= -1
     ·grind
     ·have⟨⟨y,t3,t6⟩,w3⟩:=w2 hh;have t1:=(hT hh).1;have⟨q,z,g1,g2,g3⟩:=(h.v.held).resolve_left hh;rw[g1,gJ,g2]at t3
      cases t3;have hlt:E+1<=D:=(by obtain⟨z',hz'⟩:∃z',(fq a).js[q]?=some z':=⟨_,aY (by grind)⟩;rw[← hE,<-hD];refine aes hlen (hmono _) g2 hz' ?_;have z1:z'.st≠1:=(by grind[ajQ,gJ]);grind[elder]);have m5:=hmul hlt;grind
    omega
theorem MR:∀(n:Nat) {s:Sv},Turn s->s.now+n<=1099511627776->Turn (iA n s)
 | 0,_,v,_=>v
 | n+1,s,v,h=>by
  unfold iA;exact MR n (aew v ak) (by grind[w_])
def anu (h:Turn s) (c:Cd):Turn (yS s c).1:=by
 have v':=Rm h.v c;unfold yS at v' ⊢;split
 ·omega
 rename_i hc;rw[au hc]at v';unfold doS at v' ⊢;by_cases h1:c.kind=1
 ·rw[aJ h1]at v' ⊢;unfold lU at v' ⊢;grind[ajR,EG]
 rw[au h1]at v' ⊢;by_cases h2:c.kind=2
 ·rw[aJ h2]at v' ⊢;unfold jU at v' ⊢;grind[oG,aev,Py,EI]
 rw[au h2]at v' ⊢;by_cases h3:c.kind=3
 ·rw[aJ h3]at v' ⊢;unfold iB at v' ⊢;grind[oG,Py,EI]
 grind[nQ,MR,nD,aeu,yc,Lx,Dv]
theorem WE:∀(n:Nat) (s:Sv),(iA n s).cf=s.cf/\(iA n s).now=s.now+n
 | 0,s=>⟨rfl,by grind[iA]⟩
 | n+1,s=>by
  unfold iA;have⟨h1,h2⟩:=WE n (iD s);grind[w_]
def apI (s:Sv) (c:Cd):(yS s c).1.cf=s.cf:=by
 unfold yS doS lU jU iB nQ nD yc Lx Dv EI EK;grind[WE]
def jk.small (k:jk s) (hj:s.js[n]?=some j):(-9223372036854775808<=j.sr/\j.sr<=9223372036854775807)/\0<=j.sr/\j.sr<=s.now:=by
 have h:=k.times hj;have hh:=k.head hj;have:=k.n1;grind[m_]
def MS (s:Sv):Int:=match s.js[s.hd.toNat]? with
 | none=>0
 | some h=>h.nd
def lY (s:Sv):Int:=if s.hd<0 then -1 else if MS s<=dz s then s.now else Pq.Pr.atO (Pq.Pr.aX s.now (dz s) (bT s.js) (MS s))
def ajS (v:Kept s):s.cf.nodes - dV s.now s.js=dz s:=by
 have h:=Fg s.cf.nodes s.now s.js;rw[Pq.Pr.pR,Pq.Pr.Ju (fun r hr=>(v.Vn.re r hr).1)]at h;unfold dz;omega
def DK (v:Kept s) {h:Jv} (h0:0<=s.hd) (hj:s.js[s.hd.toNat]?=some h):
  s.now<=lY s/\h.nd<=s.cf.nodes - dV (lY s) s.js/\(∀u,s.now<=u->h.nd<=s.cf.nodes - dV u s.js->lY s<=u)/\(dz s<h.nd->∃t,Pq.Pr.aX s.now (dz s) (bT s.js) h.nd=some t/\t.at_=lY s):=by
 have hn:MS s=h.nd:=by unfold MS;rw[hj]
 have hb:=ajS v;unfold lY;rw[au ak,hn];by_cases hf:h.nd<=dz s
 ·rw[aJ hf];exact⟨kL _,by omega,fun u hu _=>hu,fun h=>by omega⟩
 ·rw[au hf];have hh:=v.ok.head hj;have⟨t,ht⟩:=Pq.Pr.Gn (now:=s.now) v.right (need:=h.nd) ak (by
   have:dz s+Pq.Pr.fG (bT s.js)=s.cf.nodes:=by unfold dz;omega
   omega)
  obtain⟨⟨i1,i2,i3⟩,_⟩:=Pq.Pr.jT ht;have e:∀u,Pq.Pr.pQ (dz s) (bT s.js) u=s.cf.nodes - dV u s.js:=fun u=>Fg s.cf.nodes u s.js;rw[ht];rw[e]at i2;refine⟨i1,i2,fun u hu hle=>?_,fun _=>⟨t,rfl,rfl⟩⟩;show t.at_<=u;refine vK fun hc=>?_;have:=i3 u hu ak;rw[e]at this;omega
def anv (v:Kept s) {h:Jv} (h0:0<=s.hd) (hj:s.js[s.hd.toNat]?=some h):lY s<=s.now+s.cf.limit:=by
 have hh:=v.ok.head hj;refine(DK v h0 hj).2.2.1 _ ak ?_;rw[GQ fun k hk h2=>?_]
 ·omega
 ·have⟨m,hm⟩:=kS hk;have:=v.ok.run hm h2;have:=v.ok.head hm;omega
theorem aex (v:Kept s) (hn:s.now+1<=1099511627776) (h0:0<=(iD s).hd):(iD s).now<lY (iD s)/\((iD s).hd=s.hd->lY (iD s)<=lY s):=by
 have v':=uo v hn;have⟨A,va,aa,ecf,asl,ejs,ehd,et⟩:=Pz v hn;have epn:=(w_ s).1;have epc:=(w_ s).2;rw[et]at v' h0 epn epc ⊢;have⟨q,x,g1,g2,g3⟩:=(v'.held).resolve_left ak;by_cases hp:gU A.js=0
 ·grind[fq,List.filter_eq_nil_iff,gU]
 ·rcases Pv va aa hp with⟨p1,p2⟩ | ⟨n,y,T,p1,p2,p3,p4,p5,p6,p7,p8⟩
  ·omega
  ·rw[asl]at p5 p6 p7 p8;rw[ecf]at p6 p7 p8;obtain⟨n1,n2,n3,_⟩:=DK v' (h:=y) h0 (by grind);rw[epn]at n1 n3 ⊢;rw[epc]at n2 n3;have e1:lY (fq A)=T:=(by have a1:=n3 T ak ((p7 T ak).2 (kL _));grind);rw[e1,p1];refine⟨p5,fun hh=>?_⟩;have hy:=PE ejs p2 p4;obtain⟨m1,m2,m3,_⟩:=DK v (h:=y) ak (by grind);rcases p8 with⟨q1,q2⟩ | ⟨q1,_⟩
   ·refine vK fun hc=>?_;by_cases hle:s.now+1<=lY s
    ·have:=q2 _ hle (by grind[GU]);omega
    ·have:=q2 (s.now+1) (kL _) (by rw[GU ejs (kL _)];have:=GN (u:=lY s) (t:=s.now+1) ak v.nds;omega)
     omega
   omega
theorem asn {s s':Sv} (e1:s'.cf=s.cf) (e2:s'.now=s.now) (e3:s'.js=s.js) (e4:s'.hd=s.hd):lY s'=lY s:=by
 grind[lY,MS,dz]
def ajT {s s':Sv} (v:Kept s) (v':Kept s') (e1:s'.cf=s.cf) (e2:s'.now=s.now) (hb:∀u,dV u s'.js<=dV u s.js) (hh:s'.hd=s.hd) (h0:0<=s.hd) {h:Jv} (hj:s.js[s.hd.toNat]?=some h) (hj':s'.js[s.hd.toNat]?=some h):lY s'<=lY s:=by
 obtain⟨a1,a2,a3,_⟩:=DK v h0 hj;obtain⟨b1,b2,b3,_⟩:=DK v' (h:=h) ak (by grind);grind
def ajU (v:Kept s) (c:Cd) (hc:c.kind=4->c.tk=1\/¬(1<=c.tk/\c.tk<=256)) (h0:0<=(yS s c).1.hd):
  ((yS s c).1.hd=s.hd->lY (yS s c).1<=lY s)/\(c.kind=4->(yS s c).2.code=0->(yS s c).1.now<lY (yS s c).1):=by
 have v':=Rm v c;have stay:∀ {s':Sv},s'=s->(s'.hd=s.hd->lY s'<=lY s):=by grind
 unfold yS at v' h0 ⊢;split
 ·grind[coded]
 rename_i hch;rw[au hch]at v' h0;unfold doS at v' h0 ⊢;by_cases h1:c.kind=1
 ·rw[aJ h1]at v' h0 ⊢;refine⟨?_,fun h=>by omega⟩;unfold lU at v' h0 ⊢;split
  ·grind
  ·rename_i n hf;rw[hf]at v' h0;simp only at v' h0 ⊢;split
   ·grind
   ·rename_i hn;rw[au hn]at v' h0;split
    ·grind
    ·rename_i hr;rw[au hr]at v' h0;intro hh;have⟨q,x,g1,g2,g3⟩:=(v.held).resolve_left ak;refine ajT v v' rfl rfl (fun u=>?_) rfl h0 (by rw[g1,gJ];omega) (by
      grind)
     show dV u (s.js++ [EG s n c])<=_;rw[MN];simp[dV,bz,EG]
 rw[au h1]at v' h0 ⊢;have ends:∀ {n:Nat} {j:Jv} {st hd':Int} (hj:s.js[n]?=some j) (hst:st≠2),Kept {s with js:=bX s.js n (fQ st s.now),hd:=hd'}->(hd'=s.hd->(n:Int)≠s.hd)->0<=hd'->(hd'=s.hd->lY {s with js:=bX s.js n (fQ st s.now),hd:=hd'}<=lY s):=fun {n j st hd'} hj hst v' hne h0 hh=>by
  subst hh;have⟨q,x,g1,g2,g3⟩:=(v.held).resolve_left ak;refine ajT v v' rfl rfl (fun u=>?_) rfl h0 (by rw[g1,gJ];omega) (by
   grind[bX])
  show dV u (bX s.js n (fQ st s.now))<=_;rw[Br hj];have e:bz u (fQ st s.now j)=0:=by grind[bz,fQ]
  have:=v.ok.head hj;grind[bz]
 have run:∀ {n:Nat} {j:Jv},s.js[n]?=some j->j.st=2->0<=s.hd->(n:Int)≠s.hd:=by grind[Kept.held]
 by_cases h2:c.kind=2
 ·rw[aJ h2]at v' h0 ⊢;refine⟨?_,fun h=>by omega⟩;unfold jU at v' h0 ⊢;grind[oG,EK,EI]
 rw[au h2]at v' h0 ⊢;by_cases h3:c.kind=3
 ·rw[aJ h3]at v' h0 ⊢;refine⟨?_,fun h=>by omega⟩;unfold iB at v' h0 ⊢;grind[oG,EI]
 rw[au h3]at v' h0 ⊢;by_cases h4:c.kind=4
 ·rw[aJ h4]at h0 ⊢;unfold nQ at h0 ⊢;by_cases g1:¬(1<=c.tk/\c.tk<=256)
  ·grind[coded]
  rw[au g1]at h0 ⊢;by_cases g2:1099511627776<s.now+c.tk
  ·grind[coded]
  rw[au g2]at h0 ⊢;have e1:c.tk=1:=ak;rw[e1]at h0 g2 ⊢;grind[aex,iA]
 grind[nD,asn,yc,Lx,Dv]
end
end Go.Proofs.YtdhifkbbjlhcaaaGreatDoor
