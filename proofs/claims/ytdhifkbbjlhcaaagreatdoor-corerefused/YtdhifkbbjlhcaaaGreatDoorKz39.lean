import Derived.Test.YtdhifkbbjlhcaaaGreatDoorKz34
import Derived.Test.YtdhifkbbjlhcaaaGreatDoorKz38
set_option maxRecDepth 100000
set_option maxHeartbeats 4000000
set_option linter.defProp false
namespace Go.Proofs.YtdhifkbbjlhcaaaGreatDoor
open Go.Proofs.Tryz
namespace A3
open Go.RowKit Go.Shelf Ag
attribute [local go_sem] Oper.semAt_some
structure LY (B0 B:Nat) (v:Value) (xs:List Pq.Pr.Rn) (W:ay):Prop where
 blk:W.heap[B0]?=some (.cells #[v] 75 (0,0))
 row:W.ownsRow B 108 2 v xs.length (Pq.fJ xs)
 lo:B0<B
 hi:B<=W.heap.size
theorem xu (xs ys:List Pq.Pr.Rn):Pq.fJ (xs++ys)=Pq.fJ xs++Pq.fJ ys:=by
 induction xs with
 | nil=>rfl
 | cons x xs ih=>simp[Pq.fJ,ih]
section
variable {B0 B:Nat} {v v':Value} {xs:List Pq.Pr.Rn} {W w1:ay} {K:Nat->Prop}
theorem LY.kept (h:LY B0 B v xs W) (c:aH K W w1) (h0:¬K B0) (hv:∀k,v.ownBlock=some k->¬K k):LY B0 B v xs w1:=by
 have hlt:=(aS.1 h.blk).1;refine⟨(c.block B0 hlt h0).trans h.blk,row_of h.row (fun k hk=>?_),h.lo,bM h.hi c.size⟩;have⟨cs,hcs⟩:=iG h.row k hk;grind[aH.block]
def LY.owned {Bq:Nat} (hq:B0<Bq) (h:LY B0 B v xs W) {row:Option Nat} (hg:W.grownBy w1 row) (hr:∀r,row=some r->Bq<=r/\∃o:Obj,W.heap[r]?=some o/\o.isCells=false):LY B0 B v xs w1:=by
 have hlt:=(aS.1 h.blk).1;refine⟨(hg.block B0 hlt (fun e=>by grind)).trans h.blk,row_of h.row (fun k hk=>?_),h.lo,bM h.hi hg.size⟩;have⟨cs,hcs⟩:=iG h.row k hk;refine hg.block k (aS.1 hcs).1 (fun e=>?_);obtain⟨_,o,ho,hc⟩:=hr k e.symm;rw[hcs]at ho;injection ho with ho;subst ho
 cases hc
def LY.app (h:LY B0 B v xs W) {o:Obj} {x:Pq.Pr.Rn} (hrow:w1.ownsRow B 108 2 v' (xs.length+1) (Pq.fJ xs++ [J x.nd,J x.en])) (hg:(W.alloc o).grownBy w1 v.ownBlock):
  LY B0 B v' (xs++ [x]) (w1.setCell ⟨B0,0,none⟩ v')/\KeepsFrom B W (w1.setCell ⟨B0,0,none⟩ v')/\aH (fun k=>k=B0\/B<=k) W (w1.setCell ⟨B0,0,none⟩ v')/\w1.cell? ⟨B0,0,none⟩=some v/\w1.frozen? ⟨B0,0,none⟩=false:=by
 have hlt:=(aS.1 h.blk).1;have hvB:∀k,v.ownBlock=some k->B<=k:=fun k hk=>(h.row.lt k hk).1;have hz:(W.alloc o).heap.size=W.heap.size+1:=by simp_all
 have b0:=(hg.block B0 ak (fun e=>by have:=hvB B0 e.symm;have:=h.lo;omega)).trans ((iM _ _ _ hlt).trans h.blk)
 have b1:=bS w1 B0 0 _ 75 v' b0;have hs:=hg.size;have hlo:=h.lo;have hhi:=h.hi;have c1:aH (fun k=>k=B0\/B<=k) W w1:=((aH.refl _ W).alloc o).trans (K':=fun k=>v.ownBlock=some k) (aH.uP hg (fun k e=>.inl e)) (fun k _ e=>.inr (hvB k e));refine⟨⟨b1,?_,hlo,by grind[vV]⟩,⟨by grind[vV],fun k o' hk hb hc=>?_⟩,c1.setCell _ _ (.inl (.inl rfl)),aj b0 rfl,aD b0⟩
 ·grind[xu,row_of,gy,mV,Pq.fJ]
 ·have hkl:=(aS.1 hb).1;rw[gy _ _ _ _ (by grind)];refine(hg.block k ak (fun e=>?_)).trans ((iM _ _ _ hkl).trans hb);have⟨cs,hcs⟩:=iG h.row k e.symm;exact Xg
end
def rH (f:En->Int) (L:List En):List Pq.Pr.Rn:=L.map fun e=>⟨f e,e.tm⟩
def aiC (f:En->Int) (L:List En) (k:Nat) (e:En) (h:L[k]?=some e):rH f (L.take (k+1))=rH f (L.take k)++ [⟨f e,e.tm⟩]:=by
 grind[kT,rH]
structure RrT (w:ay) (x:Nat) (f:En->Int) (L:List En) (B k:Nat) (W:ay):Prop where
 col:∃v1,LY (w.heap.size+1) B v1 (rH f (L.take k)) W
 box:W.cell? ⟨w.heap.size,0,none⟩=some (.pointer (some ⟨x,0,none⟩))
 dQ:Z w W
 lo:w.heap.size+5<=B
section
variable {w W W':ay} {x:Nat} {f:En->Int} {L:List En} {B k:Nat}
theorem RrT.below (h:RrT w x f L B k W) (b:Z W W'):RrT w x f L B k W':=
 ⟨h.col.elim fun v1 h=>⟨v1,h.kept (aH.of_below b (fun _=>False)) (fun h=>h) (fun _ _ h=>h)⟩,(aH.of_below b (fun _=>False)).cell h.box (fun h=>h),h.dQ.trans (b.mono h.dQ.size),h.lo⟩
def RrT.mh (h:RrT w x f L B k W) {l:Nat} (hl:w.heap.size+3<=l) {r:Loop} (hr:W.heap[l]?=some (.loop r)) (o':Obj):RrT w x f L B k (W.putObj l o'):=
 ⟨h.col.elim fun v1 h=>⟨v1,h.owned (Bq:=w.heap.size+3) ak (xq W l o') (fun k e=>by cases e;exact⟨hl,_,hr,rfl⟩)⟩,(xq W l o').cell h.box (fun e=>by grind),h.dQ.grown (xq W l o') h.dQ.size (fun k e=>by grind),h.lo⟩
end
structure RrS (w:ay) (x g n cap:Nat) (v1:Value) (o:Nat) (nd:Int) (W:ay):Prop where
 mI:W.cell? ⟨w.heap.size+1,0,none⟩=some v1
 box:W.cell? ⟨w.heap.size,0,none⟩=some (.pointer (some ⟨x,0,none⟩))
 jobs:W.cell? ⟨x,11,none⟩=some (.slice (some ⟨g,0,none⟩) n cap)
 nd:W.cell? ⟨g,o,none⟩=some (J nd)
def aiD {w:ay} {x a m g n cap:Nat} {ao:Option Addr} {L:List En} {f:En->Int} (hx:w.cell? ⟨x,14,none⟩=some (.pointer (some ⟨a,0,none⟩))) (hj:L≠ []->w.cell? ⟨x,11,none⟩=some (.slice (some ⟨g,0,none⟩) n cap)) (hnd:∀e∈L,∃q:Nat,e.id=q/\q<n/\w.cell? ⟨g,q*8+1,none⟩=some (J (f e)))
  (r:r_ 198 239 w a m ao L) (hlen:L.length<=1000000):
  Calls prog 159 #[.pointer (some ⟨x,0,none⟩)] w fun e w'=>∃v,e=.returned v/\w'.ownsRow w.heap.size 108 2 v L.length (Pq.fJ (rH f L))/\Z w w':=by
 refine(mg (n:=3)).1 ?_;refine JV func159 rfl trivial ?_ rfl;simp only[ntmps159,vD,dK,jh,Nat.reduceAdd,Nat.reduceSub,vE,vF,vG,vH,pY,mP];have hx1:((w.alloc (.cells #[.pointer (some ⟨x,0,none⟩)] 26)).alloc (.cells #[.slice none 0 0] 75)).cell? ⟨x,14,none⟩=some (.pointer (some ⟨a,0,none⟩)):=bK (bK hx _) _;have hx2:((w.alloc (.cells #[.pointer (some ⟨x,0,none⟩)] 26)).alloc (.cells #[.slice none 0 0] 75)).cell? ⟨w.heap.size,0,none⟩=some (.pointer (some ⟨x,0,none⟩)):=bK (iQ w rfl) _
 gi_wp2_with (first
  | (refine ⟨trivial,?_⟩;gi_at_call 200;refine(mg.2 (allI a _)).mono ?_;rintro e w1 ⟨rfl,rfl⟩))
 have⟨w4,hw4⟩:=aZ (((w.alloc (.cells #[.pointer (some ⟨x,0,none⟩)] 26)).alloc (.cells #[.slice none 0 0] 75)).alloc (.cells #[.pointer (some ⟨a,0,none⟩)] 97));have sz:w4.heap.size=w.heap.size+3:=by rw[← hw4];simp
 have b4:Z w w4:=by rw[← hw4];exact(((aI _ w).alloc (aC _) _).alloc dF _).alloc fE _
 obtain⟨y0,y1,y3⟩:w4.cell? ⟨w.heap.size,0,none⟩=some (.pointer (some ⟨x,0,none⟩))/\w4.heap[w.heap.size+1]?=some (.cells #[.slice none 0 0] 75 (0,0))/\w4.cell? ⟨w.heap.size+1+1,0,none⟩=some (.pointer (some ⟨a,0,none⟩)):=by
  rw[← hw4];refine⟨bK hx2 _,?_,?_⟩
  ·have:=aK (w.alloc (.cells #[.pointer (some ⟨x,0,none⟩)] 26)) (.cells #[.slice none 0 0] 75);rw[iI]at this;exact(iM _ _ _ dF).trans this
  ·have:=iQ ((w.alloc (.cells #[.pointer (some ⟨x,0,none⟩)] 26)).alloc (.cells #[.slice none 0 0] 75)) (cs:= #[.pointer (some ⟨a,0,none⟩)]) (t:=97) (k:=0) rfl;rwa [iI,iI]at this
 rw[hw4];clear hw4 hx1 hx2;have r4:=r.below b4;have⟨i0,hi0,hz0,hz1,hz2⟩:=fA Pq.Tryz.LV;refine Di (σ:=Nat×Nat×World) (F:=Fence.wide) rfl aT (gf:=244) rfl trivial (enters_of func244 aF rfl) (fun e:En=> #[J e.id,J e.tm]) (fun _=>rfl)
  (fun s e W=>L[s.2.1]?=some e/\aH (fun k=>(k=w.heap.size+1\/(w4.heap.size<=k/\k<w4.heap.size+2))\/s.1<=k) s.2.2 W/\RrT w x f L s.1 s.2.1 W)
  (fun s _ W=>aH (fun k=>(k=w.heap.size+1\/(w4.heap.size<=k/\k<w4.heap.size+2))\/s.1<=k) s.2.2 W/\RrT w x f L s.1 (s.2.1+1) W)
  (fun _ _ _ _=>False)
  (fun W=>∃B,RrT w x f L B L.length W)
  (fun _ _=>False)
  ?oY ?oI ?oX ?oF ?oFX
  (fun e=>{tmps:= #[.pointer (some ⟨x,0,none⟩),.pointer (some ⟨w.heap.size,0,none⟩),.slice none 0 0,.pointer (some ⟨w.heap.size+1,0,none⟩),J e.id,J e.tm,.pointer (some ⟨x,0,none⟩),.pointer (some ⟨x,0,none⟩),.pointer (some ⟨x,14,none⟩),.pointer (some ⟨a,0,none⟩),.func (.func 244) #[] #[.pointer (some ⟨w.heap.size+1+1,0,none⟩)],J e.id,J e.tm,undef,undef,undef,undef,undef,undef,undef,undef,undef,undef,undef,undef,undef,undef],defers:= []}) ?assign ?body ?it ?done ?stop
 case oY=>exact fun s e W r o' h hr=>⟨h.1,h.2.1.mh o' (.inl (.inl (.inr ⟨by omega,by omega⟩))),h.2.2.mh ak hr o'⟩
 case oI=>exact fun s e W r o' h hr=>⟨h.1.mh o' (.inl (.inl (.inr ⟨by omega,by omega⟩))),h.2.mh ak hr o'⟩
 case oX=>exact fun c s e W r o' h hr=>h.elim
 case oF=>exact fun W r o' h hr=>h.elim fun B h=>⟨B,h.mh ak hr o'⟩
 case oFX=>exact fun c W r o' h hr=>h.elim
 case assign=>
  intro l e W K hK;gi_wp2
  exact hK
 case body=>
  rintro l ⟨B,k,W0⟩ e W hY;obtain⟨he,hc,hT⟩:L[k]?=some e/\aH (fun j=>(j=w.heap.size+1\/(w4.heap.size<=j/\j<w4.heap.size+2))\/B<=j) W0 W/\RrT w x f L B k W:=hY;have⟨v1,mK⟩:=hT.col;have hkl:=(bO.1 he).1;have hsn:=aiC f L k e he;have hx':(rH f (L.take k)).length=k:=by simp[rH];omega
  generalize rH f (L.take k)=xs at mK hx' hsn;have hxb:xs.length<=1000000:=ak;clear hx';have⟨q,hq,hqn,hcq⟩:=hnd e (dW he);have hcx:=hj (fun h0=>by rw[h0]at hkl;simp at hkl);have hlo:=hT.lo;have hhi:=mK.hi;obtain⟨va,vc,rfl⟩:=bE mK.row;have HXB:Hid (x<B):=show x<B by have:=aU w _ hcx;simp at this;omega
  have HGB:Hid (g<B):=show g<B by have:=aU w _ hcq;simp at this;omega
  have cb:∀p v,w.cell? p=some v->W.cell? p=some v:=fun p v h=>(hT.dQ.cell (aU w _ h)).trans h;have T0:RrS w x g n cap (.slice va xs.length vc) (q*8+1) (f e) W.drew:=⟨aj mK.blk rfl,hT.box,cb _ _ hcx,cb _ _ hcq⟩;have HT0:Hid _:=T0;have HSN:Hid _:=hsn;have aAn:Hid _:=mK;have HT:Hid _:=hT;have SZ:Hid _:=sz;have HC:Hid _:=hc;have aGx:(q:Int)<n:=ak;have fin:∀A,aH (fun j=>j=w.heap.size+1\/B<=j) W A->KeepsFrom B W A->(∃u1,LY (w.heap.size+1) B u1 (xs++ [⟨f e,e.tm⟩]) A)->KeepsFrom w4.heap.size W A/\aH (fun j=>(j=w.heap.size+1\/(w4.heap.size<=j/\j<w4.heap.size+2))\/B<=j) W0 A/\RrT w x f L B (k+1) A:=fun A h1 k1 h3=>by
   have h4:=SZ.out;refine⟨KeepsFrom.join k1 h1 ak,HC.out.trans h1 (fun j _ h=>?_),by rw[HSN.out];exact h3,h1.cell HT.out.box fE,?_,hlo⟩
   ·rcases h with h | h
    ·exact .inl (.inl h)
    ·exact .inr h
   ·exact aog
  have⟨W3,hW3⟩:=aZ (W.drew.alloc (.cells #[J (f e),J e.tm] 108));have HB3:Hid _:=show Below W.drew.heap.size W.drew W3 by rw[← hW3];exact dY
  have EY:Hid (W3.heap[W.heap.size]?=some (.cells #[J (f e),J e.tm] 108 (0,0))):=show W3.heap[W.heap.size]?=_ by rw[← hW3];exact aK W.drew _
  have HR3:Hid (W3.ownsRow B 108 2 (.slice va xs.length vc) xs.length (Pq.fJ xs)):=show W3.ownsRow B 108 2 (.slice va xs.length vc) xs.length (Pq.fJ xs) by rw[← hW3];exact Cv (w:=W.drew) mK.row _
  have HW3:Hid _:=hW3;clear hsn hT sz hc T0 mK hcx hcq cb hnd hj r r4 y0 y1 y3 b4 he;rw[hq];gi_wp2
  refine EO (S:=(RrS w x g n cap (.slice va xs.length vc) (q*8+1) (f e))) (L:=13) aF (fun ⟨_,_,h⟩=>h) aF ?_;have bG:=HT0.out;refine iT [0,13] (i:=0) (v:=?aGy) rfl aF aF aF aF rfl (fun _ _ _ h=>h) iW bG ?avw ?axJ
  case avw=>exact zk
  simp only[Act.put,jO,jX,jg];refine iT [1,13] (i:=1) (v:=?aGz) rfl aF aF aF aF rfl (fun _ _ _ h=>h) iW bG ?avx ?axK
  case avx=>exact zk
  simp only[Act.put,jO,jX,jg];refine iT [2,13] (i:=2) (v:=?aGA) rfl aF aF aF aF rfl (fun _ _ _ h=>h) iW bG ?avy ?axL
  case avy=>exact zk
  simp only[Act.put,jO,jX,jg];refine iT [3,13] (i:=3) (v:=?aGB) rfl aF aF aF aF rfl (fun _ _ _ h=>h) iW bG ?avz ?axM
  case avz=>exact zk
  simp only[Act.put,jO,jX,jg];refine iT [4,13] (i:=4) (v:=?aGC) rfl aF aF aF aF rfl (fun _ _ _ h=>h) iW bG ?avA ?axN
  case avA=>exact zk
  simp only[Act.put,jO,jX,jg];refine iT [5,13] (i:=5) (v:=?aGD) rfl aF aF aF aF rfl (fun _ _ _ h=>h) iW bG ?avB ?axO
  case avB=>exact zk
  simp only[Act.put,jO,jX,jg];refine iT [6,13] (i:=6) (v:=?aGE) rfl aF aF aF aF rfl (fun _ _ _ h=>h) iW bG ?avC ?axP
  case avC=>exact zk
  simp only[Act.put,jO,jX,jg];refine iT [7,13] (i:=7) (v:=?aGF) rfl aF aF aF aF rfl (fun _ _ _ h=>h) iW bG ?avD ?axQ
  case avD=>exact zk
  simp only[Act.put,jO,jX,jg];refine iT [8,13] (i:=8) (v:=?aGG) rfl aF aF aF aF rfl (fun _ _ _ h=>h) iW bG ?avE ?axR
  case avE=>exact zk
  simp only[Act.put,jO,jX,jg];refine iT [9,13] (i:=9) (v:=?aDb) rfl aF aF aF aF rfl (fun _ _ _ h=>h) iW bG ?arl ?avF
  case arl=>exact zk
  simp only[Act.put,jO,jX,jg];refine iT [10,13] (i:=10) (v:=?aAo) rfl aF aF aF aF rfl (fun _ _ _ h=>h) iW bG ?amG ?asU
  case amG=>exact zk
  simp only[Act.put,jO,jX,jg];refine last_one (i:=11) aF rfl ?_;intro K hK;go_simp;try rw[HW3.out]
  have VI:(RrS w x g n cap (.slice va xs.length vc) (q*8+1) (f e)) W3:=⟨HB3.out.cell (aU _ _ bG.mI)▸bG.mI,HB3.out.cell (aU _ _ bG.box)▸bG.box,HB3.out.cell (aU _ _ bG.jobs)▸bG.jobs,HB3.out.cell (aU _ _ bG.nd)▸bG.nd⟩;refine jE hK VI ?_;clear hK K;refine last_one (i:=12) aF rfl ?_;intro K hK;refine Cu _ iW (.tmp 13) (.tmp 24) 75 iW B 108 i0 _ 2 16 underlying75 hi0 hz0 hz1 hz2 rfl aT (.slice va xs.length vc) xs.length (Pq.fJ xs) gM HR3.out ⟨W.heap.size,0,none⟩ 1 1 [J (f e),J e.tm] gM rfl (vI (cs:= #[J (f e),J e.tm]) EY.out) (fun u hu=>by simp at hu;rcases hu with rfl | rfl<;>rfl) ak (by unfold maxLen;omega) ak (bM hhi HB3.out.size) W3.heap.size rfl ?_;intro g4 cap4 w5 hrow hgr hat hg4;obtain⟨aic,hk1,adn,d1,g1⟩:=(aAn.out.kept (w1:=W.drew) (K:=fun _=>False) ⟨rfl,rfl,rfl,aC _,fun _ _ _=>rfl⟩ (fun h=>h) (fun _ _ h=>h)).app (x:=⟨f e,e.tm⟩) hrow (by rw[HW3.out];exact hgr);have aAp:(RrS w x g n cap (.slice va xs.length vc) (q*8+1) (f e)) w5:=by have hz3:W.heap.size<=W3.heap.size:=HB3.out.size;have hlt:∀p v,w.cell? p=some v->p.block<w.heap.size:=fun p v h=>aU w _ h;have far:∀p v,W3.cell? p=some v->p.block<B->w5.cell? p=some v:=fun p v h hp=>(hgr.cell_far p (aU W3 _ h) (fun e=>by have:=(HR3.out.lt p.block e.symm).1;omega)).trans h;exact⟨far _ _ VI.mI fE,far _ _ VI.box fE,far _ _ VI.jobs HXB.out,far _ _ VI.nd HGB.out⟩
  clear hrow hgr hat;go_simp;refine jE hK aAp ?_;clear hK K;refine last_one (i:=13) aF rfl ?_;intro K hK;go_simp;refine hK.out _ _ (fun h=>absurd rfl h) (fun _=>?_);clear hK K;refine aO aF ?_ _;obtain⟨q1,q2,q3⟩:=fin _ (((aH.refl _ W).drew).trans adn (fun _ _ h=>h)) ((show KeepsFrom B W W.drew from⟨aC _,fun _ _ _ h _=>h⟩).trans hk1) ⟨_,aic⟩;exact⟨q1,q2,q3⟩
 case it=>
  intro R Rx hR hRx hrnd W hbW oz hRW;have ahJ:=b4.trans (hbW.mono ak);have hcell:∀p v,w4.cell? p=some v->W.cell? p=some v:=fun p v h=>(aH.of_below hbW (fun _=>False)).cell h (fun h=>h);have z1:=(hbW.block _ ak).trans y1;have keepR:∀A B,R A->Z A B->R B:=fun A B h b=>hR A B h (KeepsFrom.K4 (aH.of_below b (fun _=>False)) (fun _ h=>h.elim));refine(ah9 (n:=3 - 1) (l:=w4.heap.size+1) (bA:=w.heap.size+1+1) (a:=a) (m:=m) (ao:=ao) (L:=L) (N:=fun k=>k=w.heap.size+1\/(w4.heap.size<=k/\k<w4.heap.size+2))
   (T:=fun B k A=>RrT w x f L B k A/\R A) (Tx:=fun A=>False) aT W (hcell _ _ y3) (r4.below hbW) ak ?_ ?_ ?_ ?_).mono ?_
  ·rintro k (rfl | h)<;>omega
  ·intro W' hb';have hz':=hb'.size;have e1:=(hb'.block _ ak).trans z1;exact⟨⟨⟨_,e1,l8 _ _ _ _,by omega,aC _⟩,(aH.of_below hb' (fun _=>False)).cell (hcell _ _ y0) (fun h=>h),ahJ.trans (hb'.mono ak),by omega⟩,keepR _ _ hRW hb'⟩
  ·rintro B k A A' ⟨h2,h3⟩ hb';exact⟨h2.below hb',keepR _ _ h3 hb'⟩
  ·exact anH
  ·exact aoI
 case done=>
  rintro D W hD ⟨B,hT⟩ hK;have⟨v1,mK⟩:=hT.col;rw[oC]at mK;obtain⟨ao1,Vu,rfl⟩:=bE mK.row;have c1:=fK 0 mK.blk;have hlo:=hT.lo;have HC:Hid _:=mK;have HT:Hid _:=hT;have SZ:Hid _:=sz;have HK:Hid _:=hK;clear mK hT sz hK;gi_wp2
  have hne:∀k,(Value.slice ao1 (rH f L).length Vu).ownBlock=some k->k≠D:=fun k hk e=>by
   have⟨cs,hcs⟩:=iG HC.out.row k hk;rw[e,HK.out]at hcs
   cases hcs
  refine⟨by simp,.inl ⟨_,_,rfl,Fw HK.out,?_⟩⟩;refine⟨.slice ao1 (rH f L).length Vu,by simp[results,results159,go_sem],_,rfl,?_,?_⟩
  ·have e:(rH f L).length=L.length:=(by simp[rH]);rw[← e];exact iL (row_of HC.out.row (fun k hk=>DU (hne k hk))) ak
  ·exact HT.out.dQ.grown (xK _ D (.deferred none)) HT.out.dQ.size (fun k e=>by cases e;have:=SZ.out;omega)
 case stop=>rintro D c W hD h hK;exact h.elim
end A3
end Go.Proofs.YtdhifkbbjlhcaaaGreatDoor
