import Derived.Test.YtdhifkbbjlhcaaaGreatDoorKz33
import Derived.Test.YtdhifkbbjlhcaaaGreatDoorKz28
import Derived.Laws.OwnMore
import Derived.Test.YtdhifkbbjlhcaaaGreatDoorKz22
import Derived.Maps.OwnIn
import Derived.Test.YtdhifkbbjlhcaaaGreatDoorKz2
import Derived.OrdersHeld
import Derived.OrdersIn
set_option maxRecDepth 100000
set_option maxHeartbeats 4000000
set_option linter.defProp false
namespace Go.Proofs.YtdhifkbbjlhcaaaGreatDoor
open Go.Proofs.Tryz
variable {L:List A3.Ag.En} {ao:Option Addr} {w:ay}
namespace A3
open Go.RowKit Go.Shelf Ag
attribute [local go_sem] Oper.semAt_some
def Tryz.aq4:(prog.info? 237).map (fun i=>(i.zero,i.size,i.bytes))=some (some (.agg #[J 0,J 0]),2,16):=aF
def allI (a:Nat) (w:ay):Calls prog 200 #[.pointer (some ⟨a,0,none⟩)] w fun e w'=>e=.returned (.func (.func 244) #[] #[.pointer (some ⟨w.heap.size,0,none⟩)])/\w'=w.alloc (.cells #[.pointer (some ⟨a,0,none⟩)] 97):=by
 go_enter func200,ntmps200;exact mY
namespace Ag
def Q_.perm {h:Nat->En} {n:Nat} (l:Q_ L h n) (hi:∀k k',k<n->k'<n->(h k).id=(h k').id->k=k'):((List.range n).map (fun j=>(h j).pr)).Perm (L.map En.pr):=by
 have p:((List.range n).map h).Nodup:=by grind[List.nodup_range,List.Pairwise.imp_of_mem]
 have:=((JO p l.srt.nodup).2 (fun e=>by
  rw[l.mem e]
  simp)).map En.pr
 rwa [Fv]at this
def aq5 (s:Gh L):(L.map En.pr).Pairwise (fun x y=>ltOf WT x y=true):=yZ.2 s
end Ag
structure Lay (b n:Nat) (h:Nat->En) (k:Nat) (w:ay):Prop where
 blk:∃cur,w.heap[b]?=some (.cells cur 237 (0,0))/\cur.size=n*2/\∀j,j<k->cur[j*2]?=some (J (h j).id)/\cur[j*2+1]?=some (J (h j).tm)
section
variable {b n k:Nat} {h:Nat->En} {w w1:ay}
theorem Lay.lt (l:Lay b n h k w):b<w.heap.size:=l.blk.elim fun _ hc=>(aS.1 hc.1).1
def Lay.there (l:Lay b n h k w) {o:Nat} (ho:o<n*2):(∃v,w.cell? ⟨b,o,none⟩=some v)/\w.frozen? ⟨b,o,none⟩=false:=by
 obtain⟨cur,hc,hz,_⟩:=l.blk;exact⟨⟨_,aj hc (Array.getElem?_eq_getElem ak)⟩,aD hc⟩
def Lay.step (l:Lay b n h k w) (hk:k<n) (o:Obj):Lay b n h (k+1) (((w.setCell ⟨b,k*2,none⟩ (J (h k).id)).setCell ⟨b,k*2+1,none⟩ (J (h k).tm)).alloc o):=by
 have hb:=l.lt;have⟨cur,hc,hz,hj⟩:=l.blk;have h1:=bS w b (k*2) cur 237 (J (h k).id) hc;have h2:=bS _ b (k*2+1) _ 237 (J (h k).tm) h1;refine⟨_,(iM _ _ _ (by grind)).trans h2,by grind,fun j hjk=>?_⟩;grind
end
def ah8 {a m:Nat} (r:r_ 198 239 w a m ao L) (hlen:L.length*20<=140737488355328):
  Calls prog 245 #[.pointer (some ⟨a,0,none⟩)] w fun e w'=>∃b,e=.returned (.slice (some ⟨b,0,none⟩) L.length L.length)/\w.heap.size<=b/\b<w'.heap.size/\(∀j x,L[j]?=some x->w'.cell? ⟨b,j*2,none⟩=some (J x.id)/\w'.cell? ⟨b,j*2+1,none⟩=some (J x.tm))/\Below w.heap.size w w':=by
 obtain⟨cap,n,h,r⟩:=r;have hl:=r.len;rw[hl]at hlen ⊢;have c0:=r.raw.c0;have⟨i0,hi0,hz0,hz1,hz2⟩:=fA Tryz.aq4;have⟨w1,hmk,ho1,hg1⟩:=run_make_full (P:=prog) w 0 309 237 i0 _ 2 underlying309 hi0 hz0 hz1 .i64 .i64 n (by rw[hz2];omega) (bM (m:=35184372088832) ak aT) (ni _);have l1:Lay w.heap.size n h 0 w1:=by
  rcases ho1.2 with⟨hv,_⟩ | ⟨g,cp,cur,hv,_,hgg,_,_,hsz,_⟩
  ·simp at hv
  ·simp at hv;obtain⟨rfl,rfl⟩:=hv;exact⟨cur,hgg,hsz,fun j hj=>by omega⟩
 have b1:=(aI _ w).grown hg1 (aC _) (fun k e=>by cases e);have d0:=(aH.of_below b1 (fun _=>False)).cell c0 (fun h=>h);have L1:Hid _:=l1;have B1:Hid _:=b1;have R:Hid _:=r;clear l1 b1 r ho1 hg1;go_enter func245,ntmps245;go_wp2;generalize hb0:w.heap.size=b at *;go_loopg [17] n (fun gk c wr=>∃k:Nat,k+gk=n/\c=J k/\Lay b n h k wr/\Below b w wr)
 case atStart=>exact⟨0,by omega,rfl,L1.out,B1.out⟩
 case round=>
  obtain⟨k,hk,rfl,hly,hbw⟩:=hrel;have HB:Hid _:=hb0;clear hb0;by_cases hlt:k<n
  ·have rk:=R.out.raw.below (w':=wr) (show Below w.heap.size w wr by rw[HB.out];exact hbw)
   obtain⟨g,cur,rfl,hr,_,_⟩:=rk.has ak;obtain⟨e0,e1,_⟩:=hr.cell hlt;have⟨⟨v0,x0⟩,f0⟩:=hly.there (o:=k*2) ak;have⟨⟨v1,x1⟩,f1⟩:=hly.there (o:=k*2+1) ak;have hbl:=hly.lt;have HL:Hid _:=hly;have DL:Hid _:=hbw;have RK:Hid _:=rk;clear hly hbw rk hr;go_wp2;go_roundg (n - (k+1))
   case measure=>omega
   case rel=>exact⟨k+1,by omega,rfl,HL.out.step hlt _,((DL.out.setCell (p:=⟨b,k*2,none⟩) (aC _) _).setCell (p:=⟨b,k*2+1,none⟩) (aC _) _).alloc (by have:=hbl;simp;omega) _⟩
  ·obtain rfl:k=n:=ak;have hbl:=hly.lt;have⟨cur,hc,hz,hj⟩:=hly.blk;have hsort:=Am (w:=wr) (blk:=b) (cap:=k) (d:=(List.range k).map (fun j=>(h j).pr)) (M:=L.map En.pr) (R.out.WQ.perm R.out.raw.inj) (aq5 R.out.WQ.srt) hbl fE hc (fun j x hx=>by
    have hjk:j<k:=by have:=(bO.1 hx).1;simpa using this
    have hxe:x=(h j).pr:=by simp[hjk]at hx;exact hx.symm
    subst hxe
    exact hj j hjk)
   rw[dL,SE]at hsort;have DL:Hid _:=hbw;clear hly hbw hc;go_wp2_with fail
   refine hsort.mono ?_;rintro e w2 ⟨rfl,hM,hC⟩;go_wp2;go_ret;have hb2:=DL.out.trans ⟨hC.os,hC.tape,hC.output,hC.size,fun j hj=>hC.block j ak ak⟩;rw[HB.out];exact⟨b,rfl,aC _,gL hbl hC.size,fun j x hx=>hM j x.pr (by simp[hx]),hb2⟩
def uM (b:Nat) (L:List En) (W:ay):Prop:=∀j x,L[j]?=some x->W.cell? ⟨b,j*2,none⟩=some (J x.id)/\W.cell? ⟨b,j*2+1,none⟩=some (J x.tm)
theorem uM.fF {b:Nat} {W W':ay} {K:Nat->Prop} (h:uM b L W) (c:aH K W W') (hb:¬K b):uM b L W':=fun j x hx=>⟨c.cell (h j x hx).1 hb,c.cell (h j x hx).2 hb⟩
def UG (v:Value):Nat:=match v with
 | .int _ z=>z.toNat
 | _=>0
def ah9 {n:Nat} (hn:1<=n) {l bA a m:Nat} {N:Nat->Prop} {T:Nat->Nat->World->Prop} {Tx:ay->Prop} (W:ay) (c1:W.cell? ⟨bA,0,none⟩=some (.pointer (some ⟨a,0,none⟩))) (hA:r_ 198 239 W a m ao L) (hlen:L.length*20<=140737488355328)
  (hN:∀k,N k->k<W.heap.size) (h0:∀W',Below W.heap.size W W'->T W'.heap.size 0 W') (hT:∀B k A A',T B k A->Below A.heap.size A A'->T B k A')
  (hY:∀B k e A,W.heap.size<=B->L[k]?=some e->T B k A->YieldAt Fence.wide (n - 1) prog l #[J e.id,J e.tm] A fun r A'=>(r=.returned (.bool true)/\T B (k+1) A'/\aH (fun j=>N j\/B<=j) A A')\/(r=.returned (.bool false)/\Tx A')):
  CallsIn Fence.wide n prog 244 #[.func (.yield l) #[] #[],.pointer (some ⟨bA,0,none⟩)] W fun e W'=>(∃v,e=.returned v)/\((∃B,T B L.length W')\/Tx W'):=by
 refine callsIn_of_wp func244 rfl trivial ?_ rfl;simp only[ntmps244,vD,dK,jh,Nat.reduceAdd,Nat.reduceSub,vE,vF,vG,vH,pY,mP]
 gi_wp2_with (first
  | (refine ⟨trivial,?_⟩;gi_at_call 245;refine(mg.2 (ah8 hA hlen)).mono ?_;rintro e w1 ⟨b,rfl,hb1,hb2,hls,hbw⟩))
 have⟨q,hq⟩:=aZ L.length;rw[hq]at hlen ⊢;have T0:Hid _:=h0 w1 hbw;have LS:Hid (uM b L w1):=hls;clear hls;gi_loopw [8] (fun p wr=>∃k:Nat,p=J k/\k<=q/\uM b L wr/\T w1.heap.size k wr/\w1.heap.size<=wr.heap.size) (fun p _=>q - UG p)
 case atStart=>grind[Hid.out]
 case round=>
  obtain⟨k,rfl,hkq,hls,hTk,hwz⟩:=hrel;by_cases hlt:k<q
  ·obtain ⟨e,he⟩:∃e,L[k]?=some e:=⟨_,aY ak⟩;have⟨x0,x1⟩:=hls k e he;have⟨wn,hwn⟩:=aZ (wr.alloc (.cells #[J e.id,J e.tm] 237));have bn:Below wr.heap.size wr wn:=(by grind[aI,Below.alloc]);have⟨fn,tmps,assign,body,hy,hR⟩:=hY w1.heap.size k e wn hbw.size he (hT _ _ _ _ hTk bn);have LSn:Hid (uM b L wn):=hls.fF (aH.of_below bn (fun _=>False)) (fun h=>h);have HWZ:Hid (w1.heap.size<=wn.heap.size):=(by grind[gN]);have y0:wn.cell? ⟨wr.heap.size,0,none⟩=some (J e.id):=(by grind[iQ]);have y1:wn.cell? ⟨wr.heap.size,1,none⟩=some (J e.tm):=(by grind[iQ]);clear hls hTk;gi_wp2
   refine hR.mono ?_;rintro r w3 (⟨rfl,hT3,hC3⟩ | ⟨rfl,hx3⟩)
   ·gi_wp2
    go_roundw
    case rel=>exact⟨k+1,rfl,by omega,LSn.out.fF hC3 (by grind),hT3,bM HWZ.out hC3.size⟩
    grind[UG]
   ·gi_wp2
    refine b_ (qV rfl _ _ _) rfl ?_;grind
  ·exact aoC
end A3
namespace A3
open Go.RowKit Go.Shelf Ag
attribute [local go_sem] Oper.semAt_some
def aq6 {xs S:List Int} (hS:S.Perm xs) (hs:S.Pairwise (· <= ·)):(xs.mergeSort fun x y=>decide (x<=y))=S:=by
 grind[List.pairwise_mergeSort,PL,List.mergeSort_perm]
def ah_ {B:Nat} {v:Value} {xs S:List Int} (h:w.ownsRow B 3 1 v xs.length (ints xs)) (hl:xs.length<=1000000) (hS:S.Perm xs) (hs:S.Pairwise (· <= ·)):
  Calls prog 161 #[v] w fun e w'=>e=.returned (.tuple #[])/\w'.ownsRow B 3 1 v S.length (ints S)/\w.grownBy w' v.ownBlock:=by
 have hSl:=hS.length_eq;rcases h.2 with⟨rfl,h0⟩ | ⟨g,cap,cur,rfl,hb,hg,h1,h2,h3,h4⟩
 ·have e1:=DV.1 h0;subst e1;have hn:=List.eq_nil_of_length_eq_zero (by simpa using hSl);subst hn;refine(UJ none 0 w).mono ?_;exact afg
 ·rw[Nat.mul_one]at h4;have hH:=holds_of_blockI (ss:=xs) hg h4;refine(K5 g cap xs w hH (aS.1 hg).1 ak).mono ?_;rintro e w' ⟨rfl,n,os,rfl⟩;rw[aq6 hS hs];refine⟨rfl,?_,grownBy_sortedI _⟩;have:=ownsRow_sortedI (w:=w) (base:=B) (g:=g) (cap:=cap) (n:=n) (e:=3) (os:=os) (cur:=cur) (ss:=xs) (ts:=S) hSl hb hg ak h2 h3;rw[← hSl]at this;rw[← hSl];exact this
namespace Ag
def ids (L:List En):List Int:=L.map En.id
def aia (L:List En) (k:Nat) (e:En) (h:L[k]?=some e):ids (L.take (k+1))=ids (L.take k)++ [e.id]:=by
 grind[kT,ids]
end Ag
def adl {W:ay} {B e n:Nat} {v:Value} {vs:List Value} (h:W.ownsRow B e 1 v n vs):∃ao m cap,v=.slice ao m cap:=by
 rcases h.2 with⟨rfl,_⟩ | ⟨g,cap,_,rfl,_⟩
 ·grind
 grind
structure RnT (w:ay) (L:List En) (B k:Nat) (W:ay):Prop where
 col:∃v1,Col w.heap.size B v1 (ids (L.take k)) W
 dQ:Z w W
 lo:w.heap.size+4<=B
section
variable {w W W':ay} {L:List En} {B k:Nat}
theorem RnT.below (h:RnT w L B k W) (b:Z W W'):RnT w L B k W':=
 ⟨h.col.elim fun v1 h=>⟨v1,h.kept (aH.of_below b (fun _=>False)) (fun h=>h) (fun _ _ h=>h)⟩,h.dQ.trans (b.mono h.dQ.size),h.lo⟩
def RnT.mh (h:RnT w L B k W) {l:Nat} (hl:w.heap.size+2<=l) {r:Loop} (hr:W.heap[l]?=some (.loop r)) (o':Obj):RnT w L B k (W.putObj l o'):=
 ⟨h.col.elim fun v1 h=>⟨v1,Col.owned (Bq:=w.heap.size+2) ak (v1,_) W _ _ h (xq W l o') (fun k e=>by cases e;exact⟨hl,_,hr,rfl⟩)⟩,h.dQ.grown (xq W l o') h.dQ.size (fun k e=>by grind),h.lo⟩
end
def Vt {x a m:Nat} (hx:w.cell? ⟨x,14,none⟩=some (.pointer (some ⟨a,0,none⟩))) (r:r_ 198 239 w a m ao L) (hlen:L.length<=1000000) {S:List Int} (hS:S.Perm (ids L)) (hs:S.Pairwise (· <= ·)):
  Calls prog 187 #[.pointer (some ⟨x,0,none⟩)] w fun e w'=>∃v,e=.returned v/\w'.ownsRow w.heap.size 3 1 v S.length (ints S)/\Z w w':=by
 refine(mg (n:=3)).1 ?_;refine JV func187 rfl trivial ?_ rfl;simp only[ntmps187,vD,dK,jh,Nat.reduceAdd,Nat.reduceSub,vE,vF,vG,vH,pY,mP];have hx1:(w.alloc (.cells #[.slice none 0 0] 36)).cell? ⟨x,14,none⟩=some (.pointer (some ⟨a,0,none⟩)):=bK hx _
 gi_wp2_with (first
  | (refine ⟨trivial,?_⟩;gi_at_call 200;refine(mg.2 (allI a _)).mono ?_;rintro e w1 ⟨rfl,rfl⟩))
 have⟨w4,hw4⟩:=aZ ((w.alloc (.cells #[.slice none 0 0] 36)).alloc (.cells #[.pointer (some ⟨a,0,none⟩)] 97));have sz:w4.heap.size=w.heap.size+2:=by rw[← hw4];simp
 have b4:Z w w4:=by rw[← hw4];exact((aI _ w).alloc (aC _) _).alloc dF _
 obtain⟨y1,y3⟩:w4.heap[w.heap.size]?=some (.cells #[.slice none 0 0] 36 (0,0))/\w4.cell? ⟨w.heap.size+1,0,none⟩=some (.pointer (some ⟨a,0,none⟩)):=by rw[← hw4];refine⟨(iM _ _ _ dF).trans (aK w _),?_⟩;have:=iQ (w.alloc (.cells #[.slice none 0 0] 36)) (cs:= #[.pointer (some ⟨a,0,none⟩)]) (t:=97) (k:=0) rfl;rwa [iI]at this
 rw[hw4];clear hw4 hx1;have r4:=r.below b4;have⟨i0,hi0,hz0,hz1,hz2⟩:=fA Tryz.Vb;refine Di (σ:=Nat×Nat×World) (F:=Fence.wide) rfl aT (gf:=244) rfl trivial (enters_of func244 aF rfl) (fun e:En=> #[J e.id,J e.tm]) (fun _=>rfl)
  (fun s e W=>L[s.2.1]?=some e/\aH (fun k=>(k=w.heap.size\/(w4.heap.size<=k/\k<w4.heap.size+2))\/s.1<=k) s.2.2 W/\RnT w L s.1 s.2.1 W)
  (fun s _ W=>aH (fun k=>(k=w.heap.size\/(w4.heap.size<=k/\k<w4.heap.size+2))\/s.1<=k) s.2.2 W/\RnT w L s.1 (s.2.1+1) W)
  (fun _ _ _ _=>False)
  (fun W=>∃B,RnT w L B L.length W)
  (fun _ _=>False)
  ?oY ?oI ?oX ?oF ?oFX
  (fun e=>{tmps:= #[.pointer (some ⟨x,0,none⟩),undef,.slice none 0 0,.pointer (some ⟨w.heap.size,0,none⟩),J e.id,.pointer (some ⟨x,0,none⟩),.pointer (some ⟨x,0,none⟩),.pointer (some ⟨x,14,none⟩),.pointer (some ⟨a,0,none⟩),.func (.func 244) #[] #[.pointer (some ⟨w.heap.size+1,0,none⟩)],J e.id,J e.tm,undef,undef,undef,undef,undef,undef,undef],defers:= []}) ?assign ?body ?it ?done ?stop
 case oY=>exact fun s e W r o' h hr=>⟨h.1,h.2.1.mh o' (.inl (.inl (.inr ⟨by omega,by omega⟩))),h.2.2.mh ak hr o'⟩
 case oI=>exact fun s e W r o' h hr=>⟨h.1.mh o' (.inl (.inl (.inr ⟨by omega,by omega⟩))),h.2.mh ak hr o'⟩
 case oX=>exact fun c s e W r o' h hr=>h.elim
 case oF=>exact fun W r o' h hr=>h.elim fun B h=>⟨B,h.mh ak hr o'⟩
 case oFX=>exact fun c W r o' h hr=>h.elim
 case assign=>
  intro l e W K hK;gi_wp2
  exact hK
 case body=>
  rintro l ⟨B,k,W0⟩ e W hY;obtain⟨he,hc,hT⟩:L[k]?=some e/\aH (fun j=>(j=w.heap.size\/(w4.heap.size<=j/\j<w4.heap.size+2))\/B<=j) W0 W/\RnT w L B k W:=hY;have⟨v1,mK⟩:=hT.col;have hkl:=(bO.1 he).1;have hsn:=aia L k e he;have hx:(ids (L.take k)).length=k:=by simp[ids];omega
  generalize ids (L.take k)=xs at mK hx hsn;have HSN:Hid _:=hsn;have r1:=mK.row;rw[hx]at r1;have c1:=mK.cell;have f1:=mK.frozen;have hhi:=mK.hi;have hlo:=hT.lo;have HT:Hid _:=hT;have SZ:Hid _:=sz;have fin:∀A,aH (fun j=>j=w.heap.size\/B<=j) W A->KeepsFrom B W A->(∃u1,Col w.heap.size B u1 (xs++ [e.id]) A)->KeepsFrom w4.heap.size W A/\aH (fun j=>(j=w.heap.size\/(w4.heap.size<=j/\j<w4.heap.size+2))\/B<=j) W0 A/\RnT w L B (k+1) A:=fun A h1 k1 h3=>by
   have h4:=SZ.out;refine⟨KeepsFrom.join k1 h1 ak,hc.trans h1 (fun j _ h=>?_),by rw[HSN.out];exact h3,?_,hlo⟩
   ·rcases h with h | h
    ·exact .inl (.inl h)
    ·exact .inr h
   ·exact aog
  clear hsn hT sz
  gi_wp2_with (first
   | (gi_at_builtin;refine wpListIn_append_own_at _ rfl (.tmp 12) (.tmp 14) 36 rfl B 3 i0 (J 0) 1 8 underlying36 hi0 hz0 hz1 hz2 rfl aT _ _ _ rfl (r1.alloc _) ⟨W.heap.size,0,none⟩ 1 1 [J e.id] rfl rfl (Co _ _ _) Ci (bM (m:=35184372088832) ak aT) ak fE ?_;intro v1' w1 hown1 aq7 _ az_;have aib:=hown1;rw[← hx]at aib;have⟨aic,hk1,adn,d1,g1⟩:=mK.app aib aq7;obtain⟨g',cap',rfl⟩:=ownsRow_succ hown1))
  have⟨q1,q2,q3⟩:=fin _ adn hk1 ⟨_,aic⟩;exact⟨q1,q2,q3⟩
 case it=>
  intro R Rx hR hRx hrnd W hbW oz hRW;have ahJ:=b4.trans (hbW.mono ak);have hcell:∀p v,w4.cell? p=some v->W.cell? p=some v:=fun p v h=>(aH.of_below hbW (fun _=>False)).cell h (fun h=>h);have z1:=(hbW.block _ ak).trans y1;have keepR:∀A B,R A->Z A B->R B:=fun A B h b=>hR A B h (KeepsFrom.K4 (aH.of_below b (fun _=>False)) (fun _ h=>h.elim));refine(ah9 (n:=3 - 1) (l:=w4.heap.size+1) (bA:=w.heap.size+1) (a:=a) (m:=m) (ao:=ao) (L:=L) (N:=fun k=>k=w.heap.size\/(w4.heap.size<=k/\k<w4.heap.size+2))
   (T:=fun B k A=>RnT w L B k A/\R A) (Tx:=fun A=>False) aT W (hcell _ _ y3) (r4.below hbW) ak ?_ ?_ ?_ ?_).mono ?_
  ·rintro k (rfl | h)<;>omega
  ·intro W' hb';have hz':=hb'.size;have e1:=(hb'.block _ ak).trans z1;exact⟨⟨⟨_,e1,l8 _ _ _ _,by omega,aC _⟩,ahJ.trans (hb'.mono ak),by omega⟩,keepR _ _ hRW hb'⟩
  ·rintro B k A A' ⟨h2,h3⟩ hb';exact⟨h2.below hb',keepR _ _ h3 hb'⟩
  ·exact anH
  ·exact aoI
 case done=>
  rintro D W hD ⟨B,hT⟩ hK;have⟨v1,mK⟩:=hT.col;rw[oC]at mK;obtain⟨ao1,n1,Vu,rfl⟩:=adl mK.row;have c1:=mK.cell;have f1:=mK.frozen;have hsort:=ah_ mK.row (by simp[ids];omega) hS hs;have hlo:=hT.lo;have HC:Hid _:=mK;have HT:Hid _:=hT;have SZ:Hid _:=sz;have HK:Hid _:=hK;clear mK hT sz hK
  gi_wp2_with (first
   | (refine ⟨trivial,?_⟩;gi_at_call 161;refine(mg.2 hsort).mono ?_;rintro e w5 ⟨rfl,hr5,hg5⟩;have c5:=hg5.cell c1 (fun e=>by have:=(HC.out.row.lt _ e.symm).1;simp at this;omega)))
  have hDw:=(aS.1 HK.out).1;have hne:∀k,(Value.slice ao1 n1 Vu).ownBlock=some k->k≠D:=fun k hk e=>by
   have⟨cs,hcs⟩:=wh HC.out.row hk;rw[e,HK.out]at hcs
   cases hcs
  have F:=(hg5.block D hDw (fun e=>hne D e.symm rfl)).trans HK.out;refine⟨by simp,.inl ⟨_,_,rfl,Fw F,?_⟩⟩;refine⟨.slice ao1 n1 Vu,by simp[results,results187,go_sem],_,rfl,iL (eG hr5 (fun k hk=>DU (hne k hk))) ak,?_⟩;have b5:=HT.out.dQ.grown hg5 HT.out.dQ.size (fun k e=>by have:=(HC.out.row.lt k e).1;omega);exact b5.grown (xK _ D (.deferred none)) b5.size (fun k e=>by cases e;have:=SZ.out;omega)
 case stop=>rintro D c W hD h hK;exact h.elim
end A3
section
open Go.RowKit
section
variable {n l:Nat} {P:Program} {ops:Array Oper} {Q:Exit->Act->World->Prop} {md:Region.Mode} {S:ay->Prop} {L:Nat}
def AB (ops:Array Oper):Bool:=ops.all fun o=>match o.op with
 | .defer _=>false
 | _=>true
def ams {j:Nat} {o:Oper} (h:AB ops=true) (hj:ops[j]?=some o) (c):o.op≠.defer c:=fun e=>by
 grind[AB]
def aie {i:Nat} {K:Act->World->Prop} {a:Act} (hd:AB ops=true) (hq:¬LetsOut Q) (h:wpOp P ops Q i K a w):wpOpIn (Fence.wide.inRound l) n P ops Q i K a w:=by
 unfold wpOp at h;unfold wpOpIn
 cases hi:ops[i]? with
 | none=>grind
 | some o=>
  rw[hi]at h;simp only at h ⊢;split at h
  ·rename_i hw;rw[aJ hw];rcases h with h | h
   ·refine ⟨fun _ _=>trivial,?_⟩;rw[Oper.semAt_eq _ _ _ (ams hd hi)];unfold Oper.wp at h;generalize (execOp a.eval o).run P w=r at h
    cases r with
    | halt x w'=>cases x<;>exact h
    | ok x w'=>
     cases x with
     | enter f args=>exact⟨fun e=>(by cases e),CallsIn.inRound l (mg.2 h)⟩
     | row r args=>refine⟨fun e=>(by cases e),fun c cs _=>?_⟩;have⟨v,w',hr,hs⟩:=h c cs;exact⟨v,w',hr,stepsIn_wide.2 hs⟩
     | round l f tmps assign body=>exact h.elim
     | _=>exact h
   grind
  ·rename_i hw;rw[au hw];exact⟨fun _ _=>trivial,h⟩
def O0 (hd:AB ops=true) (hq:¬LetsOut Q):∀(fuel:Nat) (listed:Array Bool) (a:Act) (w:ay),wpAny P md ops Q fuel listed a w->wpAnyIn (Fence.wide.inRound l) n P md ops Q fuel listed a w
 | 0,_,_,_,h=>h
 | fuel+1,_,_,_,h=>⟨h.1,fun i hi=>wpOpIn_mono (fun a' w' h'=>O0 hd hq fuel _ a' w' h') (aie hd hq (h.2 i hi))⟩
def EO {id:Nat} {a:Act} (hd:AB ops=true) (hq:¬LetsOut Q) (hm:P.follows .mixedOrders=true)
  (h:gG P .any ops Q S L ops.size (Array.replicate ops.size false) a w.drew):(Code.region id ops true).wpIn (Fence.wide.inRound l) n P Q a w:=
 wpIn_region_any hm (O0 hd hq _ _ _ _ (zm _ _ _ _ h))
end
end
end Go.Proofs.YtdhifkbbjlhcaaaGreatDoor
