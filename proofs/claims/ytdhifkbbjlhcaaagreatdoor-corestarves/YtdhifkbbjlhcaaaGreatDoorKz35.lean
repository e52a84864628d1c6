import Derived.Test.YtdhifkbbjlhcaaaGreatDoorKz21
import Derived.Laws.AppendOwnNone
import Derived.Maps.OwnIn
set_option maxRecDepth 100000
set_option maxHeartbeats 2000000
set_option linter.defProp false
namespace Go.Proofs.YtdhifkbbjlhcaaaGreatDoor
open Go.Proofs.Tryz
variable {l:List Pq.Pr.Rn} {lb:Array Value} {w:ay}
namespace Pq
open Go.RowKit Pr
def fJ:List Rn->List Value
 | []=> []
 | s::l=>J s.nd::J s.en::fJ l
theorem Gw (l:List Rn):(fJ l).length=l.length*2:=by
 induction l with
 | nil=>rfl
 | cons s l ih=>simp[fJ,ih];omega
theorem xu (a b:List Rn):fJ (a++b)=fJ a++fJ b:=by
 induction a with
 | nil=>rfl
 | cons s l ih=>simp[fJ,ih]
def LU (l:List Rn):∀j s,l[j]?=some s->(fJ l)[j*2]?=some (J s.nd)/\(fJ l)[j*2+1]?=some (J s.en):=by
 induction l with
 | nil=>grind
 | cons x l ih=>grind[fJ]
def YU {W:ay} {g o:Nat} (h:∀k r,l[k]?=some r->W.cell? ⟨g,o+k*2,none⟩=some (J r.nd)/\W.cell? ⟨g,o+k*2+1,none⟩=some (J r.en)):∀j u,(fJ l)[j]?=some u->W.cell? ((⟨g,o,none⟩:Addr).add j)=some u:=by
 intro j u hu;have ha:(⟨g,o,none⟩:Addr).add j=⟨g,o+j,none⟩:=by grind[Addr.add]
 rw[ha];have hj:j<l.length*2:=by grind[Gw]
 obtain⟨r,hr⟩:∃r,l[j / 2]?=some r:=⟨_,aY ak⟩;have⟨e1,e2⟩:=LU l _ r hr;grind
def ado (l:List Rn):∀u∈fJ l,u.oneCell'=true:=by
 induction l with
 | nil=>intro u h;cases h
 | cons r l ih=>
  intro u h;simp only[fJ,lZ]at h;rcases h with rfl | rfl | h
  ·rfl
  ·rfl
  grind
def Tryz.LV:(prog.info? 108).map (fun i=>(i.zero,i.size,i.bytes))=some (some (.agg #[J 0,J 0]),2,16):=aF
end Pq
namespace Pq
open Go.RowKit Go.Shelf Pr
attribute [local go_sem] Oper.semAt_some
theorem aD {b k:Nat} {cs:Array Value} {e:TypeId} (h:w.heap[b]?=some (.cells cs e (0,0))):w.frozen? ⟨b,k,none⟩=false:=by
 grind[World.frozen?]
structure Col (tb te B0 B:Nat) (v:Value) (n:Nat) (vs:List Value) (W:ay):Prop where
 blk:W.heap[B0]?=some (.cells #[v] tb (0,0))
 row:W.ownsRow B te 2 v n vs
 lo:B0<B
 hi:B<=W.heap.size
section
variable {tb te B0 B n:Nat} {v v':Value} {vs us:List Value} {W w1 w2:ay} {K:Nat->Prop}
theorem Col.cell (h:Col tb te B0 B v n vs W):W.cell? ⟨B0,0,none⟩=some v:=aj h.blk rfl
theorem Col.frozen (h:Col tb te B0 B v n vs W):W.frozen? ⟨B0,0,none⟩=false:=aD h.blk
theorem Dx {e n:Nat} {vs:List Value} (h:W.ownsRow B e 2 v n vs) {k:Nat} (hk:v.ownBlock=some k):∃cs,W.heap[k]?=some (.cells cs e (0,0)):=by
 exact aoz
theorem Gx {e n:Nat} {vs:List Value} (h:W.ownsRow B e 2 v n vs) (hg:∀k,v.ownBlock=some k->w1.heap[k]?=W.heap[k]?):w1.ownsRow B e 2 v n vs:=by
 exact ZH
theorem Col.kept (h:Col tb te B0 B v n vs W) (c:aH K W w1) (h0:¬K B0) (hv:∀k,v.ownBlock=some k->¬K k):Col tb te B0 B v n vs w1:=by
 have hlt:=(aS.1 h.blk).1;refine⟨(c.block B0 hlt h0).trans h.blk,Gx h.row (fun k hk=>?_),h.lo,bM h.hi c.size⟩;have⟨cs,hcs⟩:=Dx h.row hk;grind[aH.block]
def Col.turned (h:Col tb te B0 B v n vs W) {A:Nat} (c:aH (fun j=>A<=j/\j<B) W w1) (hA:B0<A):Col tb te B0 B v n vs w1:=
 h.kept c (fun e=>by omega) (fun k hk e=>by have:=(h.row.lt k hk).1;omega)
def Col.app (h:Col tb te B0 B v n vs W) {o:Obj} {m:Nat} (hrow:w1.ownsRow B te 2 v' m us) (hg:(W.alloc o).grownBy w1 v.ownBlock):
  Col tb te B0 B v' m us (w1.setCell ⟨B0,0,none⟩ v')/\(∀A,B0<A->KeepsFrom A W (w1.setCell ⟨B0,0,none⟩ v'))/\aH (fun k=>k=B0\/B<=k) W (w1.setCell ⟨B0,0,none⟩ v')/\w1.cell? ⟨B0,0,none⟩=some v/\w1.frozen? ⟨B0,0,none⟩=false:=by
 have hlt:=(aS.1 h.blk).1;have hvB:∀k,v.ownBlock=some k->B<=k:=fun k hk=>(h.row.lt k hk).1;have hz:(W.alloc o).heap.size=W.heap.size+1:=by simp_all
 have b0:=(hg.block B0 ak (fun e=>by have:=hvB B0 e.symm;have:=h.lo;omega)).trans ((iM _ _ _ hlt).trans h.blk)
 have b1:=bS w1 B0 0 _ tb v' b0;have hs:=hg.size;have hlo:=h.lo;have hhi:=h.hi;have c1:aH (fun k=>k=B0\/B<=k) W w1:=((aH.refl _ W).alloc o).trans (K':=fun k=>v.ownBlock=some k) (aH.uP hg (fun k e=>.inl e)) (fun k _ e=>.inr (hvB k e));refine⟨⟨b1,?_,hlo,by grind[vV]⟩,fun A hA=>⟨by grind[vV],fun k o' hk hb hc=>?_⟩,c1.setCell _ _ (.inl (.inl rfl)),aj b0 rfl,aD b0⟩
 ·grind[Gx,gy,mV]
 ·have hkl:=(aS.1 hb).1;rw[gy _ _ _ _ (by grind)];refine(hg.block k ak (fun e=>?_)).trans ((iM _ _ _ hkl).trans hb);have⟨cs,hcs⟩:=Dx h.row e.symm;exact Xg
def amt {w W:ay} {d e:Nat} (hb:Z w W) (h:W.ownsRow B e 2 v n vs) (hd:w.heap.size<=d) (hK:W.heap[d]?=some (.deferred (some []))):
  (W.putObj d (.deferred none)).ownsRow B e 2 v n vs/\Z w (W.putObj d (.deferred none)):=by
 grind[Gx,Below.grown,xK,Dx,DU]
end
def YV {k:Nat} {r:Rn} (h:l[k]?=some r):fJ (l.take (k+1))=fJ (l.take k)++ [J r.nd,J r.en]:=by
 rw[kT,h,xu];rfl
def Nr {D:Nat->Prop} (hS:wN 298 lb encR l D w) (hlen:l.length*16<=140737488355328):
  Calls prog 301 #[.slice none 0 0,.func (.func 298) #[] lb] w fun e w'=>∃v,e=.returned v/\w'.ownsRow w.heap.size 108 2 v l.length (fJ l)/\Z w w':=by
 refine(mg (n:=3)).1 ?_;refine JV func301 rfl trivial ?_ rfl;simp only[ntmps301,vD,dK,jh,Nat.reduceAdd,Nat.reduceSub,vE,vF,vG,vH,pY,mP];gi_wp2
 have⟨w4,hw4⟩:=aZ (w.alloc (.cells #[.slice none 0 0] 75));have sz:w4.heap.size=w.heap.size+1:=by rw[← hw4];simp
 have b4:Z w w4:=by rw[← hw4];exact(aI _ w).alloc (aC _) _
 have y1:w4.heap[w.heap.size]?=some (.cells #[.slice none 0 0] 75 (0,0)):=by rw[← hw4];exact aK w _
 rw[hw4];clear hw4;have hS4:=hS.below b4;have hDl:=hS.1;have⟨i0,hi0,hz0,hz1,hz2⟩:=fA Tryz.LV;refine OH aT (gf:=298) (lb:=lb) rfl (enters_of func298 aF rfl) (fun _=>rfl) hS4 (fun r:Rn=> #[J r.nd,J r.en]) 108 (fun j=>j=w.heap.size) ?hN
  (fun B k W=>(∃v,Col 75 108 w.heap.size B v k (fJ (l.take k)) W)/\Z w W/\k<=l.length) (fun _ _=>False) ?h0 ?hT ?hTx
  (fun r p=>{tmps:= #[.slice none 0 0,.func (.func 298) #[] lb,.pointer (some ⟨w.heap.size,0,none⟩),undef,.slice none 0 0,.pointer (some ⟨p,0,none⟩),.func (.func 298) #[] lb,.agg #[J r.nd,J r.en],undef,undef,undef,undef,undef],defers:= []}) ?assign ?body ?done ?stop
 case hN=>rintro j rfl;exact⟨by omega,fun h=>by have:=hDl _ h;omega⟩
 case h0=>intro W hb hz;exact⟨⟨_,(hb.block _ ak).trans y1,l8 _ _ _ _,by omega,aC _⟩,b4.trans (hb.mono ak),ni _⟩
 case hT=>rintro B k A A' hB ⟨⟨v,hc⟩,hb,hk⟩ hch;exact⟨⟨v,hc.turned hch ak⟩,hch.below hb hb.size (fun i hi=>by omega),hk⟩
 case hTx=>exact fun _ _ _ _ h _=>h
 case assign=>
  intro L r W K hK;unfold encR;gi_wp2
  exact hK
 case body=>
  rintro B k r p W hB hr ⟨⟨v,hc⟩,hb,hk⟩ hp hpc hrec;have hkl:=(bO.1 hr).1;have hsn:=YV hr;have r1:=hc.row;have c1:=hc.cell;have f1:=hc.frozen;have hhi:=hc.hi;have p0:=fK 0 hpc;have p1:=fK 1 hpc;have⟨xs,hxs⟩:=aZ (fJ (l.take k));rw[hxs]at hc r1 hsn;have HSN:Hid _:=hsn;have HB:Hid _:=hb;clear hsn hb hrec hpc
  gi_wp2_with (first
   | (gi_at_builtin;refine wpListIn_append_own_at _ rfl (.tmp 8) (.tmp 10) 75 rfl B 108 i0 _ 2 16 underlying75 hi0 hz0 hz1 hz2 rfl aT _ _ _ rfl (r1.alloc _) ⟨W.heap.size,0,none⟩ 1 1 [J r.nd,J r.en] rfl rfl (mJ _ _ _) (fun u hu=>by simp at hu;rcases hu with rfl | rfl<;>rfl) (bM (m:=35184372088832) ak aT) ak fE ?_;intro v1' w1 hown1 aq7 _ az_;have⟨hc1,hk1,adn,d1,g1⟩:=hc.app hown1 aq7;obtain⟨g',cap',rfl⟩:=ownsRow_succ hown1))
  rw[← HSN.out]at hc1;exact⟨hk1 _ ak,adn,⟨_,hc1⟩,adn.below HB.out HB.out.size (fun i hi=>by omega),by omega⟩
 case done=>
  rintro d B W hd hB ⟨⟨v,hc⟩,hb,_⟩ hK;have c1:=hc.cell;have r1:=hc.row;rw[oC]at r1;obtain⟨ao1,Vu,hv⟩:∃ao1 Vu,v=.slice ao1 l.length Vu:=by
   rcases r1.2 with⟨rfl,h0⟩ | ⟨g,cap,cur,rfl,_⟩
   ·exact ⟨none,0,by rw[h0]⟩
   ·exact ⟨_,_,rfl⟩
  subst hv;clear hc;gi_wp2
  have F:=amt hb r1 ak hK;refine⟨by simp,.inl ⟨_,_,rfl,Fw hK,?_⟩⟩;exact⟨_,results_tmp rfl _ _ _,_,rfl,iL F.1 ak,F.2⟩
 case stop=>exact fun _ _ _ _ h _=>h.elim
def Vv {D:Nat->Prop} (hS:wN 298 lb encR l D w) (hlen:l.length*16<=140737488355328):
  Calls prog 296 #[.func (.func 298) #[] lb] w fun e w'=>∃v,e=.returned v/\w'.ownsRow w.heap.size 108 2 v l.length (fJ l)/\Z w w':=by
 go_enter func296,ntmps296;go_wp2_with fail
 refine(Nr hS hlen).mono ?_;rintro e w1 ⟨v,rfl,h1,h2⟩;go_wp2;go_ret;exact⟨_,rfl,h1,h2⟩
end Pq
end Go.Proofs.YtdhifkbbjlhcaaaGreatDoor
