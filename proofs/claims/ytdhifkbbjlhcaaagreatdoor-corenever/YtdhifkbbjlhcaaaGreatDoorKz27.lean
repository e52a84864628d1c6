import Derived.Test.YtdhifkbbjlhcaaaGreatDoorKz26
import Derived.Shelf.SlMaps.Clone
import Derived.Test.YtdhifkbbjlhcaaaGreatDoorKz20
set_option maxRecDepth 20000
set_option maxHeartbeats 1000000
set_option linter.defProp false
namespace Go.Proofs.YtdhifkbbjlhcaaaGreatDoor
open Go.Proofs.Tryz
variable {L:List A3.Ag.En} {a m n te ts:Nat} {ao:Option Addr} {e:A3.Ag.En} {h:Nat->A3.Ag.En} {w:ay}
namespace A3
open Go.RowKit
variable {P:Program}
def Moved (w:ay) (ao Da:Option Addr):Prop:=Da=ao\/∃g,w.heap.size<=g/\Da=some ⟨g,0,none⟩
def Yu {base e sz n:Nat} {v:Value} {xs:List Value} (h:w.ownsRow base e sz v n xs):(v=.slice none 0 0/\n=0)\/∃g cap,v=.slice (some ⟨g,0,none⟩) n cap/\base<=g/\n<=cap:=by
 rcases h.2 with h | ⟨g,cap,cur,rfl,hb,_,hn,_⟩
 ·grind
 grind
end A3
namespace A3
open Go.RowKit Ag
namespace Ag
def Gh (L:List En):Prop:=L.Pairwise (fun e f=>OL e f=true)
def I4 (e:En):List En->List En
 | []=> [e]
 | f::L=>if OL f e=true then f::I4 e L else e::f::L
theorem Lh (e x:En) (L:List En):x∈I4 e L↔x=e\/x∈L:=by
 induction L with
 | nil=>simp[I4]
 | cons f L ih=>grind[I4]
theorem acP {a b c:En} (h:OL a b=true) (k:OL b c=true):OL a c=true:=by grind[rZ]
theorem Dm (a:En):¬OL a a=true:=fun k=>by grind[rZ]
theorem aqT {a b:En} (h:¬OL a b=true) (hi:a.id≠b.id):OL b a=true:=by grind[rZ]
theorem U9 (s:Gh L) (hi:∀f∈L,f.id≠e.id):Gh (I4 e L):=by
 induction L with
 | nil=>simp[I4,Gh]
 | cons f L ih=>grind[qH,I4,Lh,aqT,acP,Gh]
theorem Gh.nodup (s:Gh L):L.Nodup:=List.Pairwise.imp (S:=fun a b=>a≠b) (fun {a b} h e=>by grind[Dm]) s
structure Q_ (L:List En) (h:Nat->En) (n:Nat):Prop where
 srt:Gh L
 mem:∀e,e∈L↔∃k,k<n/\h k=e
theorem Q_.same {h h':Nat->En} (l:Q_ L h n) (s:Same h h' n):Q_ L h' n:=⟨l.srt,fun e=>(l.mem e).trans (s e)⟩
theorem Q_.len (l:Q_ L h n) (hi:∀k k',k<n->k'<n->(h k).id=(h k').id->k=k'):L.length=n:=by
 have p:((List.range n).map h).Nodup:=by grind[List.nodup_range,List.Pairwise.imp_of_mem]
 have:=((JO l.srt.nodup p).2 (fun e=>by
  rw[l.mem e]
  simp)).length_eq
 grind
def Yv (d:Heap h n) (k:Nat) (hk:k<n):le (h 0) (h k):=by
 induction k using Nat.strongRecOn with
 | ind k ih=>
  by_cases e:k=0
  ·grind[le.refl]
  grind[Q9,le.trans,Heap]
theorem Q_.head (l:Q_ (e::L) h n) (d:Heap h n):0<n/\h 0=e:=by
 have⟨k,hk,hke⟩:=(l.mem e).1 dF;refine⟨by omega,?_⟩;have h1:=Yv d k hk;rw[hke]at h1;rcases lZ.1 ((l.mem (h 0)).2 ⟨0,by omega,rfl⟩)with h2 | h2
 ·omega
 ·have:=(qH.1 l.srt).1 _ h2;grind[rZ,le]
def Q_.nil (l:Q_ [] h n):n=0:=by
 by_cases e:n=0
 ·omega
 ·have:=(l.mem (h 0)).2 ⟨0,by omega,rfl⟩;grind
def al7 (h:Nat->En):Q_ [] h 0:=⟨List.Pairwise.nil,fun e=>by simp⟩
theorem Q_.add (l:Q_ L h n) (hi:∀f∈L,f.id≠e.id):Q_ (I4 e L) (upd h n e) (n+1):=by
 refine⟨U9 l.srt hi,fun x=>?_⟩;rw[Lh,l.mem];constructor
 ·rintro (rfl | ⟨k,hk,rfl⟩)
  ·exact ⟨n,by omega,by simp[upd]⟩
  ·exact ⟨k,by omega,by grind[upd]⟩
 grind[upd]
def BI (i:Int) (L:List En):List En:=L.filter (fun e=> !decide (e.id=i))
theorem Q_.del {l p:Nat} (q:Q_ L h (l+1)) (hi:∀k k',k<l+1->k'<l+1->(h k).id=(h k').id->k=k') (hp:p<l+1):Q_ (BI (h p).id L) (swp h p l) l:=by
 refine⟨q.srt.filter _,fun x=>?_⟩;unfold BI;rw[xJ,q.mem];constructor
 ·rintro ⟨⟨k,hk,rfl⟩,hne⟩;have hkp:k≠p:=by grind
  by_cases e1:k=l
  ·exact ⟨p,by omega,by rw[Bf,e1]⟩
  ·exact ⟨k,by omega,by simp[swp,hkp,e1]⟩
 grind[swp]
def acQ (d:Heap h n) (e:En):EB (upd h n e) (n+1) n:=by
 refine⟨fun k a b c=>?_,fun k a b c f=>?_⟩
 ·grind[upd,par,Heap]
 grind[par]
end Ag
def Aq.app {cap n:Nat} (r:w.ownsRow 0 te 2 (.slice ao (n+1) cap) (n+1) (flat h n++e.cells)):Aq w te ao cap (n+1) (upd h n e):=by
 refine Aq.al3 (base:=0) ?_;grind[flat,upd,ahD]
def xX.drN (w:ay) (q:Nat):xX w (w.drewN q):=⟨q,#[],(Sort.grow_empty _).symm⟩
structure Agd (ts te:Nat) (w:ay) (a m:Nat) (ao:Option Addr) (L:List En) (cap n:Nat) (h:Nat->En):Prop where
 raw:Raw ts te w a m ao cap n h
 heap:Heap h n
 WQ:Q_ L h n
def r_ (ts te:Nat) (w:ay) (a m:Nat) (ao:Option Addr) (L:List En):Prop:=∃cap n h,Agd ts te w a m ao L cap n h
section
variable {ts te:Nat} {w:ay} {a m:Nat} {ao:Option Addr} {L:List En} {cap n:Nat} {h:Nat->En}
def Raw.inj (r:Raw ts te w a m ao cap n h):∀k k',k<n->k'<n->(h k).id=(h k').id->k=k':=fun _ _ a b c=>r.pm.elim fun _ hp=>hp.2.inj a b c
theorem Agd.len (r:Agd ts te w a m ao L cap n h):L.length=n:=r.WQ.len r.raw.inj
theorem r_.kept (r:r_ ts te w a m ao L) {w':ay} {K:Nat->Prop} (c:aH K w w') (hK:∀k,xE a m ao k->¬K k):r_ ts te w' a m ao L:=by
 obtain⟨cap,n,h,r⟩:=r;exact⟨cap,n,h,r.raw.kept c hK,r.heap,r.WQ⟩
theorem r_.below (r:r_ ts te w a m ao L) {w':ay} (b:Z w w'):r_ ts te w' a m ao L:=r.kept (K:=fun _=>False) (aH.of_below b _) (fun _ _ h=>h)
def Raw.ahF (r:Raw ts te w a m ao cap n h) {k:Nat} (hk:k<n):(Instr.lookup 195 (.map (some m)) (J (h k).id) true).run prog w=.ok (.tuple #[J k,.bool true]) w:=by
 have⟨D,ho,hd⟩:=r.pm;have⟨v,ps,hrun,hv⟩:=ho.look_ok (NH underlying3) underlying195 (zeroValue3 w) (NI underlying3 rfl) (NG underlying3 (r.ok k hk).1);grind[plainElem_int_inv,underlying3,PD.yes]
def Raw.aaB (r:Raw ts te w a m ao cap n h) {i:Int} (hi:QC i) (hn:∀k,k<n->(h k).id≠i):(Instr.lookup 195 (.map (some m)) (J i) true).run prog w=.ok (.tuple #[J 0,.bool false]) w:=by
 have⟨D,ho,hd⟩:=r.pm;have⟨v,ps,hrun,hv⟩:=ho.look_ok (NH underlying3) underlying195 (zeroValue3 w) (NI underlying3 rfl) (NG underlying3 hi);grind[plainElem_int_inv,underlying3,PD.no]
end
end A3
namespace A3
open Go.RowKit Ag
def mJ (w:ay) (l:List Value) (t:TypeId):∀j u,l[j]?=some u->(w.alloc (.cells l.toArray t)).cell? ((⟨w.heap.size,0,none⟩:Addr).add j)=some u:=by
 grind[Addr.add,iQ]
def acR {ao Da:Option Addr} (h:Moved w ao Da) {k:Nat} (hk:k<w.heap.size) (hK:xE a m Da k):xE a m ao k:=by
 grind[xE,Moved]
def add_mid {cap n:Nat} (r:Raw ts te w a m ao cap n h) (he:QC e.id/\QC e.tm/\True) (hne:∀k,k<n->(h k).id≠e.id) (hn:n+1<=35184372088832)
  {o:Obj} {w1:ay} {Da:Option Addr} {cap':Nat} (hrow:w1.ownsRow 0 te 2 (.slice Da (n+1) cap') (n+1) (flat h n++e.cells)) (hgr:(w.alloc o).grownBy w1 (ao.map (·.block))) (hmv:Moved (w.alloc o) ao Da):
  w1.cell? ⟨a,0,none⟩=some (.slice ao n cap)/\w1.frozen? ⟨a,0,none⟩=false/\(w1.setCell ⟨a,0,none⟩ (.slice Da (n+1) cap')).cell? ⟨a,1,none⟩=some (.map (some m))/\
  ∃w3,(Instr.mapUpdate 195 (.map (some m)) (J e.id) (J n)).run prog (w1.setCell ⟨a,0,none⟩ (.slice Da (n+1) cap'))=.ok () w3/\Raw ts te w3 a m Da cap' (n+1) (upd h n e)/\aH (xE a m ao) w w3/\Moved w ao Da:=by
 have hsz:(w.alloc o).heap.size=w.heap.size+1:=by simp_all
 have halt:=r.alt;have aFZ:=r.mlt;have aCP:=r.row;have aF0:∀k,ao.map (·.block)=some k->∃g,ao=some ⟨g,0,none⟩/\k=g:=by grind[Aq]
 have hna:some a≠ao.map (·.block):=by grind[Raw.ag]
 have hnm:some m≠ao.map (·.block):=by grind[Raw.ag]
 have ba:=(hgr.block a ak hna).trans ((iM _ _ _ halt).trans r.blk);have azY:Moved w ao Da:=by grind[Moved]
 have hag':∀g,Da=some ⟨g,0,none⟩->g≠a/\g≠m:=by grind[Moved]
 have⟨D,ho,hd⟩:=r.pm;have b2:=bS w1 a 0 _ ts (.slice Da (n+1) cap') ba;have ho2:(w1.setCell ⟨a,0,none⟩ (.slice Da (n+1) cap')).ownsMap prog 3 (plainElem prog 3) m n D:=((ho.alloc o).kept hgr hnm).setCell (iN r.am) _;have⟨w3,hrun,ho3,ht3⟩:=ho2.store (NH underlying3) underlying195 (gL (Nat.lt_succ_self n) (bM hn aT)) (NG underlying3 he.1) (NI underlying3 (wfN (k:=n) ak));refine⟨aj ba rfl,aD ba,aj b2 rfl,w3,hrun,?_,?_,azY⟩
 ·have g3:=ht3.grown;have azZ:=Aq.app hrow;refine⟨(g3.block a (by grind) (fun e=>r.am (ji e))).trans b2,?_,⟨_,ho3,hd.add hne⟩,r.am,hag',?_,hn⟩
  ·rcases azZ with h0 | ⟨g,cur,hao,hr⟩
   ·omega
   ·refine .inr ⟨g,cur,hao,hr.of_heap ?_⟩;grind[World.grownBy.block,mG.lt,gy]
  grind[upd,Raw.ok]
 ·have c1:aH (xE a m ao) w w1:=((aH.refl _ w).alloc o).trans (K':=fun k=>ao.map (·.block)=some k) (aH.uP hgr (fun k e=>.inl e)) (fun k _ e=>by grind[xE]);exact(c1.setCell _ _ (.inl (.inl rfl))).turned ht3 (.inr (.inl rfl))
end A3
namespace A3
open Go.RowKit Ag
def KD (w:ay) (te:TypeId):(w.alloc (.cells #[] te)).ownsRow 0 te 2 (.slice (some ⟨w.heap.size,0,none⟩) 0 0) 0 []:=World.ownsRow_made w #[] 0 (ni _) (ni _) rfl
end A3
namespace A3
open Go.RowKit Ag
namespace Ag
def vT (now:Int) (L:List En):List En:=L.takeWhile (fun e=>decide (e.tm<=now))
def mR (now:Int) (L:List En):List En:=L.dropWhile (fun e=>decide (e.tm<=now))
theorem OM {now:Int} {L pre rest:List En} (hL:L=pre++rest) (hp:∀e∈pre,e.tm<=now) (hr:∀f l,rest=f::l->now<f.tm):vT now L=pre/\mR now L=rest:=by
 subst hL;induction pre with
 | nil=>
  cases rest with
  | nil=>exact⟨rfl,rfl⟩
  | cons f l=>have:=hr f l rfl;have h:decide (f.tm<=now)=false:=(by grind);simp[vT,mR,h]
 | cons e pre ih=>
  have h:decide (e.tm<=now)=true:=by grind
  have:=ih (fun x hx=>hp x (by simp[hx]));simp only[vT,mR]at this;simp[vT,mR,h,this]
theorem acS {f:En} (hi:∀e∈L,e.id≠f.id):BI f.id (f::L)=L:=by
 grind[BI,JH]
end Ag
def ints (xs:List Int):List Value:=xs.map (Value.int .i64)
def K7 (xs:List Int):(ints xs).length=xs.length:=by simp[ints]
def ahG (w:ay) (a:Nat):Nat:=match w.cell? ⟨a,0,none⟩with
 | some (.slice _ n _)=>n
 | _=>0
def U_ (r:r_ ts te w a m ao L):ahG w a=L.length:=by
 obtain⟨cap,n,h,r⟩:=r;unfold ahG;rw[r.raw.c0,r.len]
structure ng (ts te a m:Nat) (ao:Option Addr) (b1 b2:Nat) (now:Int) (N:Nat->Prop) (T:List Int->World->Prop) (W:ay) (pre rest:List En) (wr:ay):Prop where
 c1:wr.cell? ⟨b1,0,none⟩=some (.pointer (some ⟨a,0,none⟩))
 c2:wr.cell? ⟨b2,0,none⟩=some (J now)
 agn:r_ ts te wr a m ao rest
 t:T (pre.map En.id) wr
 fF:aH (fun k=>xE a m ao k\/N k) W wr
section
variable {ts te a m:Nat} {ao:Option Addr} {b1 b2:Nat} {now:Int} {N:Nat->Prop} {T:List Int->World->Prop} {W wr w1 w2:ay} {pre rest:List En} {f:En}
def ng.grew (h:ng ts te a m ao b1 b2 now N T W pre rest wr) (hT:∀pre A B,T pre A->aH (xE a m ao) A B->T pre B) (g:xX wr w1):ng ts te a m ao b1 b2 now N T W pre rest w1:=
 ⟨g.cell h.c1,g.cell h.c2,h.agn.below g.below,hT _ _ _ h.t (aH.of_below g.below _),h.fF.trans (K':=fun _=>False) (aH.of_below g.below _) (fun _ _ h=>h.elim)⟩
end
theorem r_.ids (r:r_ ts te w a m ao L):∀e∈L,∀f∈L,e.id=f.id->e=f:=by
 obtain⟨cap,n,h,r⟩:=r;intro e he f hf hef;obtain⟨k,hk,rfl⟩:=(r.WQ.mem e).1 he;obtain⟨k',hk',rfl⟩:=(r.WQ.mem f).1 hf;rw[r.raw.inj k k' hk hk' hef]
section
variable {ts te a m:Nat} {ao:Option Addr} {b1 b2:Nat} {now:Int} {N:Nat->Prop} {T:List Int->World->Prop} {W wr w1 w2:ay} {pre rest:List En} {f:En}
def ng.drop (h:ng ts te a m ao b1 b2 now N T W pre (f::rest) wr) (hT:∀pre A B,T pre A->aH (xE a m ao) A B->T pre B) (hk1:¬xE a m ao b1) (hk2:¬xE a m ao b2)
  (r:r_ ts te w1 a m ao (BI f.id (f::rest))) (c:aH (xE a m ao) wr w1):ng ts te a m ao b1 b2 now N T W pre rest w1:=by
 have Yw:=h.agn.ids;have hsrt:Gh (f::rest):=by obtain⟨_,_,_,q⟩:=h.agn;exact q.WQ.srt
 have hd:BI f.id (f::rest)=rest:=by grind[acS,Dm,qH,Gh]
 rw[hd]at r;exact⟨c.cell h.c1 hk1,c.cell h.c2 hk2,r,hT _ _ _ h.t c,h.fF.trans c (fun _ _ h=>.inl h)⟩
def ng.round (h:ng ts te a m ao b1 b2 now N T W pre rest w1) (hN:∀k,N k->¬xE a m ao k/\k≠b1/\k≠b2) (ht:T (pre.map En.id++ [f.id]) w2) (c:aH N w1 w2):ng ts te a m ao b1 b2 now N T W (pre++ [f]) rest w2:=
 ⟨c.cell h.c1 (fun hk=>(hN _ hk).2.1 rfl),c.cell h.c2 (fun hk=>(hN _ hk).2.2 rfl),h.agn.kept c (fun k hk hn=>(hN k hn).1 hk),by grind,h.fF.trans c (fun _ _ h=>.inr h)⟩
end
end A3
namespace A3
open Go.RowKit Ag
structure Col (B0 B:Nat) (v:Value) (xs:List Int) (W:ay):Prop where
 blk:W.heap[B0]?=some (.cells #[v] 36 (0,0))
 row:W.ownsRow B 3 1 v xs.length (ints xs)
 lo:B0<B
 hi:B<=W.heap.size
section
variable {B0 B:Nat} {v v':Value} {xs:List Int} {W w1 w2:ay} {K:Nat->Prop}
theorem Col.cell (h:Col B0 B v xs W):W.cell? ⟨B0,0,none⟩=some v:=aj h.blk rfl
theorem Col.frozen (h:Col B0 B v xs W):W.frozen? ⟨B0,0,none⟩=false:=aD h.blk
def wh {e n:Nat} {vs:List Value} (h:W.ownsRow B e 1 v n vs) {k:Nat} (hk:v.ownBlock=some k):∃cs,W.heap[k]?=some (.cells cs e (0,0)):=by
 exact aoz
theorem eG {e n:Nat} {vs:List Value} (h:W.ownsRow B e 1 v n vs) (hg:∀k,v.ownBlock=some k->w1.heap[k]?=W.heap[k]?):w1.ownsRow B e 1 v n vs:=by
 exact ZH
theorem Col.kept (h:Col B0 B v xs W) (c:aH K W w1) (h0:¬K B0) (hv:∀k,v.ownBlock=some k->¬K k):Col B0 B v xs w1:=by
 have hlt:=(aS.1 h.blk).1;refine⟨(c.block B0 hlt h0).trans h.blk,eG h.row (fun k hk=>?_),h.lo,bM h.hi c.size⟩;have⟨cs,hcs⟩:=wh h.row hk;grind[aH.block]
theorem Col.own (B0 B:Nat):OwnFrom B (fun (p:Value×List Int) W=>Col B0 B p.1 p.2 W):=by
 rintro ⟨v,xs⟩ W W' row h hg hr;have hlt:=(aS.1 h.blk).1;refine⟨(hg.block B0 hlt (fun e=>by have:=(hr B0 e.symm).1;have:=h.lo;omega)).trans h.blk,eG h.row (fun k hk=>?_),h.lo,bM h.hi hg.size⟩;exact anR
def Col.app (h:Col B0 B v xs W) {o:Obj} {x:Int} (hrow:w1.ownsRow B 3 1 v' (xs.length+1) (ints xs++ [J x])) (hg:(W.alloc o).grownBy w1 v.ownBlock):
  Col B0 B v' (xs++ [x]) (w1.setCell ⟨B0,0,none⟩ v')/\KeepsFrom B W (w1.setCell ⟨B0,0,none⟩ v')/\aH (fun k=>k=B0\/B<=k) W (w1.setCell ⟨B0,0,none⟩ v')/\w1.cell? ⟨B0,0,none⟩=some v/\w1.frozen? ⟨B0,0,none⟩=false:=by
 have hlt:=(aS.1 h.blk).1;have hvB:∀k,v.ownBlock=some k->B<=k:=fun k hk=>(h.row.lt k hk).1;have hz:(W.alloc o).heap.size=W.heap.size+1:=by simp_all
 have b0:=(hg.block B0 ak (fun e=>by have:=hvB B0 e.symm;have:=h.lo;omega)).trans ((iM _ _ _ hlt).trans h.blk)
 have b1:=bS w1 B0 0 _ 36 v' b0;have hs:=hg.size;have hlo:=h.lo;have hhi:=h.hi;have c1:aH (fun k=>k=B0\/B<=k) W w1:=((aH.refl _ W).alloc o).trans (K':=fun k=>v.ownBlock=some k) (aH.uP hg (fun k e=>.inl e)) (fun k _ e=>.inr (hvB k e));refine⟨⟨b1,?_,hlo,by grind[vV]⟩,⟨by grind[vV],fun k o' hk hb hc=>?_⟩,c1.setCell _ _ (.inl (.inl rfl)),aj b0 rfl,aD b0⟩
 ·grind[ints,eG,gy,mV]
 ·have hkl:=(aS.1 hb).1;rw[gy _ _ _ _ (by grind)];refine(hg.block k ak (fun e=>?_)).trans ((iM _ _ _ hkl).trans hb);have⟨cs,hcs⟩:=wh h.row e.symm;exact Xg
end
def aaC {σ:Type} (B:Nat) (K:Nat->Prop) (hK:∀k,B<=k->K k) (f:σ->World):OwnFrom B (fun (s:σ) W=>aH K (f s) W):=fun _ _ _ _ h hg hr=>
 h.trans (K':=fun k=>B<=k) (aH.uP hg (fun k e=>.inl (hr k e).1)) (fun k _ e=>hK k e)
def aaD {ts te a m B:Nat} (hB:∀k,xE a m ao k->k<B) (L:List En):OwnFrom B (fun (_:Unit) W=>r_ ts te W a m ao L):=fun _ _ _ _ h hg hr=>
 h.kept (K:=fun k=>B<=k) (aH.uP hg (fun k e=>.inl (hr k e).1)) (fun k hk hb=>by grind)
theorem r_.lt (r:r_ ts te w a m ao L):∀k,xE a m ao k->k<w.heap.size:=by
 obtain⟨cap,n,h,r⟩:=r;rintro k (rfl | rfl | ⟨g,hg,rfl⟩)
 ·exact r.raw.alt
 ·exact r.raw.mlt
 ·rcases r.raw.row with⟨h0,_⟩ | ⟨g',cur,h0,hr⟩
  ·grind
  ·rw[h0]at hg;injection hg with hg;injection hg with hg;subst hg;exact hr.lt
def KeepsFrom.K4 {B:Nat} {W W':ay} {K:Nat->Prop} (c:aH K W W') (hK:∀k,K k->k<B):KeepsFrom B W W':=⟨c.size,fun k _ hk hb _=>(c.block k (aS.1 hb).1 (fun h=>by grind)).trans hb⟩
end A3
end Go.Proofs.YtdhifkbbjlhcaaaGreatDoor
