import Derived.Test.YtdhifkbbjlhcaaaGreatDoorKz0
import Derived.Maps.OwnSet
set_option maxRecDepth 20000
set_option maxHeartbeats 1000000
set_option linter.defProp false
namespace Go.Proofs.YtdhifkbbjlhcaaaGreatDoor
open Go.Proofs.Tryz
variable {K:Nat->Prop} {v:Value} {vs:List Value} {w w1:ay}
section
open Go.RowKit
structure aH (K:Nat->Prop) (w w':ay):Prop where
 os:w'.os=w.os
 tape:w'.tape=w.tape
 output:w'.output=w.output
 size:w.heap.size<=w'.heap.size
 block:∀k,k<w.heap.size->¬K k->w'.heap[k]?=w.heap[k]?
theorem aH.refl (K:Nat->Prop) (w:ay):aH K w w:=⟨rfl,rfl,rfl,aC _,fun _ _ _=>rfl⟩
def aH.uP {w w':ay} {r:Option Nat} (h:w.grownBy w' r) (hK:∀k,r=some k->K k\/w.heap.size<=k):aH K w w':=
 ⟨h.os,h.tape,h.output,h.size,fun k hk hn=>h.block k hk (fun e=>by grind)⟩
theorem aH.of_below {w w':ay} (h:Z w w') (K:Nat->Prop):aH K w w':=⟨h.os,h.tape,h.output,h.size,fun k hk _=>h.block k hk⟩
theorem aH.trans {K K':Nat->Prop} {w w1 w2:ay} (h:aH K w w1) (k:aH K' w1 w2) (hK:∀i,i<w.heap.size->K' i->K i):aH K w w2:=
 ⟨k.os.trans h.os,k.tape.trans h.tape,k.output.trans h.output,bM h.size k.size,fun i hi hn=>(k.block i (gL hi h.size) (fun e=>hn (hK i hi e))).trans (h.block i hi hn)⟩
theorem aH.mono {K K':Nat->Prop} (h:aH K w w1) (hK:∀i,i<w.heap.size->K i->K' i):aH K' w w1:=⟨h.os,h.tape,h.output,h.size,fun i hi hn=>h.block i hi (fun e=>hn (hK i hi e))⟩
theorem aH.cell (h:aH K w w1) {a:Addr} (hc:w.cell? a=some v) (hK:¬K a.block):w1.cell? a=some v:=
 (SF (h.block a.block (aU w a hc) hK)).trans hc
theorem aH.setCell (h:aH K w w1) (p:Addr) (v:Value) (hK:K p.block\/w.heap.size<=p.block):aH K w (w1.setCell p v):=
 ⟨h.os,h.tape,h.output,by rw[vV];exact h.size,fun i hi hn=>by
  grind[gy,block]⟩
theorem aH.alloc (h:aH K w w1) (o:Obj):aH K w (w1.alloc o):=
 ⟨h.os,h.tape,h.output,by rw[iI];have:=h.size;omega,fun i hi hn=>(iM _ _ _ (gL hi h.size)).trans (h.block i hi hn)⟩
theorem aH.drew (h:aH K w w1):aH K w w1.drew:=⟨h.os,h.tape,h.output,h.size,h.block⟩
theorem aH.below {w0 w w1:ay} {B:Nat} (h:aH K w w1) (hb:Below B w0 w) (hB:B<=w.heap.size) (hK:∀i,K i->B<=i):Below B w0 w1:=
 hb.trans ⟨h.os,h.tape,h.output,h.size,fun k hk=>h.block k ak (fun e=>by grind)⟩
def aH.mh {W0 W:ay} (h:aH K W0 W) {l:Nat} (o':Obj) (hl:K l\/W0.heap.size<=l):aH K W0 (W.putObj l o'):=by
 refine⟨h.os,h.tape,h.output,by rw[World.putObj_size];exact h.size,fun k hk hn=>?_⟩
 grind[DU,block]
def aH.turned {w w1 w2:ay} {b:Nat} (h:aH K w w1) (k:w1.mapTurned w2 b) (hK:K b):aH K w w2:=h.trans (K':=fun i=>i=b) (aH.uP k.grown (fun _ e=>.inl (ji e).symm)) (fun _ _ e=>e▸hK)
theorem eG {B e sz n:Nat} (h:w.ownsRow B e sz v n vs) (b:Z w w1):w1.ownsRow B e sz v n vs:=by
 exact an2
def wH {w w1 w2:ay} {n B e sz:Nat} (h:Z w w1) (hr:w1.ownsRow B e sz v n vs) (hB:w.heap.size<=B) (hg:w1.grownBy w2 v.ownBlock):Z w w2:=
 h.grown hg h.size (fun k e=>by have:=(hr.lt k e).1;omega)
def iL {B B' e sz n:Nat} (h:w.ownsRow B e sz v n vs) (hb:B'<=B):w.ownsRow B' e sz v n vs:=by
 refine⟨h.1,?_⟩;rcases h.2 with h0 | ⟨g,cap,cur,rfl,hg,r⟩
 ·grind
 ·exact .inr ⟨g,cap,cur,rfl,bM hb hg,r⟩
end
end Go.Proofs.YtdhifkbbjlhcaaaGreatDoor
