import Derived.Test.YtdhifkbbjlhcaaaGreatDoorKz0
import Derived.StillTail
set_option maxRecDepth 20000
set_option maxHeartbeats 1000000
set_option linter.defProp false
namespace Go.Proofs.YtdhifkbbjlhcaaaGreatDoor
open Go.Proofs.Tryz
variable {a:Act} {listed:Array Bool} {w:ay}
section
open Go
section
variable {P:Program} {ops:Array Oper} {Q:Exit->Act->World->Prop} {md:Region.Mode} {S:ay->Prop} {L:Nat}
def gG (P:Program) (md:Region.Mode) (ops:Array Oper) (Q:Exit->Act->World->Prop) (S:ay->Prop) (L:Nat):Nat->Array Bool->Act->World->Prop
 | 0,listed,a,w=>Region.ready md ops listed= []/\Q .normal a w
 | fuel+1,listed,a,w=>(Region.ready md ops listed= []->Q .normal a w)/\∀i∈Region.ready md ops listed,wpOp P ops Q i (fun a' w'=>(i≠L->S w')/\gG P md ops Q S L fuel (listed.setIfInBounds i true) a' w') a w
def zm:∀(fuel:Nat) (listed:Array Bool) (a:Act) (w:ay),gG P md ops Q S L fuel listed a w->wpAny P md ops Q fuel listed a w
 | 0,_,_,_,h=>h
 | fuel+1,_,_,_,h=>⟨h.1,fun i hi=>wpOp_mono (fun a' w' h'=>zm fuel _ a' w' h'.2) (h.2 i hi)⟩
def Xj {i:Nat} {oi:Oper} {v:Value} (hi:ops[i]?=some oi) (hsel:∀(j:Nat) (o:Oper) cs b,ops[j]?=some o->o.op≠.select cs b) (hQ:∀c a w,Q (.panic c) (a.put oi.dst v) w->Q (.panic c) a w)
  (hL:Region.waitsFor md ops L i=true):
  ∀(fuel:Nat) (listed:Array Bool) (a:Act) (w:ay),
   (∀j oj,ops[j]?=some oj->j≠i->listed.getD j true=false->(∀e∈oj.after,Region.binds md e=true->e.on≠i)->oi.apart ops oj=true)->
   i∈Region.ready md ops listed->YieldsIf P ops S oi v a->S w->
   gG P md ops Q S L fuel (listed.setIfInBounds i true) (a.put oi.dst v) w->gG P md ops Q S L (fuel+1) listed a w:=by
 intro fuel;induction fuel with
 | zero=>exact anY
 | succ fuel ih=>
  intro listed a w hfree hr hy hS H;refine⟨fun h=>(by grind),fun j hj=>?_⟩;by_cases hji:j=i
  ·grind[YieldsIf.wpOp]
  ·have⟨hjun,oj,hoj,hall⟩:=mem_ready.1 hj;have hnot:∀e∈oj.after,Region.binds md e=true->e.on≠i:=(by grind[mem_ready]);have hjL:j≠L:=(by grind[Region.waitsFor_spec]);exact aty
def bU {i d:Nat} {oi:Oper} {v:Value} {fuel:Nat} (hi:ops[i]?=some oi) (hs:Region.noSelect ops=true) (hf:Region.free md ops listed i=true) (hr:(Region.ready md ops listed).contains i=true)
  (hL:Region.waitsFor md ops L i=true) (hd:oi.dst=some d) (hQ:∀c a w,Q (.panic c) (a.put (some d) v) w->Q (.panic c) a w) (hw:Region.wanted oi (yielded ops a.tmps)=true) (hS:S w) (hy:∀w,S w->(execOp a.eval oi).run P w=.ok (.value v) w)
  (h:gG P md ops Q S L fuel (listed.setIfInBounds i true) (a.put (some d) v) w):gG P md ops Q S L (fuel+1) listed a w:=
 Xj hi (aki hs) (by grind) hL fuel listed a w (Region.free_spec hi hf) (by grind) (.inl ⟨hw,hy⟩) hS (by grind)
def last_one {i:Nat} {o:Oper} {fuel:Nat} (hr:Region.ready md ops listed= [i]) (ho:ops[i]?=some o)
  (h:∀K':Act->World->Prop,Shut (∀a w,(i≠L->S w)->((i≠L->S w)->gG P md ops Q S L fuel (listed.setIfInBounds i true) a w)->K' a w)->if Region.wanted o (yielded ops a.tmps)=true then Oper.wp P o a w K' Q else K' (a.put o.dst undef) w):
  gG P md ops Q S L (fuel+1) listed a w:=by
 refine⟨fun e=>(by grind),fun j hj=>?_⟩;rw[hr]at hj;obtain rfl:j=i:=by grind
 exact wpOp_step ho (fun K' hK=>h K' (fun a w hS hW=>hK a w ⟨hS,hW hS⟩))
def aO (hr:Region.ready md ops listed= []) (h:Q .normal a w):∀fuel,gG P md ops Q S L fuel listed a w
 | 0=>⟨hr,h⟩
 | _+1=>⟨fun _=>h,by grind⟩
def aG {id:Nat} (hm:P.follows .mixedOrders=true) (h:gG P .any ops Q S L ops.size (Array.replicate ops.size false) a w.drew):(Code.region id ops true).wp P Q a w:=
 wp_region_any hm (zm _ _ _ _ h)
end
end
end Go.Proofs.YtdhifkbbjlhcaaaGreatDoor
