import Derived.Test.YtdhifkbbjlhcaaaGreatDoorKz1
set_option maxRecDepth 20000
set_option maxHeartbeats 1000000
set_option linter.defProp false
namespace Go.Proofs.YtdhifkbbjlhcaaaGreatDoor
open Go.Proofs.Tryz
variable {L d fuel i:Nat} {P:Program} {Q:Exit->Act->World->Prop} {S:ay->Prop} {a:Act} {listed:Array Bool} {md:Region.Mode} {oi:Oper} {ops:Array Oper} {v:Value} {w:ay}
section
open Go
def zo {l:List Nat} (hr:Region.ready md ops listed=i::l)
  (h:∀k∈i::l,∃o,ops[k]?=some o/\∀K':Act->World->Prop,Shut (∀a w,(k≠L->S w)->((k≠L->S w)->gG P md ops Q S L fuel (listed.setIfInBounds k true) a w)->K' a w)->if Region.wanted o (yielded ops a.tmps)=true then Oper.wp P o a w K' Q else K' (a.put o.dst undef) w):
  gG P md ops Q S L (fuel+1) listed a w:=by
 refine⟨fun e=>(by grind),fun k hk=>?_⟩;rw[hr]at hk;have⟨o,ho,h'⟩:=h k hk;exact wpOp_step ho (fun K' hK=>h' K' (fun a w hS hW=>hK a w ⟨hS,hW hS⟩))
def G8 (hi:ops[i]?=some oi) (hsel:∀(j:Nat) (o:Oper) cs b,ops[j]?=some o->o.op≠.select cs b) (hQ:∀c a w,Q (.panic c) (a.put oi.dst v) w->Q (.panic c) a w)
  (hL:ops.size<=L):
  ∀(fuel:Nat) (listed:Array Bool) (a:Act) (w:ay),
   (∀j oj,ops[j]?=some oj->j≠i->listed.getD j true=false->(∀e∈oj.after,Region.binds md e=true->e.on≠i)->oi.apart ops oj=true)->
   i∈Region.ready md ops listed->YieldsIf P ops S oi v a->S w->
   gG P md ops Q S L fuel (listed.setIfInBounds i true) (a.put oi.dst v) w->gG P md ops Q S L (fuel+1) listed a w:=by
 intro fuel;induction fuel with
 | zero=>exact anY
 | succ fuel ih=>
  intro listed a w hfree hr hy hS H;refine⟨fun h=>(by grind),fun j hj=>?_⟩;by_cases hji:j=i
  ·grind[YieldsIf.wpOp]
  ·have⟨hjun,oj,hoj,hall⟩:=mem_ready.1 hj;have hnot:∀e∈oj.after,Region.binds md e=true->e.on≠i:=(by grind[mem_ready]);have hjL:j≠L:=(by grind);exact aty
def tL (hi:ops[i]?=some oi) (hs:Region.noSelect ops=true) (hf:Region.free md ops listed i=true) (hr:(Region.ready md ops listed).contains i=true)
  (hL:Nat.ble ops.size L=true) (hd:oi.dst=some d) (hQ:∀c a w,Q (.panic c) (a.put (some d) v) w->Q (.panic c) a w) (hw:Region.wanted oi (yielded ops a.tmps)=true) (hS:S w) (hy:∀w,S w->(execOp a.eval oi).run P w=.ok (.value v) w)
  (h:gG P md ops Q S L fuel (listed.setIfInBounds i true) (a.put (some d) v) w):gG P md ops Q S L (fuel+1) listed a w:=
 G8 hi (aki hs) (by grind) (Nat.le_of_ble_eq_true hL) fuel listed a w (Region.free_spec hi hf) (by grind) (.inl ⟨hw,hy⟩) hS (by grind)
def Xk (hi:ops[i]?=some oi) (hs:Region.noSelect ops=true) (hf:Region.free md ops listed i=true) (hr:(Region.ready md ops listed).contains i=true)
  (hL:Nat.ble ops.size L=true) (hd:oi.dst=some d) (hQ:∀c a w,Q (.panic c) (a.put (some d) undef) w->Q (.panic c) a w) (hw:Region.wanted oi (yielded ops a.tmps)=false) (hS:S w)
  (h:gG P md ops Q S L fuel (listed.setIfInBounds i true) (a.put (some d) undef) w):gG P md ops Q S L (fuel+1) listed a w:=
 G8 hi (aki hs) (by grind) (Nat.le_of_ble_eq_true hL) fuel listed a w (Region.free_spec hi hf) (by grind) (.inr ⟨hw,rfl⟩) hS (by grind)
def apM (md:Region.Mode) (ops:Array Oper) (listed:Array Bool) (ch:List Nat) (i L:Nat):Bool:=
 ch.all (fun d=> !(listed.getD d true))&&ch.all (fun d=>d==i||ch.any (fun p=>Region.waitsFor md ops d p))&&ch.contains L&&i != L
def SY {ch:List Nat} (hi:ops[i]?=some oi) (hsel:∀(j:Nat) (o:Oper) cs b,ops[j]?=some o->o.op≠.select cs b) (hQ:∀c a w,Q (.panic c) (a.put oi.dst v) w->Q (.panic c) a w)
  (hw:∀d∈ch,d=i\/∃p∈ch,Region.waitsFor md ops d p=true) (hLc:L∈ch) (hiL:i≠L):
  ∀(fuel:Nat) (listed:Array Bool) (a:Act) (w:ay),(∀d∈ch,listed.getD d true=false)->
   (∀j oj,ops[j]?=some oj->j≠i->listed.getD j true=false->(∀e∈oj.after,Region.binds md e=true->e.on≠i)->oi.apart ops oj=true)->
   i∈Region.ready md ops listed->YieldsIf P ops S oi v a->S w->
   gG P md ops Q S L fuel (listed.setIfInBounds i true) (a.put oi.dst v) w->gG P md ops Q S L (fuel+1) listed a w:=by
 intro fuel;induction fuel with
 | zero=>
  intro listed a w _ _ hr hy hS H;refine⟨fun h=>(by grind),fun j hj=>?_⟩;by_cases hji:j=i
  ·grind[YieldsIf.wpOp]
  ·have:=aa5 hj hji;grind[gG]
 | succ fuel ih=>
  intro listed a w hun hfree hr hy hS H;refine⟨fun h=>(by grind),fun j hj=>?_⟩;by_cases hji:j=i
  ·grind[YieldsIf.wpOp]
  ·have⟨hjun,oj,hoj,hall⟩:=mem_ready.1 hj;have hno:∀k,listed.getD k true=false->∀e∈oj.after,Region.binds md e=true->e.on≠k:=(by grind);have hnot:=hno i (mem_ready.1 hr).1;have hjc:j∉ch:=(by grind[Region.waitsFor_spec]);have hjL:j≠L:=(by grind);have h1:=H.2 j (aa5 hj hji);have h2:=wpOp_putIf hoj (hfree j oj hoj hji hjun hnot) (fun cs b=>hsel i oi cs b hi) (fun cs b=>hsel j oj cs b hoj) hQ hy h1;have hfree':∀k ok,ops[k]?=some ok->k≠i->(listed.setIfInBounds j true).getD k true=false->(∀e∈ok.after,Region.binds md e=true->e.on≠i)->oi.apart ops ok=true:=fun k ok hk hki hun hno=>by
    refine hfree k ok hk hki ?_ hno;by_cases hjk:j=k
    ·grind
    simp_all
   have hun':∀d∈ch,(listed.setIfInBounds j true).getD d true=false:=fun d hd=>by have hne:j≠d:=(by grind);simp_all
   grind[wpOp_mono,aa5,Array.setIfInBounds_comm]
def iT (ch:List Nat) (hi:ops[i]?=some oi) (hs:Region.noSelect ops=true) (hf:Region.free md ops listed i=true) (hr:(Region.ready md ops listed).contains i=true)
  (hL:apM md ops listed ch i L=true) (hd:oi.dst=some d) (hQ:∀c a w,Q (.panic c) (a.put (some d) v) w->Q (.panic c) a w) (hw:Region.wanted oi (yielded ops a.tmps)=true) (hS:S w) (hy:∀w,S w->(execOp a.eval oi).run P w=.ok (.value v) w)
  (h:gG P md ops Q S L fuel (listed.setIfInBounds i true) (a.put (some d) v) w):gG P md ops Q S L (fuel+1) listed a w:=by
 unfold apM at hL;rw[lW,lW,lW]at hL;obtain⟨⟨⟨h1,h2⟩,h3⟩,h4⟩:=hL;refine SY (ch:=ch) hi (aki hs) (by grind) (fun e he=>?_) (by grind) (by grind) fuel listed a w (fun e he=>?_) (Region.free_spec hi hf) (by grind) (.inl ⟨hw,hy⟩) hS (by grind)
 ·grind
 grind
end
section
open Go Go.RowKit
def tk (i:Nat) {d:Nat} {oi:Oper} {v:Value} {a a':Act} 
  (h:gG P md ops Q S L fuel (listed.setIfInBounds i true) a' w) (hS:S w:=by assumption)
  (hi:ops[i]?=some oi:=by rfl) (hs:Region.noSelect ops=true:=by kernel_rfl) (hf:Region.free md ops listed i=true:=by kernel_rfl) (hr:(Region.ready md ops listed).contains i=true:=by kernel_rfl)
  (hL:Nat.ble ops.size L=true:=by kernel_rfl) (hd:oi.dst=some d:=by rfl) (hw:Region.wanted oi (yielded ops a.tmps)=true:=by first | kernel_rfl | rfl)
  (hy:∀w,S w->(execOp a.eval oi).run P w=.ok (.value v) w:=by
   intro xx bJ
   try (have hF:=HF.out xx bJ;repeat (obtain ⟨_,hF⟩:=hF))
   try clear bJ
   go_simp
   try (with_reducible rfl))
  (ha:a.put (some d) v=a':=by simp only[Act.put,jO,jX,jg];rfl)
  (hQ:∀c a w,Q (.panic c) (a.put (some d) v) w->Q (.panic c) a w:=by exact fun _ _ _ h=>h):gG P md ops Q S L (fuel+1) listed a w:=
 tL hi hs hf hr hL hd hQ hw hS hy (by grind)
def sk (i:Nat) {d:Nat} {oi:Oper} {a a':Act} 
  (h:gG P md ops Q S L fuel (listed.setIfInBounds i true) a' w) (hS:S w:=by assumption)
  (hi:ops[i]?=some oi:=by rfl) (hs:Region.noSelect ops=true:=by kernel_rfl) (hf:Region.free md ops listed i=true:=by kernel_rfl) (hr:(Region.ready md ops listed).contains i=true:=by kernel_rfl)
  (hL:Nat.ble ops.size L=true:=by kernel_rfl) (hd:oi.dst=some d:=by rfl) (hw:Region.wanted oi (yielded ops a.tmps)=false:=by first | kernel_rfl | rfl)
  (ha:a.put (some d) undef=a':=by simp only[Act.put,jO,jX,jg];rfl)
  (hQ:∀c a w,Q (.panic c) (a.put (some d) undef) w->Q (.panic c) a w:=by exact fun _ _ _ h=>h):gG P md ops Q S L (fuel+1) listed a w:=
 Xk hi hs hf hr hL hd hQ hw hS (by grind)
def tc (ch:List Nat) (i:Nat) {d:Nat} {oi:Oper} {v:Value} {a a':Act} 
  (h:gG P md ops Q S L fuel (listed.setIfInBounds i true) a' w) (hS:S w:=by assumption)
  (hi:ops[i]?=some oi:=by rfl) (hs:Region.noSelect ops=true:=by kernel_rfl) (hf:Region.free md ops listed i=true:=by kernel_rfl) (hr:(Region.ready md ops listed).contains i=true:=by kernel_rfl)
  (hL:apM md ops listed ch i L=true:=by kernel_rfl) (hd:oi.dst=some d:=by rfl) (hw:Region.wanted oi (yielded ops a.tmps)=true:=by first | kernel_rfl | rfl)
  (hy:∀w,S w->(execOp a.eval oi).run P w=.ok (.value v) w:=by
   intro xx bJ
   try (have hF:=HF.out xx bJ;repeat (obtain ⟨_,hF⟩:=hF))
   try clear bJ
   go_simp
   try (with_reducible rfl))
  (ha:a.put (some d) v=a':=by simp only[Act.put,jO,jX,jg];rfl)
  (hQ:∀c a w,Q (.panic c) (a.put (some d) v) w->Q (.panic c) a w:=by exact fun _ _ _ h=>h):gG P md ops Q S L (fuel+1) listed a w:=
 iT ch hi hs hf hr hL hd hQ hw hS hy (by grind)
end
end Go.Proofs.YtdhifkbbjlhcaaaGreatDoor
