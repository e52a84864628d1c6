import Derived.Test.YtdhifkbbjlhcaaaGreatDoorKz0
import Derived.RangeFuncNested
import Derived.RangeFuncBound
import Derived.RangeFuncCalls
import Derived.RangeFuncBox
import Derived.Shelf.RegionOpen
import Derived.OwnWalkIn
import Derived.TacticsInMore
import Derived.LoopNIn
import Derived.LoopIn
set_option maxRecDepth 20000
set_option maxHeartbeats 1000000
set_option linter.defProp false
namespace Go.Proofs.YtdhifkbbjlhcaaaGreatDoor
open Go.Proofs.Tryz
section
set_option linter.defProp false
open Go.RowKit
section
variable {F:Fence} {n:Nat} {P:Program} {σ α:Type}
def QL (B:Nat) (I:ay->Prop) (Ix:Code->World->Prop) (W:ay):Exit->Act->World->Prop
 | .normal,_,W'=>KeepsFrom B W W'/\I W'
 | .ret,_,W'=>KeepsFrom B W W'/\Ix .ret W'
 | .exit i,_,W'=>KeepsFrom B W W'/\Ix (.exit i) W'
 | .goto t,_,W'=>KeepsFrom B W W'/\Ix (.goto t) W'
 | .panic _,_,_=>False
 | .outgrown,_,_=>False
def Rnd (F:Fence) (n:Nat) (P:Program) (l:Nat) (encs:α->Array Value) (Y I:σ->α->World->Prop) (Ix:Code->σ->α->World->Prop) (R:ay->Prop) (Rx:Code->World->Prop):Prop:=
 ∀s x W,Y s x W->R W->YieldAt F n P l (encs x) W fun e W'=>(e=.returned (.bool true)/\I s x W'/\R W')\/(e=.returned (.bool false)/\∃c,Ix c s x W'/\Rx c W')
def Aj (l:Nat) (I:ay->Prop):Prop:=∀W r o',I W->W.heap[l]?=some (.loop r)->I (W.putObj l o')
def KX {g:Operand} {ps:Array Tmp} {assign body:Code} {Q:Exit->Act->World->Prop} {a:Act} {w:ay}
  (hro:F.round=none) (h1:1<=n) {gf:Nat} {lb:Array Value} (hg:a.eval g=.func (.func gf) #[] lb) (hFg:F.fn gf) (eg:∀args w,(callFunc gf args).run P w=.ok (.enter gf args) w)
  (encs:α->Array Value) (hps:∀x,(encs x).size=ps.size)
  (Y I:σ->α->World->Prop) (Ix:Code->σ->α->World->Prop) (Fin:ay->Prop) (QM:Code->World->Prop)
  (hI:∀s x,Aj (w.heap.size+1) (I s x)) (hIx:∀c s x,Aj (w.heap.size+1) (Ix c s x))
  (ag3:Aj (w.heap.size+1) Fin) (UA:∀c,Aj (w.heap.size+1) (QM c)) (Ax:σ->α->Act->World->Prop) (hAx:∀s x a,Aj (w.heap.size+1) (Ax s x a))
  (hassign:∀(l:Nat) (s:σ) (x:α) (W:ay) (K:Act->World->Prop),Y s x W->(∀a' W',KeepsFrom w.heap.size W W'->Ax s x a' W'->K a' W')->
   assign.wpIn (F.inRound l) (n - 1 - 1) P (Exit.then K (fun _ _ _=>False)) {tmps:=(ps.zip (encs x)).foldl (fun t (p,v)=>t.setIfInBounds p v) a.tmps,defers:= []} W)
  (hbody:∀(s:σ) (x:α) (a':Act) (W:ay),(∃r,W.heap[w.heap.size+1]?=some (.loop r))->Ax s x a' W->body.wpIn (F.inRound (w.heap.size+1)) (n - 1 - 1) P (QL w.heap.size (I s x) (fun c=>Ix c s x) W) a' W)
  (hit:∀(R:ay->Prop) (Rx:Code->World->Prop),(∀A B,R A->KeepsFrom w.heap.size A B->R B)->(∀c A B,Rx c A->KeepsFrom w.heap.size A B->Rx c B)->Rnd F (n - 1 - 1) P (w.heap.size+1) encs Y I Ix R Rx->
   ∀W,Z w W->W.heap.size=w.heap.size+2->R W->CallsIn F (n - 1) P gf (#[.func (.yield (w.heap.size+1)) #[] #[]]++lb) W fun e W'=>(∃v,e=.returned v)/\((Fin W'/\R W')\/∃c,QM c W'/\Rx c W'))
  (hdone:∀(D:Nat) (W:ay),w.heap.size<=D->Fin W->W.heap[D]?=some (.deferred (some []))->Q .normal {a with defers:={target:=.collected D,args:= #[]}::a.defers} W)
  (hstop:∀(D:Nat) (c:Code) (W:ay),w.heap.size<=D->QM c W->W.heap[D]?=some (.deferred (some []))->c.wpIn F n P Q {a with defers:={target:=.collected D,args:= #[]}::a.defers} W):
  (Code.rangeFunc g ps assign body).wpIn F n P Q a w:=by
 refine wpIn_rangeFunc ?_;intro fn hfn;rw[hro];obtain⟨rec,hrec⟩:∃rec:LoopState->Option Code->Loop,rec=fun st pe=>{state:=st,pending:=pe,fn,tmps:=a.tmps,params:=ps,assign,body,defers:=w.heap.size}:=⟨_,rfl⟩;have⟨W1,hW1⟩:=aZ ((w.alloc (.deferred (some []))).alloc (.loop (rec .ready none)));have l1:W1.heap[w.heap.size+1]?=some (.loop (rec .ready none)):=by rw[← hW1];have:=aK (w.alloc (.deferred (some []))) (.loop (rec .ready none));rwa [iI]at this
 have k1:W1.heap[w.heap.size]?=some (.deferred (some [])):=by rw[← hW1];exact(iM _ _ _ dF).trans (aK w _)
 have b1:Z w W1:=by rw[← hW1];exact((aI _ w).alloc (aC _) _).alloc dF _
 have z1:W1.heap.size=w.heap.size+2:=by rw[← hW1];simp
 obtain⟨Rec,QN⟩:∃Rec:LoopState->Option Code->World->Prop,Rec=fun st pe W=>W.heap[w.heap.size+1]?=some (.loop (rec st pe))/\W.heap[w.heap.size]?=some (.deferred (some [])):=⟨_,rfl⟩;have stable:∀st pe A B,Rec st pe A->KeepsFrom w.heap.size A B->Rec st pe B:=fun st pe A B h k=>by rw[QN]at h ⊢;exact⟨k.same _ _ ak h.1 rfl,k.same _ _ (aC _) h.2 rfl⟩
 have put:∀st pe st' pe' W,Rec st pe W->Rec st' pe' (W.putObj (w.heap.size+1) (.loop (rec st' pe'))):=fun st pe st' pe' W h=>by rw[QN]at h ⊢;exact⟨World.putObj_heap_same (aS.1 h.1).1,(DU ak).trans h.2⟩
 refine⟨w.heap.size+1,[{target:=.collected w.heap.size,args:= #[]}],W1,{target:=.fn (.func gf) lb,args:= #[.func (.yield (w.heap.size+1)) #[] #[]]},W1,gf,
  #[.func (.yield (w.heap.size+1)) #[] #[]]++lb,W1,?_,?_,?_,?_,fun _=>h1,?_⟩
 ·rw[← hW1,hrec];exact run_enterLoop_outer _ _ _ _ _
 ·simp only[resolve,hg];simp[go_sem]
 ·intro f' hf';simp[Target.leads]at hf';subst hf';exact hFg
 ·simp[invoke,go_sem,eg]
 ·refine (hit (Rec .ready none) (fun c=>Rec .done (some c)) (stable _ _) (fun c=>stable _ _) ?_ W1 b1 z1 (by rw[QN];exact⟨l1,k1⟩)).mono ?_
  ·intro s x W hy hr;have hl:W.heap[w.heap.size+1]?=some (.loop (rec .ready none)):=(by rw[QN]at hr;exact hr.1);have hyl:=run_yield (P:=P) (args:=encs x) hl (by rw[hrec];exact hps x);rw[hrec]at hyl;refine⟨fn,_,assign,body,hyl,roundIn_of_wpIn hfn (hassign _ s x W _ hy ?_)⟩;intro a' W' hkW hax;replace hr:=stable _ _ _ _ hr hkW;clear hl hyl;have hl:W'.heap[w.heap.size+1]?=some (.loop (rec .ready none)):=(by rw[QN]at hr;exact hr.1);refine⟨_,run_beginRound hl (by rw[hrec]),?_⟩;have hb:({rec .ready none with state:=.busy}:Loop)=rec .busy none:=(by rw[hrec]);rw[hb];have r2:=put .ready none .busy none W' hr;refine wpIn_mono (hbody s x a' _ ⟨_,by rw[QN]at r2;exact r2.1⟩ (hAx s x a' _ _ _ hax hl)) ?_;have fin:∀(jump:Option Code) (W3:ay),KeepsFrom w.heap.size (W'.putObj (w.heap.size+1) (.loop (rec .busy none))) W3->
     ∃W4,(Instr.endRound (w.heap.size+1) jump).run P W3=.ok (.bool jump.isNone) W4/\Rec (if jump.isNone then .ready else .done) jump W4/\W4=W3.putObj (w.heap.size+1) (.loop (rec (if jump.isNone then .ready else .done) jump))/\W3.heap[w.heap.size+1]?=some (.loop (rec .busy none)):=fun jump W3 hk=>by
    have r3:=stable _ _ _ _ r2 hk
    have l3:W3.heap[w.heap.size+1]?=some (.loop (rec .busy none)):=by rw[QN]at r3;exact r3.1
    have he:=run_endRound (P:=P) jump l3
    have hq:({rec .busy none with state:=if jump.isNone then LoopState.ready else .done,pending:=jump}:Loop)=rec (if jump.isNone then .ready else .done) jump:=by rw[hrec]
    rw[hq]at he
    exact⟨_,he,put _ _ _ _ _ r3,rfl,l3⟩
   rintro e a3 W3 hp
   cases e with
   | normal=>obtain⟨hk,hi⟩:=hp;obtain⟨W4,hrun,hr4,rfl,l3⟩:=fin none W3 hk;exact⟨_,_,hrun,.inl ⟨rfl,hI s x _ _ _ hi l3,hr4⟩⟩
   | ret=>obtain⟨hk,hi⟩:=hp;obtain⟨W4,hrun,hr4,rfl,l3⟩:=fin (some .ret) W3 hk;exact⟨_,_,hrun,.inr ⟨rfl,.ret,hIx _ s x _ _ _ hi l3,hr4⟩⟩
   | exit i=>obtain⟨hk,hi⟩:=hp;obtain⟨W4,hrun,hr4,rfl,l3⟩:=fin (some (.exit i)) W3 hk;exact⟨_,_,hrun,.inr ⟨rfl,.exit i,hIx _ s x _ _ _ hi l3,hr4⟩⟩
   | goto t=>obtain⟨hk,hi⟩:=hp;obtain⟨W4,hrun,hr4,rfl,l3⟩:=fin (some (.goto t)) W3 hk;exact⟨_,_,hrun,.inr ⟨rfl,.goto t,hIx _ s x _ _ _ hi l3,hr4⟩⟩
   | panic ch=>exact hp.elim
   | outgrown=>exact hp.elim
  ·rintro e W2 ⟨⟨v,rfl⟩,(⟨hf,hr⟩ | ⟨c,hf,hr⟩)⟩
   ·rw[QN]at hr;exact⟨none,_,by have:=run_endLoop (P:=P) hr.1 (by rw[hrec];simp);rw[hrec]at this;exact this,hdone _ _ (aC _) (ag3 _ _ _ hf hr.1) ((DU ak).trans hr.2)⟩
   ·rw[QN]at hr;exact⟨some c,_,by have:=run_endLoop (P:=P) hr.1 (by rw[hrec];simp);rw[hrec]at this;exact this,hstop _ c _ (aC _) (UA c _ _ _ hf hr.1) ((DU ak).trans hr.2)⟩
def Di {g:Operand} {ps:Array Tmp} {assign body:Code} {Q:Exit->Act->World->Prop} {a:Act} {w:ay}
  (hro:F.round=none) (h1:1<=n) {gf:Nat} {lb:Array Value} (hg:a.eval g=.func (.func gf) #[] lb) (hFg:F.fn gf) (eg:∀args w,(callFunc gf args).run P w=.ok (.enter gf args) w)
  (encs:α->Array Value) (hps:∀x,(encs x).size=ps.size)
  (Y I:σ->α->World->Prop) (Ix:Code->σ->α->World->Prop) (Fin:ay->Prop) (QM:Code->World->Prop)
  (hY:∀s x,Aj (w.heap.size+1) (Y s x)) (hI:∀s x,Aj (w.heap.size+1) (I s x)) (hIx:∀c s x,Aj (w.heap.size+1) (Ix c s x))
  (ag3:Aj (w.heap.size+1) Fin) (UA:∀c,Aj (w.heap.size+1) (QM c)) (a₁:α->Act)
  (hassign:∀(l:Nat) (x:α) (W:ay) (K:Act->World->Prop),K (a₁ x) W->
   assign.wpIn (F.inRound l) (n - 1 - 1) P (Exit.then K (fun _ _ _=>False)) {tmps:=(ps.zip (encs x)).foldl (fun t (p,v)=>t.setIfInBounds p v) a.tmps,defers:= []} W)
  (hbody:∀(l:Nat) (s:σ) (x:α) (W:ay),Y s x W->body.wpIn (F.inRound l) (n - 1 - 1) P (QL w.heap.size (I s x) (fun c=>Ix c s x) W) (a₁ x) W):=
 KX (Q:=Q) (w:=w) hro h1 hg hFg eg encs hps Y I Ix Fin QM hI hIx ag3 UA (fun s x a' W=>Y s x W/\a'=a₁ x) (fun s x _ W r o h hl=>⟨hY s x W r o h.1 hl,h.2⟩)
  (fun l _ x W K hy hK=>hassign l x W K (hK _ _ (KeepsFrom.refl _ _) ⟨hy,rfl⟩))
  (fun s x _ W _ h=>by obtain⟨hy,rfl⟩:=h;exact hbody _ s x W hy)
def ace {g:Operand} {ps:Array Tmp} {assign body:Code} {Q:Exit->Act->World->Prop} {a:Act} {w:ay}
  (hro:F.round=none) (h1:1<=n) {gf:Nat} {lb:Array Value} (hg:a.eval g=.func (.func gf) #[] lb) (hFg:F.fn gf) (eg:∀args w,(callFunc gf args).run P w=.ok (.enter gf args) w)
  (encs:α->Array Value) (hps:∀x,(encs x).size=ps.size)
  (Y I:σ->α->World->Prop) (Ix:Code->σ->α->World->Prop) (Fin:ay->Prop) (QM:Code->World->Prop)
  (hY:OwnFrom w.heap.size (fun (p:σ×α) W=>Y p.1 p.2 W)) (hI:OwnFrom w.heap.size (fun (p:σ×α) W=>I p.1 p.2 W)) (hIx:∀c,OwnFrom w.heap.size (fun (p:σ×α) W=>Ix c p.1 p.2 W))
  (ag3:OwnFrom w.heap.size (fun (_:Unit) W=>Fin W)) (UA:∀c,OwnFrom w.heap.size (fun (_:Unit) W=>QM c W)) (a₁:α->Act):=
 Di (Q:=Q) (w:=w) (a:=a) (body:=body) (assign:=assign) (ps:=ps) hro h1 hg hFg eg encs hps Y I Ix Fin QM (fun s x _ _ _ h hl=>hY.putObj (s:=(s,x)) _ h ak hl rfl) (fun s x _ _ _ h hl=>hI.putObj (s:=(s,x)) _ h ak hl rfl) (fun c s x _ _ _ h hl=>(hIx c).putObj (s:=(s,x)) _ h ak hl rfl)
  (fun _ _ _ h hl=>ag3.putObj (s:=()) _ h ak hl rfl) (fun c _ _ _ h hl=>(UA c).putObj (s:=()) _ h ak hl rfl) a₁
end
end
end Go.Proofs.YtdhifkbbjlhcaaaGreatDoor
