/-
  Iterators that give a list, whatever the loop's body does outside of their own blocks; a range over one.
-/
import Derived.Test.YtdkibcagbidelaaRg
namespace Go.Proofs.Ytdkibcagbidelaa
open Go.RowKit Pr

theorem Chg.keepsFrom {B : Nat} {W W' : World} (c : Chg (fun _ => False) W W') : KeepsFrom B W W' := KeepsFrom.of_chg c (fun _ h => h.elim)
/-- Called in the world W the iterator gives S: D: the blocks that it reads; N: those of the caller that the body may turn. -/
def Gives {α : Type} (gf : Nat) (lb : Array Value) (encs : α → Array Value) (S : List α) (D : Nat → Prop) (W : World) : Prop :=
  ∀ (n l : Nat) (N : Nat → Prop) (T : Nat → Nat → World → Prop) (Tx : World → Prop), 1 ≤ n → (∀ j, N j → j < W.heap.size ∧ ¬ D j) →
    (∀ W', Below W.heap.size W W' → T W'.heap.size 0 W') →
    (∀ B k A A', W.heap.size ≤ B → T B k A → Chg (fun j => W.heap.size ≤ j ∧ j < B) A A' → KeepsOthers A A' → T B k A') →
    (∀ B k s A, W.heap.size ≤ B → B ≤ A.heap.size → S[k]? = some s → T B k A → YieldAt Fence.wide (n - 1) Try.prog l (encs s) A fun r A' => (r = .returned (.bool true) ∧ T B (k + 1) A' ∧ Chg (fun j => N j ∨ B ≤ j) A A') ∨ (r = .returned (.bool false) ∧ Tx A')) →
    CallsIn Fence.wide n Try.prog gf (#[.func (.yield l) #[] #[]] ++ lb) W fun e W' => (∃ v, e = .returned v) ∧ ((∃ B, W.heap.size ≤ B ∧ T B S.length W') ∨ Tx W')
/-- It gives S as long as its blocks stand. -/
def SeqOf {α : Type} (gf : Nat) (lb : Array Value) (encs : α → Array Value) (S : List α) (D : Nat → Prop) (w : World) : Prop :=
  (∀ j, D j → j < w.heap.size) ∧ ∀ W, Chg (fun j => ¬ D j) w W → Gives gf lb encs S D W
theorem SeqOf.chg {α : Type} {gf : Nat} {lb : Array Value} {encs : α → Array Value} {S : List α} {D : Nat → Prop} {w w' : World} (h : SeqOf gf lb encs S D w) (c : Chg (fun j => ¬ D j) w w') : SeqOf gf lb encs S D w' :=
  ⟨fun j hj => Nat.lt_of_lt_of_le (h.1 j hj) c.size, fun W cW => h.2 W (c.trans cW (fun _ _ e => e))⟩
theorem SeqOf.below {α : Type} {gf : Nat} {lb : Array Value} {encs : α → Array Value} {S : List α} {D : Nat → Prop} {w w' : World} (h : SeqOf gf lb encs S D w) (b : Below w.heap.size w w') : SeqOf gf lb encs S D w' := h.chg (Chg.of_below b _)

/-- How a round's body may be left. -/
def rsPost (B0 : Nat) (K : Nat → Prop) (T : World → Prop) (Tx : Code → World → Prop) (W : World) : Exit → Act → World → Prop
  | .normal, _, W' => KeepsFrom B0 W W' ∧ Chg K W W' ∧ T W'
  | .ret, _, W' => KeepsFrom B0 W W' ∧ Tx .ret W'
  | .exit i, _, W' => KeepsFrom B0 W W' ∧ Tx (.exit i) W'
  | .goto t, _, W' => KeepsFrom B0 W W' ∧ Tx (.goto t) W'
  | .panic _, _, _ => False
  | .outgrown, _, _ => False

section
variable {n : Nat} {α : Type}
/-- A range over an iterator that gives S. -/
theorem range_seq {g : Operand} {ps : Array Tmp} {assign body : Code} {Q : Exit → Act → World → Prop} {a : Act} {w : World}
    (h1 : 3 ≤ n) {gf : Nat} {lb : Array Value} (hg : a.eval g = .func (.func gf) #[] lb) (eg : ∀ args w, (callFunc gf args).run Try.prog w = .ok (.enter gf args) w)
    {encs : α → Array Value} (hps : ∀ x, (encs x).size = ps.size) {S : List α} {D : Nat → Prop} (hS : SeqOf gf lb encs S D w) (cells : α → Array Value) (tv : TypeId)
    (N : Nat → Prop) (hN : ∀ j, N j → j < w.heap.size ∧ ¬ D j) (T : Nat → Nat → World → Prop) (Tx : Code → World → Prop)
    (h0 : ∀ W, Below w.heap.size w W → w.heap.size + 2 ≤ W.heap.size → T W.heap.size 0 W)
    (hT : ∀ B k A A', w.heap.size + 2 ≤ B → T B k A → Chg (fun j => w.heap.size ≤ j ∧ j < B) A A' → T B k A')
    (hTx : ∀ c, RecSt (w.heap.size + 1) (Tx c)) (a₁ : α → Nat → Act)
    (hassign : ∀ (l : Nat) (x : α) (W : World) (K : Act → World → Prop), K (a₁ x W.heap.size) (W.alloc (.cells (cells x) tv)) →
      assign.wpIn (Fence.wide.inRound l) (n - 1 - 1) Try.prog (Exit.then K (fun _ _ _ => False)) { tmps := (ps.zip (encs x)).foldl (fun t (p, v) => t.setIfInBounds p v) a.tmps, defers := [] } W)
    (hbody : ∀ (B k : Nat) (x : α) (p : Nat) (W : World), w.heap.size + 2 ≤ B → S[k]? = some x → T B k W → B ≤ p → W.heap[p]? = some (.cells (cells x) tv (0, 0)) → (∃ r, W.heap[w.heap.size + 1]? = some (.loop r)) →
      body.wpIn (Fence.wide.inRound (w.heap.size + 1)) (n - 1 - 1) Try.prog (rsPost w.heap.size (fun j => N j ∨ B ≤ j) (T B (k + 1)) Tx W) (a₁ x p) W)
    (hdone : ∀ (d B : Nat) (W : World), w.heap.size ≤ d → w.heap.size + 2 ≤ B → T B S.length W → W.heap[d]? = some (.deferred (some [])) → Q .normal { a with defers := { target := .collected d, args := #[] } :: a.defers } W)
    (hstop : ∀ (d : Nat) (c : Code) (W : World), w.heap.size ≤ d → Tx c W → W.heap[d]? = some (.deferred (some [])) → c.wpIn Fence.wide n Try.prog Q { a with defers := { target := .collected d, args := #[] } :: a.defers } W) :
    (Code.rangeFunc g ps assign body).wpIn Fence.wide n Try.prog Q a w := by
  refine range_lawX (σ := Nat × Nat × World) (F := Fence.wide) rfl (by omega) hg trivial eg encs hps
    (fun s x W => w.heap.size + 2 ≤ s.1 ∧ s.1 ≤ W.heap.size ∧ S[s.2.1]? = some x ∧ T s.1 s.2.1 W ∧ Chg (fun _ => False) s.2.2 W)
    (fun s _ W => w.heap.size + 2 ≤ s.1 ∧ T s.1 (s.2.1 + 1) W ∧ Chg (fun j => (N j ∨ w.heap.size ≤ j ∧ j < w.heap.size + 2) ∨ s.1 ≤ j) s.2.2 W)
    (fun c _ _ W => Tx c W)
    (fun W => ∃ B, w.heap.size + 2 ≤ B ∧ T B S.length W)
    (fun c W => Tx c W)
    ?oI ?oX ?oF ?oFX
    (fun s x a' W => w.heap.size + 2 ≤ s.1 ∧ S[s.2.1]? = some x ∧ T s.1 s.2.1 W ∧ Chg (fun j => (N j ∨ w.heap.size ≤ j ∧ j < w.heap.size + 2) ∨ s.1 ≤ j) s.2.2 W ∧ ∃ p, s.1 ≤ p ∧ a' = a₁ x p ∧ W.heap[p]? = some (.cells (cells x) tv (0, 0)))
    ?oA ?assign ?body ?it ?done ?stop
  case oI =>
    rintro ⟨B, k, W0⟩ x W r o' ⟨hB, h2, h3⟩ _
    exact ⟨hB, hT B (k + 1) _ _ hB h2 ((Chg.refl _ W).putRec o' (.inl ⟨by omega, by omega⟩)), h3.putRec o' (.inl (.inl (.inr ⟨by omega, by omega⟩)))⟩
  case oX => exact fun c s x W r o' h hr => hTx c W r o' h hr
  case oF =>
    rintro W r o' ⟨B, hB, h⟩ _
    exact ⟨B, hB, hT B _ _ _ hB h ((Chg.refl _ W).putRec o' (.inl ⟨by omega, by omega⟩))⟩
  case oFX => exact fun c W r o' h hr => hTx c W r o' h hr
  case oA =>
    rintro ⟨B, k, W0⟩ x a' W r o' ⟨hB, h1, h2, h3, p, h4, h5, h6⟩ hl
    have hB' : w.heap.size + 2 ≤ B := hB
    have h4' : B ≤ p := h4
    exact ⟨hB, h1, hT B k _ _ hB h2 ((Chg.refl _ W).putRec o' (.inl ⟨by omega, by omega⟩)), h3.putRec o' (.inl (.inl (.inr ⟨by omega, by omega⟩))), p, h4, h5, (World.putObj_heap_other (by omega)).trans h6⟩
  case assign =>
    rintro l ⟨B, k, W0⟩ x W K ⟨hB, hBW, h1, h2, h3⟩ hK
    refine hassign l x W K (hK _ _ ?_ ⟨hB, h1, ?_, ?_, W.heap.size, hBW, rfl, heap_alloc_new W _⟩)
    · exact ((Chg.refl (fun _ => False) W).alloc _).keepsFrom
    · exact hT B k _ _ hB h2 ((Chg.refl _ W).alloc _)
    · exact (h3.mono (fun _ _ h => h.elim)).alloc _
  case body =>
    rintro ⟨B, k, W0⟩ x a' W hr ⟨hB, h1, h2, h3, p, h4, rfl, h6⟩
    refine wpIn_mono (hbody B k x p W hB h1 h2 h4 h6 hr) ?_
    rintro e a3 W3 hp
    cases e with
    | normal =>
      obtain ⟨hk, hc, ht⟩ := hp
      refine ⟨hk, hB, ht, h3.trans hc ?_⟩
      rintro j _ (h | h)
      · exact .inl (.inl h)
      · exact .inr h
    | ret => exact hp
    | exit i => exact hp
    | goto t => exact hp
    | panic ch => exact hp.elim
    | outgrown => exact hp.elim
  case it =>
    intro R Rx hR hRx hrnd W hbW hzW hRW
    have hkeep : ∀ A A', KeepsOthers A A' → R A → R A' := fun A A' k h => hR A A' h (k.from _)
    refine (hS.2 W (Chg.of_below hbW _) (n - 1) (w.heap.size + 1) (fun j => N j ∨ w.heap.size ≤ j ∧ j < w.heap.size + 2) (fun B k A => T B k A ∧ R A) (fun A => ∃ c, Tx c A ∧ Rx c A) (by omega) ?_ ?_ ?_ ?_).mono ?_
    · rintro j (h | h)
      · exact ⟨by have := (hN j h).1; omega, (hN j h).2⟩
      · exact ⟨by omega, fun hd => by have := hS.1 j hd; omega⟩
    · intro W' hb'
      have hz' := hb'.size
      exact ⟨h0 W' (hbW.trans (hb'.mono (by omega))) (by omega), hR _ _ hRW (Chg.keepsFrom (Chg.of_below hb' _))⟩
    · rintro B k A A' hB ⟨g1, g2⟩ hc hk
      exact ⟨hT B k A A' (by omega) g1 (hc.mono (fun j _ h => ⟨by omega, h.2⟩)), hkeep _ _ hk g2⟩
    · rintro B k s A hB hBA hs ⟨g1, g2⟩
      obtain ⟨fn, tmps, assign, body, hy, hRd⟩ := hrnd (B, k, A) s A ⟨by omega, hBA, hs, g1, Chg.refl _ _⟩ g2
      refine ⟨fn, tmps, assign, body, hy, hRd.mono ?_⟩
      rintro rr A' (⟨rfl, ⟨_, e1, e2⟩, e3⟩ | ⟨rfl, c, e1, e2⟩)
      · exact .inl ⟨rfl, ⟨e1, e3⟩, e2⟩
      · exact .inr ⟨rfl, c, e1, e2⟩
    · rintro rr A' ⟨hv, (⟨B, hB, e1, e2⟩ | ⟨c, e1, e2⟩)⟩
      · exact ⟨hv, .inl ⟨⟨B, by omega, e1⟩, e2⟩⟩
      · exact ⟨hv, .inr ⟨c, e1, e2⟩⟩
  case done =>
    rintro d W hd ⟨B, hB, h⟩ hK
    exact hdone d B W hd hB h hK
  case stop => exact fun d c W hd h hK => hstop d c W hd h hK
end
end Go.Proofs.Ytdkibcagbidelaa
