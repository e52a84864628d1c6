/-
  A range over a function whose loop variable lies in a block of its own: the laws that the walks use; what a step may turn.
-/
import Derived.Test.YtdkibcagbidelaaPrC
import Derived.RangeFuncNested
import Derived.RangeFuncBound
import Derived.RangeFuncCalls
import Derived.RangeFuncLeaves
import Derived.RangeFuncBox
import Derived.Shelf.RegionOpen
import Derived.OwnWalkIn
import Derived.TacticsInMore
import Derived.LoopNIn
import Derived.LoopIn
namespace Go.Proofs.Ytdkibcagbidelaa
open Go.RowKit Pr

/-- Of the blocks that were there only those of K may have turned. -/
structure Chg (K : Nat → Prop) (w w' : World) : Prop where
  os : w'.os = w.os
  tape : w'.tape = w.tape
  output : w'.output = w.output
  size : w.heap.size ≤ w'.heap.size
  block : ∀ k, k < w.heap.size → ¬ K k → w'.heap[k]? = w.heap[k]?
theorem Chg.refl (K : Nat → Prop) (w : World) : Chg K w w := ⟨rfl, rfl, rfl, Nat.le_refl _, fun _ _ _ => rfl⟩
theorem Chg.of_gr {w w' : World} {r : Option Nat} (h : w.grownBy w' r) {K : Nat → Prop} (hK : ∀ k, r = some k → K k ∨ w.heap.size ≤ k) : Chg K w w' :=
  ⟨h.os, h.tape, h.output, h.size, fun k hk hn => h.block k hk (fun e => by rcases hK k e.symm with h | h; exact hn h; omega)⟩
theorem Chg.of_below {w w' : World} (h : Below w.heap.size w w') (K : Nat → Prop) : Chg K w w' := ⟨h.os, h.tape, h.output, h.size, fun k hk _ => h.block k hk⟩
theorem Chg.trans {K K' : Nat → Prop} {w w1 w2 : World} (h : Chg K w w1) (k : Chg K' w1 w2) (hK : ∀ i, i < w.heap.size → K' i → K i) : Chg K w w2 :=
  ⟨k.os.trans h.os, k.tape.trans h.tape, k.output.trans h.output, Nat.le_trans h.size k.size, fun i hi hn => (k.block i (Nat.lt_of_lt_of_le hi h.size) (fun e => hn (hK i hi e))).trans (h.block i hi hn)⟩
theorem Chg.mono {K K' : Nat → Prop} {w w1 : World} (h : Chg K w w1) (hK : ∀ i, i < w.heap.size → K i → K' i) : Chg K' w w1 := ⟨h.os, h.tape, h.output, h.size, fun i hi hn => h.block i hi (fun e => hn (hK i hi e))⟩
theorem Chg.cell {K : Nat → Prop} {w w1 : World} (h : Chg K w w1) {a : Addr} {v : Value} (hc : w.cell? a = some v) (hK : ¬ K a.block) : w1.cell? a = some v :=
  (World.cell?_of_block (h.block a.block (World.block_lt_of_cell? w a hc) hK)).trans hc
theorem Chg.setCell {K : Nat → Prop} {w w1 : World} (h : Chg K w w1) (p : Addr) (v : Value) (hK : K p.block ∨ w.heap.size ≤ p.block) : Chg K w (w1.setCell p v) :=
  ⟨h.os, h.tape, h.output, by rw [World.size_setCell]; exact h.size, fun i hi hn => by
    rw [Below.heap_setCell _ _ _ _ (fun e => by subst e; rcases hK with k | k; exact hn k; omega)]
    exact h.block i hi hn⟩
theorem Chg.alloc {K : Nat → Prop} {w w1 : World} (h : Chg K w w1) (o : Obj) : Chg K w (w1.alloc o) :=
  ⟨h.os, h.tape, h.output, by rw [World.size_alloc]; have := h.size; omega, fun i hi hn => (Below.heap_alloc _ _ _ (Nat.lt_of_lt_of_le hi h.size)).trans (h.block i hi hn)⟩
theorem Chg.drew {K : Nat → Prop} {w w1 : World} (h : Chg K w w1) : Chg K w w1.drew := ⟨h.os, h.tape, h.output, h.size, h.block⟩
theorem Chg.putRec {K : Nat → Prop} {W0 W : World} (h : Chg K W0 W) {l : Nat} (o' : Obj) (hl : K l ∨ W0.heap.size ≤ l) : Chg K W0 (W.putObj l o') := by
  refine ⟨h.os, h.tape, h.output, by rw [World.putObj_size]; exact h.size, fun k hk hn => ?_⟩
  rw [World.putObj_heap_other (fun e => by subst e; rcases hl with h | h; exact hn h; omega)]
  exact h.block k hk hn
theorem KeepsFrom.of_chg {B : Nat} {W W' : World} {K : Nat → Prop} (c : Chg K W W') (hK : ∀ k, K k → k < B) : KeepsFrom B W W' := ⟨c.size, fun k _ hk hb _ => (c.block k (Array.getElem?_eq_some_iff.1 hb).1 (fun h => by have := hK k h; omega)).trans hb⟩
theorem Chg.below {K : Nat → Prop} {w0 w w1 : World} {B : Nat} (h : Chg K w w1) (hb : Below B w0 w) (hB : B ≤ w.heap.size) (hK : ∀ i, K i → B ≤ i) : Below B w0 w1 :=
  hb.trans ⟨h.os, h.tape, h.output, h.size, fun k hk => h.block k (by omega) (fun e => by have := hK k e; omega)⟩
theorem own_base {w : World} {B B' e sz n : Nat} {v : Value} {vs : List Value} (h : w.ownsRow B e sz v n vs) (hb : B' ≤ B) : w.ownsRow B' e sz v n vs := by
  refine ⟨h.1, ?_⟩
  rcases h.2 with h0 | ⟨g, cap, cur, rfl, hg, r⟩
  · exact .inl h0
  · exact .inr ⟨g, cap, cur, rfl, Nat.le_trans hb hg, r⟩

section
variable {F : Fence} {n : Nat} {P : Program} {σ α : Type}

/-- How a round's body may be left: it goes on, or it leaves by a jump. -/
def rndPost (B : Nat) (I : World → Prop) (Ix : Code → World → Prop) (W : World) : Exit → Act → World → Prop
  | .normal, _, W' => KeepsFrom B W W' ∧ I W'
  | .ret, _, W' => KeepsFrom B W W' ∧ Ix .ret W'
  | .exit i, _, W' => KeepsFrom B W W' ∧ Ix (.exit i) W'
  | .goto t, _, W' => KeepsFrom B W W' ∧ Ix (.goto t) W'
  | .panic _, _, _ => False
  | .outgrown, _, _ => False

/-- What one round does, as the iterator meets it: R, Rx: the loop's own book-keeping. -/
def Rnd (F : Fence) (n : Nat) (P : Program) (l : Nat) (encs : α → Array Value) (Y I : σ → α → World → Prop) (Ix : Code → σ → α → World → Prop) (R : World → Prop) (Rx : Code → World → Prop) : Prop :=
  ∀ s x W, Y s x W → R W → YieldAt F n P l (encs x) W fun e W' => (e = .returned (.bool true) ∧ I s x W' ∧ R W') ∨ (e = .returned (.bool false) ∧ ∃ c, Ix c s x W' ∧ Rx c W')

/-- It abides the turns of the loop's record at l. -/
def RecSt (l : Nat) (I : World → Prop) : Prop := ∀ W r o', I W → W.heap[l]? = some (.loop r) → I (W.putObj l o')
theorem range_lawX {g : Operand} {ps : Array Tmp} {assign body : Code} {Q : Exit → Act → World → Prop} {a : Act} {w : World}
    (hro : F.round = none) (h1 : 1 ≤ n) {gf : Nat} {lb : Array Value} (hg : a.eval g = .func (.func gf) #[] lb) (hFg : F.fn gf) (eg : ∀ args w, (callFunc gf args).run P w = .ok (.enter gf args) w)
    (encs : α → Array Value) (hps : ∀ x, (encs x).size = ps.size)
    (Y I : σ → α → World → Prop) (Ix : Code → σ → α → World → Prop) (Fin : World → Prop) (FinX : Code → World → Prop)
    (hI : ∀ s x, RecSt (w.heap.size + 1) (I s x)) (hIx : ∀ c s x, RecSt (w.heap.size + 1) (Ix c s x))
    (hFin : RecSt (w.heap.size + 1) Fin) (hFinX : ∀ c, RecSt (w.heap.size + 1) (FinX c)) (Ax : σ → α → Act → World → Prop) (hAx : ∀ s x a, RecSt (w.heap.size + 1) (Ax s x a))
    (hassign : ∀ (l : Nat) (s : σ) (x : α) (W : World) (K : Act → World → Prop), Y s x W → (∀ a' W', KeepsFrom w.heap.size W W' → Ax s x a' W' → K a' W') →
      assign.wpIn (F.inRound l) (n - 1 - 1) P (Exit.then K (fun _ _ _ => False)) { tmps := (ps.zip (encs x)).foldl (fun t (p, v) => t.setIfInBounds p v) a.tmps, defers := [] } W)
    (hbody : ∀ (s : σ) (x : α) (a' : Act) (W : World), (∃ r, W.heap[w.heap.size + 1]? = some (.loop r)) → Ax s x a' W → body.wpIn (F.inRound (w.heap.size + 1)) (n - 1 - 1) P (rndPost w.heap.size (I s x) (fun c => Ix c s x) W) a' W)
    (hit : ∀ (R : World → Prop) (Rx : Code → World → Prop), (∀ A B, R A → KeepsFrom w.heap.size A B → R B) → (∀ c A B, Rx c A → KeepsFrom w.heap.size A B → Rx c B) → Rnd F (n - 1 - 1) P (w.heap.size + 1) encs Y I Ix R Rx →
      ∀ W, Below w.heap.size w W → W.heap.size = w.heap.size + 2 → R W → CallsIn F (n - 1) P gf (#[.func (.yield (w.heap.size + 1)) #[] #[]] ++ lb) W fun e W' => (∃ v, e = .returned v) ∧ ((Fin W' ∧ R W') ∨ ∃ c, FinX c W' ∧ Rx c W'))
    (hdone : ∀ (D : Nat) (W : World), w.heap.size ≤ D → Fin W → W.heap[D]? = some (.deferred (some [])) → Q .normal { a with defers := { target := .collected D, args := #[] } :: a.defers } W)
    (hstop : ∀ (D : Nat) (c : Code) (W : World), w.heap.size ≤ D → FinX c W → W.heap[D]? = some (.deferred (some [])) → c.wpIn F n P Q { a with defers := { target := .collected D, args := #[] } :: a.defers } W) :
    (Code.rangeFunc g ps assign body).wpIn F n P Q a w := by
  refine wpIn_rangeFunc ?_
  intro fn hfn
  rw [hro]
  obtain ⟨rec, hrec⟩ : ∃ rec : LoopState → Option Code → Loop, rec = fun st pe => { state := st, pending := pe, fn, tmps := a.tmps, params := ps, assign, body, defers := w.heap.size } := ⟨_, rfl⟩
  obtain ⟨W1, hW1⟩ : ∃ W1, (w.alloc (.deferred (some []))).alloc (.loop (rec .ready none)) = W1 := ⟨_, rfl⟩
  have l1 : W1.heap[w.heap.size + 1]? = some (.loop (rec .ready none)) := by
    rw [← hW1]
    have := heap_alloc_new (w.alloc (.deferred (some []))) (.loop (rec .ready none))
    rwa [World.size_alloc] at this
  have k1 : W1.heap[w.heap.size]? = some (.deferred (some [])) := by
    rw [← hW1]
    exact (Below.heap_alloc _ _ _ (by simp)).trans (heap_alloc_new w _)
  have b1 : Below w.heap.size w W1 := by rw [← hW1]; exact ((Below.refl _ w).alloc (Nat.le_refl _) _).alloc (by simp) _
  have z1 : W1.heap.size = w.heap.size + 2 := by rw [← hW1]; simp
  -- the book-keeping: the record's state, the block for deferred calls
  obtain ⟨Rec, hRec⟩ : ∃ Rec : LoopState → Option Code → World → Prop, Rec = fun st pe W => W.heap[w.heap.size + 1]? = some (.loop (rec st pe)) ∧ W.heap[w.heap.size]? = some (.deferred (some [])) := ⟨_, rfl⟩
  have stable : ∀ st pe A B, Rec st pe A → KeepsFrom w.heap.size A B → Rec st pe B := fun st pe A B h k => by
    rw [hRec] at h ⊢
    exact ⟨k.same _ _ (by omega) h.1 rfl, k.same _ _ (Nat.le_refl _) h.2 rfl⟩
  have put : ∀ st pe st' pe' W, Rec st pe W → Rec st' pe' (W.putObj (w.heap.size + 1) (.loop (rec st' pe'))) := fun st pe st' pe' W h => by
    rw [hRec] at h ⊢
    exact ⟨World.putObj_heap_same (Array.getElem?_eq_some_iff.1 h.1).1, (World.putObj_heap_other (by omega)).trans h.2⟩
  refine ⟨w.heap.size + 1, [{ target := .collected w.heap.size, args := #[] }], W1, { target := .fn (.func gf) lb, args := #[.func (.yield (w.heap.size + 1)) #[] #[]] }, W1, gf,
    #[.func (.yield (w.heap.size + 1)) #[] #[]] ++ lb, W1, ?_, ?_, ?_, ?_, fun _ => h1, ?_⟩
  · rw [← hW1, hrec]; exact run_enterLoop_outer _ _ _ _ _
  · simp only [resolve, hg]
    simp [go_sem]
  · intro f' hf'
    simp [Target.leads] at hf'
    subst hf'
    exact hFg
  · simp [invoke, go_sem, eg]
  · refine (hit (Rec .ready none) (fun c => Rec .done (some c)) (stable _ _) (fun c => stable _ _) ?_ W1 b1 z1 (by rw [hRec]; exact ⟨l1, k1⟩)).mono ?_
    · intro s x W hy hr
      have hl : W.heap[w.heap.size + 1]? = some (.loop (rec .ready none)) := by rw [hRec] at hr; exact hr.1
      have hyl := run_yield (P := P) (args := encs x) hl (by rw [hrec]; exact hps x)
      rw [hrec] at hyl
      refine ⟨fn, _, assign, body, hyl, roundIn_of_wpIn hfn (hassign _ s x W _ hy ?_)⟩
      intro a' W' hkW hax
      replace hr := stable _ _ _ _ hr hkW
      clear hl hyl
      have hl : W'.heap[w.heap.size + 1]? = some (.loop (rec .ready none)) := by rw [hRec] at hr; exact hr.1
      refine ⟨_, run_beginRound hl (by rw [hrec]), ?_⟩
      have hb : ({ rec .ready none with state := .busy } : Loop) = rec .busy none := by rw [hrec]
      rw [hb]
      have r2 := put .ready none .busy none W' hr
      refine wpIn_mono (hbody s x a' _ ⟨_, by rw [hRec] at r2; exact r2.1⟩ (hAx s x a' _ _ _ hax hl)) ?_
      have fin : ∀ (jump : Option Code) (W3 : World), KeepsFrom w.heap.size (W'.putObj (w.heap.size + 1) (.loop (rec .busy none))) W3 →
          ∃ W4, (Instr.endRound (w.heap.size + 1) jump).run P W3 = .ok (.bool jump.isNone) W4 ∧ Rec (if jump.isNone then .ready else .done) jump W4 ∧ W4 = W3.putObj (w.heap.size + 1) (.loop (rec (if jump.isNone then .ready else .done) jump)) ∧ W3.heap[w.heap.size + 1]? = some (.loop (rec .busy none)) := fun jump W3 hk => by
        have r3 := stable _ _ _ _ r2 hk
        have l3 : W3.heap[w.heap.size + 1]? = some (.loop (rec .busy none)) := by rw [hRec] at r3; exact r3.1
        have he := run_endRound (P := P) jump l3
        have hq : ({ rec .busy none with state := if jump.isNone then LoopState.ready else .done, pending := jump } : Loop) = rec (if jump.isNone then .ready else .done) jump := by rw [hrec]
        rw [hq] at he
        exact ⟨_, he, put _ _ _ _ _ r3, rfl, l3⟩
      rintro e a3 W3 hp
      cases e with
      | normal =>
        obtain ⟨hk, hi⟩ := hp
        obtain ⟨W4, hrun, hr4, rfl, l3⟩ := fin none W3 hk
        exact ⟨_, _, hrun, .inl ⟨rfl, hI s x _ _ _ hi l3, hr4⟩⟩
      | ret =>
        obtain ⟨hk, hi⟩ := hp
        obtain ⟨W4, hrun, hr4, rfl, l3⟩ := fin (some .ret) W3 hk
        exact ⟨_, _, hrun, .inr ⟨rfl, .ret, hIx _ s x _ _ _ hi l3, hr4⟩⟩
      | exit i =>
        obtain ⟨hk, hi⟩ := hp
        obtain ⟨W4, hrun, hr4, rfl, l3⟩ := fin (some (.exit i)) W3 hk
        exact ⟨_, _, hrun, .inr ⟨rfl, .exit i, hIx _ s x _ _ _ hi l3, hr4⟩⟩
      | goto t =>
        obtain ⟨hk, hi⟩ := hp
        obtain ⟨W4, hrun, hr4, rfl, l3⟩ := fin (some (.goto t)) W3 hk
        exact ⟨_, _, hrun, .inr ⟨rfl, .goto t, hIx _ s x _ _ _ hi l3, hr4⟩⟩
      | panic ch => exact hp.elim
      | outgrown => exact hp.elim
    · rintro e W2 ⟨⟨v, rfl⟩, (⟨hf, hr⟩ | ⟨c, hf, hr⟩)⟩
      · rw [hRec] at hr
        exact ⟨none, _, by have := run_endLoop (P := P) hr.1 (by rw [hrec]; simp); rw [hrec] at this; exact this, hdone _ _ (Nat.le_refl _) (hFin _ _ _ hf hr.1) ((World.putObj_heap_other (by omega)).trans hr.2)⟩
      · rw [hRec] at hr
        exact ⟨some c, _, by have := run_endLoop (P := P) hr.1 (by rw [hrec]; simp); rw [hrec] at this; exact this, hstop _ c _ (Nat.le_refl _) (hFinX c _ _ _ hf hr.1) ((World.putObj_heap_other (by omega)).trans hr.2)⟩
theorem range_lawY {g : Operand} {ps : Array Tmp} {assign body : Code} {Q : Exit → Act → World → Prop} {a : Act} {w : World}
    {l₀ : Nat} {r₀ : Loop} (hro : F.round = some l₀) (hl₀ : w.heap[l₀]? = some (.loop r₀)) (h1 : 1 ≤ n) {gf : Nat} {lb : Array Value} (hg : a.eval g = .func (.func gf) #[] lb) (hFg : F.fn gf) (eg : ∀ args w, (callFunc gf args).run P w = .ok (.enter gf args) w)
    (encs : α → Array Value) (hps : ∀ x, (encs x).size = ps.size)
    (Y I : σ → α → World → Prop) (Ix : Code → σ → α → World → Prop) (Fin : World → Prop) (FinX : Code → World → Prop)
    (hI : ∀ s x, RecSt w.heap.size (I s x)) (hIx : ∀ c s x, RecSt w.heap.size (Ix c s x))
    (hFin : RecSt w.heap.size Fin) (hFinX : ∀ c, RecSt w.heap.size (FinX c)) (Ax : σ → α → Act → World → Prop) (hAx : ∀ s x a, RecSt w.heap.size (Ax s x a))
    (hassign : ∀ (l : Nat) (s : σ) (x : α) (W : World) (K : Act → World → Prop), Y s x W → (∀ a' W', KeepsFrom w.heap.size W W' → Ax s x a' W' → K a' W') →
      assign.wpIn (F.inRound l) (n - 1 - 1) P (Exit.then K (fun _ _ _ => False)) { tmps := (ps.zip (encs x)).foldl (fun t (p, v) => t.setIfInBounds p v) a.tmps, defers := [] } W)
    (hbody : ∀ (s : σ) (x : α) (a' : Act) (W : World), (∃ r, W.heap[w.heap.size]? = some (.loop r)) → Ax s x a' W → body.wpIn (F.inRound w.heap.size) (n - 1 - 1) P (rndPost w.heap.size (I s x) (fun c => Ix c s x) W) a' W)
    (hit : ∀ (R : World → Prop) (Rx : Code → World → Prop), (∀ A B, R A → KeepsFrom w.heap.size A B → R B) → (∀ c A B, Rx c A → KeepsFrom w.heap.size A B → Rx c B) → Rnd F (n - 1 - 1) P w.heap.size encs Y I Ix R Rx →
      ∀ W, Below w.heap.size w W → W.heap.size = w.heap.size + 1 → R W → CallsIn F (n - 1) P gf (#[.func (.yield w.heap.size) #[] #[]] ++ lb) W fun e W' => (∃ v, e = .returned v) ∧ ((Fin W' ∧ R W') ∨ ∃ c, FinX c W' ∧ Rx c W'))
    (hdone : ∀ (W : World), Fin W → Q .normal a W)
    (hstop : ∀ (c : Code) (W : World), FinX c W → c.wpIn F n P Q a W) :
    (Code.rangeFunc g ps assign body).wpIn F n P Q a w := by
  refine wpIn_rangeFunc ?_
  intro fn hfn
  rw [hro]
  obtain ⟨rec, hrec⟩ : ∃ rec : LoopState → Option Code → Loop, rec = fun st pe => { state := st, pending := pe, fn, tmps := a.tmps, params := ps, assign, body, defers := r₀.defers } := ⟨_, rfl⟩
  obtain ⟨W1, hW1⟩ : ∃ W1, w.alloc (.loop (rec .ready none)) = W1 := ⟨_, rfl⟩
  have l1 : W1.heap[w.heap.size]? = some (.loop (rec .ready none)) := by rw [← hW1]; exact heap_alloc_new w _
  have b1 : Below w.heap.size w W1 := by rw [← hW1]; exact (Below.refl _ w).alloc (Nat.le_refl _) _
  have z1 : W1.heap.size = w.heap.size + 1 := by rw [← hW1]; simp
  obtain ⟨Rec, hRec⟩ : ∃ Rec : LoopState → Option Code → World → Prop, Rec = fun st pe W => W.heap[w.heap.size]? = some (.loop (rec st pe)) := ⟨_, rfl⟩
  have stable : ∀ st pe A B, Rec st pe A → KeepsFrom w.heap.size A B → Rec st pe B := fun st pe A B h k => by
    rw [hRec] at h ⊢
    exact k.same _ _ (Nat.le_refl _) h rfl
  have put : ∀ st pe st' pe' W, Rec st pe W → Rec st' pe' (W.putObj w.heap.size (.loop (rec st' pe'))) := fun st pe st' pe' W h => by
    rw [hRec] at h ⊢
    exact World.putObj_heap_same (Array.getElem?_eq_some_iff.1 h).1
  refine ⟨w.heap.size, [], W1, { target := .fn (.func gf) lb, args := #[.func (.yield w.heap.size) #[] #[]] }, W1, gf,
    #[.func (.yield w.heap.size) #[] #[]] ++ lb, W1, ?_, ?_, ?_, ?_, fun _ => h1, ?_⟩
  · rw [← hW1, hrec]; exact run_enterLoop_inner hl₀ _ _ _ _ _
  · simp only [resolve, hg]
    simp [go_sem]
  · intro f' hf'
    simp [Target.leads] at hf'
    subst hf'
    exact hFg
  · simp [invoke, go_sem, eg]
  · refine (hit (Rec .ready none) (fun c => Rec .done (some c)) (stable _ _) (fun c => stable _ _) ?_ W1 b1 z1 (by rw [hRec]; exact l1)).mono ?_
    · intro s x W hy hr
      have hl : W.heap[w.heap.size]? = some (.loop (rec .ready none)) := by rw [hRec] at hr; exact hr
      have hyl := run_yield (P := P) (args := encs x) hl (by rw [hrec]; exact hps x)
      rw [hrec] at hyl
      refine ⟨fn, _, assign, body, hyl, roundIn_of_wpIn hfn (hassign _ s x W _ hy ?_)⟩
      intro a' W' hkW hax
      replace hr := stable _ _ _ _ hr hkW
      clear hl hyl
      have hl : W'.heap[w.heap.size]? = some (.loop (rec .ready none)) := by rw [hRec] at hr; exact hr
      refine ⟨_, run_beginRound hl (by rw [hrec]), ?_⟩
      have hb : ({ rec .ready none with state := .busy } : Loop) = rec .busy none := by rw [hrec]
      rw [hb]
      have r2 := put .ready none .busy none W' hr
      refine wpIn_mono (hbody s x a' _ ⟨_, by rw [hRec] at r2; exact r2⟩ (hAx s x a' _ _ _ hax hl)) ?_
      have fin : ∀ (jump : Option Code) (W3 : World), KeepsFrom w.heap.size (W'.putObj w.heap.size (.loop (rec .busy none))) W3 →
          ∃ W4, (Instr.endRound w.heap.size jump).run P W3 = .ok (.bool jump.isNone) W4 ∧ Rec (if jump.isNone then .ready else .done) jump W4 ∧ W4 = W3.putObj w.heap.size (.loop (rec (if jump.isNone then .ready else .done) jump)) ∧ W3.heap[w.heap.size]? = some (.loop (rec .busy none)) := fun jump W3 hk => by
        have r3 := stable _ _ _ _ r2 hk
        have l3 : W3.heap[w.heap.size]? = some (.loop (rec .busy none)) := by rw [hRec] at r3; exact r3
        have he := run_endRound (P := P) jump l3
        have hq : ({ rec .busy none with state := if jump.isNone then LoopState.ready else .done, pending := jump } : Loop) = rec (if jump.isNone then .ready else .done) jump := by rw [hrec]
        rw [hq] at he
        exact ⟨_, he, put _ _ _ _ _ r3, rfl, l3⟩
      rintro e a3 W3 hp
      cases e with
      | normal =>
        obtain ⟨hk, hi⟩ := hp
        obtain ⟨W4, hrun, hr4, rfl, l3⟩ := fin none W3 hk
        exact ⟨_, _, hrun, .inl ⟨rfl, hI s x _ _ _ hi l3, hr4⟩⟩
      | ret =>
        obtain ⟨hk, hi⟩ := hp
        obtain ⟨W4, hrun, hr4, rfl, l3⟩ := fin (some .ret) W3 hk
        exact ⟨_, _, hrun, .inr ⟨rfl, .ret, hIx _ s x _ _ _ hi l3, hr4⟩⟩
      | exit i =>
        obtain ⟨hk, hi⟩ := hp
        obtain ⟨W4, hrun, hr4, rfl, l3⟩ := fin (some (.exit i)) W3 hk
        exact ⟨_, _, hrun, .inr ⟨rfl, .exit i, hIx _ s x _ _ _ hi l3, hr4⟩⟩
      | goto t =>
        obtain ⟨hk, hi⟩ := hp
        obtain ⟨W4, hrun, hr4, rfl, l3⟩ := fin (some (.goto t)) W3 hk
        exact ⟨_, _, hrun, .inr ⟨rfl, .goto t, hIx _ s x _ _ _ hi l3, hr4⟩⟩
      | panic ch => exact hp.elim
      | outgrown => exact hp.elim
    · rintro e W2 ⟨⟨v, rfl⟩, (⟨hf, hr⟩ | ⟨c, hf, hr⟩)⟩
      · rw [hRec] at hr
        exact ⟨none, _, by have := run_endLoop (P := P) hr (by rw [hrec]; simp); rw [hrec] at this; exact this, hdone _ (hFin _ _ _ hf hr)⟩
      · rw [hRec] at hr
        exact ⟨some c, _, by have := run_endLoop (P := P) hr (by rw [hrec]; simp); rw [hrec] at this; exact this, hstop c _ (hFinX c _ _ _ hf hr)⟩
end
end Go.Proofs.Ytdkibcagbidelaa
