/-
  The law on a range over a function, where what is carried need only abide the turns of the loop's record.
-/
import Derived.Test.YtjmiifgofedcnaaRng
namespace Go.Proofs.Ytjmiifgofedcnaa
open Go.RowKit Ag

/-- It abides the turns of the loop's record at l. -/
def RecSt (l : Nat) (I : World → Prop) : Prop := ∀ W r o', I W → W.heap[l]? = some (.loop r) → I (W.putObj l o')
section
variable {F : Fence} {n : Nat} {P : Program} {σ α : Type}
theorem range_law2 {g : Operand} {ps : Array Tmp} {assign body : Code} {Q : Exit → Act → World → Prop} {a : Act} {w : World}
    (hro : F.round = none) (h1 : 1 ≤ n) {gf : Nat} {lb : Array Value} (hg : a.eval g = .func (.func gf) #[] lb) (hFg : F.fn gf) (eg : ∀ args w, (callFunc gf args).run P w = .ok (.enter gf args) w)
    (encs : α → Array Value) (hps : ∀ x, (encs x).size = ps.size)
    (Y I : σ → α → World → Prop) (Ix : Code → σ → α → World → Prop) (Fin : World → Prop) (FinX : Code → World → Prop)
    (hY : ∀ s x, RecSt (w.heap.size + 1) (Y s x)) (hI : ∀ s x, RecSt (w.heap.size + 1) (I s x)) (hIx : ∀ c s x, RecSt (w.heap.size + 1) (Ix c s x))
    (hFin : RecSt (w.heap.size + 1) Fin) (hFinX : ∀ c, RecSt (w.heap.size + 1) (FinX c)) (a₁ : α → Act)
    (hassign : ∀ (l : Nat) (x : α) (W : World) (K : Act → World → Prop), K (a₁ x) W →
      assign.wpIn (F.inRound l) (n - 1 - 1) P (Exit.then K (fun _ _ _ => False)) { tmps := (ps.zip (encs x)).foldl (fun t (p, v) => t.setIfInBounds p v) a.tmps, defers := [] } W)
    (hbody : ∀ (l : Nat) (s : σ) (x : α) (W : World), Y s x W → body.wpIn (F.inRound l) (n - 1 - 1) P (rndPost w.heap.size (I s x) (fun c => Ix c s x) W) (a₁ x) W)
    (hit : ∀ (R : World → Prop) (Rx : Code → World → Prop), (∀ A B, R A → KeepsFrom w.heap.size A B → R B) → (∀ c A B, Rx c A → KeepsFrom w.heap.size A B → Rx c B) → Rnd F (n - 1 - 1) P (w.heap.size + 1) encs Y I Ix R Rx →
      ∀ W, Below w.heap.size w W → W.heap.size = w.heap.size + 2 → R W → CallsIn F (n - 1) P gf (#[.func (.yield (w.heap.size + 1)) #[] #[]] ++ lb) W fun e W' => (∃ v, e = .returned v) ∧ ((Fin W' ∧ R W') ∨ ∃ c, FinX c W' ∧ Rx c W'))
    (hdone : ∀ (D : Nat) (W : World), w.heap.size ≤ D → Fin W → W.heap[D]? = some (.deferred (some [])) → Q .normal { a with defers := { target := .collected D, args := #[] } :: a.defers } W)
    (hstop : ∀ (D : Nat) (c : Code) (W : World), w.heap.size ≤ D → FinX c W → W.heap[D]? = some (.deferred (some [])) → c.wpIn F n P Q { a with defers := { target := .collected D, args := #[] } :: a.defers } W) :
    (Code.rangeFunc g ps assign body).wpIn F n P Q a w := by
  refine wpIn_rangeFunc ?_
  intro fn hfn
  rw [hro]
  obtain ⟨rec, hrec⟩ : ∃ rec : LoopState → Option Code → Loop, rec = fun st pe => { state := st, pending := pe, fn, tmps := a.tmps, params := ps, assign, body, defers := w.heap.size } := ⟨_, rfl⟩
  obtain ⟨W1, hW1⟩ : ∃ W1, (w.alloc (.deferred (some []))).alloc (.loop (rec .ready none)) = W1 := ⟨_, rfl⟩
  have l1 : W1.heap[w.heap.size + 1]? = some (.loop (rec .ready none)) := by
    rw [← hW1]
    have := heap_alloc_new (w.alloc (.deferred (some []))) (.loop (rec .ready none))
    rwa [World.size_alloc] at this
  have k1 : W1.heap[w.heap.size]? = some (.deferred (some [])) := by
    rw [← hW1]
    exact (Below.heap_alloc _ _ _ (by simp)).trans (heap_alloc_new w _)
  have b1 : Below w.heap.size w W1 := by rw [← hW1]; exact ((Below.refl _ w).alloc (Nat.le_refl _) _).alloc (by simp) _
  have z1 : W1.heap.size = w.heap.size + 2 := by rw [← hW1]; simp
  -- the book-keeping: the record's state, the block for deferred calls
  obtain ⟨Rec, hRec⟩ : ∃ Rec : LoopState → Option Code → World → Prop, Rec = fun st pe W => W.heap[w.heap.size + 1]? = some (.loop (rec st pe)) ∧ W.heap[w.heap.size]? = some (.deferred (some [])) := ⟨_, rfl⟩
  have stable : ∀ st pe A B, Rec st pe A → KeepsFrom w.heap.size A B → Rec st pe B := fun st pe A B h k => by
    rw [hRec] at h ⊢
    exact ⟨k.same _ _ (by omega) h.1 rfl, k.same _ _ (Nat.le_refl _) h.2 rfl⟩
  have put : ∀ st pe st' pe' W, Rec st pe W → Rec st' pe' (W.putObj (w.heap.size + 1) (.loop (rec st' pe'))) := fun st pe st' pe' W h => by
    rw [hRec] at h ⊢
    exact ⟨World.putObj_heap_same (Array.getElem?_eq_some_iff.1 h.1).1, (World.putObj_heap_other (by omega)).trans h.2⟩
  refine ⟨w.heap.size + 1, [{ target := .collected w.heap.size, args := #[] }], W1, { target := .fn (.func gf) lb, args := #[.func (.yield (w.heap.size + 1)) #[] #[]] }, W1, gf,
    #[.func (.yield (w.heap.size + 1)) #[] #[]] ++ lb, W1, ?_, ?_, ?_, ?_, fun _ => h1, ?_⟩
  · rw [← hW1, hrec]; exact run_enterLoop_outer _ _ _ _ _
  · simp only [resolve, hg]
    simp [go_sem]
  · intro f' hf'
    simp [Target.leads] at hf'
    subst hf'
    exact hFg
  · simp [invoke, go_sem, eg]
  · refine (hit (Rec .ready none) (fun c => Rec .done (some c)) (stable _ _) (fun c => stable _ _) ?_ W1 b1 z1 (by rw [hRec]; exact ⟨l1, k1⟩)).mono ?_
    · intro s x W hy hr
      have hl : W.heap[w.heap.size + 1]? = some (.loop (rec .ready none)) := by rw [hRec] at hr; exact hr.1
      have hyl := run_yield (P := P) (args := encs x) hl (by rw [hrec]; exact hps x)
      rw [hrec] at hyl
      refine ⟨fn, _, assign, body, hyl, roundIn_of_wpIn hfn (hassign _ x W _ ⟨_, run_beginRound hl (by rw [hrec]), ?_⟩)⟩
      have hb : ({ rec .ready none with state := .busy } : Loop) = rec .busy none := by rw [hrec]
      rw [hb]
      have r2 := put .ready none .busy none W hr
      refine wpIn_mono (hbody _ s x _ (hY s x _ _ _ hy hl)) ?_
      have fin : ∀ (jump : Option Code) (W3 : World), KeepsFrom w.heap.size (W.putObj (w.heap.size + 1) (.loop (rec .busy none))) W3 →
          ∃ W4, (Instr.endRound (w.heap.size + 1) jump).run P W3 = .ok (.bool jump.isNone) W4 ∧ Rec (if jump.isNone then .ready else .done) jump W4 ∧ W4 = W3.putObj (w.heap.size + 1) (.loop (rec (if jump.isNone then .ready else .done) jump)) ∧ W3.heap[w.heap.size + 1]? = some (.loop (rec .busy none)) := fun jump W3 hk => by
        have r3 := stable _ _ _ _ r2 hk
        have l3 : W3.heap[w.heap.size + 1]? = some (.loop (rec .busy none)) := by rw [hRec] at r3; exact r3.1
        have he := run_endRound (P := P) jump l3
        have hq : ({ rec .busy none with state := if jump.isNone then LoopState.ready else .done, pending := jump } : Loop) = rec (if jump.isNone then .ready else .done) jump := by rw [hrec]
        rw [hq] at he
        exact ⟨_, he, put _ _ _ _ _ r3, rfl, l3⟩
      rintro e a3 W3 hp
      cases e with
      | normal =>
        obtain ⟨hk, hi⟩ := hp
        obtain ⟨W4, hrun, hr4, rfl, l3⟩ := fin none W3 hk
        exact ⟨_, _, hrun, .inl ⟨rfl, hI s x _ _ _ hi l3, hr4⟩⟩
      | ret =>
        obtain ⟨hk, hi⟩ := hp
        obtain ⟨W4, hrun, hr4, rfl, l3⟩ := fin (some .ret) W3 hk
        exact ⟨_, _, hrun, .inr ⟨rfl, .ret, hIx _ s x _ _ _ hi l3, hr4⟩⟩
      | exit i =>
        obtain ⟨hk, hi⟩ := hp
        obtain ⟨W4, hrun, hr4, rfl, l3⟩ := fin (some (.exit i)) W3 hk
        exact ⟨_, _, hrun, .inr ⟨rfl, .exit i, hIx _ s x _ _ _ hi l3, hr4⟩⟩
      | goto t =>
        obtain ⟨hk, hi⟩ := hp
        obtain ⟨W4, hrun, hr4, rfl, l3⟩ := fin (some (.goto t)) W3 hk
        exact ⟨_, _, hrun, .inr ⟨rfl, .goto t, hIx _ s x _ _ _ hi l3, hr4⟩⟩
      | panic ch => exact hp.elim
      | outgrown => exact hp.elim
    · rintro e W2 ⟨⟨v, rfl⟩, (⟨hf, hr⟩ | ⟨c, hf, hr⟩)⟩
      · rw [hRec] at hr
        exact ⟨none, _, by have := run_endLoop (P := P) hr.1 (by rw [hrec]; simp); rw [hrec] at this; exact this, hdone _ _ (Nat.le_refl _) (hFin _ _ _ hf hr.1) ((World.putObj_heap_other (by omega)).trans hr.2)⟩
      · rw [hRec] at hr
        exact ⟨some c, _, by have := run_endLoop (P := P) hr.1 (by rw [hrec]; simp); rw [hrec] at this; exact this, hstop _ c _ (Nat.le_refl _) (hFinX c _ _ _ hf hr.1) ((World.putObj_heap_other (by omega)).trans hr.2)⟩
end
theorem rec_grown (W : World) (l : Nat) (o' : Obj) : W.grownBy (W.putObj l o') (some l) := grownBy_putObj' W l o'
theorem Chg.putRec {K : Nat → Prop} {W0 W : World} (h : Chg K W0 W) {l : Nat} (o' : Obj) (hl : K l ∨ W0.heap.size ≤ l) : Chg K W0 (W.putObj l o') := by
  refine ⟨h.os, h.tape, h.output, by rw [World.putObj_size]; exact h.size, fun k hk hn => ?_⟩
  rw [World.putObj_heap_other (fun e => by subst e; rcases hl with h | h; exact hn h; omega)]
  exact h.block k hk hn
end Go.Proofs.Ytjmiifgofedcnaa
