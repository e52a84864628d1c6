/-
  The trees of a script, side by side: every block has an owner.
-/
import Derived.Test.YthkahbjcncbcfaaActA
import Derived.Test.YthkahbjcncbcfaaSamB
namespace Go.Proofs.Ythkahbjcncbcfaa
open Go.RowKit Tr

/-- Whose a block is: the program's tree i's, the reference's tree i's, the first row's, the second row's, another's. -/
inductive Lb where
  | p (i : Nat)
  | r (i : Nat)
  | a
  | b
  | x
/-- One pair: the program's tree, and the reference's. -/
structure Pt where
  t : Nat
  d : Nat
  v : Value
  l : List Ac
structure Pair (B : Nat) (own : Nat → Lb) (i : Nat) (p : Pt) (W : World) : Prop where
  tr : Tree (fun k => own k = .p i ∧ B ≤ k) W p.t p.l (kidB p.l)
  rf : RefO B W p.d p.v p.l
  rl : ∀ k, RefK p.d p.v k → own k = .r i
  wf : Wf p.l
def ptrT (f : Nat → Pt) (N : Nat) : List Value := (List.range N).map (fun i => .pointer (some ⟨(f i).t, 0, none⟩))
def ptrD (f : Nat → Pt) (N : Nat) : List Value := (List.range N).map (fun i => .pointer (some ⟨(f i).d, 0, none⟩))
/-- N pairs, and the two rows of pointers to them. -/
structure Fam (B N : Nat) (own : Nat → Lb) (f : Nat → Pt) (vA vB : Value) (W : World) : Prop where
  ok : ∀ i, i < N → Pair B own i (f i) W
  rowA : W.ownsRow B 24 1 vA N (ptrT f N)
  la : ∀ k, vA.ownBlock = some k → own k = .a
  rowB : W.ownsRow B 27 1 vB N (ptrD f N)
  lb : ∀ k, vB.ownBlock = some k → own k = .b
section
variable {B N : Nat} {own own' : Nat → Lb} {f : Nat → Pt} {vA vB : Value} {W W' : World} {i : Nat} {p : Pt}
theorem Pair.chg {K : Nat → Prop} (h : Pair B own i p W) (c : Chg K W W') (hK : ∀ k, K k → k < W.heap.size → own k ≠ .p i ∧ own k ≠ .r i) : Pair B own i p W' :=
  ⟨h.tr.kept (fun j hj e => c.block j hj (fun hk => (hK j hk hj).1 e.1)), h.rf.chg c (fun k hk e => (hK k e (h.rf.rk_lt k hk)).2 (h.rl k hk)), h.rl, h.wf⟩
theorem Pair.below (h : Pair B own i p W) (c : Below W.heap.size W W') : Pair B own i p W' := h.chg (K := fun _ => False) (Chg.of_below c _) (fun _ e => e.elim)
theorem Pair.relb (h : Pair B own i p W) (e : ∀ k, k < W.heap.size → own' k = own k) : Pair B own' i p W :=
  ⟨h.tr.mono (fun j hj x => ⟨(e j hj).trans x.1, x.2⟩), h.rf, fun k hk => (e k (h.rf.rk_lt k hk)).trans (h.rl k hk), h.wf⟩
theorem Fam.below (h : Fam B N own f vA vB W) (c : Below W.heap.size W W') : Fam B N own f vA vB W' :=
  ⟨fun i hi => (h.ok i hi).below c, row_kept h.rowA c, h.la, row_kept h.rowB c, h.lb⟩
theorem Fam.relb (h : Fam B N own f vA vB W) (e : ∀ k, k < W.heap.size → own' k = own k) : Fam B N own' f vA vB W :=
  ⟨fun i hi => (h.ok i hi).relb e, h.rowA, fun k hk => (e k (h.rowA.lt k hk).2).trans (h.la k hk), h.rowB, fun k hk => (e k (h.rowB.lt k hk).2).trans (h.lb k hk)⟩
/-- The pair i took an act. -/
theorem Fam.turned (h : Fam B N own f vA vB W) (hB : B ≤ W.heap.size) (hi : i < N) {l' : List Ac} {v' : Value} {m : Nat} (hm : W.heap.size ≤ m) (hw : Wf l')
    (ht : Tree (fun k => (own k = .p i ∧ B ≤ k ∧ k < W.heap.size) ∨ (W.heap.size ≤ k ∧ k < m)) W' (f i).t l' (kidB l')) (hr : RefO B W' (f i).d v' l') (hv : ∀ k, v'.ownBlock = some k → (f i).v.ownBlock = some k ∨ m ≤ k)
    (c : Chg (fun k => (own k = .p i ∧ B ≤ k ∧ k < W.heap.size) ∨ RefK (f i).d (f i).v k) W W') :
    Fam B N (fun k => if k < W.heap.size then own k else if k < m then .p i else .r i) (fun j => if j = i then ⟨(f i).t, (f i).d, v', l'⟩ else f j) vA vB W' := by
  have hp := h.ok i hi
  have hdl := hp.rf.rk_lt _ (.inl rfl)
  have hK : ∀ k, ((own k = .p i ∧ B ≤ k ∧ k < W.heap.size) ∨ RefK (f i).d (f i).v k) → own k = .p i ∨ own k = .r i := fun k e => by
    rcases e with e | e
    · exact .inl e.1
    · exact .inr (hp.rl k e)
  obtain ⟨own', ho⟩ : ∃ own', own' = fun k => if k < W.heap.size then own k else if k < m then Lb.p i else Lb.r i := ⟨_, rfl⟩
  have oo : ∀ k, k < W.heap.size → own' k = own k := fun k hk => by rw [ho]; simp [hk]
  rw [← ho]
  have h' := h.relb oo
  have hK' : ∀ k, ((own k = .p i ∧ B ≤ k ∧ k < W.heap.size) ∨ RefK (f i).d (f i).v k) → k < W.heap.size → own' k = .p i ∨ own' k = .r i := fun k e hk => by rw [oo k hk]; exact hK k e
  have hfa : ∀ j, ((fun j => if j = i then (⟨(f i).t, (f i).d, v', l'⟩ : Pt) else f j) j).t = (f j).t ∧ ((fun j => if j = i then (⟨(f i).t, (f i).d, v', l'⟩ : Pt) else f j) j).d = (f j).d := fun j => by
    by_cases e : j = i
    · subst e; simp
    · simp [e]
  have eA : ptrT (fun j => if j = i then (⟨(f i).t, (f i).d, v', l'⟩ : Pt) else f j) N = ptrT f N := List.map_congr_left (fun j _ => by rw [(hfa j).1])
  have eB : ptrD (fun j => if j = i then (⟨(f i).t, (f i).d, v', l'⟩ : Pt) else f j) N = ptrD f N := List.map_congr_left (fun j _ => by rw [(hfa j).2])
  refine ⟨fun j hj => ?_, ?_, h'.la, ?_, h'.lb⟩
  · by_cases e : j = i
    · subst e
      simp only [if_true]
      refine ⟨ht.mono (fun k hk x => ?_), hr, fun k hk => ?_, hw⟩
      · rcases x with x | x
        · exact ⟨(oo k x.2.2).trans x.1, x.2.1⟩
        · refine ⟨?_, by omega⟩
          have n1 : ¬ k < W.heap.size := by omega
          rw [ho]
          simp [n1, x.2]
      · rcases hk with rfl | hk
        · exact (oo _ hdl).trans (hp.rl _ (.inl rfl))
        · rcases hv k hk with x | x
          · exact (oo _ (hp.rf.rk_lt _ (.inr x))).trans (hp.rl _ (.inr x))
          · have n1 : ¬ k < W.heap.size := by omega
            have n2 : ¬ k < m := by omega
            rw [ho]
            simp [n1, n2]
    · simp only [e, if_false]
      refine (h'.ok j hj).chg c (fun k hk hl => ?_)
      rcases hK' k hk hl with x | x
      · rw [x]
        exact ⟨fun y => (by cases y; exact e rfl), fun y => (by cases y)⟩
      · rw [x]
        exact ⟨fun y => (by cases y), fun y => (by cases y; exact e rfl)⟩
  · rw [eA]
    refine row_same h.rowA (fun k hk => c.block k (h.rowA.lt k hk).2 (fun e => ?_))
    have y := h.la k hk
    rcases hK k e with x | x <;> rw [y] at x <;> cases x
  · rw [eB]
    refine row_same h.rowB (fun k hk => c.block k (h.rowB.lt k hk).2 (fun e => ?_))
    have y := h.lb k hk
    rcases hK k e with x | x <;> rw [y] at x <;> cases x
theorem ptr_snoc {α : Type} (g : Nat → α) (N : Nat) : (List.range (N + 1)).map g = (List.range N).map g ++ [g N] := by simp [List.range_succ]
theorem grown_row {e n : Nat} {v : Value} {vs : List Value} {ob : Obj} (hg : (W.alloc ob).grownBy W' v.ownBlock) (_hrow : W.ownsRow B e 1 v n vs) : Chg (fun k => v.ownBlock = some k) W W' :=
  ((Chg.refl _ W).alloc ob).trans (K' := fun k => v.ownBlock = some k) (Chg.of_gr hg (fun _ e => .inl e)) (fun _ _ h => h)
/-- Behind the first append. -/
theorem Fam.half {W1 W2 : World} {ob : Obj} (h : Fam B N own f vA vB W) (b1 : Below W.heap.size W W1) (g2 : (W1.alloc ob).grownBy W2 vA.ownBlock) : (∀ j, j < N → Pair B own j (f j) W2) ∧ W2.ownsRow B 27 1 vB N (ptrD f N) := by
  have h1 := h.below b1
  have c2 := grown_row g2 h1.rowA
  refine ⟨fun j hj => (h1.ok j hj).chg c2 (fun k hk _ => ?_), row_same h1.rowB (fun k hk => c2.block k (h1.rowB.lt k hk).2 (fun e => ?_))⟩
  · rw [h.la k hk]
    exact ⟨fun y => (by cases y), fun y => (by cases y)⟩
  · have x := h.la k e
    rw [h.lb k hk] at x
    cases x
theorem Fam.cloned {W1 W2 W3 W4 : World} {t' d' : Nat} {v' : Value} {ob ob' : Obj} {vA' vB' : Value} (h : Fam B N own f vA vB W) (hB : B ≤ W.heap.size) (hi : i < N)
    (t1 : Tree (fun j => W.heap.size ≤ j) W1 t' (f i).l (kidB (f i).l)) (b1 : Below W.heap.size W W1)
    (o2 : W2.ownsRow B 24 1 vA' (N + 1) (ptrT f N ++ [.pointer (some ⟨t', 0, none⟩)])) (g2 : (W1.alloc ob).grownBy W2 vA.ownBlock) (a2 : vA'.ownBlock = vA.ownBlock ∨ vA'.ownBlock = some (W1.alloc ob).heap.size)
    (r3 : RefO W2.heap.size W3 d' v' (f i).l) (b3 : Below W2.heap.size W2 W3)
    (o4 : W4.ownsRow B 27 1 vB' (N + 1) (ptrD f N ++ [.pointer (some ⟨d', 0, none⟩)])) (g4 : (W3.alloc ob').grownBy W4 vB.ownBlock) (a4 : vB'.ownBlock = vB.ownBlock ∨ vB'.ownBlock = some (W3.alloc ob').heap.size) :
    ∃ own', (∀ k, k < W.heap.size → own' k = own k) ∧ Fam B (N + 1) own' (fun j => if j = N then ⟨t', d', v', (f i).l⟩ else f j) vA' vB' W4 := by
  have s1 := b1.size
  have c2 := grown_row g2 (h.below b1).rowA
  have s2 := c2.size
  have s3 := b3.size
  obtain ⟨own', ho⟩ : ∃ own', own' = fun k => if k < W.heap.size then own k else if k < W1.heap.size then Lb.p N else if k < W2.heap.size then .a else if k < W3.heap.size then .r N else .b := ⟨_, rfl⟩
  have oo : ∀ k, k < W.heap.size → own' k = own k := fun k hk => by rw [ho]; simp [hk]
  have h' := h.relb oo
  obtain ⟨ok2, rb2⟩ := h'.half b1 g2
  have rb3 := row_kept rb2 b3
  have c4 := grown_row g4 rb3
  have s4 := c4.size
  rw [World.size_alloc] at a2 a4
  have hvA : ∀ k, vA.ownBlock = some k → k < W.heap.size := fun k hk => (h.rowA.lt k hk).2
  have hvB : ∀ k, vB.ownBlock = some k → k < W.heap.size := fun k hk => (h.rowB.lt k hk).2
  refine ⟨own', oo, ⟨fun j hj => ?_, ?_, fun k hk => ?_, ?_, fun k hk => ?_⟩⟩
  · by_cases ej : j = N
    · subst ej
      simp only [if_true]
      have p2 : Tree (fun k => own' k = .p j ∧ B ≤ k) W2 t' (f i).l (kidB (f i).l) := (t1.mono (S' := fun k => own' k = .p j ∧ B ≤ k) (fun k hk e => ⟨by
        have n1 : ¬ k < W.heap.size := by omega
        rw [ho]
        simp [n1, hk], by omega⟩)).kept (fun k hk e => c2.block k hk (fun x => by
          have y := h'.la k x
          rw [e.1] at y
          cases y))
      have p3 : Pair B own' j ⟨t', d', v', (f i).l⟩ W3 := by
        refine ⟨p2.below b3, ⟨r3.blk, own_base r3.row (by omega), Nat.le_trans (by omega) r3.lo⟩, fun k hk => ?_, (h.ok i hi).wf⟩
        have hk1 : W2.heap.size ≤ k := by
          rcases hk with rfl | hk
          · exact r3.lo
          · exact (row_block r3.row hk).1
        have hk2 := r3.rk_lt k hk
        have n1 : ¬ k < W.heap.size := by omega
        have n2 : ¬ k < W1.heap.size := by omega
        have n3 : ¬ k < W2.heap.size := by omega
        rw [ho]
        simp [n1, n2, n3, hk2]
      refine p3.chg c4 (fun k hk _ => ?_)
      rw [h'.lb k hk]
      exact ⟨fun y => (by cases y), fun y => (by cases y)⟩
    · simp only [ej, if_false]
      refine ((ok2 j (by omega)).below b3).chg c4 (fun k hk _ => ?_)
      rw [h'.lb k hk]
      exact ⟨fun y => (by cases y), fun y => (by cases y)⟩
  · have e1 : ptrT (fun j => if j = N then (⟨t', d', v', (f i).l⟩ : Pt) else f j) (N + 1) = ptrT f N ++ [.pointer (some ⟨t', 0, none⟩)] := by
      unfold ptrT
      rw [ptr_snoc]
      simp only [if_true]
      congr 1
      exact List.map_congr_left (fun j hj => by simp [Nat.ne_of_lt (List.mem_range.1 hj)])
    rw [e1]
    have o3 := row_kept o2 b3
    refine row_same o3 (fun k hk => c4.block k (o3.lt k hk).2 (fun x => ?_))
    have x1 := hvB k x
    have y := h.lb k x
    rcases a2 with e | e
    · rw [e] at hk
      rw [h.la k hk] at y
      cases y
    · rw [e] at hk
      cases hk
      omega
  · rcases a2 with e | e
    · rw [e] at hk
      exact h'.la k hk
    · have hk2 := (o2.lt k hk).2
      rw [e] at hk
      cases hk
      have n1 : ¬ W1.heap.size + 1 < W.heap.size := by omega
      have n2 : ¬ W1.heap.size + 1 < W1.heap.size := by omega
      rw [ho]
      simp [n1, hk2]
  · have e1 : ptrD (fun j => if j = N then (⟨t', d', v', (f i).l⟩ : Pt) else f j) (N + 1) = ptrD f N ++ [.pointer (some ⟨d', 0, none⟩)] := by
      unfold ptrD
      rw [ptr_snoc]
      simp only [if_true]
      congr 1
      exact List.map_congr_left (fun j hj => by simp [Nat.ne_of_lt (List.mem_range.1 hj)])
    rw [e1]
    exact o4
  · rcases a4 with e | e
    · rw [e] at hk
      exact h'.lb k hk
    · rw [e] at hk
      cases hk
      have n1 : ¬ W3.heap.size + 1 < W.heap.size := by omega
      have n2 : ¬ W3.heap.size + 1 < W1.heap.size := by omega
      have n3 : ¬ W3.heap.size + 1 < W2.heap.size := by omega
      have n4 : ¬ W3.heap.size + 1 < W3.heap.size := by omega
      rw [ho]
      simp [n1, n2, n3]
theorem own_new {W : World} {B g e : Nat} {u : Value} (hb : B ≤ g) (h : W.heap[g]? = some (.cells #[u] e (0, 0))) : W.ownsRow B e 1 (.slice (some ⟨g, 0, none⟩) 1 1) 1 [u] :=
  ⟨rfl, .inr ⟨g, 1, #[u], rfl, hb, h, Nat.le_refl _, by decide, rfl, rfl⟩⟩
theorem fam_start {w1 w2 w3 : World} {t d : Nat} {v : Value} (t2 : Tree (fun j => w1.heap.size ≤ j) w2 t [rootAc] (kidB [rootAc])) (hB : B ≤ w1.heap.size) (b2 : Below w1.heap.size w1 w2)
    (r3 : RefO (w2.alloc (.cells #[.pointer (some ⟨t, 0, none⟩)] 24)).heap.size w3 d v [rootAc]) (b3 : Below (w2.alloc (.cells #[.pointer (some ⟨t, 0, none⟩)] 24)).heap.size (w2.alloc (.cells #[.pointer (some ⟨t, 0, none⟩)] 24)) w3) :
    ∃ own, Fam B 1 own (fun _ => ⟨t, d, v, [rootAc]⟩) (.slice (some ⟨w2.heap.size, 0, none⟩) 1 1) (.slice (some ⟨w3.heap.size, 0, none⟩) 1 1) (w3.alloc (.cells #[.pointer (some ⟨d, 0, none⟩)] 27)) := by
  have s2 := b2.size
  have s3 := b3.size
  rw [World.size_alloc] at s3
  have b4 : Below w3.heap.size w3 (w3.alloc (.cells #[.pointer (some ⟨d, 0, none⟩)] 27)) := (Below.refl _ w3).alloc (Nat.le_refl _) _
  have ba : Below w2.heap.size w2 (w2.alloc (.cells #[.pointer (some ⟨t, 0, none⟩)] 24)) := (Below.refl _ w2).alloc (Nat.le_refl _) _
  refine ⟨fun k => if k < w2.heap.size then .p 0 else if k = w2.heap.size then .a else if k < w3.heap.size then .r 0 else .b, ⟨fun i hi => ?_, ?_, fun k hk => ?_, ?_, fun k hk => ?_⟩⟩
  · obtain rfl : i = 0 := by omega
    have r3' := r3
    rw [World.size_alloc] at r3'
    refine (⟨((t2.mono (S' := fun k => (if k < w2.heap.size then Lb.p 0 else if k = w2.heap.size then .a else if k < w3.heap.size then .r 0 else .b) = .p 0 ∧ B ≤ k) (fun k hk e => ⟨by simp [hk], by omega⟩)).below ba).below b3, ⟨r3.blk, own_base r3.row (by simp; omega), Nat.le_trans (by omega) r3'.lo⟩, fun k hk => ?_, wf_new⟩ : Pair B _ 0 ⟨t, d, v, [rootAc]⟩ w3).below b4
    have hk1 : w2.heap.size + 1 ≤ k := by
      rcases hk with rfl | hk
      · exact r3'.lo
      · exact (row_block r3'.row hk).1
    have hk2 := r3'.rk_lt k hk
    have n1 : ¬ k < w2.heap.size := by omega
    have n2 : ¬ k = w2.heap.size := by omega
    simp [n1, n2, hk2]
  · exact own_new (by omega) (((b4.block _ (by omega)).trans (b3.block _ (by simp))).trans (heap_alloc_new _ _))
  · simp [Value.ownBlock] at hk
    subst hk
    simp
  · exact own_new (by omega) (heap_alloc_new _ _)
  · simp [Value.ownBlock] at hk
    subst hk
    have n1 : ¬ w3.heap.size < w2.heap.size := by omega
    have n2 : ¬ w3.heap.size = w2.heap.size := by omega
    simp [n1, n2]
theorem ptr_at {e n : Nat} {g : Nat → Value} {v : Value} (h : W.ownsRow B e 1 v n ((List.range n).map g)) (hn : 0 < n) : ∃ b cap, v = .slice (some ⟨b, 0, none⟩) n cap ∧ n ≤ cap ∧ ∀ i, i < n → W.cell? ⟨b, i, none⟩ = some (g i) := by
  rcases h.2 with ⟨_, h0⟩ | ⟨b, cap, cur, rfl, _, hg, hc, _⟩
  · omega
  · refine ⟨b, cap, rfl, hc, fun i hi => ?_⟩
    rw [h.cellAt i (by omega)]
    simp [hi]
end
end Go.Proofs.Ythkahbjcncbcfaa
