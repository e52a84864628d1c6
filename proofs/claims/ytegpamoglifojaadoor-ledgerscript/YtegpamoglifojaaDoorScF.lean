/-
  The ledgers of a script, side by side: every block has an owner.
-/
import Derived.Test.YtegpamoglifojaaDoorScA
import Derived.Test.YtegpamoglifojaaDoorScB
namespace Go.Proofs.YtegpamoglifojaaDoor
open Go.RowKit Wd Ld Cg Lg

/-- Whose a block is: the program's ledger i's, the reference's ledger i's, the first row's, the second row's, another's. -/
inductive Lb where
  | p (i : Nat)
  | r (i : Nat)
  | a
  | b
  | x
/-- One pair: the program's ledger, and the reference's. -/
structure Pt where
  t : Nat
  tv : Value
  d : Nat
  dv : Value
  l : List Int
structure Pair (c : Cf) (F : Int) (B : Nat) (own : Nat → Lb) (i : Nat) (p : Pt) (W : World) : Prop where
  tr : Led c.nodes F B W p.t p.tv p.l
  tl : ∀ k, LK p.t p.tv k → own k = .p i
  rf : RLed c F B W p.d p.dv p.l
  rl : ∀ k, LK p.d p.dv k → own k = .r i
  few : p.l.length ≤ 200
def ptrT (f : Nat → Pt) (N : Nat) : List Value := (List.range N).map (fun i => .pointer (some ⟨(f i).t, 0, none⟩))
def ptrD (f : Nat → Pt) (N : Nat) : List Value := (List.range N).map (fun i => .pointer (some ⟨(f i).d, 0, none⟩))
/-- N pairs, and the two rows of pointers to them. -/
structure Fam (c : Cf) (F : Int) (B N : Nat) (own : Nat → Lb) (f : Nat → Pt) (vA vB : Value) (W : World) : Prop where
  ok : ∀ i, i < N → Pair c F B own i (f i) W
  rowA : W.ownsRow B 29 1 vA N (ptrT f N)
  la : ∀ k, vA.ownBlock = some k → own k = .a
  rowB : W.ownsRow B 33 1 vB N (ptrD f N)
  lb : ∀ k, vB.ownBlock = some k → own k = .b
section
variable {c : Cf} {F : Int} {B N : Nat} {own own' : Nat → Lb} {f : Nat → Pt} {vA vB : Value} {W W' : World} {i : Nat} {p : Pt}
theorem Pair.apt (h : Pair c F B own i p W) : Apt p.t p.tv p.d p.dv := fun k h1 h2 => by
  have e := h.tl k h1
  rw [h.rl k h2] at e
  cases e
theorem Pair.chg {K : Nat → Prop} (h : Pair c F B own i p W) (cc : Chg K W W') (hK : ∀ k, K k → k < W.heap.size → own k ≠ .p i ∧ own k ≠ .r i) : Pair c F B own i p W' :=
  ⟨h.tr.chg cc (fun k hk e => (hK k e (h.tr.lk_lt k hk)).1 (h.tl k hk)), h.tl, h.rf.chg cc (fun k hk e => (hK k e (h.rf.lk_lt k hk)).2 (h.rl k hk)), h.rl, h.few⟩
theorem Pair.below (h : Pair c F B own i p W) (cc : Below W.heap.size W W') : Pair c F B own i p W' := h.chg (K := fun _ => False) (Chg.of_below cc _) (fun _ e => e.elim)
theorem Pair.relb (h : Pair c F B own i p W) (e : ∀ k, k < W.heap.size → own' k = own k) : Pair c F B own' i p W :=
  ⟨h.tr, fun k hk => (e k (h.tr.lk_lt k hk)).trans (h.tl k hk), h.rf, fun k hk => (e k (h.rf.lk_lt k hk)).trans (h.rl k hk), h.few⟩
theorem Fam.below (h : Fam c F B N own f vA vB W) (cc : Below W.heap.size W W') : Fam c F B N own f vA vB W' :=
  ⟨fun i hi => (h.ok i hi).below cc, row_kept h.rowA cc, h.la, row_kept h.rowB cc, h.lb⟩
theorem Fam.relb (h : Fam c F B N own f vA vB W) (e : ∀ k, k < W.heap.size → own' k = own k) : Fam c F B N own' f vA vB W :=
  ⟨fun i hi => (h.ok i hi).relb e, h.rowA, fun k hk => (e k (h.rowA.lt k hk).2).trans (h.la k hk), h.rowB, fun k hk => (e k (h.rowB.lt k hk).2).trans (h.lb k hk)⟩
/-- The pair i took an act. -/
theorem Fam.turned (h : Fam c F B N own f vA vB W) (hi : i < N) {l' : List Int} {tv' dv' : Value} {m : Nat} (hm : W.heap.size ≤ m) (hf : l'.length ≤ 200)
    (ht : Led c.nodes F B W' (f i).t tv' l') (hr : RLed c F B W' (f i).d dv' l') (hv : ∀ k, tv'.ownBlock = some k → (f i).tv.ownBlock = some k ∨ (W.heap.size ≤ k ∧ k < m)) (hv' : ∀ k, dv'.ownBlock = some k → (f i).dv.ownBlock = some k ∨ m ≤ k)
    (cc : Chg (fun k => LK (f i).t (f i).tv k ∨ LK (f i).d (f i).dv k) W W') :
    Fam c F B N (fun k => if k < W.heap.size then own k else if k < m then .p i else .r i) (fun j => if j = i then ⟨(f i).t, tv', (f i).d, dv', l'⟩ else f j) vA vB W' := by
  have hp := h.ok i hi
  have htl := hp.tr.lk_lt _ (.inl rfl)
  have hdl := hp.rf.lk_lt _ (.inl rfl)
  have hK : ∀ k, (LK (f i).t (f i).tv k ∨ LK (f i).d (f i).dv k) → own k = .p i ∨ own k = .r i := fun k e => by
    rcases e with e | e
    · exact .inl (hp.tl k e)
    · exact .inr (hp.rl k e)
  obtain ⟨own', ho⟩ : ∃ own', own' = fun k => if k < W.heap.size then own k else if k < m then Lb.p i else Lb.r i := ⟨_, rfl⟩
  have oo : ∀ k, k < W.heap.size → own' k = own k := fun k hk => by rw [ho]; simp [hk]
  rw [← ho]
  have h' := h.relb oo
  have hfa : ∀ j, ((fun j => if j = i then (⟨(f i).t, tv', (f i).d, dv', l'⟩ : Pt) else f j) j).t = (f j).t ∧ ((fun j => if j = i then (⟨(f i).t, tv', (f i).d, dv', l'⟩ : Pt) else f j) j).d = (f j).d := fun j => by
    by_cases e : j = i
    · subst e; simp
    · simp [e]
  have eA : ptrT (fun j => if j = i then (⟨(f i).t, tv', (f i).d, dv', l'⟩ : Pt) else f j) N = ptrT f N := List.map_congr_left (fun j _ => by rw [(hfa j).1])
  have eB : ptrD (fun j => if j = i then (⟨(f i).t, tv', (f i).d, dv', l'⟩ : Pt) else f j) N = ptrD f N := List.map_congr_left (fun j _ => by rw [(hfa j).2])
  refine ⟨fun j hj => ?_, ?_, h'.la, ?_, h'.lb⟩
  · by_cases e : j = i
    · subst e
      simp only [if_true]
      refine ⟨ht, fun k hk => ?_, hr, fun k hk => ?_, hf⟩
      · rcases hk with rfl | hk
        · exact (oo _ htl).trans (hp.tl _ (.inl rfl))
        · rcases hv k hk with x | x
          · exact (oo _ (hp.tr.lk_lt _ (.inr x))).trans (hp.tl _ (.inr x))
          · have n1 : ¬ k < W.heap.size := by omega
            rw [ho]
            simp [n1, x.2]
      · rcases hk with rfl | hk
        · exact (oo _ hdl).trans (hp.rl _ (.inl rfl))
        · rcases hv' k hk with x | x
          · exact (oo _ (hp.rf.lk_lt _ (.inr x))).trans (hp.rl _ (.inr x))
          · have n1 : ¬ k < W.heap.size := by omega
            have n2 : ¬ k < m := by omega
            rw [ho]
            simp [n1, n2]
    · simp only [e, if_false]
      refine (h'.ok j hj).chg cc (fun k hk hl => ?_)
      rw [oo k hl]
      rcases hK k hk with x | x
      · rw [x]
        exact ⟨fun y => (by cases y; exact e rfl), fun y => (by cases y)⟩
      · rw [x]
        exact ⟨fun y => (by cases y), fun y => (by cases y; exact e rfl)⟩
  · rw [eA]
    refine row_same h.rowA (fun k hk => cc.block k (h.rowA.lt k hk).2 (fun e => ?_))
    have y := h.la k hk
    rcases hK k e with x | x <;> rw [y] at x <;> cases x
  · rw [eB]
    refine row_same h.rowB (fun k hk => cc.block k (h.rowB.lt k hk).2 (fun e => ?_))
    have y := h.lb k hk
    rcases hK k e with x | x <;> rw [y] at x <;> cases x
theorem ptr_snoc {α : Type} (g : Nat → α) (N : Nat) : (List.range (N + 1)).map g = (List.range N).map g ++ [g N] := by simp [List.range_succ]
theorem grown_row {v : Value} {ob : Obj} (hg : (W.alloc ob).grownBy W' v.ownBlock) : Chg (fun k => v.ownBlock = some k) W W' :=
  ((Chg.refl _ W).alloc ob).trans (K' := fun k => v.ownBlock = some k) (Chg.of_gr hg (fun _ e => .inl e)) (fun _ _ h => h)
/-- Behind the first append. -/
theorem Fam.half {W1 W2 : World} {ob : Obj} (h : Fam c F B N own f vA vB W) (b1 : Below W.heap.size W W1) (g2 : (W1.alloc ob).grownBy W2 vA.ownBlock) : (∀ j, j < N → Pair c F B own j (f j) W2) ∧ W2.ownsRow B 33 1 vB N (ptrD f N) := by
  have h1 := h.below b1
  have c2 := grown_row g2
  refine ⟨fun j hj => (h1.ok j hj).chg c2 (fun k hk _ => ?_), row_same h1.rowB (fun k hk => c2.block k (h1.rowB.lt k hk).2 (fun e => ?_))⟩
  · rw [h.la k hk]
    exact ⟨fun y => (by cases y), fun y => (by cases y)⟩
  · have x := h.la k e
    rw [h.lb k hk] at x
    cases x
theorem Fam.cloned {W1 W2 W3 W4 : World} {t' d' : Nat} {tv' dv' : Value} {ob ob' : Obj} {vA' vB' : Value} (h : Fam c F B N own f vA vB W) (hB : B ≤ W.heap.size) (hi : i < N)
    (t1 : Led c.nodes F W.heap.size W1 t' tv' (f i).l) (b1 : Below W.heap.size W W1)
    (o2 : W2.ownsRow B 29 1 vA' (N + 1) (ptrT f N ++ [.pointer (some ⟨t', 0, none⟩)])) (g2 : (W1.alloc ob).grownBy W2 vA.ownBlock) (a2 : vA'.ownBlock = vA.ownBlock ∨ vA'.ownBlock = some (W1.alloc ob).heap.size)
    (r3 : RLed c F W2.heap.size W3 d' dv' (f i).l) (b3 : Below W2.heap.size W2 W3)
    (o4 : W4.ownsRow B 33 1 vB' (N + 1) (ptrD f N ++ [.pointer (some ⟨d', 0, none⟩)])) (g4 : (W3.alloc ob').grownBy W4 vB.ownBlock) (a4 : vB'.ownBlock = vB.ownBlock ∨ vB'.ownBlock = some (W3.alloc ob').heap.size) :
    ∃ own', (∀ k, k < W.heap.size → own' k = own k) ∧ Fam c F B (N + 1) own' (fun j => if j = N then ⟨t', tv', d', dv', (f i).l⟩ else f j) vA' vB' W4 := by
  have s1 := b1.size
  have c2 := grown_row g2
  have s2 := c2.size
  have s3 := b3.size
  obtain ⟨own', ho⟩ : ∃ own', own' = fun k => if k < W.heap.size then own k else if k < W1.heap.size then Lb.p N else if k < W2.heap.size then .a else if k < W3.heap.size then .r N else .b := ⟨_, rfl⟩
  have oo : ∀ k, k < W.heap.size → own' k = own k := fun k hk => by rw [ho]; simp [hk]
  have h' := h.relb oo
  obtain ⟨ok2, rb2⟩ := h'.half b1 g2
  have rb3 := row_kept rb2 b3
  have c4 := grown_row g4
  have s4 := c4.size
  rw [World.size_alloc] at a2 a4
  have hvA : ∀ k, vA.ownBlock = some k → k < W.heap.size := fun k hk => (h.rowA.lt k hk).2
  have hvB : ∀ k, vB.ownBlock = some k → k < W.heap.size := fun k hk => (h.rowB.lt k hk).2
  refine ⟨own', oo, ⟨fun j hj => ?_, ?_, fun k hk => ?_, ?_, fun k hk => ?_⟩⟩
  · by_cases ej : j = N
    · subst ej
      simp only [if_true]
      have hlab : ∀ k, LK t' tv' k → own' k = .p j := fun k hk => by
        have k1 := t1.lk_lo k hk
        have k2 := t1.lk_lt k hk
        have n1 : ¬ k < W.heap.size := by omega
        rw [ho]
        simp [n1, k2]
      have p2 : Led c.nodes F B W2 t' tv' (f i).l := (t1.base hB).chg c2 (fun k hk e => by
        have y := h'.la k e
        rw [hlab k hk] at y
        cases y)
      have hlab2 : ∀ k, LK d' dv' k → own' k = .r j := fun k hk => by
        have k1 := r3.lk_lo k hk
        have k2 := r3.lk_lt k hk
        have n1 : ¬ k < W.heap.size := by omega
        have n2 : ¬ k < W1.heap.size := by omega
        have n3 : ¬ k < W2.heap.size := by omega
        rw [ho]
        simp [n1, n2, n3, k2]
      have p3 : Pair c F B own' j ⟨t', tv', d', dv', (f i).l⟩ W3 := ⟨p2.below b3, hlab, r3.base (by omega), hlab2, (h.ok i hi).few⟩
      refine p3.chg c4 (fun k hk _ => ?_)
      rw [h'.lb k hk]
      exact ⟨fun y => (by cases y), fun y => (by cases y)⟩
    · simp only [ej, if_false]
      refine ((ok2 j (by omega)).below b3).chg c4 (fun k hk _ => ?_)
      rw [h'.lb k hk]
      exact ⟨fun y => (by cases y), fun y => (by cases y)⟩
  · have e1 : ptrT (fun j => if j = N then (⟨t', tv', d', dv', (f i).l⟩ : Pt) else f j) (N + 1) = ptrT f N ++ [.pointer (some ⟨t', 0, none⟩)] := by
      unfold ptrT
      rw [ptr_snoc]
      simp only [if_true]
      congr 1
      exact List.map_congr_left (fun j hj => by simp [Nat.ne_of_lt (List.mem_range.1 hj)])
    rw [e1]
    have o3 := row_kept o2 b3
    refine row_same o3 (fun k hk => c4.block k (o3.lt k hk).2 (fun x => ?_))
    have x1 := hvB k x
    have y := h.lb k x
    rcases a2 with e | e
    · rw [e] at hk
      rw [h.la k hk] at y
      cases y
    · rw [e] at hk
      cases hk
      omega
  · rcases a2 with e | e
    · rw [e] at hk
      exact h'.la k hk
    · have hk2 := (o2.lt k hk).2
      rw [e] at hk
      cases hk
      have n1 : ¬ W1.heap.size + 1 < W.heap.size := by omega
      have n2 : ¬ W1.heap.size + 1 < W1.heap.size := by omega
      rw [ho]
      simp [n1, hk2]
  · have e1 : ptrD (fun j => if j = N then (⟨t', tv', d', dv', (f i).l⟩ : Pt) else f j) (N + 1) = ptrD f N ++ [.pointer (some ⟨d', 0, none⟩)] := by
      unfold ptrD
      rw [ptr_snoc]
      simp only [if_true]
      congr 1
      exact List.map_congr_left (fun j hj => by simp [Nat.ne_of_lt (List.mem_range.1 hj)])
    rw [e1]
    exact o4
  · rcases a4 with e | e
    · rw [e] at hk
      exact h'.lb k hk
    · rw [e] at hk
      cases hk
      have n1 : ¬ W3.heap.size + 1 < W.heap.size := by omega
      have n2 : ¬ W3.heap.size + 1 < W1.heap.size := by omega
      have n3 : ¬ W3.heap.size + 1 < W2.heap.size := by omega
      have n4 : ¬ W3.heap.size + 1 < W3.heap.size := by omega
      rw [ho]
      simp [n1, n2, n3]
theorem own_new {W : World} {B g e : Nat} {u : Value} (hb : B ≤ g) (h : W.heap[g]? = some (.cells #[u] e (0, 0))) : W.ownsRow B e 1 (.slice (some ⟨g, 0, none⟩) 1 1) 1 [u] :=
  ⟨rfl, .inr ⟨g, 1, #[u], rfl, hb, h, Nat.le_refl _, by decide, rfl, rfl⟩⟩
/-- The first pair, and the two rows. -/
theorem fam_start {W : World} {t d : Nat} {tv dv : Value} {l : List Int} (hP : Led c.nodes F B W t tv l) (hR : RLed c F B W d dv l) (ha : Apt t tv d dv) (hf : l.length ≤ 200) (hB : B ≤ W.heap.size) :
    ∃ own, (∀ k, k < W.heap.size → ¬ LK t tv k → ¬ LK d dv k → own k = .x) ∧ Fam c F B 1 own (fun _ => ⟨t, tv, d, dv, l⟩) (.slice (some ⟨W.heap.size, 0, none⟩) 1 1) (.slice (some ⟨W.heap.size + 1, 0, none⟩) 1 1) ((W.alloc (.cells #[.pointer (some ⟨t, 0, none⟩)] 29)).alloc (.cells #[.pointer (some ⟨d, 0, none⟩)] 33)) := by
  have bb : Below W.heap.size W ((W.alloc (.cells #[.pointer (some ⟨t, 0, none⟩)] 29)).alloc (.cells #[.pointer (some ⟨d, 0, none⟩)] 33)) := ((Below.refl _ W).alloc (Nat.le_refl _) _).alloc (by simp) _
  obtain ⟨own, ho⟩ : ∃ own : Nat → Lb, (∀ k, own k = @ite Lb (LK t tv k) (Classical.propDecidable _) (.p 0) (@ite Lb (LK d dv k) (Classical.propDecidable _) (.r 0) (if k < W.heap.size then .x else if k = W.heap.size then .a else .b))) := ⟨_, fun _ => rfl⟩
  have nt : ∀ k, W.heap.size ≤ k → ¬ LK t tv k := fun k hk e => by have := hP.lk_lt k e; omega
  have nd : ∀ k, W.heap.size ≤ k → ¬ LK d dv k := fun k hk e => by have := hR.lk_lt k e; omega
  refine ⟨own, fun k hk h1 h2 => by rw [ho, if_neg h1, if_neg h2, if_pos hk], ⟨fun i hi => ?_, ?_, fun k hk => ?_, ?_, fun k hk => ?_⟩⟩
  · obtain rfl : i = 0 := by omega
    exact ⟨hP.below bb, fun k hk => by rw [ho, if_pos hk], hR.below bb, fun k hk => by rw [ho, if_neg (fun e => ha k e hk), if_pos hk], hf⟩
  · exact own_new hB ((Below.heap_alloc _ _ _ (by simp)).trans (heap_alloc_new _ _))
  · simp [Value.ownBlock] at hk
    subst hk
    rw [ho, if_neg (nt _ (Nat.le_refl _)), if_neg (nd _ (Nat.le_refl _))]
    simp
  · have h := heap_alloc_new (W.alloc (.cells #[.pointer (some ⟨t, 0, none⟩)] 29)) (.cells #[.pointer (some ⟨d, 0, none⟩)] 33)
    rw [World.size_alloc] at h
    exact own_new (by omega) h
  · simp [Value.ownBlock] at hk
    subst hk
    have n1 : ¬ W.heap.size + 1 < W.heap.size := by omega
    have n2 : ¬ W.heap.size + 1 = W.heap.size := by omega
    rw [ho, if_neg (nt _ (Nat.le_succ _)), if_neg (nd _ (Nat.le_succ _))]
    simp [n1]
theorem ptr_at {e n : Nat} {g : Nat → Value} {v : Value} (h : W.ownsRow B e 1 v n ((List.range n).map g)) (hn : 0 < n) : ∃ b cap, v = .slice (some ⟨b, 0, none⟩) n cap ∧ n ≤ cap ∧ ∀ i, i < n → W.cell? ⟨b, i, none⟩ = some (g i) := by
  rcases h.2 with ⟨_, h0⟩ | ⟨b, cap, cur, rfl, _, hg, hc, _⟩
  · omega
  · refine ⟨b, cap, rfl, hc, fun i hi => ?_⟩
    rw [h.cellAt i (by omega)]
    simp [hi]
end
end Go.Proofs.YtegpamoglifojaaDoor
