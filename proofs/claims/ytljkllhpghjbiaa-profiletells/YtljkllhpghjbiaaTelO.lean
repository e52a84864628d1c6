/-
  ProfileTells: the lists that were answered, kept in a list: none shares memory with another.
-/
import Derived.Test.YtljkllhpghjbiaaLwD
namespace Go.Proofs.Ytljkllhpghjbiaa
open Go.RowKit Pr

section
variable {S : Nat → List Stp} {B j e sz n : Nat} {v a ov ov' : Value} {vs us : List Value} {W W' W0 : World}
theorem row_block (h : W.ownsRow B e sz v n us) {k : Nat} (hk : v.ownBlock = some k) : B ≤ k ∧ ∃ cs, W.heap[k]? = some (.cells cs e (0, 0)) := by
  rcases h.2 with ⟨rfl, _⟩ | ⟨g, cap, cur, rfl, hb, hg, _⟩
  · simp [Value.ownBlock] at hk
  · simp [Value.ownBlock] at hk
    subst hk
    exact ⟨hb, cur, hg⟩
theorem row_lt (h : W.ownsRow B e sz v n us) {k : Nat} (hk : v.ownBlock = some k) : k < W.heap.size := by
  obtain ⟨_, cs, hcs⟩ := row_block h hk
  exact (Array.getElem?_eq_some_iff.1 hcs).1
theorem row_same (h : W.ownsRow B e sz v n us) (hg : ∀ k, v.ownBlock = some k → W'.heap[k]? = W.heap[k]?) : W'.ownsRow B e sz v n us := by
  refine ⟨h.1, ?_⟩
  rcases h.2 with h0 | ⟨g, cap, cur, rfl, hb, hgg, r⟩
  · exact .inl h0
  · exact .inr ⟨g, cap, cur, rfl, hb, (hg g rfl).trans hgg, r⟩
/-- What has been collected. -/
structure OutsI (S : Nat → List Stp) (B j : Nat) (ov : Value) (vs : List Value) (W : World) : Prop where
  len : vs.length = j
  row : W.ownsRow B 26 1 ov j vs
  each : ∀ i v, vs[i]? = some v → W.ownsRow B 34 2 v (S i).length (flatS (S i))
  apart : ∀ (i i' : Nat) (v v' : Value) (b : Nat), vs[i]? = some v → vs[i']? = some v' → v.ownBlock = some b → v'.ownBlock = some b → i = i'
theorem OutsI.below (h : OutsI S B j ov vs W) (b : Below W.heap.size W W') : OutsI S B j ov vs W' :=
  ⟨h.len, row_same h.row (fun k hk => b.block k (row_lt h.row hk)), fun i v hv => row_same (h.each i v hv) (fun k hk => b.block k (row_lt (h.each i v hv) hk)), h.apart⟩
/-- One more. -/
theorem OutsI.add {o : Obj} (h0 : OutsI S B j ov vs W0) (h : OutsI S B j ov vs W) (ha : W.ownsRow B 34 2 a (S j).length (flatS (S j))) (hnew : ∀ b, a.ownBlock = some b → W0.heap.size ≤ b)
    (hrow : W'.ownsRow B 26 1 ov' (j + 1) (vs ++ [a])) (hg : (W.alloc o).grownBy W' ov.ownBlock) : OutsI S B (j + 1) ov' (vs ++ [a]) W' := by
  have keep : ∀ v n us, W.ownsRow B 34 2 v n us → W'.ownsRow B 34 2 v n us := fun v n us hv => row_same hv (fun k hk => by
    have hlt := row_lt hv hk
    refine (hg.block k (by rw [World.size_alloc]; omega) (fun e => ?_)).trans (Below.heap_alloc _ _ _ hlt)
    obtain ⟨_, cs, hcs⟩ := row_block hv hk
    obtain ⟨_, cs', hcs'⟩ := row_block h.row e.symm
    rw [hcs] at hcs'
    cases hcs')
  have at_ : ∀ i v, (vs ++ [a])[i]? = some v → (i < j ∧ vs[i]? = some v) ∨ (i = j ∧ v = a) := fun i v hv => by
    by_cases hi : i < vs.length
    · rw [List.getElem?_append_left hi] at hv
      exact .inl ⟨by have := h.len; omega, hv⟩
    · rw [List.getElem?_append_right (by omega)] at hv
      have hi' : i - vs.length < 1 := by
        have := (List.getElem?_eq_some_iff.1 hv).1
        simpa using this
      have : i = j := by have := h.len; omega
      rw [show i - vs.length = 0 by omega] at hv
      simp at hv
      exact .inr ⟨this, hv.symm⟩
  refine ⟨by simp [h.len], hrow, fun i v hv => ?_, fun i i' v v' b hv hv' hb hb' => ?_⟩
  · rcases at_ i v hv with ⟨_, hv⟩ | ⟨rfl, rfl⟩
    · exact keep _ _ _ (h.each i v hv)
    · exact keep _ _ _ ha
  · rcases at_ i v hv with ⟨hi, hv1⟩ | ⟨hi, hv1⟩
    · rcases at_ i' v' hv' with ⟨hi', hv2⟩ | ⟨hi', hv2⟩
      · exact h.apart i i' v v' b hv1 hv2 hb hb'
      · have := row_lt (h0.each i v hv1) hb
        have := hnew b (hv2 ▸ hb')
        omega
    · rcases at_ i' v' hv' with ⟨hi', hv2⟩ | ⟨hi', hv2⟩
      · have := row_lt (h0.each i' v' hv2) hb'
        have := hnew b (hv1 ▸ hb)
        omega
      · omega
/-- What is still to be looked at, from the i-th on. -/
structure RestI (S : Nat → List Stp) (B go i : Nat) (vf : Nat → Value) (W : World) : Prop where
  blk : ∃ cu, W.heap[go]? = some (.cells cu 26 (0, 0)) ∧ ∀ j, j < 3 → cu[j]? = some (vf j)
  each : ∀ j, i ≤ j → j < 3 → W.ownsRow B 34 2 (vf j) (S j).length (flatS (S j))
  apart : ∀ j j' b, i ≤ j → j < 3 → i ≤ j' → j' < 3 → (vf j).ownBlock = some b → (vf j').ownBlock = some b → j = j'
theorem OutsI.rest (h : OutsI S B 3 ov vs W) : ∃ go cap vf, ov = .slice (some ⟨go, 0, none⟩) 3 cap ∧ B ≤ go ∧ RestI S B go 0 vf W := by
  rcases h.row.2 with ⟨_, h0⟩ | ⟨g, cap, cur, rfl, hb, hg, h1, h2, h3, h4⟩
  · omega
  · have hl := h.len
    have hat : ∀ j, j < 3 → vs[j]? = some (vs.getD j undef) := fun j hj => by
      rw [List.getElem?_eq_getElem (by omega)]
      simp [List.getD, List.getElem?_eq_getElem (show j < vs.length by omega)]
    refine ⟨g, cap, fun j => vs.getD j undef, rfl, hb, ⟨cur, hg, fun j hj => ?_⟩, fun j _ hj => h.each j _ (hat j hj), fun j j' b _ hj _ hj' hb hb' => h.apart j j' _ _ b (hat j hj) (hat j' hj') hb hb'⟩
    have := hat j hj
    rw [← h4, List.getElem?_take_of_lt (by omega), Array.getElem?_toList] at this
    rw [this, h4]
theorem RestI.below {go i : Nat} {vf : Nat → Value} (h : RestI S B go i vf W) (b : Below W.heap.size W W') : RestI S B go i vf W' := by
  obtain ⟨cu, h1, h2⟩ := h.blk
  exact ⟨⟨cu, (b.block go (Array.getElem?_eq_some_iff.1 h1).1).trans h1, h2⟩, fun j hj hj3 => row_same (h.each j hj hj3) (fun k hk => b.block k (row_lt (h.each j hj hj3) hk)), h.apart⟩
/-- The i-th is being written into: v, of n elements. -/
structure TurnI (S : Nat → List Stp) (B go i : Nat) (vf : Nat → Value) (v : Value) (n : Nat) (W : World) : Prop where
  blk : ∃ cu, W.heap[go]? = some (.cells cu 26 (0, 0)) ∧ (∀ j, j < 3 → j ≠ i → cu[j]? = some (vf j)) ∧ cu[i]? = some v
  row : ∃ us, W.ownsRow B 34 2 v n us
  each : ∀ j, i < j → j < 3 → W.ownsRow B 34 2 (vf j) (S j).length (flatS (S j))
  apart : ∀ j j' b, i < j → j < 3 → i < j' → j' < 3 → (vf j).ownBlock = some b → (vf j').ownBlock = some b → j = j'
  off : ∀ j b, i < j → j < 3 → (vf j).ownBlock = some b → v.ownBlock ≠ some b
theorem RestI.turn {go i : Nat} {vf : Nat → Value} (h : RestI S B go i vf W) (hi : i < 3) : TurnI S B go i vf (vf i) (S i).length W := by
  obtain ⟨cu, h1, h2⟩ := h.blk
  exact ⟨⟨cu, h1, fun j hj _ => h2 j hj, h2 i hi⟩, ⟨_, h.each i (Nat.le_refl _) hi⟩, fun j hj hj3 => h.each j (by omega) hj3, fun j j' b hj hj3 hj' hj3' => h.apart j j' b (by omega) hj3 (by omega) hj3', fun j b hj hj3 hb hb' => by have := h.apart j i b (by omega) hj3 (Nat.le_refl _) hi hb hb'; omega⟩
theorem TurnI.rest {go i n : Nat} {vf : Nat → Value} (h : TurnI S B go i vf v n W) : RestI S B go (i + 1) (fun j => if j = i then v else vf j) W := by
  obtain ⟨cu, h1, h2, h3⟩ := h.blk
  refine ⟨⟨cu, h1, fun j hj => ?_⟩, fun j hj hj3 => ?_, fun j j' b hj hj3 hj' hj3' hb hb' => ?_⟩
  · by_cases e : j = i
    · subst e; simpa using h3
    · simpa [e] using h2 j hj e
  · have e : j ≠ i := by omega
    simpa [e] using h.each j (by omega) hj3
  · have e : j ≠ i := by omega
    have e' : j' ≠ i := by omega
    simp [e] at hb
    simp [e'] at hb'
    exact h.apart j j' b (by omega) hj3 (by omega) hj3' hb hb'
/-- Two cells of it are written over. -/
theorem TurnI.set {go i n m g cap : Nat} {vf : Nat → Value} {x y : Value} (h : TurnI S B go i vf (.slice (some ⟨g, 0, none⟩) n cap) n W) :
    TurnI S B go i vf (.slice (some ⟨g, 0, none⟩) n cap) n ((W.setCell ⟨g, m * 2, none⟩ x).setCell ⟨g, m * 2 + 1, none⟩ y) := by
  obtain ⟨us, hr⟩ := h.row
  obtain ⟨cu, h1, h2, h3⟩ := h.blk
  have hgg : ∃ cs, W.heap[g]? = some (.cells cs 34 (0, 0)) := (row_block hr rfl).2
  obtain ⟨cs, hcs⟩ := hgg
  have hne : go ≠ g := fun e => by subst e; rw [hcs] at h1; cases h1
  have oth : ∀ k, k ≠ g → ((W.setCell ⟨g, m * 2, none⟩ x).setCell ⟨g, m * 2 + 1, none⟩ y).heap[k]? = W.heap[k]? := fun k hk => by
    rw [Below.heap_setCell _ _ _ _ (by simpa using hk), Below.heap_setCell _ _ _ _ (by simpa using hk)]
  refine ⟨⟨cu, (oth go hne).trans h1, h2, h3⟩, ?_, fun j hj hj3 => row_same (h.each j hj hj3) (fun k hk => oth k (fun e => h.off j k hj hj3 hk (by rw [e]; rfl))), h.apart, h.off⟩
  rcases hr.2 with ⟨h0, _⟩ | ⟨g', cap', cur, hv, hb, hg, r1, r2, r3, r4⟩
  · simp at h0
  · simp at hv
    obtain ⟨rfl, rfl⟩ := hv
    have e1 := heap_setCell_same W g (m * 2) cur 34 x hg
    have e2 := heap_setCell_same _ g (m * 2 + 1) _ 34 y e1
    exact ⟨_, by rw [← hr.1, ← r4]; simp [r3], .inr ⟨g, cap, _, rfl, hb, e2, r1, r2, by simpa using r3, rfl⟩⟩
/-- One more is appended to it. -/
theorem TurnI.app {go i n m : Nat} {vf : Nat → Value} {v' : Value} {o : Obj} {us : List Value} (h : TurnI S B go i vf v n W) (hrow : W'.ownsRow B 34 2 v' m us) (hg : (W.alloc o).grownBy W' v.ownBlock)
    (hat : v'.ownBlock = v.ownBlock ∨ v'.ownBlock = some (W.alloc o).heap.size) : TurnI S B go i vf v' m (W'.setCell ⟨go, i, none⟩ v') ∧ W'.cell? ⟨go, i, none⟩ = some v ∧ W'.frozen? ⟨go, i, none⟩ = false := by
  obtain ⟨cu, h1, h2, h3⟩ := h.blk
  obtain ⟨us0, hr⟩ := h.row
  have hgo := (Array.getElem?_eq_some_iff.1 h1).1
  have keep : ∀ k, k < W.heap.size → v.ownBlock ≠ some k → W'.heap[k]? = W.heap[k]? := fun k hk hne => (hg.block k (by rw [World.size_alloc]; omega) (fun e => hne e.symm)).trans (Below.heap_alloc _ _ _ hk)
  have g1 : W'.heap[go]? = some (.cells cu 26 (0, 0)) := (keep go hgo (fun e => by
    obtain ⟨_, cs, hcs⟩ := row_block hr e
    rw [hcs] at h1; cases h1)).trans h1
  have g2 := heap_setCell_same W' go i cu 26 v' g1
  have rows : ∀ u k us', W'.ownsRow B 34 2 u k us' → (W'.setCell ⟨go, i, none⟩ v').ownsRow B 34 2 u k us' := fun u k us' hu => row_same hu (fun b hb => Below.heap_setCell _ _ _ _ (fun e => by
    obtain ⟨_, cs, hcs⟩ := row_block hu hb
    simp at e
    subst e
    rw [hcs] at g1; cases g1))
  have hil : i < cu.size := (Array.getElem?_eq_some_iff.1 h3).1
  refine ⟨⟨⟨_, g2, fun j hj hne => ?_, ?_⟩, ⟨us, rows _ _ _ hrow⟩, fun j hj hj3 => rows _ _ _ (row_same (h.each j hj hj3) (fun k hk => keep k (row_lt (h.each j hj hj3) hk) (h.off j k hj hj3 hk))), h.apart, fun j b hj hj3 hb hb' => ?_⟩, cells_at g1 h3, frozen_at g1⟩
  · rw [Array.getElem?_setIfInBounds_ne (fun e => hne e.symm)]; exact h2 j hj hne
  · rw [Array.getElem?_setIfInBounds_self_of_lt hil]
  · rcases hat with e | e
    · exact h.off j b hj hj3 hb (e ▸ hb')
    · rw [e] at hb'
      injection hb' with hb'
      have := row_lt (h.each j hj hj3) hb
      rw [World.size_alloc] at hb'
      omega
end
end Go.Proofs.Ytljkllhpghjbiaa
