/-
  keep: a list more, and what it must read as.
-/
import Derived.Test.YtmfecocbadekhaaDoorNumX
namespace Go.Proofs.YtmfecocbadekhaaDoor
open Go.RowKit Nd

theorem EntIn.chg {K : Nat → Prop} {w w1 : World} {e : Ent} (c : Chg K w w1) (h : EntIn w e) (hK : ∀ i ∈ e.blk, ¬ K i) : EntIn w1 e :=
  ⟨c.own h.out (fun i hi => hK i (List.mem_append.2 (.inl hi))), c.own h.want (fun i hi => hK i (by simp [ablk] at hi; subst hi; simp [Ent.blk])), h.small⟩
section
variable {w w1 : World} {H : Nat} {ao aw ao' aw' : Option Addr} {co cw co' cw' : Nat} {es : List Ent} {e : Ent}
theorem Nums.x (h : Nums w H ao aw co cw es) : NumsX w H ao aw co cw (es.map Ent.o) (es.map Ent.w) := by
  refine ⟨by simpa using h.blk, by simpa using h.out, by simpa using h.want, ?_⟩
  have := h.nodup
  unfold foot at this
  rw [List.nodup_cons, ← List.append_assoc] at this
  rw [List.nodup_cons]
  exact ⟨fun e => this.1 (List.mem_append.2 (.inl e)), (List.nodup_append.1 this.2).1⟩
theorem EntIn.lt (h : EntIn w e) : ∀ i ∈ e.blk, i < w.heap.size := by
  intro i hi
  rcases List.mem_append.1 hi with h1 | h1
  · exact (own_head h.out i h1).1
  · simp at h1
    subst h1
    exact own_lt h.want
theorem Nums.foot_lt (h : Nums w H ao aw co cw es) : ∀ i ∈ foot ao aw es, i < w.heap.size := by
  intro i hi
  rcases List.mem_append.1 hi with h1 | h1
  · exact (own_head h.out i h1).1
  · rcases List.mem_append.1 h1 with h2 | h2
    · exact (own_head h.want i h2).1
    · obtain ⟨e, he, h3⟩ := List.mem_flatMap.1 h2
      exact (h.ent e he).lt i h3
theorem Nums.chg {K : Nat → Prop} (c : Chg K w w1) (h : Nums w H ao aw co cw es) (hH : ¬ K H) (hf : ∀ i ∈ foot ao aw es, ¬ K i) : Nums w1 H ao aw co cw es := by
  refine ⟨by rw [c.block H h.lt hH]; exact h.blk, c.own h.out (fun i hi => hf i (List.mem_append.2 (.inl hi))), c.own h.want (fun i hi => hf i (List.mem_append.2 (.inr (List.mem_append.2 (.inl hi))))), fun e he => EntIn.chg c (h.ent e he) (fun i hi => hf i ?_), h.nodup, h.few⟩
  exact List.mem_append.2 (.inr (List.mem_append.2 (.inr (List.mem_flatMap.2 ⟨e, he, hi⟩))))

/-- The rows grown, an entry more. -/
theorem Nums.more (h : Nums w H ao aw co cw es) (hx : NumsX w1 H ao' aw' co' cw' (es.map Ent.o ++ [e.o]) (es.map Ent.w ++ [e.w])) (hfew : es.length < 1000) {m : Nat}
    (c : Chg (fun i => i = H ∨ i ∈ ablk ao ∨ i ∈ ablk aw) w w1) (he : EntIn w1 e)
    (ho : ∀ i ∈ ablk ao', i ∈ ablk ao ∨ m ≤ i) (hw : ∀ i ∈ ablk aw', i ∈ ablk aw ∨ m ≤ i) (hm : w.heap.size ≤ m)
    (hv : ∀ i ∈ ablk e.ao, (i ≠ H ∧ i ∉ foot ao aw es) ∧ i < m) (hvw : e.gw ∉ ablk e.ao) (hgw : w.heap.size ≤ e.gw) (hgm : e.gw < m) :
    Nums w1 H ao' aw' co' cw' (es ++ [e]) ∧ (∀ i ∈ foot ao' aw' (es ++ [e]), i ∈ foot ao aw es ∨ i ∈ ablk e.ao ∨ w.heap.size ≤ i) := by
  have hfl := h.foot_lt
  have hHlt := h.lt
  have hnd := h.nodup
  unfold foot at hnd
  rw [List.nodup_cons] at hnd
  obtain ⟨hH, hnd⟩ := hnd
  have hnd1 := List.nodup_append.1 hnd
  have hnd2 := List.nodup_append.1 hnd1.2.1
  have inO : ∀ i, i ∈ ablk ao → i ∈ foot ao aw es := fun i hi => List.mem_append.2 (.inl hi)
  have inW : ∀ i, i ∈ ablk aw → i ∈ foot ao aw es := fun i hi => List.mem_append.2 (.inr (List.mem_append.2 (.inl hi)))
  have inE : ∀ i, i ∈ es.flatMap Ent.blk → i ∈ foot ao aw es := fun i hi => List.mem_append.2 (.inr (List.mem_append.2 (.inr hi)))
  have hxn := hx.nodup
  rw [List.nodup_cons] at hxn
  have eb : ∀ i ∈ e.blk, (i ≠ H ∧ i ∉ foot ao aw es) ∧ i < m := by
    intro i hi
    rcases List.mem_append.1 hi with h1 | h1
    · exact hv i h1
    · simp at h1
      subst h1
      exact ⟨⟨by omega, fun hh => by have := hfl _ hh; omega⟩, hgm⟩
  have fm : (es ++ [e]).flatMap Ent.blk = es.flatMap Ent.blk ++ e.blk := by simp
  refine ⟨⟨?_, ?_, ?_, ?_, ?_, by simp; omega⟩, ?_⟩
  · simpa using hx.blk
  · simpa using hx.out
  · simpa using hx.want
  · intro e1 he1
    rcases List.mem_append.1 he1 with h1 | h1
    · refine EntIn.chg c (h.ent e1 h1) (fun i hi hK => ?_)
      have hie : i ∈ es.flatMap Ent.blk := List.mem_flatMap.2 ⟨e1, h1, hi⟩
      rcases hK with rfl | hK | hK
      · exact hH (inE _ hie)
      · exact hnd1.2.2 i hK i (List.mem_append.2 (.inr hie)) rfl
      · exact hnd2.2.2 i hK i hie rfl
    · simp at h1
      subst h1
      exact he
  · rw [List.nodup_cons]
    unfold foot
    rw [fm]
    have side : ∀ i, i ∈ es.flatMap Ent.blk ++ e.blk → i ≠ H ∧ i ∉ ablk ao ∧ i ∉ ablk aw ∧ i < m := by
      intro i hi
      rcases List.mem_append.1 hi with h1 | h1
      · exact ⟨fun e => hH (e ▸ inE i h1), fun hh => hnd1.2.2 i hh i (List.mem_append.2 (.inr h1)) rfl, fun hh => hnd2.2.2 i hh i h1 rfl, by have := hfl i (inE i h1); omega⟩
      · have := eb i h1
        exact ⟨this.1.1, fun hh => this.1.2 (inO i hh), fun hh => this.1.2 (inW i hh), this.2⟩
    have nO : ∀ i, i ∈ es.flatMap Ent.blk ++ e.blk → i ∉ ablk ao' := fun i hi hh => by
      rcases ho i hh with h1 | h1
      · exact (side i hi).2.1 h1
      · have := (side i hi).2.2.2; omega
    have nW : ∀ i, i ∈ es.flatMap Ent.blk ++ e.blk → i ∉ ablk aw' := fun i hi hh => by
      rcases hw i hh with h1 | h1
      · exact (side i hi).2.2.1 h1
      · have := (side i hi).2.2.2; omega
    refine ⟨fun hh => ?_, List.nodup_append.2 ⟨ablk_nodup _, List.nodup_append.2 ⟨ablk_nodup _, List.nodup_append.2 ⟨hnd2.2.1, ?_, ?_⟩, ?_⟩, ?_⟩⟩
    · rcases List.mem_append.1 hh with h1 | h1
      · exact hxn.1 (List.mem_append.2 (.inl h1))
      · rcases List.mem_append.1 h1 with h2 | h2
        · exact hxn.1 (List.mem_append.2 (.inr h2))
        · exact (side H h2).1 rfl
    · unfold Ent.blk
      exact List.nodup_append.2 ⟨ablk_nodup _, by simp, fun a ha b hb e => by simp at hb; subst e; subst hb; exact hvw ha⟩
    · intro a ha b hb e
      subst e
      exact (eb a hb).1.2 (inE a ha)
    · intro a ha b hb e
      subst e
      exact nW a hb ha
    · intro a ha b hb e
      subst e
      rcases List.mem_append.1 hb with h1 | h1
      · exact (List.nodup_append.1 hxn.2).2.2 a ha a h1 rfl
      · exact nO a h1 ha
  · intro i hi
    unfold foot at hi
    rw [fm] at hi
    rcases List.mem_append.1 hi with h1 | h1
    · rcases ho i h1 with h2 | h2
      · exact .inl (inO i h2)
      · exact .inr (.inr (by omega))
    · rcases List.mem_append.1 h1 with h2 | h2
      · rcases hw i h2 with h3 | h3
        · exact .inl (inW i h3)
        · exact .inr (.inr (by omega))
      · rcases List.mem_append.1 h2 with h3 | h3
        · exact .inl (inE i h3)
        · rcases List.mem_append.1 h3 with h4 | h4
          · exact .inr (.inl h4)
          · simp at h4
            exact .inr (.inr (by omega))
end
end Go.Proofs.YtmfecocbadekhaaDoor
