/-
  One act, whatever its kind; the agendas of a script, side by side.
-/
import Derived.Test.YtjmiifgofedcnaaActF
namespace Go.Proofs.Ytjmiifgofedcnaa
open Go.RowKit Ag

theorem act_any {w : World} {a m d : Nat} {ao : Option Addr} {L : List En} (r : Agn 68 76 w a m ao L) (q : Rf w d L) (hi : IntL L) (kd wh id tm xv : Int) (hid : wfI id) (htm : wfI tm) (hlen : (L.length + 1) * 40 ≤ 140737488355328) :
    Calls Try.prog 14 #[.agg #[.int .i64 kd, .int .i64 wh, .int .i64 id, .int .i64 tm, .int .i64 xv], .pointer (some ⟨a, 0, none⟩), .pointer (some ⟨d, 0, none⟩)] w (ActPost w a m ao d L) := by
  obtain ⟨h0, h6⟩ := amgV_in kd 6 (by omega)
  rcases (by omega : amgV kd 6 = 0 ∨ amgV kd 6 = 1 ∨ amgV kd 6 = 2 ∨ amgV kd 6 = 3 ∨ amgV kd 6 = 4 ∨ amgV kd 6 = 5) with h | h | h | h | h | h
  · exact act_add r q hi kd wh id tm xv hid htm hlen h
  · exact act_get r q hi kd wh id tm xv hid (by omega) h
  · exact act_drop r q hi kd wh id tm xv hid (by omega) h
  · exact act_due r q hi kd wh id tm xv (by omega) h
  · exact act_clone r q hi kd wh id tm xv h
  · exact act_all r q hi kd wh id tm xv (by omega) h

/-- One pair: the program's agenda, and the reference's. -/
structure Pt where
  a : Nat
  m : Nat
  ao : Option Addr
  d : Nat
  L : List En
structure Pt.ok (p : Pt) (B t : Nat) (W : World) : Prop where
  agn : Agn 68 76 W p.a p.m p.ao p.L
  ref : Rf W p.d p.L
  int : IntL p.L
  len : p.L.length ≤ t
  lo : ∀ k, Kag p.a p.m p.ao k → B ≤ k
  lod : B ≤ p.d
/-- N pairs, apart, and the two rows of pointers to them. -/
structure Fam (B t N : Nat) (f : Nat → Pt) (vA vB : Value) (W : World) : Prop where
  ok : ∀ i, i < N → (f i).ok B t W
  dis : ∀ i j, i < N → j < N → i ≠ j → ∀ k, Kag (f i).a (f i).m (f i).ao k → ¬ Kag (f j).a (f j).m (f j).ao k
  disd : ∀ i j, i < N → j < N → i ≠ j → (f i).d ≠ (f j).d
  rowA : W.ownsRow B 24 1 vA N ((List.range N).map (fun i => .pointer (some ⟨(f i).a, 0, none⟩)))
  rowB : W.ownsRow B 27 1 vB N ((List.range N).map (fun i => .pointer (some ⟨(f i).d, 0, none⟩)))
theorem row_tag {W : World} {B e n k : Nat} {v : Value} {vs : List Value} (h : W.ownsRow B e 1 v n vs) (hk : v.ownBlock = some k) : tg W k = e := by
  obtain ⟨cs, hcs⟩ := row_block h hk
  exact tg_cells hcs
section
variable {B t N : Nat} {f : Nat → Pt} {vA vB : Value} {W W' : World}
theorem Pt.ok.kept {p : Pt} (h : p.ok B t W) (c : Below W.heap.size W W') : p.ok B t W' := ⟨h.agn.below c, h.ref.below c, h.int, h.len, h.lo, h.lod⟩
/-- Nothing of it turned. -/
theorem Fam.below (h : Fam B t N f vA vB W) (c : Below W.heap.size W W') : Fam B t N f vA vB W' :=
  ⟨fun i hi => (h.ok i hi).kept c, h.dis, h.disd, row_kept h.rowA (fun k hk => c.block k (h.rowA.lt k hk).2), row_kept h.rowB (fun k hk => c.block k (h.rowB.lt k hk).2)⟩
theorem Fam.more (h : Fam B t N f vA vB W) {t' : Nat} (ht : t ≤ t') : Fam B t' N f vA vB W :=
  ⟨fun i hi => ⟨(h.ok i hi).agn, (h.ok i hi).ref, (h.ok i hi).int, Nat.le_trans (h.ok i hi).len ht, (h.ok i hi).lo, (h.ok i hi).lod⟩, h.dis, h.disd, h.rowA, h.rowB⟩
/-- The pair i took an act. -/
theorem Fam.turned (h : Fam B t N f vA vB W) (hB : B ≤ W.heap.size) {i : Nat} (hi : i < N) {ao' : Option Addr} {L' : List En} (r : Agn 68 76 W' (f i).a (f i).m ao' L') (q : Rf W' (f i).d L') (il : IntL L') (hl : L'.length ≤ (f i).L.length + 1) (hm : Moved W (f i).ao ao') (c : Chg (fun k => Kag (f i).a (f i).m (f i).ao k ∨ k = (f i).d) W W') :
    Fam B (t + 1) N (fun j => if j = i then ⟨(f i).a, (f i).m, ao', (f i).d, L'⟩ else f j) vA vB W' := by
  have hp := h.ok i hi
  -- what the new row of pair i may be
  have hnew : ∀ k, Kag (f i).a (f i).m ao' k → Kag (f i).a (f i).m (f i).ao k ∨ W.heap.size ≤ k := by
    rintro k (hk | hk | ⟨g, hg, rfl⟩)
    · exact .inl (.inl hk)
    · exact .inl (.inr (.inl hk))
    · rcases hm with e | ⟨g', hg', e⟩
      · exact .inl (.inr (.inr ⟨k, by rw [← e]; exact hg, rfl⟩))
      · rw [e] at hg
        injection hg with hg
        injection hg with hg
        subst hg
        exact .inr hg'
  have htag : ∀ k, (Kag (f i).a (f i).m (f i).ao k ∨ k = (f i).d) → tg W k ≠ 24 ∧ tg W k ≠ 27 := by
    rintro k (hk | rfl)
    · rcases hp.agn.tags k hk with e | e | e <;> rw [e] <;> decide
    · rw [hp.ref.tag.1]; decide
  have hother : ∀ j, j < N → j ≠ i → (f j).ok B (t + 1) W' := fun j hj hji => by
    have hq := h.ok j hj
    refine ⟨hq.agn.kept c (fun k hk hc => ?_), ?_, hq.int, by have := hq.len; omega, hq.lo, hq.lod⟩
    · rcases hc with hc | rfl
      · exact h.dis j i hj hi hji k hk hc
      · rcases hq.agn.tags _ hk with e | e | e <;> rw [hp.ref.tag.1] at e <;> cases e
    · obtain ⟨ao2, cap2, hr⟩ := hq.ref
      refine ⟨ao2, cap2, (c.block _ hr.lt (fun hc => ?_)).trans hr.blk, hr.row.kept c (fun k _ hc => ?_)⟩
      · rcases hc with hc | hc
        · rcases hp.agn.tags _ hc with e | e | e <;> rw [hr.tag] at e <;> cases e
        · exact h.disd j i hj hi hji hc
      · rcases hc with hc | rfl
        · rcases hp.agn.tags _ hc with e | e | e <;> rw [e] <;> decide
        · rw [hp.ref.tag.1]; decide
  have hfa : ∀ j, ((fun j => if j = i then (⟨(f i).a, (f i).m, ao', (f i).d, L'⟩ : Pt) else f j) j).a = (f j).a ∧ ((fun j => if j = i then (⟨(f i).a, (f i).m, ao', (f i).d, L'⟩ : Pt) else f j) j).d = (f j).d := fun j => by
    by_cases e : j = i
    · subst e; simp
    · simp [e]
  refine ⟨fun j hj => ?_, fun j l hj hl2 hjl k hk => ?_, fun j l hj hl2 hjl => ?_, ?_, ?_⟩
  · by_cases e : j = i
    · subst e
      simp only [if_true]
      refine ⟨r, q, il, Nat.le_trans hl (by have := hp.len; omega), fun k hk => ?_, hp.lod⟩
      rcases hnew k hk with hk | hk
      · exact hp.lo k hk
      · omega
    · simp only [e, if_false]
      exact hother j hj e
  · by_cases ej : j = i
    · subst ej
      have el : l ≠ j := fun e => hjl e.symm
      simp only [if_true] at hk
      simp only [el, if_false]
      rcases hnew k hk with hk | hk
      · exact h.dis j l hj hl2 hjl k hk
      · intro hc
        have := (h.ok l hl2).agn.lt k hc
        omega
    · simp only [ej, if_false] at hk
      by_cases el : l = i
      · subst el
        simp only [if_true]
        intro hc
        rcases hnew k hc with hc | hc
        · exact h.dis j l hj hl2 hjl k hk hc
        · have := (h.ok j hj).agn.lt k hk
          omega
      · simp only [el, if_false]
        exact h.dis j l hj hl2 hjl k hk
  · rw [(hfa j).2, (hfa l).2]
    exact h.disd j l hj hl2 hjl
  · have e : ((List.range N).map (fun j => Value.pointer (some ⟨((fun j => if j = i then (⟨(f i).a, (f i).m, ao', (f i).d, L'⟩ : Pt) else f j) j).a, 0, none⟩))) = ((List.range N).map (fun j => Value.pointer (some ⟨(f j).a, 0, none⟩))) := List.map_congr_left (fun j _ => by rw [(hfa j).1])
    rw [e]
    exact row_kept h.rowA (fun k hk => c.block k (h.rowA.lt k hk).2 (fun hc => (htag k hc).1 (row_tag h.rowA hk)))
  · have e : ((List.range N).map (fun j => Value.pointer (some ⟨((fun j => if j = i then (⟨(f i).a, (f i).m, ao', (f i).d, L'⟩ : Pt) else f j) j).d, 0, none⟩))) = ((List.range N).map (fun j => Value.pointer (some ⟨(f j).d, 0, none⟩))) := List.map_congr_left (fun j _ => by rw [(hfa j).2])
    rw [e]
    exact row_kept h.rowB (fun k hk => c.block k (h.rowB.lt k hk).2 (fun hc => (htag k hc).2 (row_tag h.rowB hk)))
end
end Go.Proofs.Ytjmiifgofedcnaa
