/-
  One act: the pair, and what stands by kinds of blocks.
-/
import Derived.Test.YtjmiifgofedcnaaSamA
namespace Go.Proofs.Ytjmiifgofedcnaa
open Go.RowKit Ag

theorem Agn.tags {w : World} {a m : Nat} {ao : Option Addr} {L : List En} (r : Agn 68 76 w a m ao L) : ∀ k, Kag a m ao k → tg w k = 68 ∨ tg w k = 1000 ∨ tg w k = 76 := by
  obtain ⟨cap, n, h, r⟩ := r
  rintro k (rfl | rfl | ⟨g, hg, rfl⟩)
  · exact .inl (tg_cells r.raw.blk)
  · obtain ⟨D, ⟨es, cl, hb, _⟩, _⟩ := r.raw.pm
    exact .inr (.inl (by unfold tg; rw [hb]))
  · rcases r.raw.row with ⟨h0, _⟩ | ⟨g', cur, h0, hr⟩
    · rw [h0] at hg; cases hg
    · rw [h0] at hg
      injection hg with hg
      injection hg with hg
      subst hg
      exact .inr (.inr (tg_cells hr.blk))
theorem Rf.tag {w : World} {d : Nat} {L : List En} (r : Rf w d L) : tg w d = 71 ∧ d < w.heap.size := by
  obtain ⟨ao, cap, r⟩ := r
  exact ⟨r.tag, r.lt⟩
/-- Things that are numbers. -/
def IntL (L : List En) : Prop := ∀ e ∈ L, ∃ i, e.x = .int .i64 i
theorem IntL.one {L : List En} (h : IntL L) : ∀ e ∈ L, e.x.oneCell' = true := fun e he => by
  obtain ⟨i, hi⟩ := h e he
  rw [hi]; rfl
theorem IntL.sub {L M : List En} (h : IntL L) (hs : ∀ e ∈ M, e ∈ L) : IntL M := fun e he => h e (hs e he)
/-- The program's agenda turned: the reference's stands. -/
theorem Rf.byA {w w' : World} {a m d : Nat} {ao : Option Addr} {L L' : List En} (q : Rf w d L) (r : Agn 68 76 w a m ao L') (c : Chg (Kag a m ao) w w') : Rf w' d L := q.kept c (fun k _ h => by
  rcases r.tags k h with e | e | e <;> rw [e] <;> decide)
/-- The reference's turned: the program's stands. -/
theorem Agn.byR {w w' : World} {a m d : Nat} {ao : Option Addr} {L L' : List En} (r : Agn 68 76 w a m ao L) (q : Rf w d L') (c : Chg (fun j => j = d) w w') : Agn 68 76 w' a m ao L := r.kept c (fun k h e => by
  subst e
  rcases r.tags k h with e | e | e <;> rw [q.tag.1] at e <;> cases e)
theorem pos_no {L : List En} {i : Int} (h : posL L i = none) : ∀ f ∈ L, f.id ≠ i := by
  unfold posL at h
  rw [List.findIdx?_eq_none_iff] at h
  intro f hf
  simpa using h f hf
theorem pos_yes {L : List En} {i : Int} {k : Nat} (h : posL L i = some k) : ∃ f, L[k]? = some f ∧ f.id = i ∧ f ∈ L ∧ k < L.length := by
  unfold posL at h
  rw [List.findIdx?_eq_some_iff_getElem] at h
  obtain ⟨hk, h1, _⟩ := h
  exact ⟨L[k], List.getElem?_eq_getElem hk, by simpa using h1, List.getElem_mem hk, hk⟩
theorem del_pos {L : List En} {i : Int} {k : Nat} (h : posL L i = some k) (hi : ∀ e ∈ L, ∀ f ∈ L, e.id = f.id → e = f) (hd : L.Nodup) : delL i L = L.take k ++ L.drop (k + 1) := by
  induction L generalizing k with
  | nil => simp [posL] at h
  | cons f L ih =>
    by_cases hf : f.id = i
    · have hk : k = 0 := by simp [posL, List.findIdx?_cons, hf] at h; exact h.symm
      subst hk hf
      simp only [List.take_zero, List.nil_append, List.drop_succ_cons, List.drop_zero]
      refine delL_head (fun e he hid => ?_)
      have := hi e (by simp [he]) f (by simp) hid
      subst this
      exact (List.nodup_cons.1 hd).1 he
    · have h' : (posL L i).map (· + 1) = some k := by simpa [posL, List.findIdx?_cons, hf] using h
      cases hp : posL L i with
      | none => rw [hp] at h'; cases h'
      | some j =>
        rw [hp] at h'
        simp at h'
        subst h'
        have := ih hp (fun e he g hg => hi e (by simp [he]) g (by simp [hg])) (List.nodup_cons.1 hd).2
        simp [delL, hf] at this ⊢
        exact this
end Go.Proofs.Ytjmiifgofedcnaa
