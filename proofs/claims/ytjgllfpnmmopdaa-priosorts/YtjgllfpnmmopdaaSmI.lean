/-
  Merging rows of backfilllaw14.Item: what stands between two rounds.
-/
import Derived.Test.YtjgllfpnmmopdaaSoI
namespace Go.Proofs.Ytjgllfpnmmopdaa
open Go.RowKit Tr
structure MgI (lt : Pr → Pr → Bool) (I : World → Prop) (D : Nat → Prop) (w : World) (b sb fb : Nat) (fv : Value) (P Q F S F2 S2 : List Pr) (i : Nat) (x : World) : Prop where
  row : ∃ out G : List Pr, out.length = i ∧ G.length = F2.length ∧ RwI x b (P ++ (out ++ (G ++ (S2 ++ Q)))) ∧ mergeV lt F S = out ++ mergeV lt F2 S2
  first : RwI x fb F
  tail : ∃ F1, F = F1 ++ F2
  box : x.cell? ⟨sb, 0, none⟩ = some fv
  inv : I x
  chg : Chg (fun j => j = b ∨ D j) w x
  db : ¬ D b
  df : ¬ D fb
  ds : ¬ D sb
  fb1 : fb ≠ b
  sb1 : sb ≠ b
  kp : ∀ x x' (K : Nat → Prop), I x → Chg K x x' → (∀ j, D j → ¬ K j) → I x'
section
variable {lt : Pr → Pr → Bool} {I : World → Prop} {D : Nat → Prop} {w x x' : World} {b sb fb i : Nat} {fv : Value} {P Q F S F2 S2 F3 S3 : List Pr} {p q : Pr}
theorem MgI.sum (h : MgI lt I D w b sb fb fv P Q F S F2 S2 i x) : i + F2.length + S2.length = F.length + S.length := by
  obtain ⟨out, G, h1, h2, h3, h4⟩ := h.row
  have e := congrArg List.length h4
  rw [List.length_append, mergeV_length, mergeV_length, h1] at e
  omega
theorem MgI.call (h : MgI lt I D w b sb fb fv P Q F S F2 S2 i x) (c : Chg D x x') (hi : I x') : MgI lt I D w b sb fb fv P Q F S F2 S2 i x' := by
  obtain ⟨out, G, h1, h2, h3, h4⟩ := h.row
  exact ⟨⟨out, G, h1, h2, h3.chg c h.db, h4⟩, h.first.chg c h.df, h.tail, c.cell h.box h.ds, hi, h.chg.trans c (fun _ _ e => .inr e), h.db, h.df, h.ds, h.fb1, h.sb1, h.kp⟩
theorem MgI.drew (h : MgI lt I D w b sb fb fv P Q F S F2 S2 i x) : MgI lt I D w b sb fb fv P Q F S F2 S2 i x.drew :=
  h.call (Chg.refl _ _).drew (h.kp x x.drew (fun _ => False) h.inv (Chg.refl _ _).drew (fun _ _ e => e))
theorem MgI.drewN (h : MgI lt I D w b sb fb fv P Q F S F2 S2 i x) (n : Nat) : MgI lt I D w b sb fb fv P Q F S F2 S2 i (x.drewN n) := by
  have hb : Below x.heap.size x (x.drewN n) := ⟨rfl, rfl, rfl, Nat.le_refl _, fun _ _ => rfl⟩
  exact h.call (Chg.of_below hb _) (h.kp x (x.drewN n) (fun _ => False) h.inv (Chg.of_below hb _) (fun _ _ e => e))
theorem MgI.rdF (h : MgI lt I D w b sb fb fv P Q F S (p :: F3) S2 i x) : x.cell? ⟨fb, (F.length - (F3.length + 1)) * 2, none⟩ = some (.int .i64 p.a) ∧ x.cell? ⟨fb, (F.length - (F3.length + 1)) * 2 + 1, none⟩ = some (.int .i64 p.b) := by
  obtain ⟨F1, e⟩ := h.tail
  refine h.first.at ?_
  rw [e, List.getElem?_append_right (by simp)]
  simp
theorem MgI.rdS (h : MgI lt I D w b sb fb fv P Q F S F2 (q :: S3) i x) : x.cell? ⟨b, (P.length + i + F2.length) * 2, none⟩ = some (.int .i64 q.a) ∧ x.cell? ⟨b, (P.length + i + F2.length) * 2 + 1, none⟩ = some (.int .i64 q.b) := by
  obtain ⟨out, G, h1, h2, h3, h4⟩ := h.row
  refine h3.at ?_
  rw [← h1, ← h2, List.getElem?_append_right (by omega), List.getElem?_append_right (by omega), List.getElem?_append_right (by omega)]
  simp only [show P.length + out.length + G.length - P.length - out.length - G.length = 0 by omega]
  rfl
theorem MgI.free (h : MgI lt I D w b sb fb fv P Q F S F2 S2 i x) (k : Nat) : x.frozen? ⟨b, k, none⟩ = false := by
  obtain ⟨out, G, h1, h2, h3, h4⟩ := h.row
  exact h3.free k
/-- The cell that is written. -/
theorem MgI.rdG (h : MgI lt I D w b sb fb fv P Q F S (p :: F3) S2 i x) : ∃ g : Pr, x.cell? ⟨b, (P.length + i) * 2, none⟩ = some (.int .i64 g.a) ∧ x.cell? ⟨b, (P.length + i) * 2 + 1, none⟩ = some (.int .i64 g.b) := by
  obtain ⟨out, G, h1, h2, h3, h4⟩ := h.row
  cases G with
  | nil => simp at h2
  | cons g G =>
    refine ⟨g, h3.at ?_⟩
    rw [← h1, List.getElem?_append_right (by omega), List.getElem?_append_right (by omega)]
    simp only [show P.length + out.length - P.length - out.length = 0 by omega]
    rfl
theorem MgI.put (h : MgI lt I D w b sb fb fv P Q F S (p :: F3) S2 i x) (v : Pr) : ∃ out G : List Pr, out.length = i ∧ G.length = F3.length ∧ RwI ((x.setCell ⟨b, (P.length + i) * 2, none⟩ (.int .i64 v.a)).setCell ⟨b, (P.length + i) * 2 + 1, none⟩ (.int .i64 v.b)) b (P ++ (out ++ (v :: G ++ (S2 ++ Q)))) ∧ mergeV lt F S = out ++ mergeV lt (p :: F3) S2 := by
  obtain ⟨out, G, h1, h2, h3, h4⟩ := h.row
  cases G with
  | nil => simp at h2
  | cons g G =>
    have h5 := h3.set (P.length + i) v
    rw [← h1, set_mid, h1] at h5
    exact ⟨out, G, h1, by simpa using h2, h5, h4⟩
theorem MgI.rest (h : MgI lt I D w b sb fb fv P Q F S F2 S2 i x) (k : Chg (fun j => j = b) x x') : RwI x' fb F ∧ x'.cell? ⟨sb, 0, none⟩ = some fv ∧ I x' ∧ Chg (fun j => j = b ∨ D j) w x' :=
  ⟨h.first.chg k h.fb1, k.cell h.box h.sb1, h.kp x x' (fun j => j = b) h.inv k (fun _ hj e => h.db (e ▸ hj)), h.chg.trans k (fun _ _ e => .inl e)⟩
theorem MgI.takeF (h : MgI lt I D w b sb fb fv P Q F S (p :: F3) S2 i x) (hl : S2 = [] ∨ ∃ q S3, S2 = q :: S3 ∧ lt q p = false) : MgI lt I D w b sb fb fv P Q F S F3 S2 (i + 1) ((x.setCell ⟨b, (P.length + i) * 2, none⟩ (.int .i64 p.a)).setCell ⟨b, (P.length + i) * 2 + 1, none⟩ (.int .i64 p.b)) := by
  obtain ⟨out, G, h1, h2, h3, h4⟩ := h.put p
  obtain ⟨r1, r2, r3, r4⟩ := h.rest (x' := ((x.setCell ⟨b, (P.length + i) * 2, none⟩ (.int .i64 p.a)).setCell ⟨b, (P.length + i) * 2 + 1, none⟩ (.int .i64 p.b))) (((Chg.refl (fun j => j = b) x).setCell ⟨b, _, none⟩ _ (.inl rfl)).setCell ⟨b, _, none⟩ _ (.inl rfl))
  refine ⟨⟨out ++ [p], G, by simp [h1], h2, ?_, ?_⟩, r1, ?_, r2, r3, r4, h.db, h.df, h.ds, h.fb1, h.sb1, h.kp⟩
  · have e : P ++ (out ++ (p :: G ++ (S2 ++ Q))) = P ++ (out ++ [p] ++ (G ++ (S2 ++ Q))) := by simp
    rw [← e]; exact h3
  · rw [h4]
    rcases hl with e | ⟨q, S3, e, hq⟩
    · subst e; rw [mergeV_nil_right, mergeV_nil_right]; simp
    · subst e; rw [mergeV_first lt p q F3 S3 hq]; simp
  · obtain ⟨F1, e⟩ := h.tail
    exact ⟨F1 ++ [p], by rw [e]; simp⟩
theorem MgI.takeS (h : MgI lt I D w b sb fb fv P Q F S (p :: F3) (q :: S3) i x) (hq : lt q p = true) : MgI lt I D w b sb fb fv P Q F S (p :: F3) S3 (i + 1) ((x.setCell ⟨b, (P.length + i) * 2, none⟩ (.int .i64 q.a)).setCell ⟨b, (P.length + i) * 2 + 1, none⟩ (.int .i64 q.b)) := by
  obtain ⟨out, G, h1, h2, h3, h4⟩ := h.put q
  obtain ⟨r1, r2, r3, r4⟩ := h.rest (x' := ((x.setCell ⟨b, (P.length + i) * 2, none⟩ (.int .i64 q.a)).setCell ⟨b, (P.length + i) * 2 + 1, none⟩ (.int .i64 q.b))) (((Chg.refl (fun j => j = b) x).setCell ⟨b, _, none⟩ _ (.inl rfl)).setCell ⟨b, _, none⟩ _ (.inl rfl))
  refine ⟨⟨out ++ [q], G ++ [q], by simp [h1], by simp [h2], ?_, ?_⟩, r1, h.tail, r2, r3, r4, h.db, h.df, h.ds, h.fb1, h.sb1, h.kp⟩
  · have e : P ++ (out ++ (q :: G ++ (q :: S3 ++ Q))) = P ++ (out ++ [q] ++ (G ++ [q] ++ (S3 ++ Q))) := by simp
    rw [← e]; exact h3
  · rw [h4, mergeV_second lt p q F3 S3 hq]; simp
theorem MgI.done (h : MgI lt I D w b sb fb fv P Q F S [] S2 i x) : RwI x b (P ++ (mergeV lt F S ++ Q)) := by
  obtain ⟨out, G, h1, h2, h3, h4⟩ := h.row
  have e : G = [] := List.eq_nil_of_length_eq_zero h2
  subst e
  rw [h4, mergeV_nil]
  simpa using h3
end
end Go.Proofs.Ytjgllfpnmmopdaa
