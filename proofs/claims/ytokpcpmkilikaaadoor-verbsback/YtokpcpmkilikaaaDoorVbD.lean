/-
  The plain mathematics of layer 8: what was read is written so (by program), and both ways for any command.
-/
import Derived.Test.YtokpcpmkilikaaaDoorVbB
namespace Go.Proofs.YtokpcpmkilikaaaDoor.Vb

theorem read_1 (ps : List Bs) (c : Cm) (hl : ps.length = 3) (h : fillV { zeroC with kind := 1 } [78, 110, 108] ps = some c) : checkV c = 0 ∧ c.kind = 1 ∧ [78, 110, 108].map (pieceV c) = ps := by
  obtain ⟨p0, p1, p2, rfl⟩ : ∃ p0 p1 p2, ps = [p0, p1, p2] := by
    rcases ps with _ | ⟨q0, _ | ⟨q1, _ | ⟨q2, _ | ⟨q3, r⟩⟩⟩⟩ <;> simp at hl ⊢
  simp [fillV, isNm, setS, setI, zeroC] at h
  by_cases h0 : validV p0 = true
  rotate_left
  · simp [h0] at h
  simp only [h0, true_and] at h
  cases e1 : numV p1 with
  | none => simp [e1] at h
  | some n1 =>
    simp only [e1] at h
    have d1 := num_some e1
    cases e2 : numV p2 with
    | none => simp [e2] at h
    | some n2 =>
      simp only [e2] at h
      have d2 := num_some e2
      injection h with h
      subst h
      exact ⟨(check_1 _ _ _ _ _ _ _).2 ⟨h0, by omega, by omega, rfl, rfl, rfl, rfl⟩, rfl, by simp [pieceV, isNm, getS, getI, d1, d2]⟩
theorem read_2 (ps : List Bs) (c : Cm) (hl : ps.length = 1) (h : fillV { zeroC with kind := 2 } [106] ps = some c) : checkV c = 0 ∧ c.kind = 2 ∧ [106].map (pieceV c) = ps := by
  obtain ⟨p0, rfl⟩ : ∃ p0, ps = [p0] := by
    rcases ps with _ | ⟨q0, _ | ⟨q1, _ | ⟨q2, _ | ⟨q3, r⟩⟩⟩⟩ <;> simp at hl ⊢
  simp [fillV, isNm, setI, zeroC] at h
  cases e0 : numV p0 with
  | none => simp [e0] at h
  | some n0 =>
    simp only [e0] at h
    have d0 := num_some e0
    injection h with h
    subst h
    exact ⟨(check_2 _ _ _ _ _ _ _).2 ⟨by omega, rfl, rfl, rfl, rfl, rfl, rfl⟩, rfl, by simp [pieceV, isNm, getI, d0]⟩
theorem read_3 (ps : List Bs) (c : Cm) (hl : ps.length = 1) (h : fillV { zeroC with kind := 3 } [106] ps = some c) : checkV c = 0 ∧ c.kind = 3 ∧ [106].map (pieceV c) = ps := by
  obtain ⟨p0, rfl⟩ : ∃ p0, ps = [p0] := by
    rcases ps with _ | ⟨q0, _ | ⟨q1, _ | ⟨q2, _ | ⟨q3, r⟩⟩⟩⟩ <;> simp at hl ⊢
  simp [fillV, isNm, setI, zeroC] at h
  cases e0 : numV p0 with
  | none => simp [e0] at h
  | some n0 =>
    simp only [e0] at h
    have d0 := num_some e0
    injection h with h
    subst h
    exact ⟨(check_3 _ _ _ _ _ _ _).2 ⟨by omega, rfl, rfl, rfl, rfl, rfl, rfl⟩, rfl, by simp [pieceV, isNm, getI, d0]⟩
theorem read_4 (ps : List Bs) (c : Cm) (hl : ps.length = 1) (h : fillV { zeroC with kind := 4 } [116] ps = some c) : checkV c = 0 ∧ c.kind = 4 ∧ [116].map (pieceV c) = ps := by
  obtain ⟨p0, rfl⟩ : ∃ p0, ps = [p0] := by
    rcases ps with _ | ⟨q0, _ | ⟨q1, _ | ⟨q2, _ | ⟨q3, r⟩⟩⟩⟩ <;> simp at hl ⊢
  simp [fillV, isNm, setI, zeroC] at h
  cases e0 : numV p0 with
  | none => simp [e0] at h
  | some n0 =>
    simp only [e0] at h
    have d0 := num_some e0
    injection h with h
    subst h
    exact ⟨(check_4 _ _ _ _ _ _ _).2 ⟨by omega, rfl, rfl, rfl, rfl, rfl, rfl⟩, rfl, by simp [pieceV, isNm, getI, d0]⟩
theorem read_5 (ps : List Bs) (c : Cm) (hl : ps.length = 3) (h : fillV { zeroC with kind := 5 } [78, 80, 104] ps = some c) : checkV c = 0 ∧ c.kind = 5 ∧ [78, 80, 104].map (pieceV c) = ps := by
  obtain ⟨p0, p1, p2, rfl⟩ : ∃ p0 p1 p2, ps = [p0, p1, p2] := by
    rcases ps with _ | ⟨q0, _ | ⟨q1, _ | ⟨q2, _ | ⟨q3, r⟩⟩⟩⟩ <;> simp at hl ⊢
  simp [fillV, isNm, setS, setI, zeroC] at h
  by_cases h0 : validV p0 = true
  rotate_left
  · simp [h0] at h
  simp only [h0, true_and] at h
  by_cases h1 : validV p1 = true
  rotate_left
  · simp [h1] at h
  simp only [h1, true_and] at h
  cases e2 : numV p2 with
  | none => simp [e2] at h
  | some n2 =>
    simp only [e2] at h
    have d2 := num_some e2
    injection h with h
    subst h
    exact ⟨(check_5 _ _ _ _ _ _ _).2 ⟨h0, h1, by omega, rfl, rfl, rfl, rfl⟩, rfl, by simp [pieceV, isNm, getS, getI, d2]⟩
theorem read_6 (ps : List Bs) (c : Cm) (hl : ps.length = 2) (h : fillV { zeroC with kind := 6 } [78, 104] ps = some c) : checkV c = 0 ∧ c.kind = 6 ∧ [78, 104].map (pieceV c) = ps := by
  obtain ⟨p0, p1, rfl⟩ : ∃ p0 p1, ps = [p0, p1] := by
    rcases ps with _ | ⟨q0, _ | ⟨q1, _ | ⟨q2, _ | ⟨q3, r⟩⟩⟩⟩ <;> simp at hl ⊢
  simp [fillV, isNm, setS, setI, zeroC] at h
  by_cases h0 : validV p0 = true
  rotate_left
  · simp [h0] at h
  simp only [h0, true_and] at h
  cases e1 : numV p1 with
  | none => simp [e1] at h
  | some n1 =>
    simp only [e1] at h
    have d1 := num_some e1
    injection h with h
    subst h
    exact ⟨(check_6 _ _ _ _ _ _ _).2 ⟨h0, by omega, rfl, rfl, rfl, rfl, rfl⟩, rfl, by simp [pieceV, isNm, getS, getI, d1]⟩
theorem read_7 (ps : List Bs) (c : Cm) (hl : ps.length = 2) (h : fillV { zeroC with kind := 7 } [78, 80] ps = some c) : checkV c = 0 ∧ c.kind = 7 ∧ [78, 80].map (pieceV c) = ps := by
  obtain ⟨p0, p1, rfl⟩ : ∃ p0 p1, ps = [p0, p1] := by
    rcases ps with _ | ⟨q0, _ | ⟨q1, _ | ⟨q2, _ | ⟨q3, r⟩⟩⟩⟩ <;> simp at hl ⊢
  simp [fillV, isNm, setS, zeroC] at h
  by_cases h0 : validV p0 = true
  rotate_left
  · simp [h0] at h
  simp only [h0, true_and] at h
  by_cases h1 : validV p1 = true
  rotate_left
  · simp [h1] at h
  simp only [h1, true_and] at h
  subst h
  exact ⟨(check_7 _ _ _ _ _ _ _).2 ⟨h0, h1, rfl, rfl, rfl, rfl, rfl⟩, rfl, by simp [pieceV, isNm, getS]⟩
theorem read_8 (ps : List Bs) (c : Cm) (hl : ps.length = 1) (h : fillV { zeroC with kind := 8 } [78] ps = some c) : checkV c = 0 ∧ c.kind = 8 ∧ [78].map (pieceV c) = ps := by
  obtain ⟨p0, rfl⟩ : ∃ p0, ps = [p0] := by
    rcases ps with _ | ⟨q0, _ | ⟨q1, _ | ⟨q2, _ | ⟨q3, r⟩⟩⟩⟩ <;> simp at hl ⊢
  simp [fillV, isNm, setS, zeroC] at h
  by_cases h0 : validV p0 = true
  rotate_left
  · simp [h0] at h
  simp only [h0, true_and] at h
  subst h
  exact ⟨(check_8 _ _ _ _ _ _ _).2 ⟨h0, rfl, rfl, rfl, rfl, rfl, rfl⟩, rfl, by simp [pieceV, isNm, getS]⟩
theorem read_9 (ps : List Bs) (c : Cm) (hl : ps.length = 1) (h : fillV { zeroC with kind := 9 } [106] ps = some c) : checkV c = 0 ∧ c.kind = 9 ∧ [106].map (pieceV c) = ps := by
  obtain ⟨p0, rfl⟩ : ∃ p0, ps = [p0] := by
    rcases ps with _ | ⟨q0, _ | ⟨q1, _ | ⟨q2, _ | ⟨q3, r⟩⟩⟩⟩ <;> simp at hl ⊢
  simp [fillV, isNm, setI, zeroC] at h
  cases e0 : numV p0 with
  | none => simp [e0] at h
  | some n0 =>
    simp only [e0] at h
    have d0 := num_some e0
    injection h with h
    subst h
    exact ⟨(check_9 _ _ _ _ _ _ _).2 ⟨by omega, rfl, rfl, rfl, rfl, rfl, rfl⟩, rfl, by simp [pieceV, isNm, getI, d0]⟩
theorem read_10 (ps : List Bs) (c : Cm) (hl : ps.length = 0) (h : fillV { zeroC with kind := 10 } [] ps = some c) : checkV c = 0 ∧ c.kind = 10 ∧ [].map (pieceV c) = ps := by
  obtain rfl : ps = [] := List.length_eq_zero_iff.1 hl
  injection h with h
  subst h
  exact ⟨by decide, rfl, rfl⟩
theorem read_11 (ps : List Bs) (c : Cm) (hl : ps.length = 1) (h : fillV { zeroC with kind := 11 } [78] ps = some c) : checkV c = 0 ∧ c.kind = 11 ∧ [78].map (pieceV c) = ps := by
  obtain ⟨p0, rfl⟩ : ∃ p0, ps = [p0] := by
    rcases ps with _ | ⟨q0, _ | ⟨q1, _ | ⟨q2, _ | ⟨q3, r⟩⟩⟩⟩ <;> simp at hl ⊢
  simp [fillV, isNm, setS, zeroC] at h
  by_cases h0 : validV p0 = true
  rotate_left
  · simp [h0] at h
  simp only [h0, true_and] at h
  subst h
  exact ⟨(check_11 _ _ _ _ _ _ _).2 ⟨h0, rfl, rfl, rfl, rfl, rfl, rfl⟩, rfl, by simp [pieceV, isNm, getS]⟩
theorem read_12 (ps : List Bs) (c : Cm) (hl : ps.length = 0) (h : fillV { zeroC with kind := 12 } [] ps = some c) : checkV c = 0 ∧ c.kind = 12 ∧ [].map (pieceV c) = ps := by
  obtain rfl : ps = [] := List.length_eq_zero_iff.1 hl
  injection h with h
  subst h
  exact ⟨by decide, rfl, rfl⟩
theorem read_13 (ps : List Bs) (c : Cm) (hl : ps.length = 0) (h : fillV { zeroC with kind := 13 } [] ps = some c) : checkV c = 0 ∧ c.kind = 13 ∧ [].map (pieceV c) = ps := by
  obtain rfl : ps = [] := List.length_eq_zero_iff.1 hl
  injection h with h
  subst h
  exact ⟨by decide, rfl, rfl⟩

theorem kindTo_some (w : Bs) (n : Nat) (hn : n ≤ 13) : kindTo w n = 0 ∨ (1 ≤ kindTo w n ∧ kindTo w n ≤ n ∧ (wordV (kindTo w n : Nat)).1 = w) := by
  induction n with
  | zero => exact .inl rfl
  | succ n ih =>
    unfold kindTo
    split
    · next h => exact .inr ⟨by omega, by omega, h⟩
    · rcases ih (by omega) with h | ⟨h1, h2, h3⟩
      · exact .inl h
      · exact .inr ⟨h1, by omega, h3⟩
theorem back {c : Cm} (hF : Fits c) (h : checkV c = 0) : parseV (printV c).1 = (c, 0) := by
  have hw : (wordV c.kind).1 ≠ [] := by
    intro e
    unfold checkV at h
    rw [if_pos e] at h
    cases h
  obtain ⟨u1, u2, u3, u4, u5⟩ := hF
  unfold printV
  rw [if_pos h]
  rcases kind_range hw with e | e | e | e | e | e | e | e | e | e | e | e | e <;>
    (obtain ⟨kind, nm, pa, sh, nd, lm, jb, tk⟩ := c; simp only at e u1 u2 u3 u4 u5 ⊢; subst e)
  · obtain ⟨h0, h1, h2, rfl, rfl, rfl, rfl⟩ := (check_1 _ _ _ _ _ _ _).1 h
    rw [word_1]
    exact back_1 _ _ _ h0 h1 u2 h2 u3
  · obtain ⟨h0, rfl, rfl, rfl, rfl, rfl, rfl⟩ := (check_2 _ _ _ _ _ _ _).1 h
    rw [word_2]
    exact back_2 _ h0 u4
  · obtain ⟨h0, rfl, rfl, rfl, rfl, rfl, rfl⟩ := (check_3 _ _ _ _ _ _ _).1 h
    rw [word_3]
    exact back_3 _ h0 u4
  · obtain ⟨h0, rfl, rfl, rfl, rfl, rfl, rfl⟩ := (check_4 _ _ _ _ _ _ _).1 h
    rw [word_4]
    exact back_4 _ h0 u5
  · obtain ⟨h0, h1, h2, rfl, rfl, rfl, rfl⟩ := (check_5 _ _ _ _ _ _ _).1 h
    rw [word_5]
    exact back_5 _ _ _ h0 h1 h2 u1
  · obtain ⟨h0, h1, rfl, rfl, rfl, rfl, rfl⟩ := (check_6 _ _ _ _ _ _ _).1 h
    rw [word_6]
    exact back_6 _ _ h0 h1 u1
  · obtain ⟨h0, h1, rfl, rfl, rfl, rfl, rfl⟩ := (check_7 _ _ _ _ _ _ _).1 h
    rw [word_7]
    exact back_7 _ _ h0 h1
  · obtain ⟨h0, rfl, rfl, rfl, rfl, rfl, rfl⟩ := (check_8 _ _ _ _ _ _ _).1 h
    rw [word_8]
    exact back_8 _ h0
  · obtain ⟨h0, rfl, rfl, rfl, rfl, rfl, rfl⟩ := (check_9 _ _ _ _ _ _ _).1 h
    rw [word_9]
    exact back_9 _ h0 u4
  · obtain ⟨rfl, rfl, rfl, rfl, rfl, rfl, rfl⟩ := (check_10 _ _ _ _ _ _ _).1 h
    rw [word_10]
    exact back_10 
  · obtain ⟨h0, rfl, rfl, rfl, rfl, rfl, rfl⟩ := (check_11 _ _ _ _ _ _ _).1 h
    rw [word_11]
    exact back_11 _ h0
  · obtain ⟨rfl, rfl, rfl, rfl, rfl, rfl, rfl⟩ := (check_12 _ _ _ _ _ _ _).1 h
    rw [word_12]
    exact back_12 
  · obtain ⟨rfl, rfl, rfl, rfl, rfl, rfl, rfl⟩ := (check_13 _ _ _ _ _ _ _).1 h
    rw [word_13]
    exact back_13 
theorem forth {line : Bs} {c : Cm} (h : parseV line = (c, 0)) : checkV c = 0 ∧ (printV c).1 = line := by
  unfold parseV at h
  by_cases hl : 256 < line.length
  · rw [if_pos hl] at h
    simp at h
  · rw [if_neg hl] at h
    obtain ⟨w, ps, hs⟩ : ∃ w ps, splitV line = w :: ps := by
      cases e : splitV line with
      | nil => exact absurd e (split_ne line)
      | cons w ps => exact ⟨w, ps, rfl⟩
    rw [hs] at h
    unfold parseP at h
    rw [List.headD_cons] at h
    have hk := kindTo_some w 13 (Nat.le_refl _)
    change kindV w = 0 ∨ (1 ≤ kindV w ∧ kindV w ≤ 13 ∧ (wordV (kindV w : Nat)).1 = w) at hk
    generalize kindV w = k at *
    unfold parseK at h
    rw [List.length_cons, List.tail_cons] at h
    by_cases h0 : k = 0
    · rw [if_pos h0] at h; simp at h
    · rw [if_neg h0] at h
      obtain ⟨k1, k2, hw⟩ : 1 ≤ k ∧ k ≤ 13 ∧ (wordV (k : Nat)).1 = w := by
        rcases hk with e | e
        · exact absurd e h0
        · exact e
      by_cases hm : ps.length + 1 ≠ (wordV (k : Nat)).2.length + 1
      · rw [if_pos hm] at h; simp at h
      · rw [if_neg hm] at h
        have hm' : ps.length = (wordV (k : Nat)).2.length := by omega
        cases hf : fillV { zeroC with kind := (k : Nat) } (wordV (k : Nat)).2 ps with
        | none => rw [hf] at h; simp at h
        | some d =>
          rw [hf] at h
          obtain rfl : d = c := (Prod.mk.inj h).1
          have key : checkV d = 0 ∧ d.kind = (k : Nat) ∧ (wordV (k : Nat)).2.map (pieceV d) = ps := by
            have hr : k = 1 ∨ k = 2 ∨ k = 3 ∨ k = 4 ∨ k = 5 ∨ k = 6 ∨ k = 7 ∨ k = 8 ∨ k = 9 ∨ k = 10 ∨ k = 11 ∨ k = 12 ∨ k = 13 := by omega
            clear hs hk h0 k1 k2 hm h hl hw
            rcases hr with rfl | rfl | rfl | rfl | rfl | rfl | rfl | rfl | rfl | rfl | rfl | rfl | rfl
            · exact read_1 ps d hm' hf
            · exact read_2 ps d hm' hf
            · exact read_3 ps d hm' hf
            · exact read_4 ps d hm' hf
            · exact read_5 ps d hm' hf
            · exact read_6 ps d hm' hf
            · exact read_7 ps d hm' hf
            · exact read_8 ps d hm' hf
            · exact read_9 ps d hm' hf
            · exact read_10 ps d hm' hf
            · exact read_11 ps d hm' hf
            · exact read_12 ps d hm' hf
            · exact read_13 ps d hm' hf
          refine ⟨key.1, ?_⟩
          unfold printV
          rw [if_pos key.1, key.2.1, line_join, key.2.2, hw, ← hs, join_split]
end Go.Proofs.YtokpcpmkilikaaaDoor.Vb
