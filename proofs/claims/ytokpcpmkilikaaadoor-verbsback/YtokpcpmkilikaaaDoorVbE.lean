/-
  Layer 8: what the pieces of a command that may be written are like (by program).
-/
import Derived.Test.YtokpcpmkilikaaaDoorVbD
namespace Go.Proofs.YtokpcpmkilikaaaDoor.Vb

theorem pieces_ok {c : Cm} (hF : Fits c) (h : checkV c = 0) : ∀ x, x ∈ (wordV c.kind).2 → (isNm x = true → validV (getS c x) = true) ∧ (isNm x = false → 0 ≤ getI c x ∧ getI c x ≤ 9223372036854775807) := by
  have hw : (wordV c.kind).1 ≠ [] := by
    intro e
    unfold checkV at h
    rw [if_pos e] at h
    cases h
  obtain ⟨u1, u2, u3, u4, u5⟩ := hF
  rcases kind_range hw with e | e | e | e | e | e | e | e | e | e | e | e | e <;>
    (obtain ⟨kind, nm, pa, sh, nd, lm, jb, tk⟩ := c; simp only at e u1 u2 u3 u4 u5 ⊢; subst e; intro x hx)
  · obtain ⟨h0, h1, h2, _, _, _, _⟩ := (check_1 _ _ _ _ _ _ _).1 h
    rw [word_1] at hx
    simp only [List.mem_cons, List.not_mem_nil, or_false] at hx
    rcases hx with rfl | rfl | rfl
    · exact ⟨fun _ => h0, fun e => absurd e (by decide)⟩
    · exact ⟨fun e => absurd e (by decide), fun _ => ⟨h1, u2⟩⟩
    · exact ⟨fun e => absurd e (by decide), fun _ => ⟨h2, u3⟩⟩
  · obtain ⟨h0, _, _, _, _, _, _⟩ := (check_2 _ _ _ _ _ _ _).1 h
    rw [word_2] at hx
    simp only [List.mem_cons, List.not_mem_nil, or_false] at hx
    subst hx
    exact ⟨fun e => absurd e (by decide), fun _ => ⟨h0, u4⟩⟩
  · obtain ⟨h0, _, _, _, _, _, _⟩ := (check_3 _ _ _ _ _ _ _).1 h
    rw [word_3] at hx
    simp only [List.mem_cons, List.not_mem_nil, or_false] at hx
    subst hx
    exact ⟨fun e => absurd e (by decide), fun _ => ⟨h0, u4⟩⟩
  · obtain ⟨h0, _, _, _, _, _, _⟩ := (check_4 _ _ _ _ _ _ _).1 h
    rw [word_4] at hx
    simp only [List.mem_cons, List.not_mem_nil, or_false] at hx
    subst hx
    exact ⟨fun e => absurd e (by decide), fun _ => ⟨h0, u5⟩⟩
  · obtain ⟨h0, h1, h2, _, _, _, _⟩ := (check_5 _ _ _ _ _ _ _).1 h
    rw [word_5] at hx
    simp only [List.mem_cons, List.not_mem_nil, or_false] at hx
    rcases hx with rfl | rfl | rfl
    · exact ⟨fun _ => h0, fun e => absurd e (by decide)⟩
    · exact ⟨fun _ => h1, fun e => absurd e (by decide)⟩
    · exact ⟨fun e => absurd e (by decide), fun _ => ⟨h2, u1⟩⟩
  · obtain ⟨h0, h1, _, _, _, _, _⟩ := (check_6 _ _ _ _ _ _ _).1 h
    rw [word_6] at hx
    simp only [List.mem_cons, List.not_mem_nil, or_false] at hx
    rcases hx with rfl | rfl
    · exact ⟨fun _ => h0, fun e => absurd e (by decide)⟩
    · exact ⟨fun e => absurd e (by decide), fun _ => ⟨h1, u1⟩⟩
  · obtain ⟨h0, h1, _, _, _, _, _⟩ := (check_7 _ _ _ _ _ _ _).1 h
    rw [word_7] at hx
    simp only [List.mem_cons, List.not_mem_nil, or_false] at hx
    rcases hx with rfl | rfl
    · exact ⟨fun _ => h0, fun e => absurd e (by decide)⟩
    · exact ⟨fun _ => h1, fun e => absurd e (by decide)⟩
  · obtain ⟨h0, _, _, _, _, _, _⟩ := (check_8 _ _ _ _ _ _ _).1 h
    rw [word_8] at hx
    simp only [List.mem_cons, List.not_mem_nil, or_false] at hx
    subst hx
    exact ⟨fun _ => h0, fun e => absurd e (by decide)⟩
  · obtain ⟨h0, _, _, _, _, _, _⟩ := (check_9 _ _ _ _ _ _ _).1 h
    rw [word_9] at hx
    simp only [List.mem_cons, List.not_mem_nil, or_false] at hx
    subst hx
    exact ⟨fun e => absurd e (by decide), fun _ => ⟨h0, u4⟩⟩
  · obtain ⟨_, _, _, _, _, _, _⟩ := (check_10 _ _ _ _ _ _ _).1 h
    rw [word_10] at hx
    cases hx
  · obtain ⟨h0, _, _, _, _, _, _⟩ := (check_11 _ _ _ _ _ _ _).1 h
    rw [word_11] at hx
    simp only [List.mem_cons, List.not_mem_nil, or_false] at hx
    subst hx
    exact ⟨fun _ => h0, fun e => absurd e (by decide)⟩
  · obtain ⟨_, _, _, _, _, _, _⟩ := (check_12 _ _ _ _ _ _ _).1 h
    rw [word_12] at hx
    cases hx
  · obtain ⟨_, _, _, _, _, _, _⟩ := (check_13 _ _ _ _ _ _ _).1 h
    rw [word_13] at hx
    cases hx
theorem word_len (k : Int) : (wordV k).1.length ≤ 8 := by
  unfold wordV
  split
  · next h =>
    have hr : k = 1 ∨ k = 2 ∨ k = 3 ∨ k = 4 ∨ k = 5 ∨ k = 6 ∨ k = 7 ∨ k = 8 ∨ k = 9 ∨ k = 10 ∨ k = 11 ∨ k = 12 ∨ k = 13 := by omega
    rcases hr with rfl | rfl | rfl | rfl | rfl | rfl | rfl | rfl | rfl | rfl | rfl | rfl | rfl <;> decide
  · decide
theorem piece_len {c : Cm} {x : UInt8} (h : (isNm x = true → validV (getS c x) = true) ∧ (isNm x = false → 0 ≤ getI c x ∧ getI c x ≤ 9223372036854775807)) : (pieceV c x).length ≤ 32 := by
  unfold pieceV
  cases hn : isNm x with
  | true => rw [if_pos rfl]; exact valid_len (h.1 hn)
  | false =>
    have := h.2 hn
    have := dig_len (n := (getI c x).toNat) (by omega)
    rw [if_neg (by simp)]
    omega
end Go.Proofs.YtokpcpmkilikaaaDoor.Vb
