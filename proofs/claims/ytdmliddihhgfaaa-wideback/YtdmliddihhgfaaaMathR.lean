/-
  THE PLAIN MATHEMATICS OF THE ROOT, bit by bit.
-/
import Derived.Test.YtdmliddihhgfaaaMathS
namespace Go.Proofs.Ytdmliddihhgfaaa.Wd

/-- Where the root stands when j bits are left: the bits above j are found. -/
def Root (a : Int) (j : Nat) (r : Int) : Prop := sqrtFrom a j r = sqrtV a ∧ ∃ m : Int, 0 ≤ m ∧ r = 2 ^ j * m ∧ 2 ^ j * m + 2 ^ j ≤ 18446744073709551616

theorem root_start (a : Int) : Root a 64 0 := ⟨rfl, 0, by omega, by omega, by decide⟩
theorem root_end {a r : Int} (h : Root a 0 r) : r = sqrtV a := h.1
theorem pow_succ' (j : Nat) : (2 : Int) ^ (j + 1) = 2 ^ j + 2 ^ j := by rw [Int.pow_succ]; omega
theorem root_word {a r : Int} {j : Nat} (h : Root a (j + 1) r) : 0 ≤ r ∧ r + 2 ^ j < 18446744073709551616 ∧ Word (r + 2 ^ j) ∧ bits .or .u64 r (2 ^ j) = r + 2 ^ j := by
  obtain ⟨_, m, m0, rfl, h2⟩ := h
  have hp := pow_pos' j
  have hs := pow_succ' j
  have r0 : 0 ≤ (2 : Int) ^ (j + 1) * m := Int.mul_nonneg (by omega) m0
  refine ⟨r0, by omega, ⟨by omega, by omega⟩, (or_plus (j + 1) m0 (by omega) (by omega) (by omega)).1⟩
theorem root_yes {a r : Int} {j : Nat} (h : Root a (j + 1) r) (hc : (r + 2 ^ j) * (r + 2 ^ j) ≤ a) : Root a j (r + 2 ^ j) := by
  obtain ⟨h1, m, m0, rfl, h2⟩ := h
  have hs := pow_succ' j
  have e : (2 : Int) ^ (j + 1) * m + 2 ^ j = 2 ^ j * (2 * m + 1) := by
    rw [Int.mul_add, Int.mul_one, ← Int.mul_assoc, Int.pow_succ]
  refine ⟨?_, 2 * m + 1, by omega, e, ?_⟩
  · rw [← h1]
    show _ = if _ then _ else _
    rw [if_pos hc]
  · rw [← e]; omega
theorem root_no {a r : Int} {j : Nat} (h : Root a (j + 1) r) (hc : a < (r + 2 ^ j) * (r + 2 ^ j)) : Root a j r := by
  obtain ⟨h1, m, m0, rfl, h2⟩ := h
  have hs := pow_succ' j
  have hp := pow_pos' j
  have e : (2 : Int) ^ (j + 1) * m = 2 ^ j * (2 * m) := by rw [← Int.mul_assoc, Int.pow_succ]
  refine ⟨?_, 2 * m, by omega, e, ?_⟩
  · rw [← h1]
    show _ = if _ then _ else _
    rw [if_neg (by omega)]
  · rw [← e]; omega
/-- The root is a word, and what a root is. -/
theorem sqrt_inv (a : Int) (j : Nat) : ∀ r : Int, 0 ≤ r → r * r ≤ a → a < (r + 2 ^ j) * (r + 2 ^ j) → 0 ≤ sqrtFrom a j r ∧ sqrtFrom a j r * sqrtFrom a j r ≤ a ∧ a < (sqrtFrom a j r + 1) * (sqrtFrom a j r + 1) := by
  induction j with
  | zero => intro r h0 h1 h2; have h3 : a < (r + 1) * (r + 1) := by { simpa using h2 }; exact ⟨h0, h1, h3⟩
  | succ j ih =>
    intro r h0 h1 h2
    have hp := pow_pos' j
    have hs := pow_succ' j
    have es : sqrtFrom a (j + 1) r = if (r + 2 ^ j) * (r + 2 ^ j) ≤ a then sqrtFrom a j (r + 2 ^ j) else sqrtFrom a j r := rfl
    by_cases hc : (r + 2 ^ j) * (r + 2 ^ j) ≤ a
    · rw [if_pos hc] at es
      rw [es]
      exact ih _ (by omega) hc (by rw [hs] at h2; rw [Int.add_assoc]; exact h2)
    · rw [if_neg hc] at es
      rw [es]
      exact ih _ h0 h1 (by omega)
theorem sqrt_is {a : Int} (h : Num a) : Word (sqrtV a) ∧ sqrtV a * sqrtV a ≤ a ∧ a < (sqrtV a + 1) * (sqrtV a + 1) := by
  obtain ⟨a0, a1⟩ := h
  unfold top at a1
  obtain ⟨h0, h1, h2⟩ := sqrt_inv a 64 0 (by omega) (by omega) (by omega)
  refine ⟨⟨h0, ?_⟩, h1, h2⟩
  show sqrtFrom a 64 0 < _
  generalize sqrtFrom a 64 0 = r at *
  by_cases hr : r < 18446744073709551616
  · exact hr
  · have : (18446744073709551616 : Int) * 18446744073709551616 ≤ r * r := Int.mul_le_mul (by omega) (by omega) (by omega) (by omega)
    omega
theorem cmp_gt {a b : Int} (h : b < a) : decide (0 < cmpV a b) = true ∧ decide (cmpV a b ≤ 0) = false := by
  have e : cmpV a b = 1 := by unfold cmpV; rw [if_neg (by omega), if_neg (by omega)]
  rw [e]; exact ⟨rfl, rfl⟩
theorem cmp_le {a b : Int} (h : a ≤ b) : decide (0 < cmpV a b) = false ∧ decide (cmpV a b ≤ 0) = true := by
  by_cases g : a < b
  · have e : cmpV a b = -1 := by unfold cmpV; rw [if_pos g]
    rw [e]; exact ⟨rfl, rfl⟩
  · have e : cmpV a b = 0 := by unfold cmpV; rw [if_neg g, if_pos (by omega)]
    rw [e]; exact ⟨rfl, rfl⟩
end Go.Proofs.Ytdmliddihhgfaaa.Wd
