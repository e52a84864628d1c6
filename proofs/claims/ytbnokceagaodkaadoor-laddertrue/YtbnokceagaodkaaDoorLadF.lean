/-
  THE PLAIN MATHEMATICS OF LAYER 7: the statement's floats, squared and rounded. A float m * 2^x behind k squarings is m * 2^p by 2^(128 * 2^k), p being x + 128 * 2^k.
-/
import Derived.Test.YtbnokceagaodkaaDoorLadN
import Derived.Test.YtbnokceagaodkaaDoorMath
namespace Go.Proofs.YtbnokceagaodkaaDoor.Ld
open Wd

/-- The square's 128 bits, the highest one set. -/
def sqQ (m : Nat) : Nat := if m * m < 170141183460469231731687303715884105728 then m * m * 2 else m * m
def sqL (m : Nat) : Nat := if m * m < 170141183460469231731687303715884105728 then 63 else 64
def sqH (m : Nat) : Nat := sqQ m / 18446744073709551616
def sqC (m : Nat) (up : Bool) : Bool := up && decide (0 < sqQ m % 18446744073709551616)
def sqM (m : Nat) (up : Bool) : Nat := if sqC m up = true then (if sqH m + 1 = 18446744073709551616 then 9223372036854775808 else sqH m + 1) else sqH m
def sqD (m : Nat) (up : Bool) : Nat := sqL m + (if sqC m up = true ∧ sqH m + 1 = 18446744073709551616 then 1 else 0)

theorem sq_range {m : Nat} (h0 : 9223372036854775808 ≤ m) (h1 : m < 18446744073709551616) : 85070591730234615865843651857942052864 ≤ m * m ∧ m * m < 340282366920938463463374607431768211456 := by
  have a : 9223372036854775808 * 9223372036854775808 ≤ m * m := Nat.mul_le_mul h0 h0
  have b : m * m ≤ 18446744073709551615 * 18446744073709551615 := Nat.mul_le_mul (by omega) (by omega)
  omega
theorem sqM_range {m : Nat} (up : Bool) (h0 : 9223372036854775808 ≤ m) (h1 : m < 18446744073709551616) : 9223372036854775808 ≤ sqM m up ∧ sqM m up < 18446744073709551616 := by
  obtain ⟨a, b⟩ := sq_range h0 h1
  have hq : 170141183460469231731687303715884105728 ≤ sqQ m ∧ sqQ m < 340282366920938463463374607431768211456 := by unfold sqQ; split <;> omega
  unfold sqM sqH
  split
  · split <;> omega
  · omega
theorem sqD_range (m : Nat) (up : Bool) : 63 ≤ sqD m up ∧ sqD m up ≤ 65 := by
  unfold sqD sqL
  split <;> split <;> omega
theorem sq_down (m : Nat) : sqM m false * 2 ^ sqD m false ≤ m * m := by
  have hc : sqC m false = false := rfl
  unfold sqM sqD
  rw [hc, if_neg (by simp), if_neg (by simp), Nat.add_zero]
  unfold sqL sqH sqQ
  split
  · have : (2 : Nat) ^ 63 = 9223372036854775808 := by rfl
    omega
  · have : (2 : Nat) ^ 64 = 18446744073709551616 := by rfl
    omega
theorem sq_up (m : Nat) : m * m ≤ sqM m true * 2 ^ sqD m true := by
  have e3 : (2 : Nat) ^ 63 = 9223372036854775808 := by rfl
  have e4 : (2 : Nat) ^ 64 = 18446744073709551616 := by rfl
  have e5 : (2 : Nat) ^ 65 = 36893488147419103232 := by rfl
  have key : sqQ m ≤ sqM m true * (2 ^ (if sqC m true = true ∧ sqH m + 1 = 18446744073709551616 then 1 else 0) * 18446744073709551616) := by
    unfold sqM
    by_cases hc : sqC m true = true
    · by_cases hh : sqH m + 1 = 18446744073709551616
      · rw [if_pos hc, if_pos hh, if_pos ⟨hc, hh⟩]
        unfold sqH at hh
        omega
      · rw [if_pos hc, if_neg hh, if_neg (by intro h; exact hh h.2)]
        unfold sqH
        omega
    · rw [if_neg hc, if_neg (by intro h; exact hc h.1)]
      have hz : sqQ m % 18446744073709551616 = 0 := by
        unfold sqC at hc
        simp at hc
        omega
      unfold sqH
      omega
  have hl : m * m * 2 ^ 64 = sqQ m * 2 ^ sqL m := by
    unfold sqQ sqL
    split
    · rw [e3, e4]; omega
    · rfl
  refine Nat.le_of_mul_le_mul_right (c := 18446744073709551616) ?_ (by decide)
  rw [e4] at hl
  rw [hl]
  unfold sqD
  rw [Nat.pow_add, Nat.mul_comm (2 ^ sqL m), ← Nat.mul_assoc, Nat.mul_right_comm _ (2 ^ sqL m), Nat.mul_assoc (sqM m true)]
  exact Nat.mul_le_mul_right _ key

/-- Behind k squarings: not above, or not below, that power of what it began with. -/
def Low (b k m p : Nat) : Prop := m * 2 ^ p ≤ (b * 36893488147419103232) ^ 2 ^ k
def Upp (b k m p : Nat) : Prop := (b * 36893488147419103232) ^ 2 ^ k ≤ m * 2 ^ p
theorem sq_pow (p d : Nat) (x : Nat) : x * 2 ^ (2 * p + d) = x * 2 ^ d * (2 ^ p * 2 ^ p) := by
  rw [Nat.pow_add, Nat.two_mul, Nat.pow_add 2 p p, Nat.mul_comm (2 ^ p * 2 ^ p) (2 ^ d), ← Nat.mul_assoc x]
theorem low_next {b k m p : Nat} (h : Low b k m p) : Low b (k + 1) (sqM m false) (2 * p + sqD m false) := by
  unfold Low at *
  rw [sq_pow p, Nat.pow_succ 2 k, Nat.mul_two, Nat.pow_add]
  refine Nat.le_trans (Nat.mul_le_mul_right _ (sq_down m)) ?_
  rw [Nat.mul_mul_mul_comm]
  exact Nat.mul_le_mul h h
theorem upp_next {b k m p : Nat} (h : Upp b k m p) : Upp b (k + 1) (sqM m true) (2 * p + sqD m true) := by
  unfold Upp at *
  rw [sq_pow p, Nat.pow_succ 2 k, Nat.mul_two, Nat.pow_add]
  refine Nat.le_trans ?_ (Nat.mul_le_mul_right _ (sq_up m))
  rw [Nat.mul_mul_mul_comm]
  exact Nat.mul_le_mul h h
/-- Behind 32 squarings, against 2^-f. -/
theorem low_end {f m p : Nat} (h : Low (halfN f) 32 m p) (h0 : 9223372036854775808 ≤ m) : p + f + 63 < 549755813888 ∨ p + f + 63 = 549755813888 ∧ m ≤ 9223372036854775808 := by
  obtain ⟨K, hK⟩ : ∃ K : Nat, K = 2 ^ 32 := ⟨_, rfl⟩
  have h1 := half_low f hK
  unfold Low at h
  rw [← hK, Nat.mul_pow] at h
  have h2 : m * 2 ^ (p + f) ≤ 2 ^ (128 * K) := by
    have e : (2 : Nat) ^ (128 * K) = 9223372036854775808 ^ K * 36893488147419103232 ^ K := by rw [Nat.pow_mul, ← Nat.mul_pow]
    rw [e, Nat.pow_add, ← Nat.mul_assoc]
    refine Nat.le_trans (Nat.mul_le_mul_right _ h) ?_
    rw [Nat.mul_right_comm]
    exact Nat.mul_le_mul_right _ h1
  have h3 : 2 ^ (63 + (p + f)) ≤ 2 ^ (128 * K) := by
    rw [Nat.pow_add]
    exact Nat.le_trans (Nat.mul_le_mul_right _ h0) h2
  have h4 : 63 + (p + f) ≤ 128 * K := (Nat.pow_le_pow_iff_right (by decide)).1 h3
  have hK' : K = 4294967296 := hK
  by_cases hq : p + f + 63 < 549755813888
  · exact .inl hq
  · refine .inr ⟨by omega, ?_⟩
    have e : 128 * K = 63 + (p + f) := by omega
    rw [e, Nat.pow_add 2 63] at h2
    exact Nat.le_of_mul_le_mul_right h2 (Nat.pow_pos (by decide))
theorem upp_end {f m p : Nat} (h : Upp (uppN f) 32 m p) (h0 : m < 18446744073709551616) : 549755813888 ≤ p + f + 63 := by
  obtain ⟨K, hK⟩ : ∃ K : Nat, K = 2 ^ 32 := ⟨_, rfl⟩
  have h1 := half_upp f hK
  unfold Upp at h
  rw [← hK, Nat.mul_pow] at h
  have h2 : 2 ^ (128 * K) ≤ m * 2 ^ (p + f) := by
    have e : (2 : Nat) ^ (128 * K) = 9223372036854775808 ^ K * 36893488147419103232 ^ K := by rw [Nat.pow_mul, ← Nat.mul_pow]
    rw [e, Nat.pow_add, ← Nat.mul_assoc]
    refine Nat.le_trans ?_ (Nat.mul_le_mul_right _ h)
    rw [Nat.mul_right_comm]
    exact Nat.mul_le_mul_right _ h1
  have h3 : 2 ^ (128 * K) < 2 ^ (64 + (p + f)) := by
    rw [Nat.pow_add 2 64]
    exact Nat.lt_of_le_of_lt h2 (Nat.mul_lt_mul_of_pos_right h0 (Nat.pow_pos (by decide)))
  have h4 : 128 * K < 64 + (p + f) := (Nat.pow_lt_pow_iff_right (by decide)).1 h3
  have hK' : K = 4294967296 := hK
  omega
end Go.Proofs.YtbnokceagaodkaaDoor.Ld
