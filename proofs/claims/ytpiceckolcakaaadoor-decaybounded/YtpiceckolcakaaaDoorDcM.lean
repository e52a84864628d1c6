/-
  THE PLAIN MATHEMATICS OF LAYER 10 (decay): a Half is not above the chord; so nobody has more than K periods' worth. No Go in sight.
-/
import Derived.Test.YtpiceckolcakaaaDoorLadN
namespace Go.Proofs.YtpiceckolcakaaaDoor.Ld

theorem sq_mean {a b : Nat} (h : b + 1 = a) : 4 * (a * b) ≤ (2 * a - 1) * (2 * a - 1) := by
  subst h
  rw [show 2 * (b + 1) - 1 = 2 * b + 1 by omega]
  have e1 : (b + 1) * b = b * b + b := by rw [Nat.add_mul]; omega
  have e2 : (2 * b + 1) * (2 * b + 1) = 4 * (b * b) + 4 * b + 1 := by
    rw [Nat.mul_add, Nat.add_mul, Nat.mul_one, Nat.one_mul, Nat.mul_mul_mul_comm]; omega
  rw [e1, e2]
  omega
/-- The mean of so many ones and so many halves is not below what they multiply to. -/
theorem chord (k : Nat) : ∀ e, e ≤ 2 ^ k → (2 * 2 ^ k) ^ 2 ^ k ≤ 2 ^ e * (2 * 2 ^ k - e) ^ 2 ^ k := by
  induction k with
  | zero => intro e he; have : e = 0 ∨ e = 1 := by simp at he; omega
            rcases this with rfl | rfl <;> decide
  | succ k ih =>
    intro e he
    have hN : 2 ^ (k + 1) = 2 * 2 ^ k := by rw [Nat.pow_succ, Nat.mul_comm]
    rw [hN] at he ⊢
    generalize 2 ^ k = N at *
    have hsq : ∀ x : Nat, x ^ (2 * N) = (x * x) ^ N := fun x => by rw [Nat.pow_mul, Nat.pow_two]
    have dbl : ∀ x : Nat, (2 * x) ^ (2 * N) = 4 ^ N * (x ^ N * x ^ N) := fun x => by
      rw [hsq, Nat.mul_mul_mul_comm, Nat.mul_pow (2 * 2), Nat.mul_pow x]
    rcases Nat.mod_two_eq_zero_or_one e with h2 | h2
    · obtain ⟨d, rfl⟩ : ∃ d, e = 2 * d := ⟨e / 2, by omega⟩
      have h := ih d (by omega)
      have e1 : 2 * (2 * N) - 2 * d = 2 * (2 * N - d) := by omega
      rw [e1, dbl, dbl, Nat.mul_left_comm (2 ^ (2 * d))]
      refine Nat.mul_le_mul_left _ ?_
      rw [Nat.two_mul d, Nat.pow_add 2 d d, Nat.mul_mul_mul_comm]
      exact Nat.mul_le_mul h h
    · obtain ⟨d, rfl⟩ : ∃ d, e = 2 * d + 1 := ⟨e / 2, by omega⟩
      have ha := ih d (by omega)
      have hb := ih (d + 1) (by omega)
      have hm := sq_mean (a := 2 * N - d) (b := 2 * N - (d + 1)) (by omega)
      have e1 : 2 * (2 * N) - (2 * d + 1) = 2 * (2 * N - d) - 1 := by omega
      rw [e1, dbl, hsq]
      have h3 := Nat.pow_le_pow_left hm N
      rw [Nat.mul_pow, Nat.mul_pow (2 * N - d)] at h3
      have h4 := Nat.mul_le_mul ha hb
      rw [Nat.mul_mul_mul_comm (2 ^ d), ← Nat.pow_add 2 d (d + 1), show d + (d + 1) = 2 * d + 1 by omega] at h4
      refine Nat.le_trans ?_ (Nat.mul_le_mul_left _ h3)
      rw [Nat.mul_left_comm (2 ^ (2 * d + 1))]
      exact Nat.mul_le_mul_left _ h4
theorem half_chord {e : Nat} (he : e ≤ 4294967296) : halfN e * 8589934592 ≤ 9223372036854775808 * (8589934592 - e) := by
  have h1 := half_low e (K := 2 ^ 32) rfl
  have h2 := chord 32 e he
  have hK : (2 : Nat) ^ 32 ≠ 0 := by decide
  rw [show 2 * 2 ^ 32 = 8589934592 from by decide] at h2
  generalize 2 ^ 32 = K at *
  refine le_of_pow hK ?_
  rw [Nat.mul_pow, Nat.mul_pow]
  calc halfN e ^ K * 8589934592 ^ K ≤ halfN e ^ K * (2 ^ e * (8589934592 - e) ^ K) := Nat.mul_le_mul_left _ h2
    _ = halfN e ^ K * 2 ^ e * (8589934592 - e) ^ K := by rw [Nat.mul_assoc]
    _ ≤ 9223372036854775808 ^ K * (8589934592 - e) ^ K := Nat.mul_le_mul_right _ h1
theorem half_below {e : Nat} (he : 4294967296 ≤ e) : halfN e ≤ 4611686018427387904 := by
  have h := half_falls he
  have h0 : halfN 4294967296 = 4611686018427387904 := by have := half_whole (n := 1) (by decide); simpa using this
  omega
/-- How many periods' worth. -/
def kN (e : Nat) : Nat := if (8589934592 + e - 1) / e < 2 then 2 else (8589934592 + e - 1) / e
theorem k_two (e : Nat) : 2 ≤ kN e := by unfold kN; split <;> omega
theorem k_mul {e : Nat} (he : 0 < e) : 8589934592 ≤ kN e * e := by
  have h := Nat.div_add_mod (8589934592 + e - 1) e
  have hm := Nat.mod_lt (8589934592 + e - 1) he
  have h2 : 8589934592 ≤ (8589934592 + e - 1) / e * e := by rw [Nat.mul_comm]; omega
  have h3 : (8589934592 + e - 1) / e ≤ kN e := by unfold kN; split <;> omega
  exact Nat.le_trans h2 (Nat.mul_le_mul_right _ h3)
theorem k_room {e : Nat} (he : 0 < e) : 9223372036854775808 + kN e * halfN e ≤ kN e * 9223372036854775808 := by
  by_cases h : e ≤ 4294967296
  · have h1 := half_chord h
    have h2 := k_mul he
    have h7 := k_two e
    have h3 : kN e * (halfN e * 8589934592) ≤ kN e * (9223372036854775808 * (8589934592 - e)) := Nat.mul_le_mul_left _ h1
    have h4 : kN e * (9223372036854775808 * (8589934592 - e)) = 9223372036854775808 * (kN e * 8589934592 - kN e * e) := by
      rw [Nat.mul_left_comm, Nat.mul_sub]
    have h5 : kN e * (halfN e * 8589934592) = kN e * halfN e * 8589934592 := by rw [Nat.mul_assoc]
    rw [h4, h5] at h3
    generalize kN e * halfN e = x at *
    generalize kN e * e = y at *
    generalize kN e = k at *
    have h6 : 9223372036854775808 * (k * 8589934592 - y) ≤ 9223372036854775808 * (k * 8589934592 - 8589934592) := Nat.mul_le_mul_left _ (by omega)
    omega
  · have h1 := half_below (e := e) (by omega)
    have h2 := k_two e
    have h3 : kN e * halfN e ≤ kN e * 4611686018427387904 := Nat.mul_le_mul_left _ h1
    generalize kN e * halfN e = x at *
    omega
theorem k_core {m n u v k h B q D : Nat} (hD : 0 < D) (h1 : D + k * h ≤ k * D) (hn : n ≤ m) (hB : B = m * q * k) (hu : u ≤ B) (hv : v * D ≤ u * h) : v + n * q ≤ B := by
  subst hB
  have h2 : u * h ≤ m * q * (k * h) := by rw [← Nat.mul_assoc (m * q)]; exact Nat.mul_le_mul_right _ hu
  have h5 : m * q * D + m * q * (k * h) ≤ m * q * k * D := by rw [← Nat.mul_add, Nat.mul_assoc (m * q) k]; exact Nat.mul_le_mul_left _ h1
  have h8 : n * q * D ≤ m * q * D := Nat.mul_le_mul_right _ (Nat.mul_le_mul_right _ hn)
  refine Nat.le_of_mul_le_mul_right (c := D) ?_ hD
  rw [Nat.add_mul]
  exact Nat.le_trans (Nat.add_le_add hv h8) (Nat.le_trans (Nat.add_le_add_right h2 _) (by rw [Nat.add_comm]; exact h5))
/-- One period more: what is left of at most so much, and a charge. -/
theorem k_step {e m n u v : Nat} (he : 0 < e) (hn : n ≤ m) (hu : u ≤ m * kN e * 4294967296) (hv : v * 9223372036854775808 ≤ u * halfN e) : v + n * 4294967296 ≤ m * kN e * 4294967296 :=
  k_core (by decide) (k_room he) hn (Nat.mul_right_comm _ _ _) hu hv
end Go.Proofs.YtpiceckolcakaaaDoor.Ld
