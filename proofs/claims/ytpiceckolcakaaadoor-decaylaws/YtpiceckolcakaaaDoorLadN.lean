/-
  THE PLAIN MATHEMATICS OF LAYER 7 (ladder): what follows for a Half and for its upper bound.
-/
import Derived.Test.YtpiceckolcakaaaDoorLadM
namespace Go.Proofs.YtpiceckolcakaaaDoor.Ld

theorem half_top (e : Nat) : halfN e ≤ 9223372036854775808 := by
  unfold halfN
  split
  · omega
  · exact Nat.le_trans (Nat.div_le_self _ _) (steps_top _ 32 (by omega))
theorem half_small {f : Nat} (hf : f < 4294967296) : halfN f = steps f 32 := by
  unfold halfN
  rw [Nat.div_eq_of_lt hf, Nat.mod_eq_of_lt hf, if_neg (by decide), Nat.pow_zero, Nat.div_one]
theorem half_least {f : Nat} (hf : f < 4294967296) : 4611686018427387904 ≤ halfN f := by
  rw [half_small hf]; exact t_least f hf
theorem half_upper (e : Nat) : halfN e ≤ uppN e := by
  have := half_top e
  unfold uppN; omega

/-- A Half is not above the real number. -/
theorem half_low (e : Nat) {K : Nat} (hK : K = 2 ^ 32) : halfN e ^ K * 2 ^ e ≤ 9223372036854775808 ^ K := by
  have hK0 : K ≠ 0 := by rw [hK]; decide
  unfold halfN
  split
  · rw [Nat.zero_pow (by omega), Nat.zero_mul]; exact Nat.zero_le _
  · have hf : e % 4294967296 < 2 ^ 32 := Nat.mod_lt _ (by decide)
    have h := t_low (e % 4294967296) hf hK
    have hd := Nat.pow_le_pow_left (Nat.div_mul_le_self (steps (e % 4294967296) 32) (2 ^ (e / 4294967296))) K
    rw [Nat.mul_pow, ← Nat.pow_mul] at hd
    have ee : e = e / 4294967296 * K + e % 4294967296 := by rw [hK]; omega
    have e2 : 2 ^ e = 2 ^ (e / 4294967296 * K) * 2 ^ (e % 4294967296) := by rw [← Nat.pow_add, ← ee]
    rw [e2, ← Nat.mul_assoc]
    exact Nat.le_trans (Nat.mul_le_mul_right _ hd) h
/-- The upper bound is not below it. -/
theorem half_upp (e : Nat) {K : Nat} (hK : K = 2 ^ 32) : 9223372036854775808 ^ K ≤ uppN e ^ K * 2 ^ e := by
  have hone : 9223372036854775808 ^ K ≤ 9223372036854775808 ^ K * 2 ^ e := Nat.le_mul_of_pos_right _ (Nat.pow_pos (by decide))
  have hmin : ∀ {x : Nat}, 9223372036854775808 ^ K ≤ x ^ K * 2 ^ e → 9223372036854775808 ^ K ≤ (min x 9223372036854775808) ^ K * 2 ^ e := by
    intro x hx
    rcases Nat.le_total x 9223372036854775808 with h | h
    · rw [Nat.min_eq_left h]; exact hx
    · rw [Nat.min_eq_right h]; exact hone
  refine hmin ?_
  unfold halfN
  split
  · next h =>
    have h1 : 9223372036854775808 ^ K ≤ 2 ^ e := by
      rw [show (9223372036854775808 : Nat) = 2 ^ 63 by rfl, ← Nat.pow_mul]
      exact two_pow_le (by rw [hK]; omega)
    exact Nat.le_trans h1 (Nat.le_mul_of_pos_left _ (Nat.pow_pos (by decide)))
  · have hf : e % 4294967296 < 2 ^ 32 := Nat.mod_lt _ (by decide)
    have h := t_upp (e % 4294967296) hf hK
    have ee : e = e / 4294967296 * K + e % 4294967296 := by rw [hK]; omega
    have e2 : 2 ^ e = 2 ^ (e / 4294967296 * K) * 2 ^ (e % 4294967296) := by rw [← Nat.pow_add, ← ee]
    rw [e2, ← Nat.mul_assoc, Nat.pow_mul, ← Nat.mul_pow]
    refine Nat.le_trans h (Nat.mul_le_mul_right _ (Nat.pow_le_pow_left ?_ _))
    have hp : 0 < 2 ^ (e / 4294967296) := Nat.pow_pos (by decide)
    have hm := Nat.mod_lt (steps (e % 4294967296) 32) hp
    have hq := Nat.div_add_mod (steps (e % 4294967296) 32) (2 ^ (e / 4294967296))
    generalize 2 ^ (e / 4294967296) = p at *
    generalize steps (e % 4294967296) 32 = t at *
    rw [Nat.mul_comm] at hq
    rw [Nat.add_mul]
    omega

theorem half_falls {e f : Nat} (h : e ≤ f) : halfN f ≤ halfN e := by
  by_cases he : e = f
  · subst he; exact Nat.le_refl _
  · unfold halfN
    split
    · exact Nat.zero_le _
    · next hf =>
      rw [if_neg (by omega)]
      have hfm : f % 4294967296 < 2 ^ 32 := Nat.mod_lt _ (by decide)
      have hem : e % 4294967296 < 2 ^ 32 := Nat.mod_lt _ (by decide)
      by_cases hn : e / 4294967296 = f / 4294967296
      · rw [hn]
        exact Nat.div_le_div_right (t_falls (by omega) hfm)
      · have l := t_least (e % 4294967296) hem
        have u := steps_top (f % 4294967296) 32 (by omega)
        have h1 : steps (f % 4294967296) 32 / 2 ^ (f / 4294967296) ≤ 9223372036854775808 / 2 ^ (e / 4294967296 + 1) :=
          Nat.le_trans (Nat.div_le_div_right u) (Nat.div_le_div_left (two_pow_le (by omega)) (Nat.pow_pos (by decide)))
        have h2 : 9223372036854775808 / 2 ^ (e / 4294967296 + 1) = 4611686018427387904 / 2 ^ (e / 4294967296) := by
          rw [Nat.pow_succ, Nat.mul_comm, ← Nat.div_div_eq_div_mul]
        rw [h2] at h1
        exact Nat.le_trans h1 (Nat.div_le_div_right l)
theorem half_whole {n : Nat} (h : n < 63) : halfN (n * 4294967296) = 9223372036854775808 / 2 ^ n := by
  unfold halfN
  rw [Nat.mul_div_cancel _ (by decide), Nat.mul_mod_left, if_neg (by omega)]
  rfl

theorem twice_low (e : Nat) : halfN e * halfN e ≤ 9223372036854775808 * uppN (2 * e) := by
  obtain ⟨K, hK⟩ : ∃ K : Nat, K = 2 ^ 32 := ⟨_, rfl⟩
  have hK0 : K ≠ 0 := by rw [hK]; decide
  have h1 := half_low e hK
  have h2 := half_upp (2 * e) hK
  refine le_of_pow hK0 (Nat.le_of_mul_le_mul_right (c := 2 ^ (2 * e)) ?_ (Nat.pow_pos (by decide)))
  have h3 := Nat.mul_le_mul h1 h1
  rw [Nat.mul_mul_mul_comm, ← Nat.pow_add 2 e e, ← Nat.two_mul] at h3
  rw [Nat.mul_pow, Nat.mul_pow, Nat.mul_assoc (9223372036854775808 ^ K)]
  exact Nat.le_trans h3 (Nat.mul_le_mul_left _ h2)
theorem twice_upp (e : Nat) : 9223372036854775808 * halfN (2 * e) ≤ uppN e * uppN e := by
  obtain ⟨K, hK⟩ : ∃ K : Nat, K = 2 ^ 32 := ⟨_, rfl⟩
  have hK0 : K ≠ 0 := by rw [hK]; decide
  have h1 := half_upp e hK
  have h2 := half_low (2 * e) hK
  refine le_of_pow hK0 (Nat.le_of_mul_le_mul_right (c := 2 ^ (2 * e)) ?_ (Nat.pow_pos (by decide)))
  have h3 := Nat.mul_le_mul h1 h1
  rw [Nat.mul_mul_mul_comm, ← Nat.pow_add 2 e e, ← Nat.two_mul] at h3
  rw [Nat.mul_pow, Nat.mul_pow, Nat.mul_assoc (9223372036854775808 ^ K)]
  exact Nat.le_trans (Nat.mul_le_mul_left _ h2) h3
end Go.Proofs.YtpiceckolcakaaaDoor.Ld
