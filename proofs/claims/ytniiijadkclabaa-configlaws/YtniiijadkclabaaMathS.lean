/-
  THE PLAIN MATHEMATICS OF LAYER 1: shifts.
-/
import Derived.Test.YtniiijadkclabaaMath
import Derived.Laws.Bits64b
namespace Go.Proofs.Ytniiijadkclabaa.Wd

theorem pow_pos' (k : Nat) : (1 : Int) ≤ 2 ^ k := by
  have : 0 < (2 : Nat) ^ k := Nat.two_pow_pos k
  have h : ((2 ^ k : Nat) : Int) = (2 : Int) ^ k := by simp
  omega
theorem pow_split (k : Nat) (h : k ≤ 64) : (2 : Int) ^ k * 2 ^ (64 - k) = 18446744073709551616 := by
  rw [← Int.pow_add, show k + (64 - k) = 64 by omega]; rfl

/-- Shifted up by less than a word: P * Q = 2^64. -/
theorem shl_words {ah al P Q : Int} (h1 : Word ah) (h2 : Word al) (hP : 1 ≤ P) (hQ : 1 ≤ Q) (hM : P * Q = 18446744073709551616) :
    ∃ u, (ah * P) % 18446744073709551616 = P * u ∧ 0 ≤ u ∧ P * u + al / Q < 18446744073709551616 ∧ 0 ≤ P * u ∧ 0 ≤ al / Q ∧ al / Q < P ∧
      P * u + al / Q = hiW ((val ah al * P) % 340282366920938463463374607431768211456) ∧ (al * P) % 18446744073709551616 = loW ((val ah al * P) % 340282366920938463463374607431768211456) := by
  obtain ⟨a0, a1⟩ := h1; obtain ⟨b0, b1⟩ := h2
  have ea : ah * P = ah / Q * 18446744073709551616 + P * (ah % Q) := by
    have e : ah = ah / Q * Q + ah % Q := by have := Int.mul_ediv_add_emod ah Q; rw [Int.mul_comm Q] at this; omega
    calc ah * P = (ah / Q * Q + ah % Q) * P := by rw [← e]
      _ = ah / Q * (P * Q) + P * (ah % Q) := by rw [Int.add_mul, Int.mul_assoc, Int.mul_comm Q P, Int.mul_comm (ah % Q) P]
      _ = _ := by rw [hM]
  have eb : al * P = al / Q * 18446744073709551616 + P * (al % Q) := by
    have e : al = al / Q * Q + al % Q := by have := Int.mul_ediv_add_emod al Q; rw [Int.mul_comm Q] at this; omega
    calc al * P = (al / Q * Q + al % Q) * P := by rw [← e]
      _ = al / Q * (P * Q) + P * (al % Q) := by rw [Int.add_mul, Int.mul_assoc, Int.mul_comm Q P, Int.mul_comm (al % Q) P]
      _ = _ := by rw [hM]
  have ra0 := Int.emod_nonneg ah (show Q ≠ 0 by omega)
  have ra1 := Int.emod_lt_of_pos ah (show 0 < Q by omega)
  have rb0 := Int.emod_nonneg al (show Q ≠ 0 by omega)
  have rb1 := Int.emod_lt_of_pos al (show 0 < Q by omega)
  have u0 : 0 ≤ P * (ah % Q) := Int.mul_nonneg (by omega) ra0
  have t0 : 0 ≤ P * (al % Q) := Int.mul_nonneg (by omega) rb0
  have u1 : P * (ah % Q) ≤ 18446744073709551616 - P := by
    have h := Int.mul_le_mul_of_nonneg_left (show ah % Q ≤ Q - 1 by omega) (show 0 ≤ P by omega)
    rw [Int.mul_sub, hM] at h; omega
  have t1 : P * (al % Q) ≤ 18446744073709551616 - P := by
    have h := Int.mul_le_mul_of_nonneg_left (show al % Q ≤ Q - 1 by omega) (show 0 ≤ P by omega)
    rw [Int.mul_sub, hM] at h; omega
  have v0 : 0 ≤ al / Q := Int.ediv_nonneg b0 (by omega)
  have v1 : al / Q < P := Int.ediv_lt_of_lt_mul (by omega) (by rw [hM]; omega)
  have ev : val ah al * P = ah * P * 18446744073709551616 + al * P := by unfold val; rw [Int.add_mul, Int.mul_right_comm]
  rw [ev, ea, eb]
  refine ⟨ah % Q, ?_, ra0, ?_, u0, v0, v1, ?_, ?_⟩ <;> (try simp only [hiW, loW]) <;>
    (generalize P * (ah % Q) = u at *; generalize P * (al % Q) = t at *; generalize al / Q = v at *; generalize ah / Q = s at *; omega)

/-- Shifted down by less than a word. -/
theorem shr_words {ah al P Q : Int} (h1 : Word ah) (h2 : Word al) (hP : 1 ≤ P) (hQ : 1 ≤ Q) (hM : P * Q = 18446744073709551616) :
    ∃ u, (ah * Q) % 18446744073709551616 = Q * u ∧ 0 ≤ u ∧ Q * u + al / P < 18446744073709551616 ∧ 0 ≤ Q * u ∧ 0 ≤ al / P ∧ al / P < Q ∧
      Q * u + al / P = loW (val ah al / P) ∧ ah / P = hiW (val ah al / P) := by
  obtain ⟨a0, a1⟩ := h1; obtain ⟨b0, b1⟩ := h2
  have ea : ah * Q = ah / P * 18446744073709551616 + Q * (ah % P) := by
    have e : ah = ah / P * P + ah % P := by have := Int.mul_ediv_add_emod ah P; rw [Int.mul_comm P] at this; omega
    calc ah * Q = (ah / P * P + ah % P) * Q := by rw [← e]
      _ = ah / P * (P * Q) + Q * (ah % P) := by rw [Int.add_mul, Int.mul_assoc, Int.mul_comm (ah % P) Q]
      _ = _ := by rw [hM]
  have ra0 := Int.emod_nonneg ah (show P ≠ 0 by omega)
  have ra1 := Int.emod_lt_of_pos ah (show 0 < P by omega)
  have u0 : 0 ≤ Q * (ah % P) := Int.mul_nonneg (by omega) ra0
  have u1 : Q * (ah % P) ≤ 18446744073709551616 - Q := by
    have h := Int.mul_le_mul_of_nonneg_left (show ah % P ≤ P - 1 by omega) (show 0 ≤ Q by omega)
    rw [Int.mul_sub, Int.mul_comm Q P, hM] at h; omega
  have v0 : 0 ≤ al / P := Int.ediv_nonneg b0 (by omega)
  have v1 : al / P < Q := Int.ediv_lt_of_lt_mul (by omega) (by rw [Int.mul_comm, hM]; omega)
  have ev : val ah al / P = ah * Q + al / P := by
    unfold val
    rw [show ah * 18446744073709551616 = ah * Q * P by rw [Int.mul_assoc, Int.mul_comm Q P, hM], Int.add_comm, Int.add_mul_ediv_right _ _ (by omega), Int.add_comm]
  rw [ev, ea]
  refine ⟨ah % P, ?_, ra0, ?_, u0, v0, v1, ?_, ?_⟩ <;> (try simp only [hiW, loW]) <;>
    (generalize Q * (ah % P) = u at *; generalize al / P = v at *; generalize ah / P = s at *; omega)

/-- Bits that do not meet: or is plus. -/
theorem or_plus (k : Nat) {u v : Int} (hu : 0 ≤ u) (hv : 0 ≤ v) (hv' : v < 2 ^ k) (h : 2 ^ k * u + v < 18446744073709551616) :
    bits .or .u64 (2 ^ k * u) v = 2 ^ k * u + v ∧ bits .or .u64 v (2 ^ k * u) = 2 ^ k * u + v := by
  obtain ⟨u, rfl⟩ := Int.eq_ofNat_of_zero_le hu
  obtain ⟨v, rfl⟩ := Int.eq_ofNat_of_zero_le hv
  have hp : ((2 ^ k : Nat) : Int) = (2 : Int) ^ k := by simp
  have e : (2 : Int) ^ k * (u : Int) = ((2 ^ k * u : Nat) : Int) := by rw [Int.natCast_mul, hp]
  have hv2 : v < 2 ^ k := by omega
  rw [e] at h ⊢
  have o1 : 2 ^ k * u ||| v = 2 ^ k * u + v := (Nat.two_pow_add_eq_or_of_lt hv2 u).symm
  have o2 : v ||| 2 ^ k * u = 2 ^ k * u + v := by rw [Nat.or_comm, o1]
  have l1 : 2 ^ k * u < 18446744073709551616 := by omega
  rw [bits_or_u64_nat _ _ l1 (by omega), bits_or_u64_nat _ _ (by omega) l1, o1, o2]
  constructor <;> omega

theorem shl_small (ah al n : Int) (h1 : Word ah) (h2 : Word al) (h0 : 0 ≤ n) (hn : n < 64) :
    bits .or .u64 (IntKind.u64.wrap (ah * 2 ^ n.toNat)) (al / 2 ^ (64 - n).toNat) = hiW (shlV (val ah al) n) ∧
    IntKind.u64.wrap (IntKind.u64.wrap (ah * 2 ^ n.toNat) + al / 2 ^ (64 - n).toNat) = hiW (shlV (val ah al) n) ∧
    IntKind.u64.wrap (al * 2 ^ n.toNat) = loW (shlV (val ah al) n) := by
  have e : (64 - n).toNat = 64 - n.toNat := by omega
  rw [e]
  obtain ⟨u, e1, u0, e2, p0, v0, v1, e3, e4⟩ := shl_words h1 h2 (pow_pos' n.toNat) (pow_pos' (64 - n.toNat)) (pow_split n.toNat (by omega))
  have es : shlV (val ah al) n = (val ah al * 2 ^ n.toNat) % 340282366920938463463374607431768211456 := by unfold shlV; rw [if_neg (by omega)]
  rw [es, IntKind.wrap_u64, IntKind.wrap_u64, IntKind.wrap_u64, e1]
  refine ⟨by rw [(or_plus _ u0 v0 v1 e2).1]; exact e3, ?_, e4⟩
  rw [← e3]; omega
theorem shr_small (ah al n : Int) (h1 : Word ah) (h2 : Word al) (h0 : 0 ≤ n) (hn : n < 64) :
    bits .or .u64 (al / 2 ^ n.toNat) (IntKind.u64.wrap (ah * 2 ^ (64 - n).toNat)) = loW (shrV (val ah al) n) ∧
    IntKind.u64.wrap (al / 2 ^ n.toNat + IntKind.u64.wrap (ah * 2 ^ (64 - n).toNat)) = loW (shrV (val ah al) n) ∧
    ah / 2 ^ n.toNat = hiW (shrV (val ah al) n) := by
  have e : (64 - n).toNat = 64 - n.toNat := by omega
  rw [e]
  obtain ⟨u, e1, u0, e2, p0, v0, v1, e3, e4⟩ := shr_words h1 h2 (pow_pos' n.toNat) (pow_pos' (64 - n.toNat)) (pow_split n.toNat (by omega))
  have es : shrV (val ah al) n = val ah al / 2 ^ n.toNat := by unfold shrV; rw [if_neg (by omega)]
  rw [es, IntKind.wrap_u64, IntKind.wrap_u64, e1]
  refine ⟨by rw [(or_plus _ u0 v0 v1 e2).2]; exact e3, ?_, e4⟩
  rw [← e3]; omega

theorem pow_big (j : Nat) (h : 64 ≤ j) : (2 : Int) ^ j = 18446744073709551616 * 2 ^ (j - 64) := by
  have e : 64 + (j - 64) = j := by omega
  have h2 : (2 : Int) ^ (64 + (j - 64)) = 2 ^ 64 * 2 ^ (j - 64) := Int.pow_add 2 64 (j - 64)
  rw [e] at h2
  rw [h2]; rfl
theorem shl_great (ah al n : Int) (hn : 64 ≤ n) :
    IntKind.u64.wrap (al * 2 ^ (n - 64).toNat) = hiW (shlV (val ah al) n) ∧ 0 = loW (shlV (val ah al) n) := by
  have es : shlV (val ah al) n = (val ah al * 2 ^ n.toNat) % 340282366920938463463374607431768211456 := by unfold shlV; rw [if_neg (by omega)]
  rw [es, pow_big n.toNat (by omega), show n.toNat - 64 = (n - 64).toNat by omega, IntKind.wrap_u64]
  generalize (2 : Int) ^ (n - 64).toNat = p
  have e : val ah al * (18446744073709551616 * p) = (ah * p) * 340282366920938463463374607431768211456 + (al * p) * 18446744073709551616 := by
    unfold val
    rw [Int.add_mul, ← Int.mul_assoc, ← Int.mul_assoc, Int.mul_right_comm al, Int.mul_assoc ah, Int.mul_right_comm ah]
    rfl
  rw [e]
  simp only [hiW, loW]
  generalize ah * p = x
  generalize al * p = y
  constructor <;> omega
theorem min_great (al n : Int) : IntKind.u64.wrap (al * 2 ^ min (n - 64).toNat 64) = IntKind.u64.wrap (al * 2 ^ (n - 64).toNat) := by
  by_cases h : (n - 64).toNat ≤ 64
  · rw [Nat.min_eq_left h]
  · rw [Nat.min_eq_right (by omega), pow_big (n - 64).toNat (by omega), IntKind.wrap_u64, IntKind.wrap_u64]
    generalize (2 : Int) ^ ((n - 64).toNat - 64) = p
    rw [Int.mul_comm 18446744073709551616 p, ← Int.mul_assoc]
    generalize al * p = y
    omega
theorem shr_great (ah al n : Int) (h1 : Word ah) (h2 : Word al) (hn : 64 ≤ n) :
    ah / 2 ^ (n - 64).toNat = loW (shrV (val ah al) n) ∧ 0 = hiW (shrV (val ah al) n) := by
  obtain ⟨a0, a1⟩ := h1
  have es : shrV (val ah al) n = val ah al / 2 ^ n.toNat := by unfold shrV; rw [if_neg (by omega)]
  have hd : val ah al / 18446744073709551616 = ah := hi_val h2
  rw [es, pow_big n.toNat (by omega), show n.toNat - 64 = (n - 64).toNat by omega, ← Int.ediv_ediv_of_nonneg (by omega), hd]
  have hp := pow_pos' (n - 64).toNat
  generalize (2 : Int) ^ (n - 64).toNat = p at *
  have q0 : 0 ≤ ah / p := Int.ediv_nonneg a0 (by omega)
  have q1 : ah / p ≤ ah := Int.ediv_le_self p a0
  simp only [hiW, loW]
  generalize ah / p = q at *
  constructor <;> omega
theorem min_great_r (ah n : Int) (h1 : Word ah) : ah / 2 ^ min (n - 64).toNat 64 = ah / 2 ^ (n - 64).toNat := by
  obtain ⟨a0, a1⟩ := h1
  by_cases h : (n - 64).toNat ≤ 64
  · rw [Nat.min_eq_left h]
  · rw [Nat.min_eq_right (by omega), Int.ediv_eq_zero_of_lt a0 (by omega)]
    have hb := pow_big (n - 64).toNat (by omega)
    have hp := pow_pos' ((n - 64).toNat - 64)
    rw [Int.ediv_eq_zero_of_lt a0 (by omega)]
theorem shl_zero (a : Int) (h : Num a) : shlV a 0 = a := by
  obtain ⟨a0, a1⟩ := h; unfold top at a1; unfold shlV; rw [if_neg (by omega)]; simp; omega
theorem shr_zero (a : Int) : shrV a 0 = a := by unfold shrV; rw [if_neg (by omega)]; simp
theorem shl_neg (a n : Int) (h : n < 0) : shlV a n = a := by unfold shlV; rw [if_pos h]
theorem shr_neg (a n : Int) (h : n < 0) : shrV a n = a := by unfold shrV; rw [if_pos h]
end Go.Proofs.Ytniiijadkclabaa.Wd
