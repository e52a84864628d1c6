/-
  THE PLAIN MATHEMATICS OF A QUOTIENT FOUND BIT BY BIT (the reference's Div).
-/
import Derived.Test.YtpiceckolcakaaaDoorMathS
namespace Go.Proofs.YtpiceckolcakaaaDoor.Wd

/-- When k bits have been gone through: what is left of a, the quotient and the rest so far. -/
def Part (A b : Int) (k : Nat) (a q r : Int) : Prop := a = (A * 2 ^ k) % 340282366920938463463374607431768211456 ∧ q = A / 2 ^ (128 - k) / b ∧ r = A / 2 ^ (128 - k) % b

theorem part_start {A b : Int} (hA : Num A) : Part A b 0 A 0 0 := by
  obtain ⟨a0, a1⟩ := hA; unfold top at a1
  have e : A / 2 ^ (128 - 0) = 0 := Int.ediv_eq_zero_of_lt a0 (by show A < 340282366920938463463374607431768211456; omega)
  refine ⟨by simp; omega, by rw [e]; simp, by rw [e]; simp⟩
theorem part_end {A b a q r : Int} (h : Part A b 128 a q r) (hb : 0 < b) : q = divV A b ∧ r = remV A b := by
  obtain ⟨_, e1, e2⟩ := h
  have e : A / 2 ^ (128 - 128) = A := by simp
  rw [e] at e1 e2
  unfold divV remV
  rw [if_neg (by omega), if_neg (by omega)]
  exact ⟨e1, e2⟩
/-- The next bit. -/
theorem next_bit (A : Int) (k : Nat) (hk : k < 128) : A / 2 ^ (128 - (k + 1)) = 2 * (A / 2 ^ (128 - k)) + (A * 2 ^ k) % 340282366920938463463374607431768211456 / 170141183460469231731687303715884105728 := by
  have hP := pow_pos' k
  have hR := pow_pos' (128 - (k + 1))
  have eR : (2 : Int) ^ (128 - k) = 2 ^ (128 - (k + 1)) * 2 := by rw [show 128 - k = (128 - (k + 1)) + 1 by omega, Int.pow_succ]
  have ePR : (2 : Int) ^ k * 2 ^ (128 - (k + 1)) = 170141183460469231731687303715884105728 := by rw [← Int.pow_add, show k + (128 - (k + 1)) = 127 by omega]; rfl
  rw [eR]
  generalize (2 : Int) ^ (128 - (k + 1)) = R at *
  generalize (2 : Int) ^ k = P at *
  have e := Int.mul_ediv_add_emod A (R * 2)
  have v0 := Int.emod_nonneg A (show R * 2 ≠ 0 by omega)
  have v1 := Int.emod_lt_of_pos A (show 0 < R * 2 by omega)
  have ea : A * P = A / (R * 2) * 340282366920938463463374607431768211456 + A % (R * 2) * P := by
    have : A * P = (R * 2 * (A / (R * 2)) + A % (R * 2)) * P := by rw [e]
    rw [this, Int.add_mul]
    have : R * 2 * (A / (R * 2)) * P = A / (R * 2) * (P * R * 2) := by
      rw [Int.mul_comm (R * 2), Int.mul_assoc, Int.mul_comm (R * 2) P, Int.mul_assoc P R 2]
    rw [this, ePR]; omega
  have m0 : 0 ≤ A % (R * 2) * P := Int.mul_nonneg v0 (by omega)
  have m1 : A % (R * 2) * P < 340282366920938463463374607431768211456 := by
    have h := Int.mul_lt_mul_of_pos_right v1 (show 0 < P by omega)
    have : R * 2 * P = 340282366920938463463374607431768211456 := by rw [Int.mul_comm, ← Int.mul_assoc, ePR]; rfl
    omega
  have em : (A * P) % 340282366920938463463374607431768211456 = A % (R * 2) * P := by rw [ea]; omega
  have ed : A % (R * 2) * P / 170141183460469231731687303715884105728 = A % (R * 2) / R := by
    rw [← ePR, Int.mul_comm P R, Int.mul_ediv_mul_of_pos_left _ _ (by omega)]
  rw [em, ed]
  have eA : A / R = (A % (R * 2) + 2 * (A / (R * 2)) * R) / R := by
    have : A % (R * 2) + 2 * (A / (R * 2)) * R = A := by
      have h2 : R * 2 * (A / (R * 2)) = 2 * (A / (R * 2)) * R := by rw [Int.mul_comm R 2, Int.mul_assoc, Int.mul_comm R, ← Int.mul_assoc]
      omega
    rw [this]
  rw [eA, Int.add_mul_ediv_right _ _ (by omega), Int.add_comm]
/-- The bit is the highest of a's upper word. -/
theorem top_bit (a : Int) : a / 170141183460469231731687303715884105728 = hiW a / 9223372036854775808 := by unfold hiW; omega
theorem part_bounds {A b a q r : Int} {k : Nat} (hA : Num A) (hb : 0 < b) (hk : k < 128) (h : Part A b k a q r) : Num a ∧ 0 ≤ r ∧ r < b ∧ 0 ≤ q ∧ 2 * q + 1 ≤ top := by
  obtain ⟨e0, e1, e2⟩ := h
  obtain ⟨a0, a1⟩ := hA
  have hP := pow_pos' (128 - k)
  have d0 : 0 ≤ A / 2 ^ (128 - k) := Int.ediv_nonneg a0 (by omega)
  have d1 : 2 * (A / 2 ^ (128 - k)) ≤ A := by
    have eR : (2 : Int) ^ (128 - k) = 2 ^ (127 - k) * 2 := by rw [show 128 - k = (127 - k) + 1 by omega, Int.pow_succ]
    have hQ := pow_pos' (127 - k)
    rw [eR, ← Int.ediv_ediv_of_nonneg (by omega)]
    have := Int.ediv_le_self (2 ^ (127 - k)) a0
    omega
  have q0 : 0 ≤ A / 2 ^ (128 - k) / b := Int.ediv_nonneg d0 (by omega)
  have q1 : A / 2 ^ (128 - k) / b ≤ A / 2 ^ (128 - k) := Int.ediv_le_self b d0
  refine ⟨?_, by rw [e2]; exact Int.emod_nonneg _ (by omega), by rw [e2]; exact Int.emod_lt_of_pos _ hb, by rw [e1]; exact q0, ?_⟩
  · rw [e0]; unfold Num top; omega
  · rw [e1]; unfold top at *; omega
theorem part_next {A b a q r : Int} {k : Nat} (hA : Num A) (hb : 0 < b) (hk : k < 128) (h : Part A b k a q r) :
    (b ≤ 2 * r + hiW a / 9223372036854775808 → Part A b (k + 1) (shlV a 1) (2 * q + 1) (2 * r + hiW a / 9223372036854775808 - b)) ∧
    (2 * r + hiW a / 9223372036854775808 < b → Part A b (k + 1) (shlV a 1) (2 * q) (2 * r + hiW a / 9223372036854775808)) := by
  have hbd := part_bounds hA hb hk h
  obtain ⟨na, r0, r1, q0, _⟩ := hbd
  obtain ⟨e0, e1, e2⟩ := h
  have hn := next_bit A k hk
  rw [← e0, top_bit] at hn
  have es : shlV a 1 = (A * 2 ^ (k + 1)) % 340282366920938463463374607431768211456 := by
    unfold shlV; rw [if_neg (by omega), e0, Int.pow_succ, ← Int.mul_assoc]
    show ((A * 2 ^ k) % 340282366920938463463374607431768211456 * 2) % _ = _
    generalize A * 2 ^ k = x
    omega
  have hbit : 0 ≤ hiW a / 9223372036854775808 ∧ hiW a / 9223372036854775808 ≤ 1 := by
    obtain ⟨w0, w1⟩ := hi_word na; omega
  obtain ⟨b0, b1⟩ := hbit
  have ed := Int.mul_ediv_add_emod (A / 2 ^ (128 - k)) b
  rw [← e1, ← e2] at ed
  generalize hiW a / 9223372036854775808 = t at *
  have eD : A / 2 ^ (128 - (k + 1)) = 2 * r + t + 2 * q * b := by
    rw [hn, ← ed, Int.mul_add, Int.mul_comm b q, ← Int.mul_assoc]; omega
  constructor
  · intro hle
    have e3 : 2 * r + t + 2 * q * b = (2 * r + t - b) + (2 * q + 1) * b := by rw [Int.add_mul]; omega
    refine ⟨es, ?_, ?_⟩
    · rw [eD, e3, Int.add_mul_ediv_right _ _ (by omega), Int.ediv_eq_zero_of_lt (by omega) (by omega), Int.zero_add]
    · rw [eD, e3, Int.add_mul_emod_self_right, Int.emod_eq_of_lt (by omega) (by omega)]
  · intro hlt
    refine ⟨es, ?_, ?_⟩
    · rw [eD, Int.add_mul_ediv_right _ _ (by omega), Int.ediv_eq_zero_of_lt (by omega) (by omega), Int.zero_add]
    · rw [eD, Int.add_mul_emod_self_right, Int.emod_eq_of_lt (by omega) (by omega)]
theorem shl_one {q : Int} (h0 : 0 ≤ q) (h : 2 * q + 1 ≤ top) : shlV q 1 = 2 * q ∧ hiW (2 * q) = hiW (2 * q + 1) ∧ loW (2 * q) + 1 = loW (2 * q + 1) := by
  unfold top at h
  refine ⟨?_, ?_, ?_⟩
  · unfold shlV; rw [if_neg (by omega)]; show (q * 2) % _ = _; omega
  · unfold hiW; omega
  · unfold loW; omega
end Go.Proofs.YtpiceckolcakaaaDoor.Wd
