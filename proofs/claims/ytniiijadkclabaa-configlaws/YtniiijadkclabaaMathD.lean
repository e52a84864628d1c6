/-
  THE PLAIN MATHEMATICS OF A QUOTIENT OF TWO WORDS BY ONE, digit by digit of 32 bits (math/bits.Div64's way).
-/
import Derived.Test.YtniiijadkclabaaMathS
namespace Go.Proofs.Ytniiijadkclabaa.Wd

/-- The divisor's two halves p, z (p has its highest bit), U the upper part, c the next half: what a digit is found of. -/
def Digit (U c p z : Int) : Prop := 2147483648 ≤ p ∧ p < 4294967296 ∧ 0 ≤ z ∧ z < 4294967296 ∧ 0 ≤ c ∧ c < 4294967296 ∧ 0 ≤ U ∧ U < p * 4294967296 + z
/-- The digit. -/
def dig (U c p z : Int) : Int := (U * 4294967296 + c) / (p * 4294967296 + z)
/-- A guess q with its rest r. -/
def St (U c p z q r : Int) : Prop := r = U - q * p ∧ 0 ≤ r ∧ r < 4294967296 ∧ dig U c p z ≤ q ∧ 0 ≤ q ∧ q ≤ 4294967297

theorem dig_nonneg {U c p z : Int} (h : Digit U c p z) : 0 ≤ dig U c p z := by
  obtain ⟨p0, p1, z0, z1, c0, c1, U0, U1⟩ := h
  exact Int.ediv_nonneg (by omega) (by omega)
theorem dig_lt {U c p z : Int} (h : Digit U c p z) : dig U c p z < 4294967296 := by
  obtain ⟨p0, p1, z0, z1, c0, c1, U0, U1⟩ := h
  exact Int.ediv_lt_of_lt_mul (by omega) (by omega)
theorem k_init {U c p z : Int} (h : Digit U c p z) : St U c p z (U / p) (U - U / p * p) := by
  have hd := h
  obtain ⟨p0, p1, z0, z1, c0, c1, U0, U1⟩ := h
  have e := Int.mul_ediv_add_emod U p
  rw [Int.mul_comm] at e
  have m0 := Int.emod_nonneg U (show p ≠ 0 by omega)
  have m1 := Int.emod_lt_of_pos U (show 0 < p by omega)
  refine ⟨rfl, by omega, by omega, ?_, Int.ediv_nonneg U0 (by omega), ?_⟩
  · rw [Int.le_ediv_iff_mul_le (by omega)]
    have q0 := dig_nonneg hd
    have h1 : dig U c p z * (p * 4294967296 + z) ≤ U * 4294967296 + c := Int.ediv_mul_le _ (by omega)
    have h2 : 0 ≤ dig U c p z * z := Int.mul_nonneg q0 z0
    rw [Int.mul_add, ← Int.mul_assoc] at h1
    generalize dig U c p z * p = a at *
    generalize dig U c p z * z = b at *
    omega
  · have : U / p < 4294967298 := Int.ediv_lt_of_lt_mul (by omega) (by omega)
    omega
theorem k_eq {U p z q r : Int} (hs : r = U - q * p) : q * (p * 4294967296 + z) = (U - r) * 4294967296 + q * z := by
  rw [Int.mul_add, ← Int.mul_assoc, show q * p = U - r by omega]
theorem k_false {U c p z q r : Int} (h : Digit U c p z) (hs : St U c p z q r) (hc : q * z ≤ 4294967296 * r + c) : q = dig U c p z := by
  obtain ⟨p0, p1, z0, z1, c0, c1, U0, U1⟩ := h
  obtain ⟨e, r0, r1, ql, q0, q1⟩ := hs
  have : q ≤ dig U c p z := by
    unfold dig
    rw [Int.le_ediv_iff_mul_le (by omega), k_eq e]
    generalize q * z = a at *
    omega
  omega
theorem k_true {U c p z q r : Int} (h : Digit U c p z) (hs : St U c p z q r) (hc : 4294967296 ≤ q ∨ 4294967296 * r + c < q * z) : dig U c p z ≤ q - 1 := by
  have hd := h
  obtain ⟨p0, p1, z0, z1, c0, c1, U0, U1⟩ := h
  obtain ⟨e, r0, r1, ql, q0, q1⟩ := hs
  have : dig U c p z < q := by
    rcases hc with hc | hc
    · have := dig_lt hd; omega
    · apply Int.ediv_lt_of_lt_mul (by omega)
      rw [k_eq e]
      generalize q * z = a at *
      omega
  omega
theorem k_next {U c p z q r : Int} (h : Digit U c p z) (hs : St U c p z q r) (hc : 4294967296 ≤ q ∨ 4294967296 * r + c < q * z) (hr : r + p < 4294967296) : St U c p z (q - 1) (r + p) := by
  have ht := k_true h hs hc
  have hn := dig_nonneg h
  obtain ⟨p0, p1, z0, z1, c0, c1, U0, U1⟩ := h
  obtain ⟨e, r0, r1, ql, q0, q1⟩ := hs
  refine ⟨?_, by omega, hr, ht, by omega, by omega⟩
  rw [Int.sub_mul]; omega
theorem k_break {U c p z q r : Int} (h : Digit U c p z) (hs : St U c p z q r) (hc : 4294967296 ≤ q ∨ 4294967296 * r + c < q * z) (hr : 4294967296 ≤ r + p) : q - 1 = dig U c p z := by
  have ht := k_true h hs hc
  have hn := dig_nonneg h
  obtain ⟨p0, p1, z0, z1, c0, c1, U0, U1⟩ := h
  obtain ⟨e, r0, r1, ql, q0, q1⟩ := hs
  have : q - 1 ≤ dig U c p z := by
    unfold dig
    have e' : r + p = U - (q - 1) * p := by rw [Int.sub_mul]; omega
    rw [Int.le_ediv_iff_mul_le (by omega), k_eq e']
    have m : (q - 1) * z ≤ 4294967296 * 4294967295 := Int.mul_le_mul (by omega) (by omega) z0 (by omega)
    generalize (q - 1) * z = a at *
    omega
  omega
theorem k_rem {U c p z : Int} (h : Digit U c p z) :
    IntKind.u64.wrap (IntKind.u64.wrap (IntKind.u64.wrap (U * 4294967296) + c) - IntKind.u64.wrap (dig U c p z * (p * 4294967296 + z))) = (U * 4294967296 + c) % (p * 4294967296 + z) ∧
    0 ≤ (U * 4294967296 + c) % (p * 4294967296 + z) ∧ (U * 4294967296 + c) % (p * 4294967296 + z) < p * 4294967296 + z := by
  obtain ⟨p0, p1, z0, z1, c0, c1, U0, U1⟩ := h
  have e := Int.mul_ediv_add_emod (U * 4294967296 + c) (p * 4294967296 + z)
  have m0 := Int.emod_nonneg (U * 4294967296 + c) (show p * 4294967296 + z ≠ 0 by omega)
  have m1 := Int.emod_lt_of_pos (U * 4294967296 + c) (show 0 < p * 4294967296 + z by omega)
  refine ⟨?_, m0, m1⟩
  have eq : dig U c p z * (p * 4294967296 + z) = U * 4294967296 + c - (U * 4294967296 + c) % (p * 4294967296 + z) := by
    unfold dig; rw [Int.mul_comm]; omega
  rw [eq]
  simp only [IntKind.wrap_u64]
  generalize (U * 4294967296 + c) % (p * 4294967296 + z) = m at *
  omega

/-- Both digits together: V = N * P in words U and L; Y = y * P. -/
theorem k_whole {N y P Y U L : Int} (hy : 1 ≤ y) (hP : 1 ≤ P) (hY : Y = y * P) (hV : N * P = U * 18446744073709551616 + L) (q1 r1 q0 r0 : Int)
    (h1 : q1 = (U * 4294967296 + L / 4294967296) / Y) (h2 : r1 = (U * 4294967296 + L / 4294967296) % Y) (h3 : q0 = (r1 * 4294967296 + L % 4294967296) / Y) (h4 : r0 = (r1 * 4294967296 + L % 4294967296) % Y) :
    q1 * 4294967296 + q0 = N / y ∧ r0 / P = N % y := by
  have hYp : 0 < Y := by rw [hY]; exact Int.mul_pos (by omega) (by omega)
  have e1 := Int.mul_ediv_add_emod (U * 4294967296 + L / 4294967296) Y
  have e2 := Int.mul_ediv_add_emod (r1 * 4294967296 + L % 4294967296) Y
  rw [← h1, ← h2] at e1
  rw [← h3, ← h4] at e2
  have m0 : 0 ≤ r0 := by rw [h4]; exact Int.emod_nonneg _ (by omega)
  have m1 : r0 < Y := by rw [h4]; exact Int.emod_lt_of_pos _ hYp
  have eV : N * P = (q1 * 4294967296 + q0) * Y + r0 := by
    rw [hV, Int.add_mul, Int.mul_right_comm, Int.mul_comm q1 Y, Int.mul_comm q0 Y]
    omega
  have d1 : N * P / Y = q1 * 4294967296 + q0 := by
    rw [eV, Int.add_comm, Int.add_mul_ediv_right _ _ (by omega), Int.ediv_eq_zero_of_lt m0 m1, Int.zero_add]
  have d2 : N * P % Y = r0 := by
    rw [eV, Int.add_comm, Int.add_mul_emod_self_right, Int.emod_eq_of_lt m0 m1]
  have c1 : N * P / Y = N / y := by rw [hY, Int.mul_ediv_mul_of_pos_left _ _ (by omega)]
  have c2 : N * P % Y = N % y * P := by rw [hY, Int.mul_comm N P, Int.mul_comm y P, Int.mul_emod_mul_of_pos _ _ (by omega), Int.mul_comm]
  refine ⟨by rw [← d1, c1], ?_⟩
  rw [← d2, c2, Int.mul_ediv_cancel _ (by omega)]
end Go.Proofs.Ytniiijadkclabaa.Wd
