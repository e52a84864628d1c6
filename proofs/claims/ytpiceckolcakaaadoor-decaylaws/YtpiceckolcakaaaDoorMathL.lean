/-
  THE PLAIN MATHEMATICS OF FixqLaws: up is down or one more; all rises with what rises.
-/
import Derived.Test.YtpiceckolcakaaaDoorMathF
namespace Go.Proofs.YtpiceckolcakaaaDoor.Wd

theorem nar_mono {u v : Int} (h : u ≤ v) : narV u ≤ narV v := by
  unfold narV; split <;> split <;> omega
theorem dn_mono {u v b : Int} (hb : Word b) (h : u ≤ v) : dnV u b ≤ dnV v b := by
  unfold dnV
  by_cases z : b = 0
  · rw [if_pos z, if_pos z]; exact Int.le_refl _
  · rw [if_neg z, if_neg z]
    exact nar_mono (Int.ediv_le_ediv (by have := hb.1; omega) h)
theorem mulDn_mono {a b c : Int} (hb : Word b) (h : a ≤ c) : dnV (a * b) 4294967296 ≤ dnV (c * b) 4294967296 :=
  dn_mono ⟨by omega, by omega⟩ (Int.mul_le_mul_of_nonneg_right h hb.1)
theorem divDn_mono {a b c : Int} (hb : Word b) (h : a ≤ c) : dnV (a * 4294967296) b ≤ dnV (c * 4294967296) b :=
  dn_mono hb (by omega)
theorem minV_mono {f g : Int} (h : f ≤ g) : minV f ≤ minV g := by unfold minV; split <;> split <;> omega
theorem part_mono1 {a b c : Int} (hb : Word b) (h : a ≤ c) : partV a b ≤ partV c b :=
  Int.ediv_le_ediv (by omega) (Int.mul_le_mul_of_nonneg_right h (minV_word hb).1)
theorem part_mono2 {a b c : Int} (hb : Word b) (h : a ≤ c) : partV b a ≤ partV b c :=
  Int.ediv_le_ediv (by omega) (Int.mul_le_mul_of_nonneg_left (minV_mono h) hb.1)
theorem part_one (a : Int) : partV a 9223372036854775808 = a := part_big
/-- The quotient by one, and the product by one. -/
theorem div_one {a : Int} (ha : Word a) : dnV (a * 4294967296) 4294967296 = a ∧ dnB (a * 4294967296) 4294967296 = true := by
  obtain ⟨a0, a1⟩ := ha
  have e : a * 4294967296 / 4294967296 = a := Int.mul_ediv_cancel _ (by omega)
  refine ⟨?_, ?_⟩
  · unfold dnV narV; rw [if_neg (by omega), e, if_pos a1]
  · unfold dnB narB; rw [if_neg (by omega), e]; simp [a1]
theorem mul_one_up {a : Int} (ha : Word a) : upV (a * 4294967296) 4294967296 = a ∧ upB (a * 4294967296) 4294967296 = true := by
  obtain ⟨a0, a1⟩ := ha
  have e : ceilV (a * 4294967296) 4294967296 = a := by unfold ceilV; rw [if_pos (by omega)]; omega
  refine ⟨?_, ?_⟩
  · unfold upV narV; rw [if_neg (by omega), e, if_pos a1]
  · unfold upB narB; rw [if_neg (by omega), e]; simp [a1]
/-- Up is down, or one more; or down is the greatest, and up does not fit. -/
theorem up_dn (u b : Int) : (dnB u b = upB u b ∧ dnV u b = upV u b) ∨ (dnB u b = true ∧ upB u b = true ∧ dnV u b + 1 = upV u b ∧ dnV u b ≠ upV u b ∧ dnV u b + 1 < 18446744073709551616) ∨ (dnB u b = true ∧ upB u b = false ∧ dnV u b = 18446744073709551615 ∧ upV u b = 18446744073709551615) := by
  by_cases z : b = 0
  · exact .inl ⟨by simp [dnB, upB, z], by simp [dnV, upV, z]⟩
  · have e1 : dnB u b = narB (u / b) := by unfold dnB; rw [if_neg z]
    have e2 : dnV u b = narV (u / b) := by unfold dnV; rw [if_neg z]
    have e3 : upB u b = narB (ceilV u b) := by unfold upB; rw [if_neg z]
    have e4 : upV u b = narV (ceilV u b) := by unfold upV; rw [if_neg z]
    rw [e1, e2, e3, e4]
    by_cases m : u % b = 0
    · have e5 : ceilV u b = u / b := by unfold ceilV; rw [if_pos m]
      rw [e5]; exact .inl ⟨rfl, rfl⟩
    · have e5 : ceilV u b = u / b + 1 := by unfold ceilV; rw [if_neg m]
      rw [e5]
      generalize u / b = q
      by_cases h : q < 18446744073709551616
      · have n1 : narB q = true := by simp [narB, h]
        have n2 : narV q = q := by unfold narV; rw [if_pos h]
        by_cases g : q + 1 < 18446744073709551616
        · have n3 : narB (q + 1) = true := by simp [narB, g]
          have n4 : narV (q + 1) = q + 1 := by unfold narV; rw [if_pos g]
          rw [n1, n2, n3, n4]; exact .inr (.inl ⟨rfl, rfl, rfl, by omega, by omega⟩)
        · have n3 : narB (q + 1) = false := by simp [narB]; omega
          have n4 : narV (q + 1) = 18446744073709551615 := by unfold narV; rw [if_neg g]
          rw [n1, n2, n3, n4]; exact .inr (.inr ⟨rfl, rfl, by omega, rfl⟩)
      · have n1 : narB q = false := by simp [narB]; omega
        have n2 : narV q = 18446744073709551615 := by unfold narV; rw [if_neg h]
        have n3 : narB (q + 1) = false := by simp [narB]; omega
        have n4 : narV (q + 1) = 18446744073709551615 := by unfold narV; rw [if_neg (by omega)]
        rw [n1, n2, n3, n4]; exact .inl ⟨rfl, rfl⟩
/-- What was laid on is taken off. -/
theorem add_back {a b : Int} (ha : Word a) (h : narB (a + b) = true) : narV (a + b) = a + b ∧ subV (a + b) b = a ∧ subB (a + b) b = true := by
  unfold narB at h
  simp at h
  obtain ⟨_, _⟩ := ha
  refine ⟨by unfold narV; rw [if_pos h], ?_, by simp [subB]; omega⟩
  unfold subV; rw [if_pos (by omega)]; omega
end Go.Proofs.YtpiceckolcakaaaDoor.Wd
