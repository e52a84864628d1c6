/-
  THE PLAIN MATHEMATICS OF WideBack: what is done is undone.
-/
import Derived.Test.YtdmliddihhgfaaaMathR
namespace Go.Proofs.Ytdmliddihhgfaaa.Wd

theorem back_add {A B : Int} (hA : Num A) (hB : Num B) (hf : A + B ≤ top) : addV A B = A + B ∧ addB A B = true ∧ subV (A + B) B = A ∧ decide (cmpV (A + B) A < 0) = false := by
  obtain ⟨b0, _⟩ := hB
  obtain ⟨a0, _⟩ := hA
  refine ⟨by unfold addV; rw [if_pos hf], by simp [addB, hf], ?_, ?_⟩
  · unfold subV
    by_cases h : B ≤ A + B
    · rw [if_pos h]; omega
    · rw [if_neg h]; omega
  · unfold cmpV; rw [if_neg (by omega)]; split <;> rfl
theorem back_div {A b : Int} (hA : Num A) (hb : Word b) (h : b ≠ 0) :
    divB b = true ∧ Num (divV A b) ∧ 0 ≤ remV A b ∧ remV A b < b ∧ Num (timV (divV A b) b) ∧ timB (divV A b) b = true ∧ addV (timV (divV A b) b) (remV A b) = A ∧ addB (timV (divV A b) b) (remV A b) = true := by
  obtain ⟨a0, a1⟩ := hA; obtain ⟨b0, b1⟩ := hb
  have ed : divV A b = A / b := by unfold divV; rw [if_neg h]
  have er : remV A b = A % b := by unfold remV; rw [if_neg h]
  have q0 := Int.ediv_nonneg a0 b0
  have q1 := Int.ediv_le_self b a0
  have m0 := Int.emod_nonneg A h
  have m1 := Int.emod_lt_of_pos A (show 0 < b by omega)
  have e := Int.mul_ediv_add_emod A b
  rw [Int.mul_comm] at e
  have et : timV (divV A b) b = A / b * b := by unfold timV; rw [ed, if_pos (by omega)]
  have p0 : 0 ≤ A / b * b := Int.mul_nonneg q0 b0
  refine ⟨by simp [divB, h], ?_, by rw [er]; exact m0, by rw [er]; exact m1, ?_, ?_, ?_, ?_⟩
  · rw [ed]; exact ⟨q0, by omega⟩
  · rw [et]; exact ⟨p0, by omega⟩
  · unfold timB; rw [ed]; simp; omega
  · rw [et, er]; unfold addV; rw [if_pos (by omega)]; omega
  · rw [et, er]; unfold addB; simp; omega
theorem div_zero' (A : Int) : divB 0 = false ∧ divV A 0 = 0 ∧ remV A 0 = 0 := ⟨rfl, rfl, rfl⟩
theorem back_shift {A n : Int} (hA : Num A) (h0 : 0 ≤ n) :
    ∃ L, shlV (shrV A n) n = L ∧ Num (shrV A n) ∧ Num L ∧ Num (subV A L) ∧ (decide (0 < cmpV L A) = false) ∧ shrV (subV A L) n = 0 ∧ shrV L n = shrV A n := by
  obtain ⟨a0, a1⟩ := hA
  have hp := pow_pos' n.toNat
  have es : ∀ x, shrV x n = x / 2 ^ n.toNat := fun x => by unfold shrV; rw [if_neg (by omega)]
  have q0 := Int.ediv_nonneg a0 (show 0 ≤ (2 : Int) ^ n.toNat by omega)
  have q1 := Int.ediv_le_self (2 ^ n.toNat) a0
  have e := Int.mul_ediv_add_emod A (2 ^ n.toNat)
  have m0 := Int.emod_nonneg A (show (2 : Int) ^ n.toNat ≠ 0 by omega)
  have m1 := Int.emod_lt_of_pos A (show 0 < (2 : Int) ^ n.toNat by omega)
  rw [Int.mul_comm] at e
  have l0 : 0 ≤ A / 2 ^ n.toNat * 2 ^ n.toNat := Int.mul_nonneg q0 (by omega)
  have el : shlV (shrV A n) n = A / 2 ^ n.toNat * 2 ^ n.toNat := by
    rw [es]; unfold shlV; rw [if_neg (by omega)]; unfold top at a1; omega
  have ec : A / 2 ^ n.toNat * 2 ^ n.toNat / 2 ^ n.toNat = A / 2 ^ n.toNat := Int.mul_ediv_cancel _ (by omega)
  have eb : subV A (A / 2 ^ n.toNat * 2 ^ n.toNat) = A % 2 ^ n.toNat := by unfold subV; rw [if_pos (by omega)]; omega
  refine ⟨_, el, by rw [es]; exact ⟨q0, by omega⟩, ⟨l0, by omega⟩, by rw [eb]; exact ⟨m0, by omega⟩, (cmp_le (by omega)).1, ?_, by rw [es, es, ec]⟩
  rw [eb, es]; exact Int.ediv_eq_zero_of_lt m0 m1
theorem hi_small {r : Int} (h : Word r) : hiW r = 0 ∧ loW r = r := by
  obtain ⟨_, _⟩ := h; unfold hiW loW; omega
theorem num_small {r : Int} (h : Word r) : Num r := by
  obtain ⟨_, _⟩ := h; unfold Num top; omega
end Go.Proofs.Ytdmliddihhgfaaa.Wd
