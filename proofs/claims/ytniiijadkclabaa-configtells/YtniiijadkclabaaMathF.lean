/-
  THE PLAIN MATHEMATICS OF LAYER 4 (fixq): what each call answers, as functions on Int. No Go in sight.
-/
import Derived.Test.YtniiijadkclabaaMath
namespace Go.Proofs.Ytniiijadkclabaa.Wd

theorem hi_small {r : Int} (h : Word r) : hiW r = 0 ∧ loW r = r := by
  obtain ⟨_, _⟩ := h; unfold hiW loW; omega
theorem num_small {r : Int} (h : Word r) : Num r := by
  obtain ⟨_, _⟩ := h; unfold Num top; omega

/-- A number of 64 bits, or the greatest one. -/
def narV (v : Int) : Int := if v < 18446744073709551616 then v else 18446744073709551615
def narB (v : Int) : Bool := decide (v < 18446744073709551616)
/-- A quotient, rounded up. -/
def ceilV (u b : Int) : Int := if u % b = 0 then u / b else u / b + 1
def dnV (u b : Int) : Int := if b = 0 then 18446744073709551615 else narV (u / b)
def dnB (u b : Int) : Bool := if b = 0 then false else narB (u / b)
def upV (u b : Int) : Int := if b = 0 then 18446744073709551615 else narV (ceilV u b)
def upB (u b : Int) : Bool := if b = 0 then false else narB (ceilV u b)
def ofV (n : Int) : Int := if n < 0 then 0 else narV (n * 4294967296)
def ofB (n : Int) : Bool := if n < 0 then false else narB (n * 4294967296)
def minV (f : Int) : Int := if f < 9223372036854775808 then f else 9223372036854775808
def partV (a f : Int) : Int := a * minV f / 9223372036854775808

theorem nar_hi {u : Int} (hu : Num u) (h : hiW u = 0) : narV u = loW u ∧ narB u = true := by
  obtain ⟨a, b⟩ := hu
  unfold hiW at h
  have : u < 18446744073709551616 := by omega
  refine ⟨?_, by simp [narB, this]⟩
  unfold narV loW; rw [if_pos this]; omega
theorem nar_no {u : Int} (hu : Num u) (h : hiW u ≠ 0) : narV u = 18446744073709551615 ∧ narB u = false := by
  obtain ⟨a, b⟩ := hu
  unfold hiW at h
  have : ¬ u < 18446744073709551616 := by omega
  exact ⟨by unfold narV; rw [if_neg this], by simp [narB]; omega⟩
theorem nar_word {u : Int} (hu : 0 ≤ u) : Word (narV u) := by
  unfold narV Word; split <;> omega
theorem div_facts {u b : Int} (hu : Num u) (hb : Word b) (h : b ≠ 0) :
    divV u b = u / b ∧ remV u b = u % b ∧ divB b = true ∧ Num (u / b) ∧ 0 ≤ u % b ∧ u % b < b ∧ u / b * b + u % b = u ∧ timV (u / b) b = u / b * b := by
  obtain ⟨a0, a1⟩ := hu; obtain ⟨b0, b1⟩ := hb
  have q0 := Int.ediv_nonneg a0 b0
  have q1 := Int.ediv_le_self b a0
  have m0 := Int.emod_nonneg u h
  have m1 := Int.emod_lt_of_pos u (show 0 < b by omega)
  have e := Int.mul_ediv_add_emod u b
  rw [Int.mul_comm] at e
  refine ⟨by unfold divV; rw [if_neg h], by unfold remV; rw [if_neg h], by simp [divB, h], ⟨q0, by omega⟩, m0, m1, e, ?_⟩
  unfold timV; rw [if_pos (by omega)]
/-- One more than a quotient that is not exact fits. -/
theorem div_more {u b : Int} (hu : Num u) (hb : Word b) (h : b ≠ 0) (hm : u % b ≠ 0) : addV (u / b) 1 = u / b + 1 ∧ Num (u / b + 1) := by
  obtain ⟨_, _, _, ⟨q0, q1⟩, m0, m1, e, _⟩ := div_facts hu hb h
  obtain ⟨a0, a1⟩ := hu; obtain ⟨b0, b1⟩ := hb
  have b2 : 2 ≤ b := by omega
  have h2 : u / b * 2 ≤ u / b * b := Int.mul_le_mul_of_nonneg_left b2 q0
  have h3 : u / b + 1 ≤ top := by unfold top at *; omega
  exact ⟨by unfold addV; rw [if_pos h3], by omega, h3⟩
theorem dn_word {u b : Int} (hu : Num u) (hb : Word b) : Word (dnV u b) := by
  unfold dnV
  split
  · exact ⟨by omega, by omega⟩
  · exact nar_word (Int.ediv_nonneg hu.1 hb.1)
theorem words_ne {u v : Int} (h : u ≠ v) : ¬ (hiW u = hiW v ∧ loW u = loW v) := by
  rintro ⟨a, b⟩
  exact h (by rw [← val_words u, ← val_words v, a, b])
theorem part_big {a : Int} : a * 9223372036854775808 / 9223372036854775808 = a := Int.mul_ediv_cancel _ (by omega)
theorem minV_word {f : Int} (hf : Word f) : Word (minV f) := by
  obtain ⟨_, _⟩ := hf; unfold minV Word; split <;> omega
theorem minV_le (f : Int) : minV f ≤ 9223372036854775808 := by unfold minV; split <;> omega
theorem part_le {a f : Int} (ha : Word a) : partV a f ≤ a := by
  obtain ⟨a0, _⟩ := ha
  have h : a * minV f ≤ a * 9223372036854775808 := Int.mul_le_mul_of_nonneg_left (minV_le f) a0
  have := Int.ediv_le_ediv (show (0 : Int) < 9223372036854775808 by omega) h
  rw [part_big] at this
  exact this
theorem part_nonneg {a f : Int} (ha : Word a) (hf : Word f) : 0 ≤ partV a f :=
  Int.ediv_nonneg (Int.mul_nonneg ha.1 (minV_word hf).1) (by omega)
theorem part_dn {a f : Int} (ha : Word a) : dnV (a * minV f) 9223372036854775808 = partV a f ∧ dnB (a * minV f) 9223372036854775808 = true := by
  have h1 := part_le (f := f) ha
  have h2 : a * minV f / 9223372036854775808 < 18446744073709551616 := by have := ha.2; unfold partV at h1; omega
  refine ⟨?_, ?_⟩
  · unfold dnV narV partV; rw [if_neg (by omega), if_pos h2]
  · unfold dnB narB; rw [if_neg (by omega)]; simp [h2]
end Go.Proofs.Ytniiijadkclabaa.Wd
