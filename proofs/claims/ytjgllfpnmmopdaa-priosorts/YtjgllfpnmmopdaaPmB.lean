/-
  The priority: as a number, and what follows of it.
-/
import Derived.Test.YtjgllfpnmmopdaaCfE
namespace Go.Proofs.Ytjgllfpnmmopdaa.Cg

/-- What the factor adds. -/
def partF (a f : Int) : Int := a * f / 9223372036854775808
def prioF (c : Cf) (now sub nodes f : Int) : Int := c.age * (now - sub) + partF c.fair f + c.size * nodes
structure Wts (c : Cf) (now sub nodes : Int) : Prop where
  w0 : 0 ≤ sub
  w1 : sub ≤ now
  w2 : now ≤ 1099511627776
  w3 : 1 ≤ nodes
  w4 : nodes ≤ c.nodes
instance (c : Cf) (now sub nodes : Int) : Decidable (Wts c now sub nodes) := decidable_of_iff (0 ≤ sub ∧ sub ≤ now ∧ now ≤ 1099511627776 ∧ 1 ≤ nodes ∧ nodes ≤ c.nodes) ⟨fun h => ⟨h.1, h.2.1, h.2.2.1, h.2.2.2.1, h.2.2.2.2⟩, fun h => ⟨h.w0, h.w1, h.w2, h.w3, h.w4⟩⟩
noncomputable def prioV (c : Cf) (now sub nodes f : Int) : Int := if chkZ c = 0 ∧ Wts c now sub nodes ∧ f ≤ 9223372036854775808 then prioF c now sub nodes f else 0
theorem prioV_yes {c : Cf} {now sub nodes f : Int} (h1 : chkZ c = 0) (h2 : Wts c now sub nodes) (h3 : f ≤ 9223372036854775808) : prioV c now sub nodes f = prioF c now sub nodes f := if_pos ⟨h1, h2, h3⟩
theorem chk_rng {c : Cf} (h : chkZ c = 0) : Rng c := by
  unfold chkZ at h
  by_cases hr : Rng c
  · exact hr
  · rw [if_pos hr] at h; omega
theorem part_box {a f : Int} (a0 : 0 ≤ a) (f0 : 0 ≤ f) (f1 : f ≤ 9223372036854775808) : 0 ≤ partF a f ∧ partF a f ≤ a := by
  unfold partF
  have h1 := mul_box a0 f0 (Int.le_refl a) f1
  omega
theorem part_mono {a f g : Int} (a0 : 0 ≤ a) (h : f ≤ g) : partF a f ≤ partF a g := by
  unfold partF
  have h1 := Int.mul_le_mul_of_nonneg_left h a0
  omega
theorem prio_box {c : Cf} {now sub nodes f : Int} (r : Rng c) (h : Wts c now sub nodes) (f0 : 0 ≤ f) (f1 : f ≤ 9223372036854775808) :
    (0 ≤ now - sub ∧ now - sub ≤ 1099511627776) ∧ (0 ≤ c.age * (now - sub) ∧ c.age * (now - sub) ≤ 1152921504606846976) ∧ (0 ≤ partF c.fair f ∧ partF c.fair f ≤ 1048576) ∧ (0 ≤ c.size * nodes ∧ c.size * nodes ≤ 268435456) := by
  have := r.a0; have := r.a1; have := r.f0; have := r.f1; have := r.s0; have := r.s1; have := r.n1
  have := h.w0; have := h.w1; have := h.w2; have := h.w3; have := h.w4
  have h1 := mul_box (a := c.age) (b := now - sub) (A := 1048576) (B := 1099511627776) (by omega) (by omega) (by omega) (by omega)
  have h2 := mul_box (a := c.size) (b := nodes) (A := 1048576) (B := 256) (by omega) (by omega) (by omega) (by omega)
  have h3 := part_box (a := c.fair) (by omega) f0 f1
  omega
/-- The reference's way to the same part. -/
theorem part_halves {a f : Int} : (a * (f / 4294967296) + a * (f % 4294967296) / 4294967296) / 2147483648 = partF a f := by
  unfold partF
  have h1 : a * f = a * (f / 4294967296) * 4294967296 + a * (f % 4294967296) := by
    have h2 := Int.mul_ediv_add_emod f 4294967296
    calc a * f = a * (4294967296 * (f / 4294967296) + f % 4294967296) := by rw [h2]
      _ = a * (f / 4294967296) * 4294967296 + a * (f % 4294967296) := by rw [Int.mul_add]; congr 1; rw [Int.mul_comm 4294967296, ← Int.mul_assoc]
  rw [h1]
  generalize a * (f / 4294967296) = X
  generalize a * (f % 4294967296) = Y
  omega
theorem half_words {a f : Int} (a0 : 0 ≤ a) (a1 : a ≤ 1048576) (f0 : 0 ≤ f) (f1 : f ≤ 9223372036854775808) :
    (0 ≤ a * (f / 4294967296) ∧ a * (f / 4294967296) ≤ 2251799813685248) ∧ (0 ≤ a * (f % 4294967296) ∧ a * (f % 4294967296) ≤ 4503599627370496) := by
  have h1 := mul_box (a := a) (b := f / 4294967296) (A := 1048576) (B := 2147483648) a0 (by omega) a1 (by omega)
  have h2 := mul_box (a := a) (b := f % 4294967296) (A := 1048576) (B := 4294967296) a0 (by omega) a1 (by omega)
  omega

/-- Whoever came more than Lead ahead is ahead. -/
theorem prio_lead {c : Cf} {now elder later n1 n2 low high : Int} (r : Rng c) (h1 : Wts c now elder n1) (h2 : Wts c now later n2) (l0 : 0 ≤ low) (hl : low ≤ high) (hh : high ≤ 9223372036854775808)
    (h : leadZ c < later - elder) : prioF c now later n2 high < prioF c now elder n1 low := by
  have b1 := prio_box r h1 l0 (by omega)
  have hs : c.size * n2 ≤ c.size * c.nodes := Int.mul_le_mul_of_nonneg_left h2.w4 r.s0
  have hp := part_box (a := c.fair) r.f0 (by omega : (0:Int) ≤ high) hh
  have ha := r.a0
  have e1 : aheadZ c < c.age * (leadZ c + 1) := by
    unfold leadZ
    have h3 := Int.lt_mul_ediv_self_add (x := aheadZ c) (k := c.age) (by omega)
    rw [Int.mul_add, Int.mul_one]; exact h3
  have e2 : c.age * (leadZ c + 1) ≤ c.age * (later - elder) := Int.mul_le_mul_of_nonneg_left (by omega) (by omega)
  have e3 : c.age * (now - elder) = c.age * (now - later) + c.age * (later - elder) := by rw [← Int.mul_add]; congr 1; omega
  unfold prioF
  unfold aheadZ at e1
  omega
theorem prio_factor {c : Cf} {now sub n low high : Int} (r : Rng c) (hl : low ≤ high) : prioF c now sub n low ≤ prioF c now sub n high := by
  have := part_mono (a := c.fair) r.f0 hl
  unfold prioF; omega
theorem prio_clock {c : Cf} {now sub n f : Int} (r : Rng c) : prioF c now sub n f < prioF c (now + 1) sub n f := by
  have ha := r.a0
  have e : c.age * (now + 1 - sub) = c.age * (now - sub) + c.age := by
    rw [show now + 1 - sub = (now - sub) + 1 by omega, Int.mul_add, Int.mul_one]
  unfold prioF; omega
end Go.Proofs.Ytjgllfpnmmopdaa.Cg
