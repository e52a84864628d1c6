/-
  Heaps, as mathematics.
-/
import Derived.Test.YtjmiifgofedcnaaKeep
namespace Go.Proofs.Ytjmiifgofedcnaa
open Go.RowKit Ag

namespace Ag
theorem bef_iff (e f : En) : bef e f = true ↔ e.tm < f.tm ∨ (e.tm = f.tm ∧ e.id < f.id) := by
  unfold bef ordV orV cmpV
  rw [decide_eq_true_eq]
  by_cases h1 : e.tm < f.tm
  · simp [h1]
  · by_cases h2 : f.tm < e.tm
    · simp [h1, h2]; omega
    · have e1 : e.tm = f.tm := by omega
      by_cases h3 : e.id < f.id
      · simp [e1, h3]
      · by_cases h4 : f.id < e.id <;> simp [e1, h3, h4]
/-- e may stand ahead of f. -/
def le (e f : En) : Prop := e.tm < f.tm ∨ (e.tm = f.tm ∧ e.id ≤ f.id)
theorem le_of (e f : En) (h : bef f e = false) : le e f := by
  have := mt (bef_iff f e).2 (by simp [h])
  unfold le
  omega
theorem le_of' (e f : En) (h : bef e f = true) : le e f := by
  have := (bef_iff e f).1 h
  unfold le
  omega
theorem le.trans {a b c : En} (h : le a b) (k : le b c) : le a c := by unfold le at *; omega
theorem le.refl (a : En) : le a a := by unfold le; omega

def par (k : Nat) : Nat := (k - 1) / 2
/-- A heap. -/
def Heap (h : Nat → En) (n : Nat) : Prop := ∀ k, 0 < k → k < n → le (h (par k)) (h k)
/-- A heap, but that p may belong higher. -/
structure UpTo (h : Nat → En) (n p : Nat) : Prop where
  ok : ∀ k, 0 < k → k < n → k ≠ p → le (h (par k)) (h k)
  up : ∀ k, 0 < k → k < n → par k = p → 0 < p → le (h (par p)) (h k)
/-- A heap, but that p may belong higher or lower. -/
structure Hole (h : Nat → En) (n p : Nat) : Prop where
  ok : ∀ k, 0 < k → k < n → k ≠ p → par k ≠ p → le (h (par k)) (h k)
  up : ∀ k, 0 < k → k < n → par k = p → 0 < p → le (h (par p)) (h k)
/-- A heap, but that p may belong lower. -/
structure Down (h : Nat → En) (n p : Nat) : Prop where
  ok : ∀ k, 0 < k → k < n → par k ≠ p → le (h (par k)) (h k)
  up : ∀ k, 0 < k → k < n → par k = p → 0 < p → le (h (par p)) (h k)
theorem Down.hole {h : Nat → En} {n p : Nat} (d : Down h n p) : Hole h n p := ⟨fun k a b _ c => d.ok k a b c, d.up⟩
theorem Heap.upTo {h : Nat → En} {n : Nat} (d : Heap h n) (p : Nat) : UpTo h n p := ⟨fun k a b _ => d k a b, fun k a b c e => by
  subst c
  exact (d (par k) e (by unfold par; omega)).trans (d k a b)⟩
theorem UpTo.top {h : Nat → En} {n : Nat} (d : UpTo h n 0) : Heap h n := fun k a b => d.ok k a b (by omega)
theorem UpTo.stop {h : Nat → En} {n p : Nat} (d : UpTo h n p) (hs : le (h (par p)) (h p)) : Heap h n := fun k a b => by
  by_cases e : k = p
  · subst e; exact hs
  · exact d.ok k a b e
theorem par_lt {k : Nat} (h : 0 < k) : par k < k := by unfold par; omega
theorem UpTo.step {h : Nat → En} {n p : Nat} (d : UpTo h n p) (h0 : 0 < p) (hp : p < n) (hs : le (h p) (h (par p))) : UpTo (swp h (par p) p) n (par p) := by
  have hpp := par_lt h0
  have at_ : ∀ k, k ≠ par p → k ≠ p → swp h (par p) p k = h k := fun k a b => by simp [swp, a, b]
  refine ⟨fun k a b c => ?_, fun k a b c e => ?_⟩
  · have hk := par_lt a
    by_cases e1 : k = p
    · subst e1
      rw [swp_at1, swp_at2]
      exact hs
    · rw [at_ k c e1]
      by_cases e2 : par k = p
      · rw [e2, swp_at2]
        exact d.up k a b e2 h0
      · by_cases e3 : par k = par p
        · rw [e3, swp_at1]
          exact hs.trans (e3 ▸ d.ok k a b e1)
        · rw [at_ _ e3 e2]
          exact d.ok k a b e1
  · have hk := par_lt a
    have hq := par_lt e
    rw [at_ (par (par p)) (by omega) (by omega)]
    have h1 := d.ok (par p) e (by omega) (by omega)
    by_cases e1 : k = p
    · subst e1
      rw [swp_at2]
      exact h1
    · rw [at_ k (by omega) e1]
      exact h1.trans (c ▸ d.ok k a b e1)
/-- The least of p's children is c. -/
def Least (h : Nat → En) (n p c : Nat) : Prop := par c = p ∧ 0 < c ∧ c < n ∧ ∀ k, 0 < k → k < n → par k = p → le (h c) (h k)
theorem Hole.step {h : Nat → En} {n p c : Nat} (d : Hole h n p) (hc : Least h n p c) (hs : le (h c) (h p)) : Down (swp h p c) n c := by
  obtain ⟨c1, c2, c3, c4⟩ := hc
  have hpc : p < c := c1 ▸ par_lt c2
  have at_ : ∀ k, k ≠ p → k ≠ c → swp h p c k = h k := fun k a b => by simp [swp, a, b]
  refine ⟨fun k a b e => ?_, fun k a b e f => ?_⟩
  · have hk := par_lt a
    by_cases e1 : par k = p
    · rw [e1, swp_at1]
      by_cases e2 : k = c
      · subst e2
        rw [swp_at2]
        exact hs
      · rw [at_ k (by omega) e2]
        exact c4 k a b e1
    · rw [at_ (par k) e1 e]
      by_cases e2 : k = p
      · subst e2
        rw [swp_at1]
        exact d.up c c2 c3 c1 a
      · by_cases e3 : k = c
        · subst e3; exact absurd c1 e1
        · rw [at_ k e2 e3]
          exact d.ok k a b e2 e1
  · have hk := par_lt a
    rw [c1, swp_at1, at_ k (by omega) (by omega)]
    exact e ▸ d.ok k a b (by omega) (by omega)
theorem Hole.stop {h : Nat → En} {n p : Nat} (d : Hole h n p) (hs : ∀ k, 0 < k → k < n → par k = p → le (h p) (h k)) : UpTo h n p := ⟨fun k a b c => by
  by_cases e : par k = p
  · exact e ▸ hs k a b e
  · exact d.ok k a b c e, d.up⟩
theorem Down.stop {h : Nat → En} {n p : Nat} (d : Down h n p) (hs : ∀ k, 0 < k → k < n → par k = p → le (h p) (h k)) : Heap h n := fun k a b => by
  by_cases e : par k = p
  · exact e ▸ hs k a b e
  · exact d.ok k a b e
/-- While p sinks, at k. -/
def SinkAt (h : Nat → En) (n p k : Nat) : Prop := (k = p ∧ Hole h n p) ∨ Down h n k
theorem SinkAt.hole {h : Nat → En} {n p k : Nat} (s : SinkAt h n p k) : Hole h n k := by
  rcases s with ⟨rfl, s⟩ | s
  · exact s
  · exact s.hole
theorem SinkAt.stop {h : Nat → En} {n p k : Nat} (s : SinkAt h n p k) (hs : ∀ j, 0 < j → j < n → par j = k → le (h k) (h j)) : UpTo h n p := by
  rcases s with ⟨rfl, s⟩ | s
  · exact s.stop hs
  · exact (s.stop hs).upTo p
theorem least_one {h : Nat → En} {n p b c : Nat} (hb : b = 2 * p + 1) (hc : c = b + 1) (hbn : b < n) (hcn : ¬ c < n) : Least h n p b := by
  refine ⟨by unfold par; omega, by omega, hbn, fun k a1 a2 a3 => ?_⟩
  have : k = b := by unfold par at a3; omega
  subst this
  exact le.refl _
theorem least_left {h : Nat → En} {n p b c : Nat} (hb : b = 2 * p + 1) (hc : c = b + 1) (hcn : c < n) (hl : bef (h c) (h b) = false) : Least h n p b := by
  refine ⟨by unfold par; omega, by omega, by omega, fun k a1 a2 a3 => ?_⟩
  have : k = b ∨ k = c := by unfold par at a3; omega
  rcases this with rfl | rfl
  · exact le.refl _
  · exact le_of _ _ hl
theorem least_right {h : Nat → En} {n p b c : Nat} (hb : b = 2 * p + 1) (hc : c = b + 1) (hcn : c < n) (hl : bef (h c) (h b) = true) : Least h n p c := by
  refine ⟨by unfold par; omega, by omega, hcn, fun k a1 a2 a3 => ?_⟩
  have : k = b ∨ k = c := by unfold par at a3; omega
  rcases this with rfl | rfl
  · exact le_of' _ _ hl
  · exact le.refl _
/-- The same ones, in whatever order. -/
def Same (h h' : Nat → En) (n : Nat) : Prop := ∀ e, (∃ k, k < n ∧ h k = e) ↔ ∃ k, k < n ∧ h' k = e
theorem Same.refl (h : Nat → En) (n : Nat) : Same h h n := fun _ => Iff.rfl
theorem Same.trans {h h' h'' : Nat → En} {n : Nat} (a : Same h h' n) (b : Same h' h'' n) : Same h h'' n := fun e => (a e).trans (b e)
theorem Same.swp (h : Nat → En) {n i j : Nat} (hi : i < n) (hj : j < n) : Same h (swp h i j) n := fun e => by
  constructor
  · rintro ⟨k, hk, rfl⟩
    by_cases e1 : k = i
    · exact ⟨j, hj, by rw [swp_at2, e1]⟩
    · by_cases e2 : k = j
      · exact ⟨i, hi, by rw [swp_at1, e2]⟩
      · exact ⟨k, hk, by simp [Ag.swp, e1, e2]⟩
  · rintro ⟨k, hk, rfl⟩
    unfold Ag.swp
    split
    · exact ⟨j, hj, rfl⟩
    · split
      · exact ⟨i, hi, rfl⟩
      · exact ⟨k, hk, rfl⟩
end Ag
/-- From w on: only the agenda's blocks may have turned, and it has the same ones. -/
structure Way (ts te : Nat) (w : World) (a m : Nat) (ao : Option Addr) (cap n : Nat) (h : Nat → En) (w' : World) (h' : Nat → En) : Prop where
  raw : Raw ts te w' a m ao cap n h'
  same : Same h h' n
  chg : Chg (Kag a m ao) w w'
section
variable {ts te : Nat} {w w1 w2 : World} {a m : Nat} {ao : Option Addr} {cap n : Nat} {h h1 h2 : Nat → En}
theorem Way.grew (r : Way ts te w a m ao cap n h w1 h1) (g : Grew w1 w2) : Way ts te w a m ao cap n h w2 h1 := ⟨r.raw.below g.below, r.same, r.chg.trans (Chg.of_below g.below (fun _ => False)) (fun _ _ h => h.elim)⟩
theorem Way.swap (r : Way ts te w a m ao cap n h w1 h1) {i j : Nat} (hi : i < n) (hj : j < n) (k : Raw ts te w2 a m ao cap n (swp h1 i j)) (c : Chg (Kag a m ao) w1 w2) : Way ts te w a m ao cap n h w2 (swp h1 i j) :=
  ⟨k, r.same.trans (Same.swp h1 hi hj), r.chg.trans c (fun _ _ h => h)⟩
theorem Way.trans (r : Way ts te w a m ao cap n h w1 h1) (k : Way ts te w1 a m ao cap n h1 w2 h2) : Way ts te w a m ao cap n h w2 h2 := ⟨k.raw, r.same.trans k.same, r.chg.trans k.chg (fun _ _ h => h)⟩
end
end Go.Proofs.Ytjmiifgofedcnaa
