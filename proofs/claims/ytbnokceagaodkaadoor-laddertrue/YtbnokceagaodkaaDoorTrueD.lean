/-
  THE STATEMENT LadderTrue, walked.
-/
import Derived.Test.YtbnokceagaodkaaDoorTrueC
namespace Go.Proofs.YtbnokceagaodkaaDoor
open Go.RowKit Wd Ld

namespace Ld
def nmM (n : Nat) : Nat := if n = 9223372036854775808 then n else n * 2
def nmP (n : Nat) : Nat := if n = 9223372036854775808 then 65 else 64
theorem nm_eq (n : Nat) : nmM n * 2 ^ nmP n = (n * 36893488147419103232) ^ 2 ^ 0 := by
  have e4 : (2 : Nat) ^ 64 = 18446744073709551616 := by rfl
  have e5 : (2 : Nat) ^ 65 = 36893488147419103232 := by rfl
  unfold nmM nmP
  rw [Nat.pow_zero, Nat.pow_one]
  split
  · rw [e5]
  · rw [e4]; omega
theorem nm_range {n : Nat} (h0 : 4611686018427387904 ≤ n) (h1 : n ≤ 9223372036854775808) : 9223372036854775808 ≤ nmM n ∧ nmM n < 18446744073709551616 ∧ nmP n ≤ 65 ∧ 64 ≤ nmP n := by
  unfold nmM nmP; split <;> omega
end Ld
theorem normal_any (n : Nat) (h0 : 4611686018427387904 ≤ n) (h1 : n ≤ 9223372036854775808) (w : World) :
    Calls Tryd.prog 16 #[.int .u64 (n : Int)] w fun r w' => r = .returned (.agg #[.int .u64 (nmM n : Nat), .int .i64 ((nmP n : Nat) - 128)]) ∧ Below w.heap.size w w' := by
  unfold nmM nmP
  by_cases h : n = 9223372036854775808
  · rw [if_pos h, if_pos h]
    exact normal_0 n (by omega) (by omega) w
  · rw [if_neg h, if_neg h, Int.natCast_mul]
    exact normal_1 n (by omega) (by omega) w

/-- The two floats as they lie, apart from each other and from what was there. -/
structure Fl (w0 w : World) (A B : Nat) (ma xa mb xb : Int) : Prop where
  ne : A ≠ B
  nb : B ≠ A
  a0 : w.cell? ⟨A, 0, none⟩ = some (.int .u64 ma)
  a1 : w.cell? ⟨A, 1, none⟩ = some (.int .i64 xa)
  b0 : w.cell? ⟨B, 0, none⟩ = some (.int .u64 mb)
  b1 : w.cell? ⟨B, 1, none⟩ = some (.int .i64 xb)
  fa0 : w.frozen? ⟨A, 0, none⟩ = false
  fa1 : w.frozen? ⟨A, 1, none⟩ = false
  fb0 : w.frozen? ⟨B, 0, none⟩ = false
  fb1 : w.frozen? ⟨B, 1, none⟩ = false
  low : w0.heap.size ≤ A
  lowb : w0.heap.size ≤ B
  old : Below w0.heap.size w0 w
  size : w0.heap.size ≤ w.heap.size
theorem Fl.below {w0 w w' : World} {A B : Nat} {ma xa mb xb : Int} (h : Fl w0 w A B ma xa mb xb) (hb : Below w.heap.size w w') : Fl w0 w' A B ma xa mb xb :=
  ⟨h.ne, h.nb, keepC hb h.a0, keepC hb h.a1, keepC hb h.b0, keepC hb h.b1, keepF hb h.a0 h.fa0, keepF hb h.a1 h.fa1, keepF hb h.b0 h.fb0, keepF hb h.b1 h.fb1, h.low, h.lowb, h.old.trans (hb.mono h.size), Nat.le_trans h.size hb.size⟩
abbrev setF (w : World) (A : Nat) (m x : Int) : World := (w.setCell ⟨A, 0, none⟩ (.int .u64 m)).setCell ⟨A, 1, none⟩ (.int .i64 x)
theorem Fl.setA {w0 w : World} {A B : Nat} {ma xa mb xb : Int} (h : Fl w0 w A B ma xa mb xb) (m x : Int) : Fl w0 (setF w A m x) A B m x mb xb := by
  obtain ⟨ne, nb, a0, a1, b0, b1, fa0, fa1, fb0, fb1, lo, lob, old, sz⟩ := h
  have hA := World.block_lt_of_cell? w _ a0
  refine ⟨ne, nb, ?_, ?_, ?_, ?_, ?_, ?_, ?_, ?_, lo, lob, (old.setCell lo _).setCell lo _, by simpa using sz⟩ <;> simp [go_sem, *]
theorem Fl.setB {w0 w : World} {A B : Nat} {ma xa mb xb : Int} (h : Fl w0 w A B ma xa mb xb) (m x : Int) : Fl w0 (setF w B m x) A B ma xa m x := by
  obtain ⟨ne, nb, a0, a1, b0, b1, fa0, fa1, fb0, fb1, lo, lob, old, sz⟩ := h
  refine ⟨ne, nb, ?_, ?_, ?_, ?_, ?_, ?_, ?_, ?_, lo, lob, (old.setCell lob _).setCell lob _, by simpa using sz⟩ <;> simp [go_sem, *]
end Go.Proofs.YtbnokceagaodkaaDoor
