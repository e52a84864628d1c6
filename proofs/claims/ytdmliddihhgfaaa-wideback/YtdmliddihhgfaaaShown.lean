/-
  THE STATEMENTS' HEAD: shown: some of the document's examples.
-/
import Derived.Test.YtdmliddihhgfaaaWideC
import Derived.Test.YtdmliddihhgfaaaWideD
import Derived.Test.YtdmliddihhgfaaaWideS
import Derived.Test.YtdmliddihhgfaaaWideR
namespace Go.Proofs.Ytdmliddihhgfaaa
open Go.RowKit Wd

namespace Wd
theorem word_lit {n : Int} (h : 0 ≤ n ∧ n < 18446744073709551616) : Word n := h
theorem ex_div : hiW (divV (val 1 0) 3) = 0 ∧ loW (divV (val 1 0) 3) = 6148914691236517205 ∧ remV (val 1 0) 3 = 1 ∧ divB 3 = true := by decide +kernel
theorem ex_add : hiW (addV (val 0 18446744073709551615) (val 0 1)) = 1 ∧ loW (addV (val 0 18446744073709551615) (val 0 1)) = 0 ∧ addB (val 0 18446744073709551615) (val 0 1) = true := by decide +kernel
theorem ex_mul : hiW (18446744073709551615 * 18446744073709551615) = 18446744073709551614 ∧ loW (18446744073709551615 * 18446744073709551615) = 1 := by decide +kernel
theorem ex_sqrt : sqrtV (val 0 16) = 4 := by decide +kernel
theorem ex_shl : hiW (shlV (val 0 1) 64) = 1 ∧ loW (shlV (val 0 1) 64) = 0 := by decide +kernel
end Wd
theorem div_ex (w : World) : Calls Try.prog 20 #[.agg #[.int .u64 1, .int .u64 0], .int .u64 3] w fun e w' => e = .returned (.tuple #[.agg #[.int .u64 0, .int .u64 6148914691236517205], .int .u64 1, .bool true]) ∧ Below w.heap.size w w' := by
  have c := div_any 1 0 3 (word_lit (by omega)) (word_lit (by omega)) (word_lit (by omega)) w
  rw [ex_div.1, ex_div.2.1, ex_div.2.2.1, ex_div.2.2.2] at c
  exact c
theorem add_ex (w : World) : Calls Try.prog 7 #[.agg #[.int .u64 0, .int .u64 18446744073709551615], .agg #[.int .u64 0, .int .u64 1]] w fun e w' => e = .returned (.tuple #[.agg #[.int .u64 1, .int .u64 0], .bool true]) ∧ Below w.heap.size w w' := by
  have c := add_any 0 18446744073709551615 0 1 (word_lit (by omega)) (word_lit (by omega)) (word_lit (by omega)) (word_lit (by omega)) w
  rw [ex_add.1, ex_add.2.1, ex_add.2.2] at c
  exact c
theorem mul_ex (w : World) : Calls Try.prog 18 #[.int .u64 18446744073709551615, .int .u64 18446744073709551615] w fun e w' => e = .returned (.agg #[.int .u64 18446744073709551614, .int .u64 1]) ∧ Below w.heap.size w w' := by
  have c := mul_any 18446744073709551615 18446744073709551615 (word_lit (by omega)) (word_lit (by omega)) w
  rw [ex_mul.1, ex_mul.2] at c
  exact c
theorem sqrt_ex (w : World) : Calls Try.prog 26 #[.agg #[.int .u64 0, .int .u64 16]] w fun e w' => e = .returned (.int .u64 4) ∧ Below w.heap.size w w' := by
  have c := sqrt_any 0 16 (word_lit (by omega)) w
  rw [ex_sqrt] at c
  exact c
theorem shl_ex (w : World) : Calls Try.prog 22 #[.agg #[.int .u64 0, .int .u64 1], .int .i64 64] w fun e w' => e = .returned (.agg #[.int .u64 1, .int .u64 0]) ∧ Below w.heap.size w w' := by
  have c := shl_any 0 1 64 (word_lit (by omega)) (word_lit (by omega)) (by omega) w
  rw [ex_shl.1, ex_shl.2] at c
  exact c

set_option maxHeartbeats 1000000 in
theorem shown_any (w : World) : Calls Try.prog 6 #[] w fun e w' => e = .returned (.bool true) ∧ Below w.heap.size w w' := by
  go_enter Try.func6, Try.ntmps6
  go_wp2_with fail
  refine (div_ex _).mono ?_
  rintro e w1 ⟨rfl, hb1⟩
  go_wp2_with fail
  refine (add_ex _).mono ?_
  rintro e w2 ⟨rfl, hb2⟩
  have c0 : w2.cell? ⟨w1.heap.size, 0, none⟩ = some (.int .u64 0) := keepC hb2 (by simp [go_sem])
  have c1 : w2.cell? ⟨w1.heap.size, 1, none⟩ = some (.int .u64 6148914691236517205) := keepC hb2 (by simp [go_sem])
  go_wp2_with fail
  refine (mul_ex _).mono ?_
  rintro e w3 ⟨rfl, hb3⟩
  have d0 := keepC hb3 (allocC _ c0)
  have d1 := keepC hb3 (allocC _ c1)
  have d2 : w3.cell? ⟨w2.heap.size, 0, none⟩ = some (.int .u64 1) := keepC hb3 (by simp [go_sem])
  have d3 : w3.cell? ⟨w2.heap.size, 1, none⟩ = some (.int .u64 0) := keepC hb3 (by simp [go_sem])
  clear c0 c1
  go_wp2_with fail
  refine (sqrt_ex _).mono ?_
  rintro e w4 ⟨rfl, hb4⟩
  go_wp2_with fail
  refine (shl_ex _).mono ?_
  rintro e w5 ⟨rfl, hb5⟩
  go_wp2
  go_ret
  have z1 := hb1.size
  have z2 := hb2.size
  have z3 := hb3.size
  have z4 := hb4.size
  simp at z2 z3
  exact ⟨rfl, ((((hb1.alloc (by omega) _).trans (hb2.mono (by simp; omega))).alloc (by omega) _).trans (hb3.mono (by simp; omega))).trans (hb4.mono (by omega)) |>.trans (hb5.mono (by omega))⟩
end Go.Proofs.Ytdmliddihhgfaaa
