/-
  THE STATEMENT LadderTrue: its floats: normal, squared.
-/
import Derived.Test.YtbnokceagaodkaaDoorShown
import Derived.Test.YtbnokceagaodkaaDoorLadF
import Derived.Test.YtbnokceagaodkaaDoorRefB
import Derived.Test.YtbnokceagaodkaaDoorRefS
import Derived.Deep.CutBlock
import Derived.Deep.DeepCutAuto
namespace Go.Proofs.YtbnokceagaodkaaDoor
open Go.RowKit Wd Ld

abbrev zeroF (w : World) : World := w.alloc (.cells #[.int .u64 0, .int .i64 0] 37)
set_option maxHeartbeats 2000000 in
/-- A fraction whose highest bit is set. -/
theorem normal_0 (n : Int) (h0 : 9223372036854775808 ≤ n) (h1 : n < 18446744073709551616) (w : World) :
    Calls Tryd.prog 16 #[.int .u64 n] w fun r w' => r = .returned (.agg #[.int .u64 n, .int .i64 (-63)]) ∧ Below w.heap.size w w' := by
  have ht : (n / 9223372036854775808 == 0) = false := by rw [beq_eq_false_iff_ne]; omega
  go_enter Tryd.func16, Tryd.ntmps16
  go_wp2
  go_loopw [0, 3, 4] (fun m x i wr => i = .int .i64 0 ∧ x = .int .i64 (-63) ∧ m = .int .u64 n ∧ wr = zeroF w) (fun _ _ i _ => 64 - (intOf i).toNat)
  case atStart => exact ⟨rfl, rfl, rfl, rfl⟩
  case round =>
    obtain ⟨rfl, rfl, rfl, rfl⟩ := hrel
    go_wp2
    exact bodyPost_ret (v := .agg #[.int .u64 n, .int .i64 (-63)]) (by simp [results, Tryd.results16, go_sem]) rfl ⟨rfl, (Below.refl _ _).alloc (Nat.le_refl _) _⟩
set_option maxHeartbeats 2000000 in
/-- A fraction whose second bit is set, the highest one not. -/
theorem normal_1 (n : Int) (h0 : 4611686018427387904 ≤ n) (h1 : n < 9223372036854775808) (w : World) :
    Calls Tryd.prog 16 #[.int .u64 n] w fun r w' => r = .returned (.agg #[.int .u64 (n * 2), .int .i64 (-64)]) ∧ Below w.heap.size w w' := by
  go_enter Tryd.func16, Tryd.ntmps16
  go_wp2
  go_loopw [0, 3, 4] (fun m x i wr => ((i = .int .i64 0 ∧ x = .int .i64 (-63) ∧ m = .int .u64 n) ∨ (i = .int .i64 1 ∧ x = .int .i64 (-64) ∧ m = .int .u64 (n * 2))) ∧ wr = zeroF w) (fun _ _ i _ => 64 - (intOf i).toNat)
  case atStart => exact ⟨.inl ⟨rfl, rfl, rfl⟩, rfl⟩
  case round =>
    obtain ⟨⟨rfl, rfl, rfl⟩ | ⟨rfl, rfl, rfl⟩, rfl⟩ := hrel
    · have ht : (n / 9223372036854775808 == 0) = true := by rw [beq_iff_eq]; omega
      go_wp2
      go_roundw
      case rel => exact ⟨.inr ⟨rfl, rfl, by go_num⟩, trivial⟩
      case measure => simp [intOf]
    · have ht : (n * 2 / 9223372036854775808 == 0) = false := by rw [beq_eq_false_iff_ne]; omega
      go_wp2
      exact bodyPost_ret (v := .agg #[.int .u64 (n * 2), .int .i64 (-64)]) (by simp [results, Tryd.results16, go_sem]) rfl ⟨rfl, (Below.refl _ _).alloc (Nat.le_refl _) _⟩
end Go.Proofs.YtbnokceagaodkaaDoor
