/-
  THE CONTRACTS OF THE REFERENCE's CALLS (backfillref04).
-/
import Derived.Test.YtniiijadkclabaaRefB
import Derived.Test.YtniiijadkclabaaMathF
namespace Go.Proofs.Ytniiijadkclabaa
open Go.RowKit Wd

theorem rof_num (n : Int) (hn : Word n) (w : World) : Calls Try.prog 46 #[.int .u64 n] w fun e w' => e = .returned (.agg #[.int .u64 (hiW n), .int .u64 (loW n)]) ∧ Below w.heap.size w w' := by
  rw [(hi_small hn).1, (hi_small hn).2]
  go_enter Try.func46, Try.ntmps46
  go_wp2
  exact bodyPost_ret (v := .agg #[.int .u64 0, .int .u64 n]) (by simp [results, Try.results46, go_sem]) rfl ⟨rfl, (Below.refl _ _).alloc (Nat.le_refl _) _⟩
end Go.Proofs.Ytniiijadkclabaa
