/-
  THE CONTRACTS OF THE REFERENCE's FUNCTIONS: Mul.
  THE CONTRACTS OF THE REFERENCE's CALLS (backfillref04).
  THE CONTRACTS OF THE REFERENCE's FUNCTIONS: Shl, Shr.
-/
import Derived.Test.YtbcinapnnlfnbaaWid
import Derived.Test.YtbcinapnnlfnbaaMth
namespace Go.Proofs.Ytbcinapnnlfnbaa
open Go.RowKit Wd

end Go.Proofs.Ytbcinapnnlfnbaa
namespace Go.Proofs.Ytbcinapnnlfnbaa
open Go.RowKit Wd

end Go.Proofs.Ytbcinapnnlfnbaa
namespace Go.Proofs.Ytbcinapnnlfnbaa
open Go.RowKit Wd
namespace Wd
theorem shl_128 (ah al n : Int) (hn : 128 ≤ n) : 0 = hiW (shlV (val ah al) n) ∧ 0 = loW (shlV (val ah al) n) := by
  obtain ⟨e1, e2⟩ := shl_great ah al n (by omega)
  refine ⟨?_, e2⟩
  rw [← e1, ← min_great, Nat.min_eq_right (by omega), IntKind.wrap_u64]
  omega
theorem shr_128 (ah al n : Int) (h1 : Word ah) (h2 : Word al) (hn : 128 ≤ n) : 0 = hiW (shrV (val ah al) n) ∧ 0 = loW (shrV (val ah al) n) := by
  obtain ⟨e1, e2⟩ := shr_great ah al n h1 h2 (by omega)
  refine ⟨e2, ?_⟩
  rw [← e1, ← min_great_r ah n h1, Nat.min_eq_right (by omega)]
  obtain ⟨_, _⟩ := h1
  omega
end Wd

end Go.Proofs.Ytbcinapnnlfnbaa
