/-
  THE CONTRACTS OF THE REFERENCE's FUNCTIONS (backfillref01) and of the statements' own two turners: Mul, Cmp, Add, Sub, Shl, Shr.
-/
import Derived.Test.YtbcinapnnlfnbaaWid
import Derived.Test.YtbcinapnnlfnbaaMth
namespace Go.Proofs.Ytbcinapnnlfnbaa
open Go.RowKit Wd

namespace Wd
theorem add1 {ah al bh bl : Int} (h1 : Word ah) (h2 : Word al) (h3 : Word bh) (h4 : Word bl) (c : al + bl < 18446744073709551616) (h : ah + bh < 18446744073709551616) :
    ah + bh = hiW (addV (val ah al) (val bh bl)) ∧ al + bl = loW (addV (val ah al) (val bh bl)) ∧ addB (val ah al) (val bh bl) = true := by
  obtain ⟨e1, e2, e3⟩ := add_yes h1 h2 h3 h4 (by obtain ⟨_, _⟩ := h2; obtain ⟨_, _⟩ := h4; omega)
  obtain ⟨_, _⟩ := h1; obtain ⟨_, _⟩ := h2; obtain ⟨_, _⟩ := h3; obtain ⟨_, _⟩ := h4
  exact ⟨by rw [← e1]; omega, by rw [← e2]; omega, e3⟩
theorem add2 {ah al bh bl : Int} (h1 : Word ah) (h2 : Word al) (h3 : Word bh) (h4 : Word bl) (c : 18446744073709551616 ≤ al + bl) (h : ah + bh + 1 < 18446744073709551616) :
    ah + bh + 1 = hiW (addV (val ah al) (val bh bl)) ∧ IntKind.u64.wrap (al + bl) = loW (addV (val ah al) (val bh bl)) ∧ addB (val ah al) (val bh bl) = true := by
  obtain ⟨e1, e2, e3⟩ := add_yes h1 h2 h3 h4 (by obtain ⟨_, _⟩ := h2; obtain ⟨_, _⟩ := h4; omega)
  obtain ⟨_, _⟩ := h1; obtain ⟨_, _⟩ := h2; obtain ⟨_, _⟩ := h3; obtain ⟨_, _⟩ := h4
  exact ⟨by rw [← e1]; omega, by rw [← e2, IntKind.wrap_u64], e3⟩
theorem wrap_lt1 (a b : Int) (h1 : Word a) (h2 : Word b) (h : 18446744073709551616 ≤ a + b) : IntKind.u64.wrap (a + b) < a := by
  obtain ⟨_, _⟩ := h1; obtain ⟨_, _⟩ := h2; rw [IntKind.wrap_u64]; omega
end Wd

end Go.Proofs.Ytbcinapnnlfnbaa
