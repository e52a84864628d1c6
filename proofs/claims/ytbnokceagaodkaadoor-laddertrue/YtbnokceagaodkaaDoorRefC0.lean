/-
  THE CONTRACTS OF PACKAGE wide: Sub, Cmp, Times.
-/
import Derived.Test.YtbnokceagaodkaaDoorWide
namespace Go.Proofs.YtbnokceagaodkaaDoor
open Go.RowKit Wd

namespace Wd
theorem cmp_hi {ah al bh bl : Int} (h2 : Word al) (h4 : Word bl) (h : ah ≠ bh) : cmpV ah bh = cmpV (val ah al) (val bh bl) := by
  obtain ⟨_, _⟩ := h2; obtain ⟨_, _⟩ := h4
  unfold cmpV val; split <;> split <;> (try split) <;> (try split) <;> omega
theorem cmp_lo {ah al bl : Int} : cmpV al bl = cmpV (val ah al) (val ah bl) := by
  unfold cmpV val; split <;> split <;> (try split) <;> (try split) <;> omega
end Wd

end Go.Proofs.YtbnokceagaodkaaDoor
