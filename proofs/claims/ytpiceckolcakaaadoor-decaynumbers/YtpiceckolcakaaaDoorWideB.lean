/-
  THE CONTRACTS OF PACKAGE wide: Sub, Cmp, Times.
-/
import Derived.Test.YtpiceckolcakaaaDoorWide
namespace Go.Proofs.YtpiceckolcakaaaDoor
open Go.RowKit Wd

namespace Wd
theorem bor_01 (x y : Int) : 0 ≤ bor x y ∧ bor x y ≤ 1 := by unfold bor; split <;> omega
theorem cmp_hi {ah al bh bl : Int} (h2 : Word al) (h4 : Word bl) (h : ah ≠ bh) : cmpV ah bh = cmpV (val ah al) (val bh bl) := by
  obtain ⟨_, _⟩ := h2; obtain ⟨_, _⟩ := h4
  unfold cmpV val; split <;> split <;> (try split) <;> (try split) <;> omega
theorem cmp_lo {ah al bl : Int} : cmpV al bl = cmpV (val ah al) (val ah bl) := by
  unfold cmpV val; split <;> split <;> (try split) <;> (try split) <;> omega
end Wd

end Go.Proofs.YtpiceckolcakaaaDoor
