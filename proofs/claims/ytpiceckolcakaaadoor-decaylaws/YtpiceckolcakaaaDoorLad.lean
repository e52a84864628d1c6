/-
  THE CONTRACTS OF PACKAGE ladder: Rung.
-/
import Derived.Test.YtpiceckolcakaaaDoorWide
import Derived.Test.YtpiceckolcakaaaDoorLadN
import Derived.WalkMore
import Derived.Deep.LoopGhost
namespace Go.Proofs.YtpiceckolcakaaaDoor
open Go.RowKit Wd Ld

/-- What the table of Rungs holds. -/
def Tab (w : World) : Prop := ∀ j, j < 32 → w.cell? ⟨0, j, none⟩ = some (.int .u64 (R j : Nat))
theorem Tab.below {w w' : World} (h : Below w.heap.size w w') (hT : Tab w) : Tab w' := fun j hj => keepC h (hT j hj)
theorem Tab.alloc {w : World} (o : Obj) (hT : Tab w) : Tab (w.alloc o) := fun j hj => allocC o (hT j hj)
def rungV (i : Int) : Int := if i < 1 ∨ 32 < i then 0 else (R (i - 1).toNat : Nat)

end Go.Proofs.YtpiceckolcakaaaDoor
