/-
  THE CONTRACTS OF THE REFERENCE's FUNCTIONS: Times.
-/
import Derived.Test.YtbcinapnnlfnbaaRefA
import Derived.Test.YtbcinapnnlfnbaaRfW
import Derived.Test.YtbcinapnnlfnbaaWid
namespace Go.Proofs.Ytbcinapnnlfnbaa
open Go.RowKit Wd

namespace Wd
theorem add_comm' (a b : Int) : addV a b = addV b a ∧ addB a b = addB b a := by unfold addV addB; rw [Int.add_comm]; exact ⟨rfl, rfl⟩
end Wd

end Go.Proofs.Ytbcinapnnlfnbaa
