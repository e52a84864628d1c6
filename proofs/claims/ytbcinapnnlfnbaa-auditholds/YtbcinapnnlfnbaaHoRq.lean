/-
  THE STATEMENT AuditHolds, of the landed code.
-/
import Derived.Test.YtbcinapnnlfnbaaHoPq
import Derived.Test.YtbcinapnnlfnbaaAdHq
namespace Go.Proofs.Ytbcinapnnlfnbaa
theorem holds_holds : Rows.AuditHoldsSaid := holds_row check_any
#print axioms holds_holds
end Go.Proofs.Ytbcinapnnlfnbaa
