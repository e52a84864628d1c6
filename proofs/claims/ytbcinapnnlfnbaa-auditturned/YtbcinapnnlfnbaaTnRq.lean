/-
  THE STATEMENT AuditTurned, of the landed code.
-/
import Derived.Test.YtbcinapnnlfnbaaTnPq
import Derived.Test.YtbcinapnnlfnbaaAdHq
namespace Go.Proofs.Ytbcinapnnlfnbaa
theorem turns_holds : Rows.AuditTurnedSaid := turns_row check_any
#print axioms turns_holds
end Go.Proofs.Ytbcinapnnlfnbaa
