/-
  THE STATEMENT AuditLess, of the landed code.
-/
import Derived.Test.YtbcinapnnlfnbaaLePq
import Derived.Test.YtbcinapnnlfnbaaAdHq
namespace Go.Proofs.Ytbcinapnnlfnbaa
theorem less_holds : Rows.AuditLessSaid := less_row check_any
#print axioms less_holds
end Go.Proofs.Ytbcinapnnlfnbaa
