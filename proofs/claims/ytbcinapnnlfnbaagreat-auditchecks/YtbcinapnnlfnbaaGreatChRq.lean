/-
  THE STATEMENT AuditChecks, of the landed code.
-/
import Derived.Test.YtbcinapnnlfnbaaGreatChPq
import Derived.Test.YtbcinapnnlfnbaaGreatAdHq
namespace Go.Proofs.YtbcinapnnlfnbaaGreat
theorem checks_holds : Rows.AuditChecksSaid := checks_row check_any
#print axioms checks_holds
end Go.Proofs.YtbcinapnnlfnbaaGreat
