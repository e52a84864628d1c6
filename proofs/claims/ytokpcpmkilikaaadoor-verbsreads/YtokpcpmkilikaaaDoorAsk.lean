/-
  Package verbs answers as the statements ask.
-/
import Derived.Test.YtokpcpmkilikaaaDoorLwA
import Derived.Test.YtokpcpmkilikaaaDoorPgF
import Derived.Test.YtokpcpmkilikaaaDoorPgG
namespace Go.Proofs.YtokpcpmkilikaaaDoor
open Go.RowKit Vb

theorem asks : Asks Tab where
  keep b h := h.below b
  parse := pparse_any
  valid s w _ := (pvalid_any s w).mono fun _ _ ⟨he, hw⟩ => ⟨he, hw ▸ Below.refl _ _⟩
  print c hF w hT := pprint_any c hF w hT
  check := pcheck_any
end Go.Proofs.YtokpcpmkilikaaaDoor
