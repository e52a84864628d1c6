/-
  LAYER 10: package decay does what the statements ask.
-/
import Derived.Test.YtpiceckolcakaaaDoorDcQ
namespace Go.Proofs.YtpiceckolcakaaaDoor
open Go.RowKit Wd Ld

theorem asks : Asks where
  bad := fun _ _ hb w _ => factor_bad hb w
  good := fun _ _ hb w hT => factor_good hb w hT
  charge := fun hu hn w _ => charge_any hu hn.2 w
  fade := fun hu hf w _ => fade_any hu hf w
  fades := fun hu hf _ w _ => fades_any hu hf w
end Go.Proofs.YtpiceckolcakaaaDoor
