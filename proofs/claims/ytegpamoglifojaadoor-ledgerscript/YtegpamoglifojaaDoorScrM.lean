/-
  THE STATEMENT LedgerScript: every config, every usages, every script.
-/
import Derived.Test.YtegpamoglifojaaDoorScrL
namespace Go.Proofs.YtegpamoglifojaaDoor
open Go.RowKit Wd Ld Cg Lg

theorem script_any {w : World} (hT : Tab w) {uo ao so : Option Addr} {us : List Int} {xs : List Ax} {ss : List Int} {cu ca cs : Nat} (hU : WdsAt w uo us) (hUw : Wds us) (hun : uo = none → us.length = 0 ∧ cu = 0) (hul : us.length * 8 ≤ 140737488351232) (hX : AxsAt w ao xs) (hxl : xs.length * 32 ≤ 140737488351232) (hSS : IntsAt w so ss) (hsl : ss.length * 8 ≤ 140737488351232) (c : Cf) :
    Calls Tryd.prog 3 #[cfV c, .slice uo us.length cu, .slice ao xs.length ca, .slice so ss.length cs] w fun e w' => e = .returned (.bool true) ∧ Below w.heap.size w w' := by
  by_cases hc : chkZ c = 0
  · by_cases h64 : us.length ≤ 64
    · exact script_ok hT hU hUw hun hX hxl hSS (by omega) c hc h64
    · exact script_refused hT hU hun hul c (fun ao cp w => new_many hc (by omega) ao cp w) (fun ao cp w => rnew_many hc (by omega) ao cp w)
  · exact script_refused hT hU hun hul c (fun ao cp w => new_bad hc ao us.length cp w) (fun ao cp w => rnew_bad hc ao us.length cp w)
end Go.Proofs.YtegpamoglifojaaDoor
