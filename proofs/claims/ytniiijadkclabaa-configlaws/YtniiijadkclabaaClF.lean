/-
  LAYER 11: ConfigLaws walked.
-/
import Derived.Test.YtniiijadkclabaaClE
namespace Go.Proofs.Ytniiijadkclabaa
open Go.RowKit Wd Cg

theorem laws_walk (A : Asks) {c : Cf} (hf : FitC c) (w : World) : Calls Try.prog 4 #[cfV c] w fun e w' => e = .returned (.bool true) ∧ Below w.heap.size w w' := by
  by_cases h : chkZ c = 0
  · exact laws_yes A hf h w
  · exact laws_no A hf h w
end Go.Proofs.Ytniiijadkclabaa
