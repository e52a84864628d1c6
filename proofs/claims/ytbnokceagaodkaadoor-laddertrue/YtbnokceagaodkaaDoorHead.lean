/-
  WHAT THE ROWS OF THIS SEAT SHARE. The table that is listed: what it gives a walk; a world that has it.
-/
import Derived.Test.YtbnokceagaodkaaDoorRows
import Derived.Test.YtbnokceagaodkaaDoorCards
import Derived.Test.YtbnokceagaodkaaDoorTie
import Derived.Test.YtbnokceagaodkaaDoorLad
import Derived.ProofKit
import Derived.LaidLaws
import Derived.LaidHandle
import Derived.Lib.LaidTab
import Derived.Lib.SmallJoins
import Derived.SevenTiedAt
namespace Go.Proofs.YtbnokceagaodkaaDoor
open Go.ChangeShapes Go.WideShapes Go.ChangeAt Go.RowKit Go.Joins Wd Ld

theorem Tryd.own : ownKnob Tryd.prog.godebug = none := by kernel_rfl
theorem Tryd.gT : Tryd.prog.globalNamed "backfill/ladder.rungs" = some 0 := by kernel_rfl
theorem Tryd.gTType : (Tryd.prog.globals[0]?).map (·.type) = some 40 := by kernel_rfl
theorem Tryd.cells23 : Tryd.prog.cellsOf 23 = 1 := by kernel_rfl
theorem Tryd.cells40 : Tryd.prog.cellsOf 40 = 32 := by kernel_rfl

abbrev LaidL {H : Type} : List (String × DataW H) := [("backfill/ladder.rungs", Rows.laid_backfill_ladder_rungs)]
abbrev tabZ : List Int := rungs.map fun n : Nat => (n : Int)
theorem tab_datum : (Rows.laid_backfill_ladder_rungs : DataW Unit) = Lib.tabData .u64 tabZ := by rfl
theorem tab_of_laid {W : World} (h : laidMetH Tryd.prog LaidL W) : Tab W := by
  have h' : laidMet Tryd.prog [("backfill/ladder.rungs", Lib.tabData .u64 tabZ)] W := by rw [← tab_datum]; exact h
  have hT := Lib.tabIs_of_head Tryd.gT Tryd.gTType Tryd.underlying40 Tryd.underlying23 Tryd.cells23 Tryd.cells40 h'
  intro j hj
  have hl : rungs.length = 32 := by rfl
  rw [hT.cell Tryd.gT j (by simp [hl]; omega)]
  simp [hl, hj, R]

/-- A world that meets the condition: the settled one, the table's block laid. -/
noncomputable def laidWorld (os : Os) : World :=
  let w0 := World.holding Tryd.prog os ⟨#[], #[], []⟩
  { w0 with heap := w0.heap.modify 0 fun
      | .cells _ t frozen => .cells (tabZ.map (Value.int .u64)).toArray t frozen
      | o => o }
theorem laidWorld_met (os : Os) (args : Array Value) : laidMetH Tryd.prog LaidL ((laidWorld os).forCall (fun _ _ => 0) ⟨#[], args, []⟩).memory :=
  laidMetH_of_parts (laidMet_of_run' 8 (by kernel_rfl) (by kernel_rfl)) (by kernel_rfl)
theorem word_of_wf {x : Int} (h : (Lit.int .u64 x).wf = true) : Word x := by
  simp [Lit.wf, IntKind.min, IntKind.max, IntKind.signed, IntKind.bits] at h
  exact ⟨by omega, by omega⟩
end Go.Proofs.YtbnokceagaodkaaDoor
