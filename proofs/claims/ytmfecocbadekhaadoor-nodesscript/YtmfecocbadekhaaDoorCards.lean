/-
  DERIVED. GIVEN WITH THE SEED: THE CARDS: each row of YtmfecocbadekhaaDoorRows.lean that lists a variable, with what it lists TIED to the program's text (the seventh form; the later family's looks); each row that meets fmt, with fmt's text TOLD by the authors' own Lean function (tested against real Go, not proved from fmt's source: count such statements apart). THE CARD IS WHAT COUNTS. Prove the row's statement (the work); the ties are given (YtmfecocbadekhaaDoorTie.lean); close each card by the builder's one call (the guide's Derived/Test/ToyasCard.lean, 'card_holds'). Laid BY PROGRAM, IN A SANDBOX (cutbox-door.mjs). By AI agents, Wed Nov 11 2026. No macro, syntax, notation, axiom, sorry.
-/
import Derived.Test.YtmfecocbadekhaaDoorRows
import GoSem.ClaimSeven
namespace Go.Proofs.YtmfecocbadekhaaDoor
namespace Rows

/-- THE TIED CARD OF 'backfilllaw02.NodesScript'. -/
def nodesScriptCard : Claim7 := { stood := { row := nodesScriptRow, standIns := [], harness := (true, "ef773a63a54d67e7b76d215de0c85035ddef231b1a7765e390ecdf2ef17f177b"), looks := false }, kinds := [], alts := [], laidByText := true, laidKinds := [.data], laidTests := true, laidLooks := .later }
def NodesScriptCardSaid : Prop := Claim7.holds Tryd.pinned (.plain (OpenSpec.ofChange nodesScriptSpec)) nodesScriptCard

/-- THE TIED CARD OF 'backfilllaw02.NodesLowest'. -/
def nodesLowestCard : Claim7 := { stood := { row := nodesLowestRow, standIns := [], harness := (true, "ef773a63a54d67e7b76d215de0c85035ddef231b1a7765e390ecdf2ef17f177b"), looks := false }, kinds := [], alts := [], laidByText := true, laidKinds := [.data], laidTests := true, laidLooks := .later }
def NodesLowestCardSaid : Prop := Claim7.holds Tryd.pinned (.plain (OpenSpec.ofChange nodesLowestSpec)) nodesLowestCard

/-- THE TIED CARD OF 'backfilllaw02.NodesNames'. -/
def nodesNamesCard : Claim7 := { stood := { row := nodesNamesRow, standIns := [], harness := (true, "ef773a63a54d67e7b76d215de0c85035ddef231b1a7765e390ecdf2ef17f177b"), looks := false }, kinds := [], alts := [], laidByText := true, laidKinds := [.data], laidTests := true, laidLooks := .later }
def NodesNamesCardSaid : Prop := Claim7.holds Tryd.pinned (.plain (OpenSpec.ofChange nodesNamesSpec)) nodesNamesCard

/-- THE SECOND FORM's CARD OF 'backfilllaw02.NodesScript'. -/
def nodesScriptUptoCard : Claim7 := { stood := { row := nodesScriptUptoRow, standIns := [], harness := (true, "ef773a63a54d67e7b76d215de0c85035ddef231b1a7765e390ecdf2ef17f177b"), looks := false }, kinds := [], alts := [], laidByText := true, laidKinds := [.data], laidTests := true, laidLooks := .later }
def NodesScriptUptoCardSaid : Prop := Claim7.holds Tryd.pinned (.plain (OpenSpec.upto nodesScriptSpec)) nodesScriptUptoCard

/-- THE SECOND FORM's CARD OF 'backfilllaw02.NodesLowest'. -/
def nodesLowestUptoCard : Claim7 := { stood := { row := nodesLowestUptoRow, standIns := [], harness := (true, "ef773a63a54d67e7b76d215de0c85035ddef231b1a7765e390ecdf2ef17f177b"), looks := false }, kinds := [], alts := [], laidByText := true, laidKinds := [.data], laidTests := true, laidLooks := .later }
def NodesLowestUptoCardSaid : Prop := Claim7.holds Tryd.pinned (.plain (OpenSpec.upto nodesLowestSpec)) nodesLowestUptoCard

/-- THE SECOND FORM's CARD OF 'backfilllaw02.NodesNames'. -/
def nodesNamesUptoCard : Claim7 := { stood := { row := nodesNamesUptoRow, standIns := [], harness := (true, "ef773a63a54d67e7b76d215de0c85035ddef231b1a7765e390ecdf2ef17f177b"), looks := false }, kinds := [], alts := [], laidByText := true, laidKinds := [.data], laidTests := true, laidLooks := .later }
def NodesNamesUptoCardSaid : Prop := Claim7.holds Tryd.pinned (.plain (OpenSpec.upto nodesNamesSpec)) nodesNamesUptoCard
end Rows
end Go.Proofs.YtmfecocbadekhaaDoor
