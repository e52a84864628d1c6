/-
  DERIVED. GIVEN WITH THE SEED: THE CARDS: each row of YtbnokceagaodkaaDoorRows.lean that lists a variable, with what it lists TIED to the program's text (the seventh form; the later family's looks); each row that meets fmt, with fmt's text TOLD by the authors' own Lean function (tested against real Go, not proved from fmt's source: count such statements apart). THE CARD IS WHAT COUNTS. Prove the row's statement (the work); the ties are given (YtbnokceagaodkaaDoorTie.lean); close each card by the builder's one call (the guide's Derived/Test/ToyasCard.lean, 'card_holds'). Laid BY PROGRAM, IN A SANDBOX (cutbox-door.mjs). By AI agents, Wed Nov 11 2026. No macro, syntax, notation, axiom, sorry.
-/
import Derived.Test.YtbnokceagaodkaaDoorRows
import GoSem.ClaimSeven
namespace Go.Proofs.YtbnokceagaodkaaDoor
namespace Rows

/-- THE TIED CARD OF 'backfilllaw07.LadderRungs'. -/
def ladderRungsCard : Claim7 := { stood := { row := ladderRungsRow, standIns := [], harness := (true, "55f9776eea84a69f27c4bd38c734c38a05f91e74ea4b0f7b52b86ba6277d0193"), looks := false }, kinds := [], alts := [], laidByText := true, laidKinds := [.data], laidTests := true, laidLooks := .later }
def LadderRungsCardSaid : Prop := Claim7.holds Tryd.pinned (.plain (OpenSpec.ofChange ladderRungsSpec)) ladderRungsCard

/-- THE TIED CARD OF 'backfilllaw07.LadderTells'. -/
def ladderTellsCard : Claim7 := { stood := { row := ladderTellsRow, standIns := [], harness := (true, "55f9776eea84a69f27c4bd38c734c38a05f91e74ea4b0f7b52b86ba6277d0193"), looks := false }, kinds := [], alts := [], laidByText := true, laidKinds := [.data], laidTests := true, laidLooks := .later }
def LadderTellsCardSaid : Prop := Claim7.holds Tryd.pinned (.plain (OpenSpec.ofChange ladderTellsSpec)) ladderTellsCard

/-- THE TIED CARD OF 'backfilllaw07.LadderFalls'. -/
def ladderFallsCard : Claim7 := { stood := { row := ladderFallsRow, standIns := [], harness := (true, "55f9776eea84a69f27c4bd38c734c38a05f91e74ea4b0f7b52b86ba6277d0193"), looks := false }, kinds := [], alts := [], laidByText := true, laidKinds := [.data], laidTests := true, laidLooks := .later }
def LadderFallsCardSaid : Prop := Claim7.holds Tryd.pinned (.plain (OpenSpec.ofChange ladderFallsSpec)) ladderFallsCard

/-- THE TIED CARD OF 'backfilllaw07.LadderTrue'. -/
def ladderTrueCard : Claim7 := { stood := { row := ladderTrueRow, standIns := [], harness := (true, "55f9776eea84a69f27c4bd38c734c38a05f91e74ea4b0f7b52b86ba6277d0193"), looks := false }, kinds := [], alts := [], laidByText := true, laidKinds := [.data], laidTests := true, laidLooks := .later }
def LadderTrueCardSaid : Prop := Claim7.holds Tryd.pinned (.plain (OpenSpec.ofChange ladderTrueSpec)) ladderTrueCard

/-- THE SECOND FORM's CARD OF 'backfilllaw07.LadderRungs'. -/
def ladderRungsUptoCard : Claim7 := { stood := { row := ladderRungsUptoRow, standIns := [], harness := (true, "55f9776eea84a69f27c4bd38c734c38a05f91e74ea4b0f7b52b86ba6277d0193"), looks := false }, kinds := [], alts := [], laidByText := true, laidKinds := [.data], laidTests := true, laidLooks := .later }
def LadderRungsUptoCardSaid : Prop := Claim7.holds Tryd.pinned (.plain (OpenSpec.upto ladderRungsSpec)) ladderRungsUptoCard

/-- THE SECOND FORM's CARD OF 'backfilllaw07.LadderTells'. -/
def ladderTellsUptoCard : Claim7 := { stood := { row := ladderTellsUptoRow, standIns := [], harness := (true, "55f9776eea84a69f27c4bd38c734c38a05f91e74ea4b0f7b52b86ba6277d0193"), looks := false }, kinds := [], alts := [], laidByText := true, laidKinds := [.data], laidTests := true, laidLooks := .later }
def LadderTellsUptoCardSaid : Prop := Claim7.holds Tryd.pinned (.plain (OpenSpec.upto ladderTellsSpec)) ladderTellsUptoCard

/-- THE SECOND FORM's CARD OF 'backfilllaw07.LadderFalls'. -/
def ladderFallsUptoCard : Claim7 := { stood := { row := ladderFallsUptoRow, standIns := [], harness := (true, "55f9776eea84a69f27c4bd38c734c38a05f91e74ea4b0f7b52b86ba6277d0193"), looks := false }, kinds := [], alts := [], laidByText := true, laidKinds := [.data], laidTests := true, laidLooks := .later }
def LadderFallsUptoCardSaid : Prop := Claim7.holds Tryd.pinned (.plain (OpenSpec.upto ladderFallsSpec)) ladderFallsUptoCard

/-- THE SECOND FORM's CARD OF 'backfilllaw07.LadderTrue'. -/
def ladderTrueUptoCard : Claim7 := { stood := { row := ladderTrueUptoRow, standIns := [], harness := (true, "55f9776eea84a69f27c4bd38c734c38a05f91e74ea4b0f7b52b86ba6277d0193"), looks := false }, kinds := [], alts := [], laidByText := true, laidKinds := [.data], laidTests := true, laidLooks := .later }
def LadderTrueUptoCardSaid : Prop := Claim7.holds Tryd.pinned (.plain (OpenSpec.upto ladderTrueSpec)) ladderTrueUptoCard
end Rows
end Go.Proofs.YtbnokceagaodkaaDoor
