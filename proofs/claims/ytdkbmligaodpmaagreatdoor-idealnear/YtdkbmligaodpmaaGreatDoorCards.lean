/-
  DERIVED. GIVEN WITH THE SEED: THE CARDS: each row of YtdkbmligaodpmaaGreatDoorRows.lean that lists a variable, with what it lists TIED to the program's text (the seventh form; the later family's looks); each row that meets fmt, with fmt's text TOLD by the authors' own Lean function (tested against real Go, not proved from fmt's source: count such statements apart). THE CARD IS WHAT COUNTS. Prove the row's statement (the work); the ties are given (YtdkbmligaodpmaaGreatDoorTie.lean); close each card by the builder's one call (the guide's Derived/Test/ToyasCard.lean, 'card_holds'). Laid BY PROGRAM, IN A SANDBOX (cutbox-door.mjs). By AI agents, Wed Nov 11 2026. No macro, syntax, notation, axiom, sorry.
-/
import Derived.Test.YtdkbmligaodpmaaGreatDoorRows
import GoSem.ClaimSeven
namespace Go.Proofs.YtdkbmligaodpmaaGreatDoor
namespace Rows

/-- THE TIED CARD OF 'backfilllaw16.IdealPlays'. -/
def idealPlaysCard : Claim7 := { stood := { row := idealPlaysRow, standIns := [], harness := (true, "a4843d5bc53645e8ad59b83a5ee652cf9abb756007a24acd0632749613b8d282"), looks := false }, kinds := [], alts := [], laidByText := true, laidKinds := [.data], laidTests := true, laidLooks := .later }
def IdealPlaysCardSaid : Prop := Claim7.holds Tryz.pinned (.plain (OpenSpec.ofChange idealPlaysSpec)) idealPlaysCard

/-- THE TIED CARD OF 'backfilllaw16.IdealNear'. -/
def idealNearCard : Claim7 := { stood := { row := idealNearRow, standIns := [], harness := (true, "a4843d5bc53645e8ad59b83a5ee652cf9abb756007a24acd0632749613b8d282"), looks := false }, kinds := [], alts := [], laidByText := true, laidKinds := [.data], laidTests := true, laidLooks := .later }
def IdealNearCardSaid : Prop := Claim7.holds Tryz.pinned (.plain (OpenSpec.ofChange idealNearSpec)) idealNearCard

/-- THE TIED CARD OF 'backfilllaw16.IdealAbove'. -/
def idealAboveCard : Claim7 := { stood := { row := idealAboveRow, standIns := [], harness := (true, "a4843d5bc53645e8ad59b83a5ee652cf9abb756007a24acd0632749613b8d282"), looks := false }, kinds := [], alts := [], laidByText := true, laidKinds := [.data], laidTests := true, laidLooks := .later }
def IdealAboveCardSaid : Prop := Claim7.holds Tryz.pinned (.plain (OpenSpec.ofChange idealAboveSpec)) idealAboveCard

/-- THE TIED CARD OF 'backfilllaw16.IdealNumbers'. -/
def idealNumbersCard : Claim7 := { stood := { row := idealNumbersRow, standIns := [], harness := (true, "a4843d5bc53645e8ad59b83a5ee652cf9abb756007a24acd0632749613b8d282"), looks := false }, kinds := [], alts := [], laidByText := true, laidKinds := [.data], laidTests := true, laidLooks := .later }
def IdealNumbersCardSaid : Prop := Claim7.holds Tryz.pinned (.plain (OpenSpec.ofChange idealNumbersSpec)) idealNumbersCard

/-- THE SECOND FORM's CARD OF 'backfilllaw16.IdealPlays'. -/
def idealPlaysUptoCard : Claim7 := { stood := { row := idealPlaysUptoRow, standIns := [], harness := (true, "a4843d5bc53645e8ad59b83a5ee652cf9abb756007a24acd0632749613b8d282"), looks := false }, kinds := [], alts := [], laidByText := true, laidKinds := [.data], laidTests := true, laidLooks := .later }
def IdealPlaysUptoCardSaid : Prop := Claim7.holds Tryz.pinned (.plain (OpenSpec.upto idealPlaysSpec)) idealPlaysUptoCard

/-- THE SECOND FORM's CARD OF 'backfilllaw16.IdealNear'. -/
def idealNearUptoCard : Claim7 := { stood := { row := idealNearUptoRow, standIns := [], harness := (true, "a4843d5bc53645e8ad59b83a5ee652cf9abb756007a24acd0632749613b8d282"), looks := false }, kinds := [], alts := [], laidByText := true, laidKinds := [.data], laidTests := true, laidLooks := .later }
def IdealNearUptoCardSaid : Prop := Claim7.holds Tryz.pinned (.plain (OpenSpec.upto idealNearSpec)) idealNearUptoCard

/-- THE SECOND FORM's CARD OF 'backfilllaw16.IdealAbove'. -/
def idealAboveUptoCard : Claim7 := { stood := { row := idealAboveUptoRow, standIns := [], harness := (true, "a4843d5bc53645e8ad59b83a5ee652cf9abb756007a24acd0632749613b8d282"), looks := false }, kinds := [], alts := [], laidByText := true, laidKinds := [.data], laidTests := true, laidLooks := .later }
def IdealAboveUptoCardSaid : Prop := Claim7.holds Tryz.pinned (.plain (OpenSpec.upto idealAboveSpec)) idealAboveUptoCard

/-- THE SECOND FORM's CARD OF 'backfilllaw16.IdealNumbers'. -/
def idealNumbersUptoCard : Claim7 := { stood := { row := idealNumbersUptoRow, standIns := [], harness := (true, "a4843d5bc53645e8ad59b83a5ee652cf9abb756007a24acd0632749613b8d282"), looks := false }, kinds := [], alts := [], laidByText := true, laidKinds := [.data], laidTests := true, laidLooks := .later }
def IdealNumbersUptoCardSaid : Prop := Claim7.holds Tryz.pinned (.plain (OpenSpec.upto idealNumbersSpec)) idealNumbersUptoCard
end Rows
end Go.Proofs.YtdkbmligaodpmaaGreatDoor
