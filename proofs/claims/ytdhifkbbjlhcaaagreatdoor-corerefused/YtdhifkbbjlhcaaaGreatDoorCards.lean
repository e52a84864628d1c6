/-
  DERIVED. GIVEN WITH THE SEED: THE CARDS: each row of YtdhifkbbjlhcaaaGreatDoorRows.lean that lists a variable, with what it lists TIED to the program's text (the seventh form; the later family's looks); each row that meets fmt, with fmt's text TOLD by the authors' own Lean function (tested against real Go, not proved from fmt's source: count such statements apart). THE CARD IS WHAT COUNTS. Prove the row's statement (the work); the ties are given (YtdhifkbbjlhcaaaGreatDoorTie.lean); close each card by the builder's one call (the guide's Derived/Test/ToyasCard.lean, 'card_holds'). Laid BY PROGRAM, IN A SANDBOX (cutbox-door.mjs). By AI agents, Wed Nov 11 2026. No macro, syntax, notation, axiom, sorry.
-/
import Derived.Test.YtdhifkbbjlhcaaaGreatDoorRows
import GoSem.ClaimSeven
namespace Go.Proofs.YtdhifkbbjlhcaaaGreatDoor
namespace Rows

/-- THE TIED CARD OF 'backfilllaw18.CoreJobs'. -/
def coreJobsCard : Claim7 := { stood := { row := coreJobsRow, standIns := [], harness := (true, "1052b75edc62fdce1d8e6733364656b1f33caa93aa0fa9595ed0dac812750d56"), looks := false }, kinds := [], alts := [], laidByText := true, laidKinds := [.data, .data, .data], laidTests := true, laidLooks := .later }
def CoreJobsCardSaid : Prop := Claim7.holds Tryz.pinned (.plain (OpenSpec.ofChange coreJobsSpec)) coreJobsCard

/-- THE TIED CARD OF 'backfilllaw18.CoreNever'. -/
def coreNeverCard : Claim7 := { stood := { row := coreNeverRow, standIns := [], harness := (true, "1052b75edc62fdce1d8e6733364656b1f33caa93aa0fa9595ed0dac812750d56"), looks := false }, kinds := [], alts := [], laidByText := true, laidKinds := [.data, .data, .data], laidTests := true, laidLooks := .later }
def CoreNeverCardSaid : Prop := Claim7.holds Tryz.pinned (.plain (OpenSpec.ofChange coreNeverSpec)) coreNeverCard

/-- THE TIED CARD OF 'backfilllaw18.CoreStarves'. -/
def coreStarvesCard : Claim7 := { stood := { row := coreStarvesRow, standIns := [], harness := (true, "1052b75edc62fdce1d8e6733364656b1f33caa93aa0fa9595ed0dac812750d56"), looks := false }, kinds := [], alts := [], laidByText := true, laidKinds := [.data, .data, .data], laidTests := true, laidLooks := .later }
def CoreStarvesCardSaid : Prop := Claim7.holds Tryz.pinned (.plain (OpenSpec.ofChange coreStarvesSpec)) coreStarvesCard

/-- THE TIED CARD OF 'backfilllaw18.CoreSlack'. -/
def coreSlackCard : Claim7 := { stood := { row := coreSlackRow, standIns := [], harness := (true, "1052b75edc62fdce1d8e6733364656b1f33caa93aa0fa9595ed0dac812750d56"), looks := false }, kinds := [], alts := [], laidByText := true, laidKinds := [.data, .data, .data], laidTests := true, laidLooks := .later }
def CoreSlackCardSaid : Prop := Claim7.holds Tryz.pinned (.plain (OpenSpec.ofChange coreSlackSpec)) coreSlackCard

/-- THE TIED CARD OF 'backfilllaw18.CoreExact'. -/
def coreExactCard : Claim7 := { stood := { row := coreExactRow, standIns := [], harness := (true, "1052b75edc62fdce1d8e6733364656b1f33caa93aa0fa9595ed0dac812750d56"), looks := false }, kinds := [], alts := [], laidByText := true, laidKinds := [.data, .data, .data], laidTests := true, laidLooks := .later }
def CoreExactCardSaid : Prop := Claim7.holds Tryz.pinned (.plain (OpenSpec.ofChange coreExactSpec)) coreExactCard

/-- THE TIED CARD OF 'backfilllaw18.CoreRefused'. -/
def coreRefusedCard : Claim7 := { stood := { row := coreRefusedRow, standIns := [], harness := (true, "1052b75edc62fdce1d8e6733364656b1f33caa93aa0fa9595ed0dac812750d56"), looks := false }, kinds := [], alts := [], laidByText := true, laidKinds := [.data, .data, .data], laidTests := true, laidLooks := .later }
def CoreRefusedCardSaid : Prop := Claim7.holds Tryz.pinned (.plain (OpenSpec.ofChange coreRefusedSpec)) coreRefusedCard

/-- THE SECOND FORM's CARD OF 'backfilllaw18.CoreJobs'. -/
def coreJobsUptoCard : Claim7 := { stood := { row := coreJobsUptoRow, standIns := [], harness := (true, "1052b75edc62fdce1d8e6733364656b1f33caa93aa0fa9595ed0dac812750d56"), looks := false }, kinds := [], alts := [], laidByText := true, laidKinds := [.data, .data, .data], laidTests := true, laidLooks := .later }
def CoreJobsUptoCardSaid : Prop := Claim7.holds Tryz.pinned (.plain (OpenSpec.upto coreJobsSpec)) coreJobsUptoCard

/-- THE SECOND FORM's CARD OF 'backfilllaw18.CoreNever'. -/
def coreNeverUptoCard : Claim7 := { stood := { row := coreNeverUptoRow, standIns := [], harness := (true, "1052b75edc62fdce1d8e6733364656b1f33caa93aa0fa9595ed0dac812750d56"), looks := false }, kinds := [], alts := [], laidByText := true, laidKinds := [.data, .data, .data], laidTests := true, laidLooks := .later }
def CoreNeverUptoCardSaid : Prop := Claim7.holds Tryz.pinned (.plain (OpenSpec.upto coreNeverSpec)) coreNeverUptoCard

/-- THE SECOND FORM's CARD OF 'backfilllaw18.CoreStarves'. -/
def coreStarvesUptoCard : Claim7 := { stood := { row := coreStarvesUptoRow, standIns := [], harness := (true, "1052b75edc62fdce1d8e6733364656b1f33caa93aa0fa9595ed0dac812750d56"), looks := false }, kinds := [], alts := [], laidByText := true, laidKinds := [.data, .data, .data], laidTests := true, laidLooks := .later }
def CoreStarvesUptoCardSaid : Prop := Claim7.holds Tryz.pinned (.plain (OpenSpec.upto coreStarvesSpec)) coreStarvesUptoCard

/-- THE SECOND FORM's CARD OF 'backfilllaw18.CoreSlack'. -/
def coreSlackUptoCard : Claim7 := { stood := { row := coreSlackUptoRow, standIns := [], harness := (true, "1052b75edc62fdce1d8e6733364656b1f33caa93aa0fa9595ed0dac812750d56"), looks := false }, kinds := [], alts := [], laidByText := true, laidKinds := [.data, .data, .data], laidTests := true, laidLooks := .later }
def CoreSlackUptoCardSaid : Prop := Claim7.holds Tryz.pinned (.plain (OpenSpec.upto coreSlackSpec)) coreSlackUptoCard

/-- THE SECOND FORM's CARD OF 'backfilllaw18.CoreExact'. -/
def coreExactUptoCard : Claim7 := { stood := { row := coreExactUptoRow, standIns := [], harness := (true, "1052b75edc62fdce1d8e6733364656b1f33caa93aa0fa9595ed0dac812750d56"), looks := false }, kinds := [], alts := [], laidByText := true, laidKinds := [.data, .data, .data], laidTests := true, laidLooks := .later }
def CoreExactUptoCardSaid : Prop := Claim7.holds Tryz.pinned (.plain (OpenSpec.upto coreExactSpec)) coreExactUptoCard

/-- THE SECOND FORM's CARD OF 'backfilllaw18.CoreRefused'. -/
def coreRefusedUptoCard : Claim7 := { stood := { row := coreRefusedUptoRow, standIns := [], harness := (true, "1052b75edc62fdce1d8e6733364656b1f33caa93aa0fa9595ed0dac812750d56"), looks := false }, kinds := [], alts := [], laidByText := true, laidKinds := [.data, .data, .data], laidTests := true, laidLooks := .later }
def CoreRefusedUptoCardSaid : Prop := Claim7.holds Tryz.pinned (.plain (OpenSpec.upto coreRefusedSpec)) coreRefusedUptoCard
end Rows
end Go.Proofs.YtdhifkbbjlhcaaaGreatDoor
