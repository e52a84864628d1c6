/-
  No cell of these rows narrows 'for every input' (looked for: loops, veiled, ifaces, maps, wideKeys, modest, calm, conditions, laid).
  DERIVED. THE GIVEN ROWS OF THIS SEAT. 3 by the template 'for every input the law returns true; each argument reads behind the call as it read before'; 0 by the template 'total and deterministic' (their statements: YtpfhncggbjpflaaTotals.lean).
  GIVEN WITH THE SEED: the statements are not yours to turn. If you find one false, say at which input.
  Laid BY PROGRAM, IN A SANDBOX (cutbox-rows.mjs): the forced cells as the released guide's own fill.sh prints them over the translation 5e7329c0bf1b826b… (all of the seat's roots in one cut). By AI agents, Wed Nov 11 2026. No macro, syntax, notation, axiom, sorry.
-/
import Derived.Test.YtpfhncggbjpflaaChecked
import GoSem.Claim
import GoSem.ClaimJoined
import GoSem.ClaimMapViews
import Derived.JoinedTies
import Derived.KernelRfl
namespace Go.Proofs.Ytpfhncggbjpflaa
/- THE CELL 'sum', in the pinned program and in every row, IS THE sha256 OF THE DUMP (.gsa) THAT YtpfhncggbjpflaaProg.lean LOADS. Nothing in Lean hashes anything: it is a label: what it is worth is what the hold of that sum in a sandbox is worth. -/
noncomputable def Try.pinned : Pinned := { name := "ytpfhncggbjpflaa", sum := "5e7329c0bf1b826b5338ead952b192cebc5edb3df6687b0a7b9b50649e7a7060", checked := Try.checked }
namespace Rows
def none {H : Type} : Left H := { results := [], args := [] }

/-- 'backfilllaw04.FixqTells': WHATEVER THE INPUT: true; the input reads as it did. -/
def fixqTellsSpec : ChangeSpec := { name := "fixqTells", fn := fun _ => fun
  | [d1, d2, d3] => { results := [.lit (.bool true)], args := [d1, d2, d3] }
  | _ => none }
def fixqTellsRow : OpenClaim := { program := "ytpfhncggbjpflaa", sum := "5e7329c0bf1b826b5338ead952b192cebc5edb3df6687b0a7b9b50649e7a7060", func := "backfill/backfilllaw04.FixqTells", spec := "fixqTells", inPlace := ["math/bits.Add64", "math/bits.Sub64"], named := ["math/bits.divideError", "math/bits.overflowError"], apart := false }
def FixqTellsSaid : Prop := fixqTellsRow.holds Try.pinned (OpenSpec.ofChange fixqTellsSpec)

/-- ITS FALSE NEIGHBOUR: 'it returns false'. Refute it at one input. -/
def fixqTellsWrong : ChangeSpec := { name := "fixqTells", fn := fun _ => fun
  | [d1, d2, d3] => { results := [.lit (.bool false)], args := [d1, d2, d3] }
  | _ => none }
def FixqTellsWrongFalsely : Prop := fixqTellsRow.holds Try.pinned (OpenSpec.ofChange fixqTellsWrong)

/-- 'backfilllaw04.FixqLaws': WHATEVER THE INPUT: true; the input reads as it did. -/
def fixqLawsSpec : ChangeSpec := { name := "fixqLaws", fn := fun _ => fun
  | [d1, d2, d3] => { results := [.lit (.bool true)], args := [d1, d2, d3] }
  | _ => none }
def fixqLawsRow : OpenClaim := { program := "ytpfhncggbjpflaa", sum := "5e7329c0bf1b826b5338ead952b192cebc5edb3df6687b0a7b9b50649e7a7060", func := "backfill/backfilllaw04.FixqLaws", spec := "fixqLaws", inPlace := ["math/bits.Add64", "math/bits.Sub64"], named := ["math/bits.divideError", "math/bits.overflowError"], apart := false }
def FixqLawsSaid : Prop := fixqLawsRow.holds Try.pinned (OpenSpec.ofChange fixqLawsSpec)

/-- ITS FALSE NEIGHBOUR: 'it returns false'. Refute it at one input. -/
def fixqLawsWrong : ChangeSpec := { name := "fixqLaws", fn := fun _ => fun
  | [d1, d2, d3] => { results := [.lit (.bool false)], args := [d1, d2, d3] }
  | _ => none }
def FixqLawsWrongFalsely : Prop := fixqLawsRow.holds Try.pinned (OpenSpec.ofChange fixqLawsWrong)

/-- 'backfilllaw04.FixqNumbers': WHATEVER THE INPUT: true; the input reads as it did. -/
def fixqNumbersSpec : ChangeSpec := { name := "fixqNumbers", fn := fun _ => fun
  | [] => { results := [.lit (.bool true)], args := [] }
  | _ => none }
def fixqNumbersRow : OpenClaim := { program := "ytpfhncggbjpflaa", sum := "5e7329c0bf1b826b5338ead952b192cebc5edb3df6687b0a7b9b50649e7a7060", func := "backfill/backfilllaw04.FixqNumbers", spec := "fixqNumbers", inPlace := ["math/bits.Add64", "math/bits.Sub64"], named := ["math/bits.divideError", "math/bits.overflowError"], apart := false }
def FixqNumbersSaid : Prop := fixqNumbersRow.holds Try.pinned (OpenSpec.ofChange fixqNumbersSpec)

/-- ITS FALSE NEIGHBOUR: 'it returns false'. Refute it at one input. -/
def fixqNumbersWrong : ChangeSpec := { name := "fixqNumbers", fn := fun _ => fun
  | [] => { results := [.lit (.bool false)], args := [] }
  | _ => none }
def FixqNumbersWrongFalsely : Prop := fixqNumbersRow.holds Try.pinned (OpenSpec.ofChange fixqNumbersWrong)

/- THE SECOND FORM. 'bulk': how many values and letters a reading holds, each counted each time it is reached (what is shared counts as often as it is met; a slice's spare places count too). A statement '..UptoSaid' is the law's where the arguments, and the package variables that the reading takes, are together of bulk at most 1048576: NARROWER than '..Said'. Prove '..Said' where nothing that the law and all that it calls make is longer than what came in: it says more and counts as full. Else prove '..UptoSaid'. A law counts once. -/
mutual
def uptoBulk {H : Type} : DataW H → Nat
  | .lit (.string bytes) => bytes.length + 1
  | .lit _ => 1
  | .nil => 1
  | .ptr d => uptoBulk d + 1
  | .slice elems spare => uptoBulkAll elems + uptoBulkAll spare + 1
  | .agg parts => uptoBulkAll parts + 1
  | .iface _ d => uptoBulk d + 1
  | .map entries => uptoBulkEntries entries + 1
  | .held _ => 1
def uptoBulkAll {H : Type} : List (DataW H) → Nat
  | [] => 0
  | d :: r => uptoBulk d + uptoBulkAll r
def uptoBulkEntries {H : Type} : List (Lit × DataW H) → Nat
  | [] => 0
  | x :: r => uptoBulkEntry x + uptoBulkEntries r
def uptoBulkEntry {H : Type} : Lit × DataW H → Nat
  | (.string bytes, d) => bytes.length + uptoBulk d + 1
  | (_, d) => uptoBulk d + 1
 end
def uptoSmall : (H : Type) → List (DataW H) → Bool := fun _ ds => decide (uptoBulkAll ds ≤ 1048576)
def OpenSpec.upto (s : _root_.Go.ChangeSpec) : _root_.Go.OpenSpec := { _root_.Go.OpenSpec.ofChange s with cond := some uptoSmall }

/-- 'backfilllaw04.FixqTells', WHERE WHAT IT READS IS OF BULK AT MOST 1048576: true; the input reads as it did. -/
def fixqTellsUptoRow : OpenClaim := { program := "ytpfhncggbjpflaa", sum := "5e7329c0bf1b826b5338ead952b192cebc5edb3df6687b0a7b9b50649e7a7060", func := "backfill/backfilllaw04.FixqTells", spec := "fixqTells", inPlace := ["math/bits.Add64", "math/bits.Sub64"], named := ["math/bits.divideError", "math/bits.overflowError"], apart := false, narrowed := true }
def FixqTellsUptoSaid : Prop := fixqTellsUptoRow.holds Try.pinned (OpenSpec.upto fixqTellsSpec)

/-- 'backfilllaw04.FixqLaws', WHERE WHAT IT READS IS OF BULK AT MOST 1048576: true; the input reads as it did. -/
def fixqLawsUptoRow : OpenClaim := { program := "ytpfhncggbjpflaa", sum := "5e7329c0bf1b826b5338ead952b192cebc5edb3df6687b0a7b9b50649e7a7060", func := "backfill/backfilllaw04.FixqLaws", spec := "fixqLaws", inPlace := ["math/bits.Add64", "math/bits.Sub64"], named := ["math/bits.divideError", "math/bits.overflowError"], apart := false, narrowed := true }
def FixqLawsUptoSaid : Prop := fixqLawsUptoRow.holds Try.pinned (OpenSpec.upto fixqLawsSpec)

/-- 'backfilllaw04.FixqNumbers', WHERE WHAT IT READS IS OF BULK AT MOST 1048576: true; the input reads as it did. -/
def fixqNumbersUptoRow : OpenClaim := { program := "ytpfhncggbjpflaa", sum := "5e7329c0bf1b826b5338ead952b192cebc5edb3df6687b0a7b9b50649e7a7060", func := "backfill/backfilllaw04.FixqNumbers", spec := "fixqNumbers", inPlace := ["math/bits.Add64", "math/bits.Sub64"], named := ["math/bits.divideError", "math/bits.overflowError"], apart := false, narrowed := true }
def FixqNumbersUptoSaid : Prop := fixqNumbersUptoRow.holds Try.pinned (OpenSpec.upto fixqNumbersSpec)

end Rows
end Go.Proofs.Ytpfhncggbjpflaa
