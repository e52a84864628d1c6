/-
  NARROWER THAN 'FOR EVERY INPUT', by the rows' own cells (each row's printed sentence says how): IdealPlays: laid · IdealNear: laid · IdealAbove: laid · IdealNumbers: laid.
  DERIVED. THE GIVEN ROWS OF THIS SEAT. 4 by the template 'for every input the law returns true; each argument reads behind the call as it read before'; 0 by the template 'total and deterministic' (their statements: YtdkbmligaodpmaaGreatDoorTotals.lean).
  GIVEN WITH THE SEED: the statements are not yours to turn. If you find one false, say at which input.
  Laid BY PROGRAM, IN A SANDBOX (cutbox-rows.mjs): the forced cells as the released guide's own fill.sh prints them over the translation 60278c2e0d583586… (all of the seat's roots in one cut). By AI agents, Wed Nov 11 2026. No macro, syntax, notation, axiom, sorry.
-/
import Derived.Test.YtdkbmligaodpmaaGreatDoorChecked
import GoSem.Claim
import GoSem.ClaimJoined
import GoSem.ClaimMapViews
import Derived.JoinedTies
import Derived.KernelRfl
namespace Go.Proofs.YtdkbmligaodpmaaGreatDoor
/- THE CELL 'sum', in the pinned program and in every row, IS THE sha256 OF THE DUMP (.gsa) THAT YtdkbmligaodpmaaGreatDoorProg.lean LOADS. Nothing in Lean hashes anything: it is a label: what it is worth is what the hold of that sum in a sandbox is worth. -/
noncomputable def Tryz.pinned : Pinned := { name := "ytdkbmligaodpmaagreatdoor", sum := "60278c2e0d58358667537e19e41bb5e12f81232ca1940a85ac9b1f4d7f3cc0db", checked := Tryz.checked }
namespace Rows
def none {H : Type} : Left H := { results := [], args := [] }

/- WHAT THE LISTED PACKAGE-LEVEL VARIABLES READ AS WHEN THE CALL BEGINS. Each datum BY PROGRAM (the guide's laid-datum.mjs) off the statement by which the dump's own 'gosem.cut.vars' lays the variable. In a bare row this is a premise. The card (YtdkbmligaodpmaaGreatDoorCards.lean) ties it to the program's text. -/
def laid_backfill_ladder_rungs {H : Type} : DataW H := .agg [.lit (.int .u64 13043817825332782212), .lit (.int .u64 15511800964685064948), .lit (.int .u64 16915738899553466670), .lit (.int .u64 17664662643191237676), .lit (.int .u64 18051468387014017850), .lit (.int .u64 18248035989933441396), .lit (.int .u64 18347121020861646923), .lit (.int .u64 18396865112328554660), .lit (.int .u64 18421787711448657617), .lit (.int .u64 18434261669329232139), .lit (.int .u64 18440501815349552981), .lit (.int .u64 18443622680442407997), .lit (.int .u64 18445183311048607331), .lit (.int .u64 18445963675871538003), .lit (.int .u64 18446353870663572144), .lit (.int .u64 18446548971154807801), .lit (.int .u64 18446646522174239824), .lit (.int .u64 18446695297877410578), .lit (.int .u64 18446719685777359790), .lit (.int .u64 18446731879739425373), .lit (.int .u64 18446737976723480911), .lit (.int .u64 18446741025216264367), .lit (.int .u64 18446742549462845017), .lit (.int .u64 18446743311586182573), .lit (.int .u64 18446743692647863158), .lit (.int .u64 18446743883178706403), .lit (.int .u64 18446743978444128763), .lit (.int .u64 18446744026076840128), .lit (.int .u64 18446744049893195856), .lit (.int .u64 18446744061801373732), .lit (.int .u64 18446744067755462673), .lit (.int .u64 18446744070732507144)]

/-- 'backfilllaw16.IdealPlays': WHATEVER THE INPUT: true; the input reads as it did. -/
def idealPlaysSpec : ChangeSpec := { name := "idealPlays", fn := fun _ => fun
  | [d1, d2, d3] => { results := [.lit (.bool true)], args := [d1, d2, d3] }
  | _ => none }
def idealPlaysRow : OpenClaim := { program := "ytdkbmligaodpmaagreatdoor", sum := "60278c2e0d58358667537e19e41bb5e12f81232ca1940a85ac9b1f4d7f3cc0db", func := "backfill/backfilllaw16.IdealPlays", spec := "idealPlays", inPlace := ["math/bits.Add64", "math/bits.Sub64"], unfollowed := true, recurses := true, named := ["math/bits.divideError", "math/bits.overflowError", "backfill/ladder.rungs"], apart := false, laid := [("backfill/ladder.rungs", laid_backfill_ladder_rungs)] }
def IdealPlaysSaid : Prop := idealPlaysRow.holds Tryz.pinned (OpenSpec.ofChange idealPlaysSpec)

/-- ITS FALSE NEIGHBOUR: 'it returns false'. Refute it at one input. -/
def idealPlaysWrong : ChangeSpec := { name := "idealPlays", fn := fun _ => fun
  | [d1, d2, d3] => { results := [.lit (.bool false)], args := [d1, d2, d3] }
  | _ => none }
def IdealPlaysWrongFalsely : Prop := idealPlaysRow.holds Tryz.pinned (OpenSpec.ofChange idealPlaysWrong)

/-- 'backfilllaw16.IdealNear': WHATEVER THE INPUT: true; the input reads as it did. -/
def idealNearSpec : ChangeSpec := { name := "idealNear", fn := fun _ => fun
  | [d1, d2, d3, d4, d5] => { results := [.lit (.bool true)], args := [d1, d2, d3, d4, d5] }
  | _ => none }
def idealNearRow : OpenClaim := { program := "ytdkbmligaodpmaagreatdoor", sum := "60278c2e0d58358667537e19e41bb5e12f81232ca1940a85ac9b1f4d7f3cc0db", func := "backfill/backfilllaw16.IdealNear", spec := "idealNear", inPlace := ["math/bits.Add64", "math/bits.Sub64"], unfollowed := true, recurses := true, named := ["math/bits.divideError", "math/bits.overflowError", "backfill/ladder.rungs"], apart := false, laid := [("backfill/ladder.rungs", laid_backfill_ladder_rungs)] }
def IdealNearSaid : Prop := idealNearRow.holds Tryz.pinned (OpenSpec.ofChange idealNearSpec)

/-- ITS FALSE NEIGHBOUR: 'it returns false'. Refute it at one input. -/
def idealNearWrong : ChangeSpec := { name := "idealNear", fn := fun _ => fun
  | [d1, d2, d3, d4, d5] => { results := [.lit (.bool false)], args := [d1, d2, d3, d4, d5] }
  | _ => none }
def IdealNearWrongFalsely : Prop := idealNearRow.holds Tryz.pinned (OpenSpec.ofChange idealNearWrong)

/-- 'backfilllaw16.IdealAbove': WHATEVER THE INPUT: true; the input reads as it did. -/
def idealAboveSpec : ChangeSpec := { name := "idealAbove", fn := fun _ => fun
  | [d1, d2] => { results := [.lit (.bool true)], args := [d1, d2] }
  | _ => none }
def idealAboveRow : OpenClaim := { program := "ytdkbmligaodpmaagreatdoor", sum := "60278c2e0d58358667537e19e41bb5e12f81232ca1940a85ac9b1f4d7f3cc0db", func := "backfill/backfilllaw16.IdealAbove", spec := "idealAbove", inPlace := ["math/bits.Add64", "math/bits.Sub64"], unfollowed := true, recurses := true, named := ["math/bits.divideError", "math/bits.overflowError", "backfill/ladder.rungs"], apart := false, laid := [("backfill/ladder.rungs", laid_backfill_ladder_rungs)] }
def IdealAboveSaid : Prop := idealAboveRow.holds Tryz.pinned (OpenSpec.ofChange idealAboveSpec)

/-- ITS FALSE NEIGHBOUR: 'it returns false'. Refute it at one input. -/
def idealAboveWrong : ChangeSpec := { name := "idealAbove", fn := fun _ => fun
  | [d1, d2] => { results := [.lit (.bool false)], args := [d1, d2] }
  | _ => none }
def IdealAboveWrongFalsely : Prop := idealAboveRow.holds Tryz.pinned (OpenSpec.ofChange idealAboveWrong)

/-- 'backfilllaw16.IdealNumbers': WHATEVER THE INPUT: true; the input reads as it did. -/
def idealNumbersSpec : ChangeSpec := { name := "idealNumbers", fn := fun _ => fun
  | [] => { results := [.lit (.bool true)], args := [] }
  | _ => none }
def idealNumbersRow : OpenClaim := { program := "ytdkbmligaodpmaagreatdoor", sum := "60278c2e0d58358667537e19e41bb5e12f81232ca1940a85ac9b1f4d7f3cc0db", func := "backfill/backfilllaw16.IdealNumbers", spec := "idealNumbers", inPlace := ["math/bits.Add64", "math/bits.Sub64"], unfollowed := true, recurses := true, named := ["math/bits.divideError", "math/bits.overflowError", "backfill/ladder.rungs"], apart := false, laid := [("backfill/ladder.rungs", laid_backfill_ladder_rungs)] }
def IdealNumbersSaid : Prop := idealNumbersRow.holds Tryz.pinned (OpenSpec.ofChange idealNumbersSpec)

/-- ITS FALSE NEIGHBOUR: 'it returns false'. Refute it at one input. -/
def idealNumbersWrong : ChangeSpec := { name := "idealNumbers", fn := fun _ => fun
  | [] => { results := [.lit (.bool false)], args := [] }
  | _ => none }
def IdealNumbersWrongFalsely : Prop := idealNumbersRow.holds Tryz.pinned (OpenSpec.ofChange idealNumbersWrong)

/- THE SECOND FORM. 'bulk': how many values and letters a reading holds, each counted each time it is reached (what is shared counts as often as it is met; a slice's spare places count too). A statement '..UptoSaid' is the law's where the arguments, and the package variables that the reading takes, are together of bulk at most 1048576: NARROWER than '..Said'. Prove '..Said' where nothing that the law and all that it calls make is longer than what came in: it says more and counts as full. Else prove '..UptoSaid'. A law counts once. -/
mutual
def uptoBulk {H : Type} : DataW H → Nat
  | .lit (.string bytes) => bytes.length + 1
  | .lit _ => 1
  | .nil => 1
  | .ptr d => uptoBulk d + 1
  | .slice elems spare => uptoBulkAll elems + uptoBulkAll spare + 1
  | .agg parts => uptoBulkAll parts + 1
  | .iface _ d => uptoBulk d + 1
  | .map entries => uptoBulkEntries entries + 1
  | .held _ => 1
def uptoBulkAll {H : Type} : List (DataW H) → Nat
  | [] => 0
  | d :: r => uptoBulk d + uptoBulkAll r
def uptoBulkEntries {H : Type} : List (Lit × DataW H) → Nat
  | [] => 0
  | x :: r => uptoBulkEntry x + uptoBulkEntries r
def uptoBulkEntry {H : Type} : Lit × DataW H → Nat
  | (.string bytes, d) => bytes.length + uptoBulk d + 1
  | (_, d) => uptoBulk d + 1
 end
def uptoSmall : (H : Type) → List (DataW H) → Bool := fun _ ds => decide (uptoBulkAll ds ≤ 1048576)
def OpenSpec.upto (s : _root_.Go.ChangeSpec) : _root_.Go.OpenSpec := { _root_.Go.OpenSpec.ofChange s with cond := some uptoSmall }

/-- 'backfilllaw16.IdealPlays', WHERE WHAT IT READS IS OF BULK AT MOST 1048576: true; the input reads as it did. -/
def idealPlaysUptoRow : OpenClaim := { program := "ytdkbmligaodpmaagreatdoor", sum := "60278c2e0d58358667537e19e41bb5e12f81232ca1940a85ac9b1f4d7f3cc0db", func := "backfill/backfilllaw16.IdealPlays", spec := "idealPlays", inPlace := ["math/bits.Add64", "math/bits.Sub64"], unfollowed := true, recurses := true, named := ["math/bits.divideError", "math/bits.overflowError", "backfill/ladder.rungs"], apart := false, laid := [("backfill/ladder.rungs", laid_backfill_ladder_rungs)], narrowed := true }
def IdealPlaysUptoSaid : Prop := idealPlaysUptoRow.holds Tryz.pinned (OpenSpec.upto idealPlaysSpec)

/-- 'backfilllaw16.IdealNear', WHERE WHAT IT READS IS OF BULK AT MOST 1048576: true; the input reads as it did. -/
def idealNearUptoRow : OpenClaim := { program := "ytdkbmligaodpmaagreatdoor", sum := "60278c2e0d58358667537e19e41bb5e12f81232ca1940a85ac9b1f4d7f3cc0db", func := "backfill/backfilllaw16.IdealNear", spec := "idealNear", inPlace := ["math/bits.Add64", "math/bits.Sub64"], unfollowed := true, recurses := true, named := ["math/bits.divideError", "math/bits.overflowError", "backfill/ladder.rungs"], apart := false, laid := [("backfill/ladder.rungs", laid_backfill_ladder_rungs)], narrowed := true }
def IdealNearUptoSaid : Prop := idealNearUptoRow.holds Tryz.pinned (OpenSpec.upto idealNearSpec)

/-- 'backfilllaw16.IdealAbove', WHERE WHAT IT READS IS OF BULK AT MOST 1048576: true; the input reads as it did. -/
def idealAboveUptoRow : OpenClaim := { program := "ytdkbmligaodpmaagreatdoor", sum := "60278c2e0d58358667537e19e41bb5e12f81232ca1940a85ac9b1f4d7f3cc0db", func := "backfill/backfilllaw16.IdealAbove", spec := "idealAbove", inPlace := ["math/bits.Add64", "math/bits.Sub64"], unfollowed := true, recurses := true, named := ["math/bits.divideError", "math/bits.overflowError", "backfill/ladder.rungs"], apart := false, laid := [("backfill/ladder.rungs", laid_backfill_ladder_rungs)], narrowed := true }
def IdealAboveUptoSaid : Prop := idealAboveUptoRow.holds Tryz.pinned (OpenSpec.upto idealAboveSpec)

/-- 'backfilllaw16.IdealNumbers', WHERE WHAT IT READS IS OF BULK AT MOST 1048576: true; the input reads as it did. -/
def idealNumbersUptoRow : OpenClaim := { program := "ytdkbmligaodpmaagreatdoor", sum := "60278c2e0d58358667537e19e41bb5e12f81232ca1940a85ac9b1f4d7f3cc0db", func := "backfill/backfilllaw16.IdealNumbers", spec := "idealNumbers", inPlace := ["math/bits.Add64", "math/bits.Sub64"], unfollowed := true, recurses := true, named := ["math/bits.divideError", "math/bits.overflowError", "backfill/ladder.rungs"], apart := false, laid := [("backfill/ladder.rungs", laid_backfill_ladder_rungs)], narrowed := true }
def IdealNumbersUptoSaid : Prop := idealNumbersUptoRow.holds Tryz.pinned (OpenSpec.upto idealNumbersSpec)

end Rows
end Go.Proofs.YtdkbmligaodpmaaGreatDoor
