/-
  NARROWER THAN 'FOR EVERY INPUT', by the rows' own cells (each row's printed sentence says how): CoreJobs: laid · CoreNever: laid · CoreStarves: laid · CoreSlack: laid · CoreExact: laid · CoreRefused: laid.
  DERIVED. THE GIVEN ROWS OF THIS SEAT. 6 by the template 'for every input the law returns true; each argument reads behind the call as it read before'; 0 by the template 'total and deterministic' (their statements: YtdhifkbbjlhcaaaGreatDoorTotals.lean).
  GIVEN WITH THE SEED: the statements are not yours to turn. If you find one false, say at which input.
  Laid BY PROGRAM, IN A SANDBOX (cutbox-rows.mjs): the forced cells as the released guide's own fill.sh prints them over the translation 2ed98c1f191c61e7… (all of the seat's roots in one cut). By AI agents, Wed Nov 11 2026. No macro, syntax, notation, axiom, sorry.
-/
import Derived.Test.YtdhifkbbjlhcaaaGreatDoorChecked
import GoSem.Claim
import GoSem.ClaimJoined
import GoSem.ClaimMapViews
import Derived.JoinedTies
import Derived.KernelRfl
namespace Go.Proofs.YtdhifkbbjlhcaaaGreatDoor
/- THE CELL 'sum', in the pinned program and in every row, IS THE sha256 OF THE DUMP (.gsa) THAT YtdhifkbbjlhcaaaGreatDoorProg.lean LOADS. Nothing in Lean hashes anything: it is a label: what it is worth is what the hold of that sum in a sandbox is worth. -/
noncomputable def Tryz.pinned : Pinned := { name := "ytdhifkbbjlhcaaagreatdoor", sum := "2ed98c1f191c61e70abf6a520d75e185305df0617e97777c862b94dfdd34cb8f", checked := Tryz.checked }
namespace Rows
def none {H : Type} : Left H := { results := [], args := [] }

/- WHAT THE LISTED PACKAGE-LEVEL VARIABLES READ AS WHEN THE CALL BEGINS. Each datum BY PROGRAM (the guide's laid-datum.mjs) off the statement by which the dump's own 'gosem.cut.vars' lays the variable. In a bare row this is a premise. The card (YtdhifkbbjlhcaaaGreatDoorCards.lean) ties it to the program's text. -/
def laid_math_bits_deBruijn64tab {H : Type} : DataW H := .agg [.lit (.int .u8 0), .lit (.int .u8 1), .lit (.int .u8 56), .lit (.int .u8 2), .lit (.int .u8 57), .lit (.int .u8 49), .lit (.int .u8 28), .lit (.int .u8 3), .lit (.int .u8 61), .lit (.int .u8 58), .lit (.int .u8 42), .lit (.int .u8 50), .lit (.int .u8 38), .lit (.int .u8 29), .lit (.int .u8 17), .lit (.int .u8 4), .lit (.int .u8 62), .lit (.int .u8 47), .lit (.int .u8 59), .lit (.int .u8 36), .lit (.int .u8 45), .lit (.int .u8 43), .lit (.int .u8 51), .lit (.int .u8 22), .lit (.int .u8 53), .lit (.int .u8 39), .lit (.int .u8 33), .lit (.int .u8 30), .lit (.int .u8 24), .lit (.int .u8 18), .lit (.int .u8 12), .lit (.int .u8 5), .lit (.int .u8 63), .lit (.int .u8 55), .lit (.int .u8 48), .lit (.int .u8 27), .lit (.int .u8 60), .lit (.int .u8 41), .lit (.int .u8 37), .lit (.int .u8 16), .lit (.int .u8 46), .lit (.int .u8 35), .lit (.int .u8 44), .lit (.int .u8 21), .lit (.int .u8 52), .lit (.int .u8 32), .lit (.int .u8 23), .lit (.int .u8 11), .lit (.int .u8 54), .lit (.int .u8 26), .lit (.int .u8 40), .lit (.int .u8 15), .lit (.int .u8 34), .lit (.int .u8 20), .lit (.int .u8 31), .lit (.int .u8 10), .lit (.int .u8 25), .lit (.int .u8 14), .lit (.int .u8 19), .lit (.int .u8 9), .lit (.int .u8 13), .lit (.int .u8 8), .lit (.int .u8 7), .lit (.int .u8 6)]
def laid_backfill_ladder_rungs {H : Type} : DataW H := .agg [.lit (.int .u64 13043817825332782212), .lit (.int .u64 15511800964685064948), .lit (.int .u64 16915738899553466670), .lit (.int .u64 17664662643191237676), .lit (.int .u64 18051468387014017850), .lit (.int .u64 18248035989933441396), .lit (.int .u64 18347121020861646923), .lit (.int .u64 18396865112328554660), .lit (.int .u64 18421787711448657617), .lit (.int .u64 18434261669329232139), .lit (.int .u64 18440501815349552981), .lit (.int .u64 18443622680442407997), .lit (.int .u64 18445183311048607331), .lit (.int .u64 18445963675871538003), .lit (.int .u64 18446353870663572144), .lit (.int .u64 18446548971154807801), .lit (.int .u64 18446646522174239824), .lit (.int .u64 18446695297877410578), .lit (.int .u64 18446719685777359790), .lit (.int .u64 18446731879739425373), .lit (.int .u64 18446737976723480911), .lit (.int .u64 18446741025216264367), .lit (.int .u64 18446742549462845017), .lit (.int .u64 18446743311586182573), .lit (.int .u64 18446743692647863158), .lit (.int .u64 18446743883178706403), .lit (.int .u64 18446743978444128763), .lit (.int .u64 18446744026076840128), .lit (.int .u64 18446744049893195856), .lit (.int .u64 18446744061801373732), .lit (.int .u64 18446744067755462673), .lit (.int .u64 18446744070732507144)]
def laid_backfill_verbs_forms {H : Type} : DataW H := .agg [.agg [.lit (.string []), .agg [.lit (.int .i64 0), .lit (.int .i64 0), .lit (.int .i64 0)]], .agg [.lit (.string [115, 117, 98, 109, 105, 116]), .agg [.lit (.int .i64 1), .lit (.int .i64 4), .lit (.int .i64 5)]], .agg [.lit (.string [99, 97, 110, 99, 101, 108]), .agg [.lit (.int .i64 6), .lit (.int .i64 0), .lit (.int .i64 0)]], .agg [.lit (.string [99, 111, 109, 112, 108, 101, 116, 101]), .agg [.lit (.int .i64 6), .lit (.int .i64 0), .lit (.int .i64 0)]], .agg [.lit (.string [116, 105, 99, 107]), .agg [.lit (.int .i64 7), .lit (.int .i64 0), .lit (.int .i64 0)]], .agg [.lit (.string [97, 99, 99, 111, 117, 110, 116]), .agg [.lit (.int .i64 1), .lit (.int .i64 2), .lit (.int .i64 3)]], .agg [.lit (.string [115, 104, 97, 114, 101, 115]), .agg [.lit (.int .i64 1), .lit (.int .i64 3), .lit (.int .i64 0)]], .agg [.lit (.string [109, 111, 118, 101]), .agg [.lit (.int .i64 1), .lit (.int .i64 2), .lit (.int .i64 0)]], .agg [.lit (.string [99, 108, 111, 115, 101]), .agg [.lit (.int .i64 1), .lit (.int .i64 0), .lit (.int .i64 0)]], .agg [.lit (.string [106, 111, 98]), .agg [.lit (.int .i64 6), .lit (.int .i64 0), .lit (.int .i64 0)]], .agg [.lit (.string [113, 117, 101, 117, 101]), .agg [.lit (.int .i64 0), .lit (.int .i64 0), .lit (.int .i64 0)]], .agg [.lit (.string [117, 115, 97, 103, 101]), .agg [.lit (.int .i64 1), .lit (.int .i64 0), .lit (.int .i64 0)]], .agg [.lit (.string [110, 111, 100, 101, 115]), .agg [.lit (.int .i64 0), .lit (.int .i64 0), .lit (.int .i64 0)]], .agg [.lit (.string [99, 111, 110, 102, 105, 103]), .agg [.lit (.int .i64 0), .lit (.int .i64 0), .lit (.int .i64 0)]]]

/-- 'backfilllaw18.CoreJobs': WHATEVER THE INPUT: true; the input reads as it did. -/
def coreJobsSpec : ChangeSpec := { name := "coreJobs", fn := fun _ => fun
  | [d1, d2] => { results := [.lit (.bool true)], args := [d1, d2] }
  | _ => none }
def coreJobsRow : OpenClaim := { program := "ytdhifkbbjlhcaaagreatdoor", sum := "2ed98c1f191c61e70abf6a520d75e185305df0617e97777c862b94dfdd34cb8f", func := "backfill/backfilllaw18.CoreJobs", spec := "coreJobs", inPlace := ["math/bits.Add64"], unfollowed := true, recurses := true, named := ["math/bits.divideError", "math/bits.overflowError", "backfill/ladder.rungs", "backfill/verbs.forms", "math/bits.deBruijn64tab"], apart := false, laid := [("math/bits.deBruijn64tab", laid_math_bits_deBruijn64tab), ("backfill/ladder.rungs", laid_backfill_ladder_rungs), ("backfill/verbs.forms", laid_backfill_verbs_forms)] }
def CoreJobsSaid : Prop := coreJobsRow.holds Tryz.pinned (OpenSpec.ofChange coreJobsSpec)

/-- ITS FALSE NEIGHBOUR: 'it returns false'. Refute it at one input. -/
def coreJobsWrong : ChangeSpec := { name := "coreJobs", fn := fun _ => fun
  | [d1, d2] => { results := [.lit (.bool false)], args := [d1, d2] }
  | _ => none }
def CoreJobsWrongFalsely : Prop := coreJobsRow.holds Tryz.pinned (OpenSpec.ofChange coreJobsWrong)

/-- 'backfilllaw18.CoreNever': WHATEVER THE INPUT: true; the input reads as it did. -/
def coreNeverSpec : ChangeSpec := { name := "coreNever", fn := fun _ => fun
  | [d1, d2] => { results := [.lit (.bool true)], args := [d1, d2] }
  | _ => none }
def coreNeverRow : OpenClaim := { program := "ytdhifkbbjlhcaaagreatdoor", sum := "2ed98c1f191c61e70abf6a520d75e185305df0617e97777c862b94dfdd34cb8f", func := "backfill/backfilllaw18.CoreNever", spec := "coreNever", inPlace := ["math/bits.Add64"], unfollowed := true, recurses := true, named := ["math/bits.divideError", "math/bits.overflowError", "backfill/ladder.rungs", "backfill/verbs.forms", "math/bits.deBruijn64tab"], apart := false, laid := [("math/bits.deBruijn64tab", laid_math_bits_deBruijn64tab), ("backfill/ladder.rungs", laid_backfill_ladder_rungs), ("backfill/verbs.forms", laid_backfill_verbs_forms)] }
def CoreNeverSaid : Prop := coreNeverRow.holds Tryz.pinned (OpenSpec.ofChange coreNeverSpec)

/-- ITS FALSE NEIGHBOUR: 'it returns false'. Refute it at one input. -/
def coreNeverWrong : ChangeSpec := { name := "coreNever", fn := fun _ => fun
  | [d1, d2] => { results := [.lit (.bool false)], args := [d1, d2] }
  | _ => none }
def CoreNeverWrongFalsely : Prop := coreNeverRow.holds Tryz.pinned (OpenSpec.ofChange coreNeverWrong)

/-- 'backfilllaw18.CoreStarves': WHATEVER THE INPUT: true; the input reads as it did. -/
def coreStarvesSpec : ChangeSpec := { name := "coreStarves", fn := fun _ => fun
  | [d1, d2] => { results := [.lit (.bool true)], args := [d1, d2] }
  | _ => none }
def coreStarvesRow : OpenClaim := { program := "ytdhifkbbjlhcaaagreatdoor", sum := "2ed98c1f191c61e70abf6a520d75e185305df0617e97777c862b94dfdd34cb8f", func := "backfill/backfilllaw18.CoreStarves", spec := "coreStarves", inPlace := ["math/bits.Add64"], unfollowed := true, recurses := true, named := ["math/bits.divideError", "math/bits.overflowError", "backfill/ladder.rungs", "backfill/verbs.forms", "math/bits.deBruijn64tab"], apart := false, laid := [("math/bits.deBruijn64tab", laid_math_bits_deBruijn64tab), ("backfill/ladder.rungs", laid_backfill_ladder_rungs), ("backfill/verbs.forms", laid_backfill_verbs_forms)] }
def CoreStarvesSaid : Prop := coreStarvesRow.holds Tryz.pinned (OpenSpec.ofChange coreStarvesSpec)

/-- ITS FALSE NEIGHBOUR: 'it returns false'. Refute it at one input. -/
def coreStarvesWrong : ChangeSpec := { name := "coreStarves", fn := fun _ => fun
  | [d1, d2] => { results := [.lit (.bool false)], args := [d1, d2] }
  | _ => none }
def CoreStarvesWrongFalsely : Prop := coreStarvesRow.holds Tryz.pinned (OpenSpec.ofChange coreStarvesWrong)

/-- 'backfilllaw18.CoreSlack': WHATEVER THE INPUT: true; the input reads as it did. -/
def coreSlackSpec : ChangeSpec := { name := "coreSlack", fn := fun _ => fun
  | [d] => { results := [.lit (.bool true)], args := [d] }
  | _ => none }
def coreSlackRow : OpenClaim := { program := "ytdhifkbbjlhcaaagreatdoor", sum := "2ed98c1f191c61e70abf6a520d75e185305df0617e97777c862b94dfdd34cb8f", func := "backfill/backfilllaw18.CoreSlack", spec := "coreSlack", inPlace := ["math/bits.Add64"], unfollowed := true, recurses := true, named := ["math/bits.divideError", "math/bits.overflowError", "backfill/ladder.rungs", "backfill/verbs.forms", "math/bits.deBruijn64tab"], apart := false, laid := [("math/bits.deBruijn64tab", laid_math_bits_deBruijn64tab), ("backfill/ladder.rungs", laid_backfill_ladder_rungs), ("backfill/verbs.forms", laid_backfill_verbs_forms)] }
def CoreSlackSaid : Prop := coreSlackRow.holds Tryz.pinned (OpenSpec.ofChange coreSlackSpec)

/-- ITS FALSE NEIGHBOUR: 'it returns false'. Refute it at one input. -/
def coreSlackWrong : ChangeSpec := { name := "coreSlack", fn := fun _ => fun
  | [d] => { results := [.lit (.bool false)], args := [d] }
  | _ => none }
def CoreSlackWrongFalsely : Prop := coreSlackRow.holds Tryz.pinned (OpenSpec.ofChange coreSlackWrong)

/-- 'backfilllaw18.CoreExact': WHATEVER THE INPUT: true; the input reads as it did. -/
def coreExactSpec : ChangeSpec := { name := "coreExact", fn := fun _ => fun
  | [d1, d2] => { results := [.lit (.bool true)], args := [d1, d2] }
  | _ => none }
def coreExactRow : OpenClaim := { program := "ytdhifkbbjlhcaaagreatdoor", sum := "2ed98c1f191c61e70abf6a520d75e185305df0617e97777c862b94dfdd34cb8f", func := "backfill/backfilllaw18.CoreExact", spec := "coreExact", inPlace := ["math/bits.Add64"], unfollowed := true, recurses := true, named := ["math/bits.divideError", "math/bits.overflowError", "backfill/ladder.rungs", "backfill/verbs.forms", "math/bits.deBruijn64tab"], apart := false, laid := [("math/bits.deBruijn64tab", laid_math_bits_deBruijn64tab), ("backfill/ladder.rungs", laid_backfill_ladder_rungs), ("backfill/verbs.forms", laid_backfill_verbs_forms)] }
def CoreExactSaid : Prop := coreExactRow.holds Tryz.pinned (OpenSpec.ofChange coreExactSpec)

/-- ITS FALSE NEIGHBOUR: 'it returns false'. Refute it at one input. -/
def coreExactWrong : ChangeSpec := { name := "coreExact", fn := fun _ => fun
  | [d1, d2] => { results := [.lit (.bool false)], args := [d1, d2] }
  | _ => none }
def CoreExactWrongFalsely : Prop := coreExactRow.holds Tryz.pinned (OpenSpec.ofChange coreExactWrong)

/-- 'backfilllaw18.CoreRefused': WHATEVER THE INPUT: true; the input reads as it did. -/
def coreRefusedSpec : ChangeSpec := { name := "coreRefused", fn := fun _ => fun
  | [d1, d2] => { results := [.lit (.bool true)], args := [d1, d2] }
  | _ => none }
def coreRefusedRow : OpenClaim := { program := "ytdhifkbbjlhcaaagreatdoor", sum := "2ed98c1f191c61e70abf6a520d75e185305df0617e97777c862b94dfdd34cb8f", func := "backfill/backfilllaw18.CoreRefused", spec := "coreRefused", inPlace := ["math/bits.Add64"], unfollowed := true, recurses := true, named := ["math/bits.divideError", "math/bits.overflowError", "backfill/ladder.rungs", "backfill/verbs.forms", "math/bits.deBruijn64tab"], apart := false, laid := [("math/bits.deBruijn64tab", laid_math_bits_deBruijn64tab), ("backfill/ladder.rungs", laid_backfill_ladder_rungs), ("backfill/verbs.forms", laid_backfill_verbs_forms)] }
def CoreRefusedSaid : Prop := coreRefusedRow.holds Tryz.pinned (OpenSpec.ofChange coreRefusedSpec)

/-- ITS FALSE NEIGHBOUR: 'it returns false'. Refute it at one input. -/
def coreRefusedWrong : ChangeSpec := { name := "coreRefused", fn := fun _ => fun
  | [d1, d2] => { results := [.lit (.bool false)], args := [d1, d2] }
  | _ => none }
def CoreRefusedWrongFalsely : Prop := coreRefusedRow.holds Tryz.pinned (OpenSpec.ofChange coreRefusedWrong)

/- THE SECOND FORM. 'bulk': how many values and letters a reading holds, each counted each time it is reached (what is shared counts as often as it is met; a slice's spare places count too). A statement '..UptoSaid' is the law's where the arguments, and the package variables that the reading takes, are together of bulk at most 1048576: NARROWER than '..Said'. Prove '..Said' where nothing that the law and all that it calls make is longer than what came in: it says more and counts as full. Else prove '..UptoSaid'. A law counts once. -/
mutual
def uptoBulk {H : Type} : DataW H → Nat
  | .lit (.string bytes) => bytes.length + 1
  | .lit _ => 1
  | .nil => 1
  | .ptr d => uptoBulk d + 1
  | .slice elems spare => uptoBulkAll elems + uptoBulkAll spare + 1
  | .agg parts => uptoBulkAll parts + 1
  | .iface _ d => uptoBulk d + 1
  | .map entries => uptoBulkEntries entries + 1
  | .held _ => 1
def uptoBulkAll {H : Type} : List (DataW H) → Nat
  | [] => 0
  | d :: r => uptoBulk d + uptoBulkAll r
def uptoBulkEntries {H : Type} : List (Lit × DataW H) → Nat
  | [] => 0
  | x :: r => uptoBulkEntry x + uptoBulkEntries r
def uptoBulkEntry {H : Type} : Lit × DataW H → Nat
  | (.string bytes, d) => bytes.length + uptoBulk d + 1
  | (_, d) => uptoBulk d + 1
 end
def uptoSmall : (H : Type) → List (DataW H) → Bool := fun _ ds => decide (uptoBulkAll ds ≤ 1048576)
def OpenSpec.upto (s : _root_.Go.ChangeSpec) : _root_.Go.OpenSpec := { _root_.Go.OpenSpec.ofChange s with cond := some uptoSmall }

/-- 'backfilllaw18.CoreJobs', WHERE WHAT IT READS IS OF BULK AT MOST 1048576: true; the input reads as it did. -/
def coreJobsUptoRow : OpenClaim := { program := "ytdhifkbbjlhcaaagreatdoor", sum := "2ed98c1f191c61e70abf6a520d75e185305df0617e97777c862b94dfdd34cb8f", func := "backfill/backfilllaw18.CoreJobs", spec := "coreJobs", inPlace := ["math/bits.Add64"], unfollowed := true, recurses := true, named := ["math/bits.divideError", "math/bits.overflowError", "backfill/ladder.rungs", "backfill/verbs.forms", "math/bits.deBruijn64tab"], apart := false, laid := [("math/bits.deBruijn64tab", laid_math_bits_deBruijn64tab), ("backfill/ladder.rungs", laid_backfill_ladder_rungs), ("backfill/verbs.forms", laid_backfill_verbs_forms)], narrowed := true }
def CoreJobsUptoSaid : Prop := coreJobsUptoRow.holds Tryz.pinned (OpenSpec.upto coreJobsSpec)

/-- 'backfilllaw18.CoreNever', WHERE WHAT IT READS IS OF BULK AT MOST 1048576: true; the input reads as it did. -/
def coreNeverUptoRow : OpenClaim := { program := "ytdhifkbbjlhcaaagreatdoor", sum := "2ed98c1f191c61e70abf6a520d75e185305df0617e97777c862b94dfdd34cb8f", func := "backfill/backfilllaw18.CoreNever", spec := "coreNever", inPlace := ["math/bits.Add64"], unfollowed := true, recurses := true, named := ["math/bits.divideError", "math/bits.overflowError", "backfill/ladder.rungs", "backfill/verbs.forms", "math/bits.deBruijn64tab"], apart := false, laid := [("math/bits.deBruijn64tab", laid_math_bits_deBruijn64tab), ("backfill/ladder.rungs", laid_backfill_ladder_rungs), ("backfill/verbs.forms", laid_backfill_verbs_forms)], narrowed := true }
def CoreNeverUptoSaid : Prop := coreNeverUptoRow.holds Tryz.pinned (OpenSpec.upto coreNeverSpec)

/-- 'backfilllaw18.CoreStarves', WHERE WHAT IT READS IS OF BULK AT MOST 1048576: true; the input reads as it did. -/
def coreStarvesUptoRow : OpenClaim := { program := "ytdhifkbbjlhcaaagreatdoor", sum := "2ed98c1f191c61e70abf6a520d75e185305df0617e97777c862b94dfdd34cb8f", func := "backfill/backfilllaw18.CoreStarves", spec := "coreStarves", inPlace := ["math/bits.Add64"], unfollowed := true, recurses := true, named := ["math/bits.divideError", "math/bits.overflowError", "backfill/ladder.rungs", "backfill/verbs.forms", "math/bits.deBruijn64tab"], apart := false, laid := [("math/bits.deBruijn64tab", laid_math_bits_deBruijn64tab), ("backfill/ladder.rungs", laid_backfill_ladder_rungs), ("backfill/verbs.forms", laid_backfill_verbs_forms)], narrowed := true }
def CoreStarvesUptoSaid : Prop := coreStarvesUptoRow.holds Tryz.pinned (OpenSpec.upto coreStarvesSpec)

/-- 'backfilllaw18.CoreSlack', WHERE WHAT IT READS IS OF BULK AT MOST 1048576: true; the input reads as it did. -/
def coreSlackUptoRow : OpenClaim := { program := "ytdhifkbbjlhcaaagreatdoor", sum := "2ed98c1f191c61e70abf6a520d75e185305df0617e97777c862b94dfdd34cb8f", func := "backfill/backfilllaw18.CoreSlack", spec := "coreSlack", inPlace := ["math/bits.Add64"], unfollowed := true, recurses := true, named := ["math/bits.divideError", "math/bits.overflowError", "backfill/ladder.rungs", "backfill/verbs.forms", "math/bits.deBruijn64tab"], apart := false, laid := [("math/bits.deBruijn64tab", laid_math_bits_deBruijn64tab), ("backfill/ladder.rungs", laid_backfill_ladder_rungs), ("backfill/verbs.forms", laid_backfill_verbs_forms)], narrowed := true }
def CoreSlackUptoSaid : Prop := coreSlackUptoRow.holds Tryz.pinned (OpenSpec.upto coreSlackSpec)

/-- 'backfilllaw18.CoreExact', WHERE WHAT IT READS IS OF BULK AT MOST 1048576: true; the input reads as it did. -/
def coreExactUptoRow : OpenClaim := { program := "ytdhifkbbjlhcaaagreatdoor", sum := "2ed98c1f191c61e70abf6a520d75e185305df0617e97777c862b94dfdd34cb8f", func := "backfill/backfilllaw18.CoreExact", spec := "coreExact", inPlace := ["math/bits.Add64"], unfollowed := true, recurses := true, named := ["math/bits.divideError", "math/bits.overflowError", "backfill/ladder.rungs", "backfill/verbs.forms", "math/bits.deBruijn64tab"], apart := false, laid := [("math/bits.deBruijn64tab", laid_math_bits_deBruijn64tab), ("backfill/ladder.rungs", laid_backfill_ladder_rungs), ("backfill/verbs.forms", laid_backfill_verbs_forms)], narrowed := true }
def CoreExactUptoSaid : Prop := coreExactUptoRow.holds Tryz.pinned (OpenSpec.upto coreExactSpec)

/-- 'backfilllaw18.CoreRefused', WHERE WHAT IT READS IS OF BULK AT MOST 1048576: true; the input reads as it did. -/
def coreRefusedUptoRow : OpenClaim := { program := "ytdhifkbbjlhcaaagreatdoor", sum := "2ed98c1f191c61e70abf6a520d75e185305df0617e97777c862b94dfdd34cb8f", func := "backfill/backfilllaw18.CoreRefused", spec := "coreRefused", inPlace := ["math/bits.Add64"], unfollowed := true, recurses := true, named := ["math/bits.divideError", "math/bits.overflowError", "backfill/ladder.rungs", "backfill/verbs.forms", "math/bits.deBruijn64tab"], apart := false, laid := [("math/bits.deBruijn64tab", laid_math_bits_deBruijn64tab), ("backfill/ladder.rungs", laid_backfill_ladder_rungs), ("backfill/verbs.forms", laid_backfill_verbs_forms)], narrowed := true }
def CoreRefusedUptoSaid : Prop := coreRefusedUptoRow.holds Tryz.pinned (OpenSpec.upto coreRefusedSpec)

end Rows
end Go.Proofs.YtdhifkbbjlhcaaaGreatDoor
