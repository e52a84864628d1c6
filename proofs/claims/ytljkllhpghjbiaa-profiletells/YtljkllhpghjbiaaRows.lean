/-
  No cell of these rows narrows 'for every input' (looked for: loops, veiled, ifaces, maps, wideKeys, modest, calm, conditions, laid).
  DERIVED. THE GIVEN ROWS OF THIS SEAT. 4 by the template 'for every input the law returns true; each argument reads behind the call as it read before'; 0 by the template 'total and deterministic' (their statements: YtljkllhpghjbiaaTotals.lean).
  GIVEN WITH THE SEED: the statements are not yours to turn. If you find one false, say at which input.
  Laid BY PROGRAM, IN A SANDBOX (cutbox-rows.mjs): the forced cells as the released guide's own fill.sh prints them over the translation 4b4db479095f6907… (all of the seat's roots in one cut). By AI agents, Wed Nov 11 2026. No macro, syntax, notation, axiom, sorry.
-/
import Derived.Test.YtljkllhpghjbiaaChecked
import GoSem.Claim
import GoSem.ClaimJoined
import GoSem.ClaimMapViews
import Derived.JoinedTies
import Derived.KernelRfl
namespace Go.Proofs.Ytljkllhpghjbiaa
/- THE CELL 'sum', in the pinned program and in every row, IS THE sha256 OF THE DUMP (.gsa) THAT YtljkllhpghjbiaaProg.lean LOADS. Nothing in Lean hashes anything: it is a label: what it is worth is what the hold of that sum in a sandbox is worth. -/
noncomputable def Try.pinned : Pinned := { name := "ytljkllhpghjbiaa", sum := "4b4db479095f6907e9118e021460a09a5ef127890c117be35f44613467c9c1ae", checked := Try.checked }
namespace Rows
def none {H : Type} : Left H := { results := [], args := [] }

/-- 'backfilllaw05.ProfileTells': WHATEVER THE INPUT: true; the input reads as it did. -/
def profileTellsSpec : ChangeSpec := { name := "profileTells", fn := fun _ => fun
  | [d1, d2, d3, d4, d5, d6] => { results := [.lit (.bool true)], args := [d1, d2, d3, d4, d5, d6] }
  | _ => none }
def profileTellsRow : OpenClaim := { program := "ytljkllhpghjbiaa", sum := "4b4db479095f6907e9118e021460a09a5ef127890c117be35f44613467c9c1ae", func := "backfill/backfilllaw05.ProfileTells", spec := "profileTells", unfollowed := true, recurses := true, apart := false }
def ProfileTellsSaid : Prop := profileTellsRow.holds Try.pinned (OpenSpec.ofChange profileTellsSpec)

/-- ITS FALSE NEIGHBOUR: 'it returns false'. Refute it at one input. -/
def profileTellsWrong : ChangeSpec := { name := "profileTells", fn := fun _ => fun
  | [d1, d2, d3, d4, d5, d6] => { results := [.lit (.bool false)], args := [d1, d2, d3, d4, d5, d6] }
  | _ => none }
def ProfileTellsWrongFalsely : Prop := profileTellsRow.holds Try.pinned (OpenSpec.ofChange profileTellsWrong)

/-- 'backfilllaw05.ProfileGoes': WHATEVER THE INPUT: true; the input reads as it did. -/
def profileGoesSpec : ChangeSpec := { name := "profileGoes", fn := fun _ => fun
  | [d1, d2, d3, d4] => { results := [.lit (.bool true)], args := [d1, d2, d3, d4] }
  | _ => none }
def profileGoesRow : OpenClaim := { program := "ytljkllhpghjbiaa", sum := "4b4db479095f6907e9118e021460a09a5ef127890c117be35f44613467c9c1ae", func := "backfill/backfilllaw05.ProfileGoes", spec := "profileGoes", unfollowed := true, recurses := true, apart := false }
def ProfileGoesSaid : Prop := profileGoesRow.holds Try.pinned (OpenSpec.ofChange profileGoesSpec)

/-- ITS FALSE NEIGHBOUR: 'it returns false'. Refute it at one input. -/
def profileGoesWrong : ChangeSpec := { name := "profileGoes", fn := fun _ => fun
  | [d1, d2, d3, d4] => { results := [.lit (.bool false)], args := [d1, d2, d3, d4] }
  | _ => none }
def ProfileGoesWrongFalsely : Prop := profileGoesRow.holds Try.pinned (OpenSpec.ofChange profileGoesWrong)

/-- 'backfilllaw05.ProfileRises': WHATEVER THE INPUT: true; the input reads as it did. -/
def profileRisesSpec : ChangeSpec := { name := "profileRises", fn := fun _ => fun
  | [d1, d2, d3, d4, d5] => { results := [.lit (.bool true)], args := [d1, d2, d3, d4, d5] }
  | _ => none }
def profileRisesRow : OpenClaim := { program := "ytljkllhpghjbiaa", sum := "4b4db479095f6907e9118e021460a09a5ef127890c117be35f44613467c9c1ae", func := "backfill/backfilllaw05.ProfileRises", spec := "profileRises", unfollowed := true, recurses := true, apart := false }
def ProfileRisesSaid : Prop := profileRisesRow.holds Try.pinned (OpenSpec.ofChange profileRisesSpec)

/-- ITS FALSE NEIGHBOUR: 'it returns false'. Refute it at one input. -/
def profileRisesWrong : ChangeSpec := { name := "profileRises", fn := fun _ => fun
  | [d1, d2, d3, d4, d5] => { results := [.lit (.bool false)], args := [d1, d2, d3, d4, d5] }
  | _ => none }
def ProfileRisesWrongFalsely : Prop := profileRisesRow.holds Try.pinned (OpenSpec.ofChange profileRisesWrong)

/-- 'backfilllaw05.ProfileLess': WHATEVER THE INPUT: true; the input reads as it did. -/
def profileLessSpec : ChangeSpec := { name := "profileLess", fn := fun _ => fun
  | [d1, d2, d3, d4, d5, d6, d7] => { results := [.lit (.bool true)], args := [d1, d2, d3, d4, d5, d6, d7] }
  | _ => none }
def profileLessRow : OpenClaim := { program := "ytljkllhpghjbiaa", sum := "4b4db479095f6907e9118e021460a09a5ef127890c117be35f44613467c9c1ae", func := "backfill/backfilllaw05.ProfileLess", spec := "profileLess", unfollowed := true, recurses := true, apart := false }
def ProfileLessSaid : Prop := profileLessRow.holds Try.pinned (OpenSpec.ofChange profileLessSpec)

/-- ITS FALSE NEIGHBOUR: 'it returns false'. Refute it at one input. -/
def profileLessWrong : ChangeSpec := { name := "profileLess", fn := fun _ => fun
  | [d1, d2, d3, d4, d5, d6, d7] => { results := [.lit (.bool false)], args := [d1, d2, d3, d4, d5, d6, d7] }
  | _ => none }
def ProfileLessWrongFalsely : Prop := profileLessRow.holds Try.pinned (OpenSpec.ofChange profileLessWrong)

/- THE SECOND FORM. 'bulk': how many values and letters a reading holds, each counted each time it is reached (what is shared counts as often as it is met; a slice's spare places count too). A statement '..UptoSaid' is the law's where the arguments, and the package variables that the reading takes, are together of bulk at most 1048576: NARROWER than '..Said'. Prove '..Said' where nothing that the law and all that it calls make is longer than what came in: it says more and counts as full. Else prove '..UptoSaid'. A law counts once. -/
mutual
def uptoBulk {H : Type} : DataW H → Nat
  | .lit (.string bytes) => bytes.length + 1
  | .lit _ => 1
  | .nil => 1
  | .ptr d => uptoBulk d + 1
  | .slice elems spare => uptoBulkAll elems + uptoBulkAll spare + 1
  | .agg parts => uptoBulkAll parts + 1
  | .iface _ d => uptoBulk d + 1
  | .map entries => uptoBulkEntries entries + 1
  | .held _ => 1
def uptoBulkAll {H : Type} : List (DataW H) → Nat
  | [] => 0
  | d :: r => uptoBulk d + uptoBulkAll r
def uptoBulkEntries {H : Type} : List (Lit × DataW H) → Nat
  | [] => 0
  | x :: r => uptoBulkEntry x + uptoBulkEntries r
def uptoBulkEntry {H : Type} : Lit × DataW H → Nat
  | (.string bytes, d) => bytes.length + uptoBulk d + 1
  | (_, d) => uptoBulk d + 1
 end
def uptoSmall : (H : Type) → List (DataW H) → Bool := fun _ ds => decide (uptoBulkAll ds ≤ 1048576)
def OpenSpec.upto (s : _root_.Go.ChangeSpec) : _root_.Go.OpenSpec := { _root_.Go.OpenSpec.ofChange s with cond := some uptoSmall }

/-- 'backfilllaw05.ProfileTells', WHERE WHAT IT READS IS OF BULK AT MOST 1048576: true; the input reads as it did. -/
def profileTellsUptoRow : OpenClaim := { program := "ytljkllhpghjbiaa", sum := "4b4db479095f6907e9118e021460a09a5ef127890c117be35f44613467c9c1ae", func := "backfill/backfilllaw05.ProfileTells", spec := "profileTells", unfollowed := true, recurses := true, apart := false, narrowed := true }
def ProfileTellsUptoSaid : Prop := profileTellsUptoRow.holds Try.pinned (OpenSpec.upto profileTellsSpec)

/-- 'backfilllaw05.ProfileGoes', WHERE WHAT IT READS IS OF BULK AT MOST 1048576: true; the input reads as it did. -/
def profileGoesUptoRow : OpenClaim := { program := "ytljkllhpghjbiaa", sum := "4b4db479095f6907e9118e021460a09a5ef127890c117be35f44613467c9c1ae", func := "backfill/backfilllaw05.ProfileGoes", spec := "profileGoes", unfollowed := true, recurses := true, apart := false, narrowed := true }
def ProfileGoesUptoSaid : Prop := profileGoesUptoRow.holds Try.pinned (OpenSpec.upto profileGoesSpec)

/-- 'backfilllaw05.ProfileRises', WHERE WHAT IT READS IS OF BULK AT MOST 1048576: true; the input reads as it did. -/
def profileRisesUptoRow : OpenClaim := { program := "ytljkllhpghjbiaa", sum := "4b4db479095f6907e9118e021460a09a5ef127890c117be35f44613467c9c1ae", func := "backfill/backfilllaw05.ProfileRises", spec := "profileRises", unfollowed := true, recurses := true, apart := false, narrowed := true }
def ProfileRisesUptoSaid : Prop := profileRisesUptoRow.holds Try.pinned (OpenSpec.upto profileRisesSpec)

/-- 'backfilllaw05.ProfileLess', WHERE WHAT IT READS IS OF BULK AT MOST 1048576: true; the input reads as it did. -/
def profileLessUptoRow : OpenClaim := { program := "ytljkllhpghjbiaa", sum := "4b4db479095f6907e9118e021460a09a5ef127890c117be35f44613467c9c1ae", func := "backfill/backfilllaw05.ProfileLess", spec := "profileLess", unfollowed := true, recurses := true, apart := false, narrowed := true }
def ProfileLessUptoSaid : Prop := profileLessUptoRow.holds Try.pinned (OpenSpec.upto profileLessSpec)

end Rows
end Go.Proofs.Ytljkllhpghjbiaa
