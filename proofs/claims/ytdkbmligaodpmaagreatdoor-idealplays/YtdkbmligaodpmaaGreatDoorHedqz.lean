/-
 WHAT THE ROWS OF THIS SEAT SHARE. The table that is listed: what it gives a walk; a world that has it; what comes in: configs, lists of accounts.
-/
import Derived.Test.YtdkbmligaodpmaaGreatDoorRows
import Derived.Test.YtdkbmligaodpmaaGreatDoorCards
import Derived.Test.YtdkbmligaodpmaaGreatDoorTie
import Derived.Test.YtdkbmligaodpmaaGreatDoorXpgz
import Derived.Test.YtdkbmligaodpmaaGreatDoorSfZqz
import Derived.SizedLaws
import Derived.Carry
import Derived.ProofKit
import Derived.LaidLaws
import Derived.LaidHandle
import Derived.Lib.LaidTab
import Derived.Lib.SmallJoins
import Derived.SevenTiedAt
import Derived.Deep.Slices
namespace Go.Proofs.YtdkbmligaodpmaaGreatDoor
open Go.ChangeShapes Go.WideShapes Go.ChangeAt Go.RowKit Go.Joins Wd Ld Cg Tr

theorem Tryz.gT : Tryz.prog.globalNamed "backfill/ladder.rungs" = some 0 := by kernel_rfl
theorem Tryz.gTType : (Tryz.prog.globals[0]?).map (·.type) = some 214 := by kernel_rfl
theorem Tryz.cellsH1 : Tryz.prog.cellsOf 60 = 1 := by kernel_rfl
theorem Tryz.cellsH32 : Tryz.prog.cellsOf 214 = 32 := by kernel_rfl
theorem Tryz.cellsCf : Tryz.prog.cellsOf 23 = 8 := by kernel_rfl

abbrev LaidL {H : Type} : List (String × DataW H) := [("backfill/ladder.rungs", Rows.laid_backfill_ladder_rungs)]
abbrev tabZ : List Int := rungs.map fun n : Nat => (n : Int)
theorem tab_datum : (Rows.laid_backfill_ladder_rungs : DataW Unit) = Lib.tabData .u64 tabZ := by rfl
theorem tab_of_laid {W : World} (h : laidMetH Tryz.prog LaidL W) : Tab W := by
 have h' : laidMet Tryz.prog [("backfill/ladder.rungs", Lib.tabData .u64 tabZ)] W := by rw [← tab_datum]; exact h
 have hT := Lib.tabIs_of_head Tryz.gT Tryz.gTType Tryz.underlying214 Tryz.underlying60 Tryz.cellsH1 Tryz.cellsH32 h'
 intro j hj
 have hl : rungs.length = 32 := by rfl
 rw [hT.cell Tryz.gT j (by simp [hl]; omega)]
 simp [hl, hj, R]
noncomputable def laidWorld (os : Os) : World :=
 let w0 := World.holding Tryz.prog os ⟨#[], #[], []⟩
 { w0 with heap := w0.heap.modify 0 fun
   | .cells _ t frozen => .cells (tabZ.map (Value.int .u64)).toArray t frozen
   | o => o }
theorem laidWorld_met (os : Os) (args : Array Value) : laidMetH Tryz.prog LaidL ((laidWorld os).forCall (fun _ _ => 0) ⟨#[], args, []⟩).memory :=
 laidMetH_of_parts (laidMet_of_run' 8 (by kernel_rfl) (by kernel_rfl)) (by kernel_rfl)
theorem word_of_wf {x : Int} (h : (Lit.int .u64 x).wf = true) : Word x := by
 simp [Lit.wf, IntKind.min, IntKind.max, IntKind.signed, IntKind.bits] at h
 exact ⟨by omega, by omega⟩

theorem eight {α : Type} {l : List α} (h : l.length = 8) : ∃ a b c d e f g i, l = [a, b, c, d, e, f, g, i] := by
 match l, h with
 | [a, b, c, d, e, f, g, i], _ => exact ⟨a, b, c, d, e, f, g, i, rfl⟩
theorem array8 {α : Type} {cs : Array α} (h : cs.size = 8) : ∃ c0 c1 c2 c3 c4 c5 c6 c7, cs = #[c0, c1, c2, c3, c4, c5, c6, c7] := by
 obtain ⟨l⟩ := cs
 match l, h with
 | [c0, c1, c2, c3, c4, c5, c6, c7], _ => exact ⟨c0, c1, c2, c3, c4, c5, c6, c7, rfl⟩
set_option maxRecDepth 20000 in
theorem cf_in {H : Type} {enc : TypeId × Value → H} {W : World} {b0 : Nat} {r : Reach} {v : Value} {d : DataW H} {p : List MemPlace}
  (hv : Value.okWide Tryz.prog W r b0 23 v) (h : DataW.Trod enc Tryz.prog W 0 (fun _ => true) true 23 v d p) : ∃ c : Cf, v = cfV c := by
 obtain ⟨cs, rfl, hsz⟩ := okWide_struct Tryz.underlying23 hv
 obtain ⟨c0, c1, c2, c3, c4, c5, c6, c7, rfl⟩ := array8 (hsz.trans Tryz.cellsCf)
 obtain ⟨fuel, hf⟩ := h
 obtain ⟨xs, n, _, _, hl, hlen, hf⟩ := DataW.trod_struct Tryz.underlying23 hf
 obtain ⟨y0, y1, y2, y3, y4, y5, y6, y7, rfl⟩ := eight (l := xs) hlen
 have h0 := hf 0 _ rfl
 have h1 := hf 1 _ rfl
 have h2 := hf 2 _ rfl
 have h3 := hf 3 _ rfl
 have h4 := hf 4 _ rfl
 have h5 := hf 5 _ rfl
 have h6 := hf 6 _ rfl
 have h7 := hf 7 _ rfl
 simp [Tryz.cellsInt, Value.cells] at h0 h1 h2 h3 h4 h5 h6 h7
 obtain ⟨z0, e0, _, _⟩ := DataW.trod_int Tryz.underlying3 h0
 obtain ⟨z1, e1, _, _⟩ := DataW.trod_int Tryz.underlying3 h1
 obtain ⟨z2, e2, _, _⟩ := DataW.trod_int Tryz.underlying3 h2
 obtain ⟨z3, e3, _, _⟩ := DataW.trod_int Tryz.underlying3 h3
 obtain ⟨z4, e4, _, _⟩ := DataW.trod_int Tryz.underlying3 h4
 obtain ⟨z5, e5, _, _⟩ := DataW.trod_int Tryz.underlying3 h5
 obtain ⟨z6, e6, _, _⟩ := DataW.trod_int Tryz.underlying3 h6
 obtain ⟨z7, e7, _, _⟩ := DataW.trod_int Tryz.underlying3 h7
 simp at e0 e1 e2 e3 e4 e5 e6 e7
 subst e0 e1 e2 e3 e4 e5 e6 e7
 exact ⟨⟨z0, z1, z2, z3, z4, z5, z6, z7⟩, rfl⟩
set_option maxRecDepth 20000 in
theorem acc_in2 {H : Type} {enc : TypeId × Value → H} {W : World} {fuel : Nat} {cs : List Value} {x : DataW H × List MemPlace} (h : DataW.trod enc Tryz.prog W 0 (fun _ => true) true fuel 62 cs = some x) :
  ∃ f : Ac, cs = acC f ∧ (f.nm.size ≤ maxLen ∧ Word f.us) := by
 obtain ⟨xs, n, _, rfl, hl, hlen, hf⟩ := DataW.trod_struct Tryz.underlying62 h
 rw [Tryz.cellsAcc] at hl
 obtain ⟨c0, c1, c2, c3, c4, rfl⟩ := five hl
 obtain ⟨y0, y1, y2, y3, y4, rfl⟩ := five (l := xs) hlen
 clear h
 have h0 := hf 0 _ rfl
 have h1 := hf 1 _ rfl
 have h2 := hf 2 _ rfl
 have h3 := hf 3 _ rfl
 have h4 := hf 4 _ rfl
 simp [Tryz.cellsInt, Tryz.cellsStr, Tryz.cellsBool, Tryz.cellsU64] at h0 h1 h2 h3 h4
 obtain ⟨z0, e0, _, w0⟩ := DataW.trod_string Tryz.underlying9 h0
 obtain ⟨z1, e1, _, _⟩ := DataW.trod_int Tryz.underlying3 h1
 obtain ⟨z2, e2, _, _⟩ := DataW.trod_int Tryz.underlying3 h2
 obtain ⟨z3, e3, _⟩ := DataW.trod_bool Tryz.underlying4 h3
 obtain ⟨z4, e4, _, w4⟩ := DataW.trod_int Tryz.underlying60 h4
 simp at e0 e1 e2 e3 e4
 subst e0 e1 e2 e3 e4
 exact ⟨⟨z0, z1, z2, z3, z4⟩, rfl, w0, word_of_wf w4⟩
theorem accs_in2 {H : Type} {enc : TypeId × Value → H} {W : World} {fuel : Nat} {ao : Option Addr} {L sc : Nat} {x : DataW H × List MemPlace}
  (h : DataW.trod enc Tryz.prog W 0 (fun _ => true) true fuel 24 [.slice ao L sc] = some x) (hw : ∀ n ∈ x.1.weights Tryz.prog 24, n ≤ reachBytes) :
  L * 48 ≤ 140737488355328 ∧ ∃ l : List Ac, l.length = L ∧ AcsAt W ao l ∧ (∀ a ∈ l, a.nm.size ≤ maxLen) ∧ UsOk l ∧ (ao = none → l = [] ∧ sc = 0) ∧ L ≤ sc := by
 obtain ⟨h1, l, h2, ⟨g, o, h3, h4⟩, h5, h6, h7⟩ := five_in acC noAc (fun a => a.nm.size ≤ maxLen ∧ Word a.us) (fun _ => rfl) Tryz.underlying24 Tryz.cellsAcc Tryz.bytesAcc acc_in2 h hw
 exact ⟨h1, l, h2, ⟨g, o, h3, fun k a ha => ⟨h4 k a ha 0 _ rfl, h4 k a ha 1 _ rfl, h4 k a ha 2 _ rfl, h4 k a ha 3 _ rfl, h4 k a ha 4 _ rfl⟩⟩, fun a ha => (h5 a ha).1, fun n a ha => (h5 a (List.mem_of_getElem? ha)).2, h6, h7⟩
end Go.Proofs.YtdkbmligaodpmaaGreatDoor
