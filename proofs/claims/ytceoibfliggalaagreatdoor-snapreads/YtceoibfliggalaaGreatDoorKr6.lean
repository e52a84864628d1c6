/-
  TEXTS: SoH, ActP.
-/
import Derived.Test.YtceoibfliggalaaGreatDoorRows
import Derived.Test.YtceoibfliggalaaGreatDoorCards
import Derived.Test.YtceoibfliggalaaGreatDoorTie
import Derived.Test.YtceoibfliggalaaGreatDoorKr4
import Derived.SizedLaws
import Derived.Carry
import Derived.ProofKit
import Derived.LaidLaws
import Derived.LaidHandle
import Derived.Lib.LaidTab
import Derived.Lib.SmallJoins
import Derived.SevenTiedAt
import Derived.Deep.Slices
import Derived.Test.YtceoibfliggalaaGreatDoorKr5
namespace Go.Proofs.YtceoibfliggalaaGreatDoor
open Go.ChangeShapes Go.WideShapes Go.ChangeAt Go.RowKit Go.Joins Wd Ld
theorem Tryz.own:ownKnob Tryz.prog.godebug=none:=by kernel_rfl
theorem Tryz.gT:Tryz.prog.globalNamed "backfill/ladder.rungs" =some 0:=by kernel_rfl
theorem Tryz.gTType:(Tryz.prog.globals[0]?).map (·.type)=some 244:=by kernel_rfl
theorem Tryz.cellsH1:Tryz.prog.cellsOf 50=1:=by kernel_rfl
theorem Tryz.cellsH32:Tryz.prog.cellsOf 244=32:=by kernel_rfl
abbrev LaidL {H:Type}:List (String×DataW H):= [("backfill/ladder.rungs",Rows.laid_backfill_ladder_rungs)]
abbrev tabZ:List Int:=rungs.map fun n:Nat=>(n:Int)
theorem tab_datum:(Rows.laid_backfill_ladder_rungs:DataW Unit)=Lib.tabData .u64 tabZ:=by rfl
theorem tab_of_laid {W:World} (h:laidMetH Tryz.prog LaidL W):Tab W:=by
 have h':laidMet Tryz.prog [("backfill/ladder.rungs",Lib.tabData .u64 tabZ)] W:=by rw [← tab_datum];exact h
 have hT:=Lib.tabIs_of_head Tryz.gT Tryz.gTType Tryz.underlying244 Tryz.underlying50 Tryz.cellsH1 Tryz.cellsH32 h'
 intro j hj
 have hl:rungs.length=32:=by rfl
 rw [hT.cell Tryz.gT j (by simp [hl];omega)]
 simp [hl,hj,R]
def laidObj:Obj→Obj
 | .cells _ t frozen=>.cells (tabZ.map (Value.int .u64)).toArray t frozen
 | o=>o
theorem laid_met:∀(os:Os) (args:Array Value),laidMetH Tryz.prog LaidL (({World.holding Tryz.prog os ⟨#[],#[],[]⟩with heap:=(World.holding Tryz.prog os ⟨#[],#[],[]⟩).heap.modify 0 laidObj}:World).forCall (fun _ _=>0) ⟨#[],args,[]⟩).memory:=fun _ _=>
 laidMetH_of_parts (laidMet_of_run' 8 (by kernel_rfl) (by kernel_rfl)) (by kernel_rfl)
end Go.Proofs.YtceoibfliggalaaGreatDoor
namespace Go.Proofs.YtceoibfliggalaaGreatDoor
open Go.ChangeShapes Go.WideShapes Go.ChangeAt Go.RowKit Go.Joins Tr
theorem Tryz.laidOut:laidOutB Tryz.prog=true:=by kernel_rfl
theorem no_sub {W:World} {g o:Nat} {s:Option _} {v:Value} (h0:W.cell? (⟨g,o,s⟩:Addr)=some v):s=none:=by
 cases s with
 | none=>rfl
 | some t=>
  unfold World.cell? at h0
  split at h0<;>simp at h0
theorem five {α:Type} {l:List α} (h:l.length=5):∃a b c d e,l= [a,b,c,d,e]:=by
 match l,h with
 | [a,b,c,d,e],_=>exact⟨a,b,c,d,e,rfl⟩
end Go.Proofs.YtceoibfliggalaaGreatDoor
