/-
  TEXTS: SoH, ActP.
-/
import Derived.Test.YtceoibfliggalaaGreatDoorRows
import Derived.Test.YtceoibfliggalaaGreatDoorCards
import Derived.Test.YtceoibfliggalaaGreatDoorTie
import Derived.Test.YtceoibfliggalaaGreatDoorKw4
import Derived.SizedLaws
import Derived.Carry
import Derived.ProofKit
import Derived.LaidLaws
import Derived.LaidHandle
import Derived.Lib.LaidTab
import Derived.Lib.SmallJoins
import Derived.SevenTiedAt
import Derived.Deep.Slices
import Derived.Test.YtceoibfliggalaaGreatDoorKw5
namespace Go.Proofs.YtceoibfliggalaaGreatDoor
open Go.ChangeShapes Go.WideShapes Go.ChangeAt Go.RowKit Go.Joins Wd Ld
theorem Tryz.own:ownKnob Tryz.prog.godebug=none:=by kernel_rfl
theorem Tryz.gT:Tryz.prog.globalNamed "backfill/ladder.rungs" =some 0:=by kernel_rfl
theorem Tryz.gTType:(Tryz.prog.globals[0]?).map (·.type)=some 244:=by kernel_rfl
theorem Tryz.cellsH1:Tryz.prog.cellsOf 50=1:=by kernel_rfl
theorem Tryz.cellsH32:Tryz.prog.cellsOf 244=32:=by kernel_rfl
abbrev LaidL {H:Type}:List (String×DataW H):= [("backfill/ladder.rungs",Rows.laid_backfill_ladder_rungs)]
abbrev tabZ:List Int:=rungs.map fun n:Nat=>(n:Int)
theorem tab_datum:(Rows.laid_backfill_ladder_rungs:DataW Unit)=Lib.tabData .u64 tabZ:=by rfl
theorem tab_of_laid {W:World} (h:laidMetH Tryz.prog LaidL W):Tab W:=by
 have h':laidMet Tryz.prog [("backfill/ladder.rungs",Lib.tabData .u64 tabZ)] W:=by rw [← tab_datum];exact h
 have hT:=Lib.tabIs_of_head Tryz.gT Tryz.gTType Tryz.underlying244 Tryz.underlying50 Tryz.cellsH1 Tryz.cellsH32 h'
 intro j hj
 have hl:rungs.length=32:=by rfl
 rw [hT.cell Tryz.gT j (by simp [hl];omega)]
 simp [hl,hj,R]
def laidObj:Obj→Obj
 | .cells _ t frozen=>.cells (tabZ.map (Value.int .u64)).toArray t frozen
 | o=>o
theorem laid_met:∀(os:Os) (args:Array Value),laidMetH Tryz.prog LaidL (({World.holding Tryz.prog os ⟨#[],#[],[]⟩with heap:=(World.holding Tryz.prog os ⟨#[],#[],[]⟩).heap.modify 0 laidObj}:World).forCall (fun _ _=>0) ⟨#[],args,[]⟩).memory:=fun _ _=>
 laidMetH_of_parts (laidMet_of_run' 8 (by kernel_rfl) (by kernel_rfl)) (by kernel_rfl)
end Go.Proofs.YtceoibfliggalaaGreatDoor
namespace Go.Proofs.YtceoibfliggalaaGreatDoor
open Go.ChangeShapes Go.WideShapes Go.ChangeAt Go.RowKit Go.Joins Tr
theorem Tryz.laidOut:laidOutB Tryz.prog=true:=by kernel_rfl
theorem Tryz.cellsAcc:Tryz.prog.cellsOf 52=5:=by kernel_rfl
theorem Tryz.bytesAcc:Tryz.prog.bytesOf 52=48:=by kernel_rfl
theorem Tryz.cellsInt:Tryz.prog.cellsOf 3=1:=by kernel_rfl
theorem Tryz.cellsStr:Tryz.prog.cellsOf 9=1:=by kernel_rfl
theorem Tryz.cellsBool:Tryz.prog.cellsOf 4=1:=by kernel_rfl
theorem Tryz.cellsU64:Tryz.prog.cellsOf 50=1:=by kernel_rfl
theorem add_none (g o j:Nat):(⟨g,o,none⟩:Addr).add j=⟨g,o+j,none⟩:=by unfold Addr.add;split<;>simp_all
theorem no_sub {W:World} {g o:Nat} {s:Option _} {v:Value} (h0:W.cell? (⟨g,o,s⟩:Addr)=some v):s=none:=by
 cases s with
 | none=>rfl
 | some t=>
  unfold World.cell? at h0
  split at h0<;>simp at h0
theorem five {α:Type} {l:List α} (h:l.length=5):∃a b c d e,l= [a,b,c,d,e]:=by
 match l,h with
 | [a,b,c,d,e],_=>exact⟨a,b,c,d,e,rfl⟩
def acC (f:Ac):List Value:= [.string f.nm,.int .i64 f.pa,.int .i64 f.sh,.bool f.cl,.int .u64 f.us]
theorem five_in {H:Type} {α:Type} {enc:TypeId×Value→H} {W:World} {fuel:Nat} {ao:Option Addr} {L sc:Nat} {x:DataW H×List MemPlace} {t e by_:Nat} (C:α→List Value) (d:α) (ok:α→Prop) (hC:∀f,(C f).length=5)
  (hu:Tryz.prog.underlying t=some (.slice e)) (hce:Tryz.prog.cellsOf e=5) (hby:Tryz.prog.bytesOf e=by_)
  (one:∀ {fuel:Nat} {cs:List Value} {x:DataW H×List MemPlace},DataW.trod enc Tryz.prog W 0 (fun _=>true) true fuel e cs=some x→∃f:α,cs=C f∧ok f)
  (h:DataW.trod enc Tryz.prog W 0 (fun _=>true) true fuel t [.slice ao L sc]=some x) (hw:∀n∈x.1.weights Tryz.prog t,n≤reachBytes):
  L*by_≤140737488355328∧∃l:List α,l.length=L∧(∃g o,(0<l.length→ao=some ⟨g,o,none⟩)∧∀k r,l[k]?=some r→∀i v,(C r)[i]?=some v→W.cell? ⟨g,o+k*5+i,none⟩=some v)∧(∀r∈l,ok r)∧(ao=none→l= []∧sc=0)∧L≤sc:=by
 rcases Go.Deep.open_slice hu h with⟨hc,_⟩ | ⟨a,len,cap,m,n,D,Pl,hc,_,hl,_,hm,hx,hel⟩
 ·simp at hc
  obtain⟨rfl,rfl,rfl⟩:=hc
  exact⟨by omega,[],rfl,⟨0,0,fun h=>(by simp at h),fun k r hk=>by simp at hk⟩,fun r hr=>(by cases hr),fun _=>⟨rfl,rfl⟩,Nat.le_refl _⟩
 ·simp at hc
  obtain⟨rfl,rfl,rfl⟩:=hc
  rw [hce]at hel
  simp at hm
  subst hm
  have hb:=hw ((((List.range L).map D).length+((List.range (m - L)).map fun j=>D (L+j)).length)*Tryz.prog.bytesOf e) (by rw [hx];simp [DataW.weights,hu])
  rw [hby]at hb
  simp only [reachBytes,List.length_map,List.length_range]at hb
  have hel':∀k,∃f:α,k<L→W.cells? 0 (a.add (k*5)) 5=some (C f)∧ok f:=fun k=>by
   by_cases hk:k<L
   ·obtain ⟨cs,h1,h2⟩:=hel k (by omega)
    obtain⟨f,rfl,hf⟩:=one h2
    exact⟨f,fun _=>⟨h1,hf⟩⟩
   ·exact ⟨d,fun h=>absurd h hk⟩
  obtain⟨f,hf⟩:=Classical.axiomOfChoice hel'
  have hget:∀k r,((List.range L).map f)[k]?=some r→k<L∧r=f k:=fun k r hr=>by
   obtain⟨hk,e⟩:=List.getElem?_eq_some_iff.1 hr
   simp at hk e
   exact⟨hk,e.symm⟩
  have hLm:L*by_≤(L+(m - L))*by_:=Nat.mul_le_mul_right _ (Nat.le_add_right _ _)
  refine⟨by omega,(List.range L).map f,by simp,?_,fun r hr=>?_,(fun h=>by cases h),hl⟩
  ·by_cases hL:0<L
   ·obtain ⟨g,o,s⟩:=a
    have hcell:∀k,k<L→∀i v,(C (f k))[i]?=some v→W.cell? ((⟨g,o,s⟩:Addr).add (k*5+i))=some v:=fun k hk i v hv=>by
     have hi:i<5:=by rw [← hC (f k)];exact(List.getElem?_eq_some_iff.1 hv).1
     obtain⟨_,hlen,hcell⟩:=World.cells?_some (hf k hk).1
     have h0:=hcell i (by omega)
     rw [Go.Deep.add_add]at h0
     rw [h0]
     exact hv
    have hs:s=none:=by
     obtain⟨v,hv⟩:∃v,(C (f 0))[0]?=some v:=⟨_,List.getElem?_eq_getElem (by rw [hC];omega)⟩
     have h0:=hcell 0 hL 0 v hv
     have e:(⟨g,o,s⟩:Addr).add (0*5+0)=⟨g,o,s⟩:=by unfold Addr.add;simp
     rw [e]at h0
     exact no_sub h0
    subst hs
    refine⟨g,o,fun _=>rfl,fun k r hk i v hv=>?_⟩
    obtain⟨hkL,rfl⟩:=hget k r hk
    have:=hcell k hkL i v hv
    rwa [add_none,←Nat.add_assoc]at this
   ·exact ⟨0,0,fun h=>by simp at h;omega,fun k r hk=>absurd (hget k r hk).1 (by omega)⟩
  ·obtain ⟨k,hk⟩:=List.getElem?_of_mem hr
   obtain⟨hkL,rfl⟩:=hget k r hk
   exact(hf k hkL).2
end Go.Proofs.YtceoibfliggalaaGreatDoor
