/-
  WHAT THE ROWS OF THIS SEAT SHARE. The table that is listed: what it gives a walk; a world that has it.
-/
import Derived.Test.YtpiceckolcakaaaDoorRows
import Derived.Test.YtpiceckolcakaaaDoorCards
import Derived.Test.YtpiceckolcakaaaDoorTie
import Derived.Test.YtpiceckolcakaaaDoorDlE
import Derived.SizedLaws
import Derived.Carry
import Derived.ProofKit
import Derived.LaidLaws
import Derived.LaidHandle
import Derived.Lib.LaidTab
import Derived.Lib.SmallJoins
import Derived.SevenTiedAt
namespace Go.Proofs.YtpiceckolcakaaaDoor
open Go.ChangeShapes Go.WideShapes Go.ChangeAt Go.RowKit Go.Joins Wd Ld

theorem Tryd.own : ownKnob Tryd.prog.godebug = none := by kernel_rfl
theorem Tryd.gT : Tryd.prog.globalNamed "backfill/ladder.rungs" = some 0 := by kernel_rfl
theorem Tryd.gTType : (Tryd.prog.globals[0]?).map (·.type) = some 62 := by kernel_rfl
theorem Tryd.cells22 : Tryd.prog.cellsOf 22 = 1 := by kernel_rfl
theorem Tryd.cells62 : Tryd.prog.cellsOf 62 = 32 := by kernel_rfl

abbrev LaidL {H : Type} : List (String × DataW H) := [("backfill/ladder.rungs", Rows.laid_backfill_ladder_rungs)]
abbrev tabZ : List Int := rungs.map fun n : Nat => (n : Int)
theorem tab_datum : (Rows.laid_backfill_ladder_rungs : DataW Unit) = Lib.tabData .u64 tabZ := by rfl
theorem tab_of_laid {W : World} (h : laidMetH Tryd.prog LaidL W) : Tab W := by
  have h' : laidMet Tryd.prog [("backfill/ladder.rungs", Lib.tabData .u64 tabZ)] W := by rw [← tab_datum]; exact h
  have hT := Lib.tabIs_of_head Tryd.gT Tryd.gTType Tryd.underlying62 Tryd.underlying22 Tryd.cells22 Tryd.cells62 h'
  intro j hj
  have hl : rungs.length = 32 := by rfl
  rw [hT.cell Tryd.gT j (by simp [hl]; omega)]
  simp [hl, hj, R]

/-- A world that meets the condition: the settled one, the table's block laid. -/
noncomputable def laidWorld (os : Os) : World :=
  let w0 := World.holding Tryd.prog os ⟨#[], #[], []⟩
  { w0 with heap := w0.heap.modify 0 fun
      | .cells _ t frozen => .cells (tabZ.map (Value.int .u64)).toArray t frozen
      | o => o }
theorem laidWorld_met (os : Os) (args : Array Value) : laidMetH Tryd.prog LaidL ((laidWorld os).forCall (fun _ _ => 0) ⟨#[], args, []⟩).memory :=
  laidMetH_of_parts (laidMet_of_run' 8 (by kernel_rfl) (by kernel_rfl)) (by kernel_rfl)
theorem word_of_wf {x : Int} (h : (Lit.int .u64 x).wf = true) : Word x := by
  simp [Lit.wf, IntKind.min, IntKind.max, IntKind.signed, IntKind.bits] at h
  exact ⟨by omega, by omega⟩
theorem fit_of_wf {x : Int} (h : (Lit.int .i64 x).wf = true) : FitN x := by
  simp [Lit.wf, IntKind.min, IntKind.max, IntKind.signed, IntKind.bits] at h
  exact ⟨by omega, by omega⟩
theorem Tryd.laidOut : laidOutB Tryd.prog = true := by kernel_rfl
theorem Tryd.cellsI : Tryd.prog.cellsOf 3 = 1 := by kernel_rfl
section
variable {H : Type} {enc : TypeId × Value → H} {P : Program} {w : World} {base : Nat} {spare : Nat → Bool} {held : Bool}
theorem trodAll_five {t0 t1 t2 t3 t4 : TypeId} {args : Array Value} {ds : List (DataW H)} {ps : List MemPlace} (h : DataW.TrodAll enc P w base spare held [t0, t1, t2, t3, t4] args.toList ds ps) :
    ∃ v0 v1 v2 v3 v4 d0 d1 d2 d3 d4 p0 p1 p2 p3 p4, args = #[v0, v1, v2, v3, v4] ∧ ds = [d0, d1, d2, d3, d4] ∧ ps = p0 ++ (p1 ++ (p2 ++ (p3 ++ p4))) ∧ DataW.Trod enc P w base spare held t0 v0 d0 p0 ∧ DataW.Trod enc P w base spare held t1 v1 d1 p1 ∧ DataW.Trod enc P w base spare held t2 v2 d2 p2 ∧ DataW.Trod enc P w base spare held t3 v3 d3 p3 ∧ DataW.Trod enc P w base spare held t4 v4 d4 p4 := by
  obtain ⟨v0, r0, d0, e0, p0, q0, hargs, rfl, rfl, h0, k0⟩ := trodAll_cons h
  obtain ⟨v1, r1, d1, e1, p1, q1, rfl, rfl, rfl, h1, k1⟩ := trodAll_cons k0
  obtain ⟨v2, r2, d2, e2, p2, q2, rfl, rfl, rfl, h2, k2⟩ := trodAll_cons k1
  obtain ⟨v3, r3, d3, e3, p3, q3, rfl, rfl, rfl, h3, k3⟩ := trodAll_cons k2
  obtain ⟨v4, r4, d4, e4, p4, q4, rfl, rfl, rfl, h4, k4⟩ := trodAll_cons k3
  obtain ⟨rfl, rfl, rfl⟩ := trodAll_nil k4
  exact ⟨v0, v1, v2, v3, v4, d0, d1, d2, d3, d4, p0, p1, p2, p3, p4, by cases args; simp_all, rfl, by simp, h0, h1, h2, h3, h4⟩
theorem trodAll_mk5 {t0 t1 t2 t3 t4 : TypeId} {v0 v1 v2 v3 v4 : Value} {d0 d1 d2 d3 d4 : DataW H} {p0 p1 p2 p3 p4 : List MemPlace} (h0 : DataW.Trod enc P w base spare held t0 v0 d0 p0) (h1 : DataW.Trod enc P w base spare held t1 v1 d1 p1) (h2 : DataW.Trod enc P w base spare held t2 v2 d2 p2) (h3 : DataW.Trod enc P w base spare held t3 v3 d3 p3) (h4 : DataW.Trod enc P w base spare held t4 v4 d4 p4) :
    DataW.TrodAll enc P w base spare held [t0, t1, t2, t3, t4] [v0, v1, v2, v3, v4] [d0, d1, d2, d3, d4] (p0 ++ (p1 ++ (p2 ++ (p3 ++ p4)))) := ⟨p0, _, h0, trodAll_mk4 h1 h2 h3 h4, rfl⟩
end
/-- A slice of ints that came in, as the walks ask for it. -/
theorem ints_in {H : Type} {enc : TypeId × Value → H} {W : World} {fuel : Nat} {ao : Option Addr} {m cap : Nat} {x : DataW H × List MemPlace}
    (h : DataW.trod enc Tryd.prog W 0 (fun _ => true) true fuel 33 [.slice ao m cap] = some x) :
    ∃ l : List Int, l.length = m ∧ m ≤ 9223372036854775807 ∧ IntsAt W ao l ∧ ∀ n, n ∈ l → FitN n := by
  rcases open_ints Tryd.underlying33 Tryd.underlying3 Tryd.cellsI h with ⟨hc, hx⟩ | ⟨a, len, cap', zs, hc, _, hl, hcm, hlen, hx, hcell, hwf⟩
  · simp at hc
    obtain ⟨rfl, rfl, rfl⟩ := hc
    exact ⟨[], rfl, by omega, ⟨0, 0, fun h => absurd h (by simp), fun j n hn => by simp at hn⟩, fun n hn => by simp at hn⟩
  · simp at hc
    obtain ⟨rfl, rfl, rfl⟩ := hc
    simp at hlen
    have hle : m ≤ zs.length := by omega
    have hmx : m ≤ 9223372036854775807 := by simp [maxLen] at hcm; omega
    refine ⟨zs.take m, by simp; omega, hmx, ?_, fun n hn => fit_of_wf (hwf n (List.mem_of_mem_take hn))⟩
    by_cases hm : 0 < m
    · have h0 := hcell 0 (by omega)
      obtain ⟨g, o, s⟩ := a
      have hs : s = none := by
        cases s with
        | none => rfl
        | some t =>
          have : (⟨g, o, some t⟩ : Addr).add 0 = ⟨g, o, some t⟩ := by unfold Addr.add; simp
          rw [this] at h0
          unfold World.cell? at h0
          split at h0 <;> simp at h0
      subst hs
      have hadd : ∀ j, (⟨g, o, none⟩ : Addr).add j = ⟨g, o + j, none⟩ := fun j => by unfold Addr.add; split <;> simp_all
      refine ⟨g, o, fun _ => rfl, fun j n hn => ?_⟩
      have hj : j < m := by
        have := (List.getElem?_eq_some_iff.1 hn).1
        simp at this
        omega
      have e := hcell j (by omega)
      rw [hadd] at e
      rw [e]
      rw [List.getElem?_take, if_pos hj] at hn
      simp [List.getD, hn]
    · refine ⟨0, 0, fun h => absurd h (by simp; omega), fun j n hn => ?_⟩
      rw [List.getElem?_take, if_neg (by omega)] at hn
      cases hn
end Go.Proofs.YtpiceckolcakaaaDoor
