/-
  WHAT THE ROWS OF THIS SEAT SHARE. The table that is listed: what it gives a walk; a world that has it; what comes in: configs, lists of numbers, of acts, of jobs.
-/
import Derived.Test.YtegpamoglifojaaDoorRows
import Derived.Test.YtegpamoglifojaaDoorCards
import Derived.Test.YtegpamoglifojaaDoorTie
import Derived.Test.YtegpamoglifojaaDoorLwB
import Derived.Test.YtegpamoglifojaaDoorRwb
import Derived.SizedLaws
import Derived.Carry
import Derived.ProofKit
import Derived.LaidLaws
import Derived.LaidHandle
import Derived.Lib.LaidTab
import Derived.Lib.SmallJoins
import Derived.SevenTiedAt
import Derived.Deep.Slices
namespace Go.Proofs.YtegpamoglifojaaDoor
open Go.ChangeShapes Go.WideShapes Go.ChangeAt Go.RowKit Go.Joins Wd Ld Cg Lg

theorem Tryd.own : ownKnob Tryd.prog.godebug = none := by kernel_rfl
theorem Tryd.gT : Tryd.prog.globalNamed "backfill/ladder.rungs" = some 0 := by kernel_rfl
theorem Tryd.gTType : (Tryd.prog.globals[0]?).map (·.type) = some 120 := by kernel_rfl
theorem Tryd.cells28 : Tryd.prog.cellsOf 28 = 1 := by kernel_rfl
theorem Tryd.cells120 : Tryd.prog.cellsOf 120 = 32 := by kernel_rfl
theorem Tryd.cells3 : Tryd.prog.cellsOf 3 = 1 := by kernel_rfl
theorem Tryd.cells26 : Tryd.prog.cellsOf 26 = 1 := by kernel_rfl
theorem Tryd.cells23 : Tryd.prog.cellsOf 23 = 8 := by kernel_rfl
theorem Tryd.cells40 : Tryd.prog.cellsOf 40 = 4 := by kernel_rfl
theorem Tryd.cells57 : Tryd.prog.cellsOf 57 = 8 := by kernel_rfl
theorem Tryd.bytes3 : Tryd.prog.bytesOf 3 = 8 := by kernel_rfl
theorem Tryd.bytes28 : Tryd.prog.bytesOf 28 = 8 := by kernel_rfl
theorem Tryd.bytes40 : Tryd.prog.bytesOf 40 = 32 := by kernel_rfl
theorem Tryd.bytes57 : Tryd.prog.bytesOf 57 = 80 := by kernel_rfl
theorem Tryd.laidOut : laidOutB Tryd.prog = true := by kernel_rfl

abbrev LaidL {H : Type} : List (String × DataW H) := [("backfill/ladder.rungs", Rows.laid_backfill_ladder_rungs)]
abbrev tabZ : List Int := rungs.map fun n : Nat => (n : Int)
theorem tab_datum : (Rows.laid_backfill_ladder_rungs : DataW Unit) = Lib.tabData .u64 tabZ := by rfl
theorem tab_of_laid {W : World} (h : laidMetH Tryd.prog LaidL W) : Tab W := by
  have h' : laidMet Tryd.prog [("backfill/ladder.rungs", Lib.tabData .u64 tabZ)] W := by rw [← tab_datum]; exact h
  have hT := Lib.tabIs_of_head Tryd.gT Tryd.gTType Tryd.underlying120 Tryd.underlying28 Tryd.cells28 Tryd.cells120 h'
  intro j hj
  have hl : rungs.length = 32 := by rfl
  rw [hT.cell Tryd.gT j (by simp [hl]; omega)]
  simp [hl, hj, R]
/-- A world that meets the condition: the settled one, the table's block laid. -/
noncomputable def laidWorld (os : Os) : World :=
  let w0 := World.holding Tryd.prog os ⟨#[], #[], []⟩
  { w0 with heap := w0.heap.modify 0 fun
      | .cells _ t frozen => .cells (tabZ.map (Value.int .u64)).toArray t frozen
      | o => o }
theorem laidWorld_met (os : Os) (args : Array Value) : laidMetH Tryd.prog LaidL ((laidWorld os).forCall (fun _ _ => 0) ⟨#[], args, []⟩).memory :=
  laidMetH_of_parts (laidMet_of_run' 8 (by kernel_rfl) (by kernel_rfl)) (by kernel_rfl)
theorem word_of_wf {x : Int} (h : (Lit.int .u64 x).wf = true) : Word x := by
  simp [Lit.wf, IntKind.min, IntKind.max, IntKind.signed, IntKind.bits] at h
  exact ⟨by omega, by omega⟩

/-! ## Lists that come in -/
theorem no_sub {W : World} {g o : Nat} {s : Option _} {v : Value} (h0 : W.cell? (⟨g, o, s⟩ : Addr) = some v) : s = none := by
  cases s with
  | none => rfl
  | some t =>
    unfold World.cell? at h0
    split at h0 <;> simp at h0
/-- A list of things of z cells that came in. -/
theorem recs_in {H : Type} {α : Type} {enc : TypeId × Value → H} {W : World} {fuel : Nat} {ao : Option Addr} {L sc : Nat} {x : DataW H × List MemPlace} {t e by_ z : Nat} (C : α → List Value) (d : α) (ok : α → Prop) (hz : 0 < z) (hC : ∀ f, (C f).length = z)
    (hu : Tryd.prog.underlying t = some (.slice e)) (hce : Tryd.prog.cellsOf e = z) (hby : Tryd.prog.bytesOf e = by_)
    (one : ∀ {fuel : Nat} {cs : List Value} {x : DataW H × List MemPlace}, DataW.trod enc Tryd.prog W 0 (fun _ => true) true fuel e cs = some x → ∃ f : α, cs = C f ∧ ok f)
    (h : DataW.trod enc Tryd.prog W 0 (fun _ => true) true fuel t [.slice ao L sc] = some x) (hw : ∀ n ∈ x.1.weights Tryd.prog t, n ≤ reachBytes) :
    L * by_ ≤ 140737488351232 ∧ ∃ l : List α, l.length = L ∧ (∃ g o, (0 < l.length → ao = some ⟨g, o, none⟩) ∧ ∀ k r, l[k]? = some r → ∀ i v, (C r)[i]? = some v → W.cell? ⟨g, o + k * z + i, none⟩ = some v) ∧ (∀ r ∈ l, ok r) ∧ (ao = none → l.length = 0 ∧ sc = 0) ∧ L ≤ sc := by
  rcases Go.Deep.open_slice hu h with ⟨hc, _⟩ | ⟨a, len, cap, m, n, D, Pl, hc, _, hl, _, hm, hx, hel⟩
  · simp at hc
    obtain ⟨rfl, rfl, rfl⟩ := hc
    exact ⟨by omega, [], rfl, ⟨0, 0, fun h => (by simp at h), fun k r hk => by simp at hk⟩, fun r hr => (by cases hr), fun _ => ⟨rfl, rfl⟩, Nat.le_refl _⟩
  · simp at hc
    obtain ⟨rfl, rfl, rfl⟩ := hc
    rw [hce] at hel
    simp at hm
    subst hm
    have hb := hw ((((List.range L).map D).length + ((List.range (m - L)).map fun j => D (L + j)).length) * Tryd.prog.bytesOf e) (by rw [hx]; simp [DataW.weights, hu])
    rw [hby] at hb
    simp only [reachBytes, List.length_map, List.length_range] at hb
    have hel' : ∀ k, ∃ f : α, k < L → W.cells? 0 (a.add (k * z)) z = some (C f) ∧ ok f := fun k => by
      by_cases hk : k < L
      · obtain ⟨cs, h1, h2⟩ := hel k (by omega)
        obtain ⟨f, rfl, hf⟩ := one h2
        exact ⟨f, fun _ => ⟨h1, hf⟩⟩
      · exact ⟨d, fun h => absurd h hk⟩
    obtain ⟨f, hf⟩ := Classical.axiomOfChoice hel'
    have hget : ∀ k r, ((List.range L).map f)[k]? = some r → k < L ∧ r = f k := fun k r hr => by
      obtain ⟨hk, e⟩ := List.getElem?_eq_some_iff.1 hr
      simp at hk e
      exact ⟨hk, e.symm⟩
    have hLm : L * by_ ≤ (L + (m - L)) * by_ := Nat.mul_le_mul_right _ (Nat.le_add_right _ _)
    refine ⟨by omega, (List.range L).map f, by simp, ?_, fun r hr => ?_, (fun h => by cases h), hl⟩
    · by_cases hL : 0 < L
      · obtain ⟨g, o, s⟩ := a
        have hcell : ∀ k, k < L → ∀ i v, (C (f k))[i]? = some v → W.cell? ((⟨g, o, s⟩ : Addr).add (k * z + i)) = some v := fun k hk i v hv => by
          have hi : i < z := by rw [← hC (f k)]; exact (List.getElem?_eq_some_iff.1 hv).1
          obtain ⟨_, hlen, hcell⟩ := World.cells?_some (hf k hk).1
          have h0 := hcell i (by omega)
          rw [Go.Deep.add_add] at h0
          rw [h0]
          exact hv
        have hs : s = none := by
          obtain ⟨v, hv⟩ : ∃ v, (C (f 0))[0]? = some v := ⟨_, List.getElem?_eq_getElem (by rw [hC]; omega)⟩
          have h0 := hcell 0 hL 0 v hv
          have e : (⟨g, o, s⟩ : Addr).add (0 * z + 0) = ⟨g, o, s⟩ := by unfold Addr.add; simp
          rw [e] at h0
          exact no_sub h0
        subst hs
        refine ⟨g, o, fun _ => rfl, fun k r hk i v hv => ?_⟩
        obtain ⟨hkL, rfl⟩ := hget k r hk
        have := hcell k hkL i v hv
        rwa [add_off, ← Nat.add_assoc] at this
      · exact ⟨0, 0, fun h => by simp at h; omega, fun k r hk => absurd (hget k r hk).1 (by omega)⟩
    · obtain ⟨k, hk⟩ := List.getElem?_of_mem hr
      obtain ⟨hkL, rfl⟩ := hget k r hk
      exact (hf k hkL).2
section
variable {H : Type} {enc : TypeId × Value → H} {W : World} {fuel : Nat} {ao : Option Addr} {L sc : Nat} {x : DataW H × List MemPlace}
/-- Numbers that came in. -/
theorem ints_in (h : DataW.trod enc Tryd.prog W 0 (fun _ => true) true fuel 26 [.slice ao L sc] = some x) (hw : ∀ n ∈ x.1.weights Tryd.prog 26, n ≤ reachBytes) :
    L * 8 ≤ 140737488351232 ∧ ∃ l : List Int, l.length = L ∧ IntsAt W ao l ∧ (ao = none → l.length = 0 ∧ sc = 0) ∧ L ≤ sc := by
  obtain ⟨h1, l, h2, ⟨g, o, h3, h4⟩, _, h6, h7⟩ := recs_in (α := Int) (fun z => [.int .i64 z]) 0 (fun _ => True) Nat.one_pos (fun _ => rfl) Tryd.underlying26 Tryd.cells3 Tryd.bytes3
    (fun hx => by obtain ⟨z, e, _, _⟩ := DataW.trod_int Tryd.underlying3 hx; exact ⟨z, e, trivial⟩) h hw
  exact ⟨h1, l, h2, ⟨g, o, h3, fun k n hn => by simpa using h4 k n hn 0 _ rfl⟩, h6, h7⟩
/-- Usages that came in. -/
theorem wds_in (h : DataW.trod enc Tryd.prog W 0 (fun _ => true) true fuel 24 [.slice ao L sc] = some x) (hw : ∀ n ∈ x.1.weights Tryd.prog 24, n ≤ reachBytes) :
    L * 8 ≤ 140737488351232 ∧ ∃ l : List Int, l.length = L ∧ WdsAt W ao l ∧ Wds l ∧ (ao = none → l.length = 0 ∧ sc = 0) ∧ L ≤ sc := by
  obtain ⟨h1, l, h2, ⟨g, o, h3, h4⟩, h5, h6, h7⟩ := recs_in (α := Int) (fun z => [.int .u64 z]) 0 Word Nat.one_pos (fun _ => rfl) Tryd.underlying24 Tryd.cells28 Tryd.bytes28
    (fun hx => by obtain ⟨z, e, _, hwf⟩ := DataW.trod_int Tryd.underlying28 hx; exact ⟨z, e, word_of_wf hwf⟩) h hw
  exact ⟨h1, l, h2, ⟨g, o, h3, fun k n hn => by simpa using h4 k n hn 0 _ rfl⟩, h5, h6, h7⟩
end
theorem eight {α : Type} {l : List α} (h : l.length = 8) : ∃ a b c d e f g i, l = [a, b, c, d, e, f, g, i] := by
  match l, h with
  | [a, b, c, d, e, f, g, i], _ => exact ⟨a, b, c, d, e, f, g, i, rfl⟩
def jbC (j : Jb) : List Value := [.int .i64 j.ac, .int .i64 j.nd, .int .i64 j.lm, .int .i64 j.sb, .int .i64 j.st, .int .i64 j.sr, .int .i64 j.en, .slice j.sa j.sl j.sc]
set_option maxRecDepth 20000 in
/-- One job that came in. -/
theorem job_in {H : Type} {enc : TypeId × Value → H} {W : World} {fuel : Nat} {cs : List Value} {x : DataW H × List MemPlace} (h : DataW.trod enc Tryd.prog W 0 (fun _ => true) true fuel 57 cs = some x) :
    ∃ f : Jb, cs = jbC f ∧ True := by
  obtain ⟨xs, n, _, rfl, hl, hlen, hf⟩ := DataW.trod_struct Tryd.underlying57 h
  rw [Tryd.cells57] at hl
  obtain ⟨c0, c1, c2, c3, c4, c5, c6, c7, rfl⟩ := eight hl
  obtain ⟨y0, y1, y2, y3, y4, y5, y6, y7, rfl⟩ := eight (l := xs) hlen
  clear h
  have h0 := hf 0 _ rfl
  have h1 := hf 1 _ rfl
  have h2 := hf 2 _ rfl
  have h3 := hf 3 _ rfl
  have h4 := hf 4 _ rfl
  have h5 := hf 5 _ rfl
  have h6 := hf 6 _ rfl
  have h7 := hf 7 _ rfl
  simp [Tryd.cells3, Tryd.cells26] at h0 h1 h2 h3 h4 h5 h6 h7
  obtain ⟨z0, e0, _, _⟩ := DataW.trod_int Tryd.underlying3 h0
  obtain ⟨z1, e1, _, _⟩ := DataW.trod_int Tryd.underlying3 h1
  obtain ⟨z2, e2, _, _⟩ := DataW.trod_int Tryd.underlying3 h2
  obtain ⟨z3, e3, _, _⟩ := DataW.trod_int Tryd.underlying3 h3
  obtain ⟨z4, e4, _, _⟩ := DataW.trod_int Tryd.underlying3 h4
  obtain ⟨z5, e5, _, _⟩ := DataW.trod_int Tryd.underlying3 h5
  obtain ⟨z6, e6, _, _⟩ := DataW.trod_int Tryd.underlying3 h6
  obtain ⟨sa, sl, sc, e7⟩ : ∃ sa sl sc, c7 = Value.slice sa sl sc := by
    rcases open_ints Tryd.underlying26 Tryd.underlying3 Tryd.cells3 h7 with ⟨hc, _⟩ | ⟨a, len, cap, _, hc, _⟩
    · exact ⟨none, 0, 0, by simpa using hc⟩
    · exact ⟨some a, len, cap, by simpa using hc⟩
  simp at e0 e1 e2 e3 e4 e5 e6
  subst e0 e1 e2 e3 e4 e5 e6 e7
  exact ⟨⟨z0, z1, z2, z3, z4, z5, z6, sa, sl, sc⟩, rfl, trivial⟩
set_option maxRecDepth 20000 in
/-- Jobs that came in. -/
theorem jobs_in {H : Type} {enc : TypeId × Value → H} {W : World} {fuel : Nat} {ao : Option Addr} {L sc : Nat} {x : DataW H × List MemPlace}
    (h : DataW.trod enc Tryd.prog W 0 (fun _ => true) true fuel 52 [.slice ao L sc] = some x) (hw : ∀ n ∈ x.1.weights Tryd.prog 52, n ≤ reachBytes) :
    L * 80 ≤ 140737488351232 ∧ ∃ l : List Jb, l.length = L ∧ JobsAt W ao l ∧ (ao = none → l.length = 0 ∧ sc = 0) ∧ L ≤ sc := by
  obtain ⟨h1, l, h2, ⟨g, o, h3, h4⟩, _, h6, h7⟩ := recs_in jbC ⟨0, 0, 0, 0, 0, 0, 0, none, 0, 0⟩ (fun _ => True) (by decide) (fun _ => rfl) Tryd.underlying52 Tryd.cells57 Tryd.bytes57 job_in h hw
  exact ⟨h1, l, h2, ⟨g, o, h3, fun k a ha => ⟨h4 k a ha 0 _ rfl, h4 k a ha 1 _ rfl, h4 k a ha 2 _ rfl, h4 k a ha 3 _ rfl, h4 k a ha 4 _ rfl, h4 k a ha 5 _ rfl, h4 k a ha 6 _ rfl, h4 k a ha 7 _ rfl⟩⟩, h6, h7⟩
def axC (f : Ax) : List Value := [.int .i64 f.kd, .int .i64 f.wh, .int .i64 f.ac, .int .i64 f.nd]
theorem four {α : Type} {l : List α} (h : l.length = 4) : ∃ a b c d, l = [a, b, c, d] := by
  match l, h with
  | [a, b, c, d], _ => exact ⟨a, b, c, d, rfl⟩
set_option maxRecDepth 20000 in
/-- One act that came in. -/
theorem act_in {H : Type} {enc : TypeId × Value → H} {W : World} {fuel : Nat} {cs : List Value} {x : DataW H × List MemPlace} (h : DataW.trod enc Tryd.prog W 0 (fun _ => true) true fuel 40 cs = some x) :
    ∃ f : Ax, cs = axC f ∧ True := by
  obtain ⟨xs, n, _, rfl, hl, hlen, hf⟩ := DataW.trod_struct Tryd.underlying40 h
  rw [Tryd.cells40] at hl
  obtain ⟨c0, c1, c2, c3, rfl⟩ := four hl
  obtain ⟨y0, y1, y2, y3, rfl⟩ := four (l := xs) hlen
  clear h
  have h0 := hf 0 _ rfl
  have h1 := hf 1 _ rfl
  have h2 := hf 2 _ rfl
  have h3 := hf 3 _ rfl
  simp [Tryd.cells3] at h0 h1 h2 h3
  obtain ⟨z0, e0, _, _⟩ := DataW.trod_int Tryd.underlying3 h0
  obtain ⟨z1, e1, _, _⟩ := DataW.trod_int Tryd.underlying3 h1
  obtain ⟨z2, e2, _, _⟩ := DataW.trod_int Tryd.underlying3 h2
  obtain ⟨z3, e3, _, _⟩ := DataW.trod_int Tryd.underlying3 h3
  simp at e0 e1 e2 e3
  subst e0 e1 e2 e3
  exact ⟨⟨z0, z1, z2, z3⟩, rfl, trivial⟩
/-- Acts that came in. -/
theorem acts_in {H : Type} {enc : TypeId × Value → H} {W : World} {fuel : Nat} {ao : Option Addr} {L sc : Nat} {x : DataW H × List MemPlace}
    (h : DataW.trod enc Tryd.prog W 0 (fun _ => true) true fuel 25 [.slice ao L sc] = some x) (hw : ∀ n ∈ x.1.weights Tryd.prog 25, n ≤ reachBytes) :
    L * 32 ≤ 140737488351232 ∧ ∃ l : List Ax, l.length = L ∧ AxsAt W ao l ∧ (ao = none → l.length = 0 ∧ sc = 0) ∧ L ≤ sc := by
  obtain ⟨h1, l, h2, ⟨g, o, h3, h4⟩, _, h6, h7⟩ := recs_in axC ⟨0, 0, 0, 0⟩ (fun _ => True) (by decide) (fun _ => rfl) Tryd.underlying25 Tryd.cells40 Tryd.bytes40 act_in h hw
  exact ⟨h1, l, h2, ⟨g, o, h3, fun k a ha => ⟨h4 k a ha 0 _ rfl, h4 k a ha 1 _ rfl, h4 k a ha 2 _ rfl, h4 k a ha 3 _ rfl⟩⟩, h6, h7⟩
theorem array8 {α : Type} {cs : Array α} (h : cs.size = 8) : ∃ c0 c1 c2 c3 c4 c5 c6 c7, cs = #[c0, c1, c2, c3, c4, c5, c6, c7] := by
  obtain ⟨l⟩ := cs
  match l, h with
  | [c0, c1, c2, c3, c4, c5, c6, c7], _ => exact ⟨c0, c1, c2, c3, c4, c5, c6, c7, rfl⟩
set_option maxRecDepth 20000 in
/-- A config that came in. -/
theorem cf_in {H : Type} {enc : TypeId × Value → H} {W : World} {b0 : Nat} {r : Reach} {v : Value} {d : DataW H} {p : List MemPlace}
    (hv : Value.okWide Tryd.prog W r b0 23 v) (h : DataW.Trod enc Tryd.prog W 0 (fun _ => true) true 23 v d p) : ∃ c : Cf, v = cfV c := by
  obtain ⟨cs, rfl, hsz⟩ := okWide_struct Tryd.underlying23 hv
  obtain ⟨c0, c1, c2, c3, c4, c5, c6, c7, rfl⟩ := array8 (hsz.trans Tryd.cells23)
  obtain ⟨fuel, hf⟩ := h
  obtain ⟨xs, n, _, _, hl, hlen, hf⟩ := DataW.trod_struct Tryd.underlying23 hf
  obtain ⟨y0, y1, y2, y3, y4, y5, y6, y7, rfl⟩ := eight (l := xs) hlen
  have h0 := hf 0 _ rfl
  have h1 := hf 1 _ rfl
  have h2 := hf 2 _ rfl
  have h3 := hf 3 _ rfl
  have h4 := hf 4 _ rfl
  have h5 := hf 5 _ rfl
  have h6 := hf 6 _ rfl
  have h7 := hf 7 _ rfl
  simp [Tryd.cells3, Value.cells] at h0 h1 h2 h3 h4 h5 h6 h7
  obtain ⟨z0, e0, _, _⟩ := DataW.trod_int Tryd.underlying3 h0
  obtain ⟨z1, e1, _, _⟩ := DataW.trod_int Tryd.underlying3 h1
  obtain ⟨z2, e2, _, _⟩ := DataW.trod_int Tryd.underlying3 h2
  obtain ⟨z3, e3, _, _⟩ := DataW.trod_int Tryd.underlying3 h3
  obtain ⟨z4, e4, _, _⟩ := DataW.trod_int Tryd.underlying3 h4
  obtain ⟨z5, e5, _, _⟩ := DataW.trod_int Tryd.underlying3 h5
  obtain ⟨z6, e6, _, _⟩ := DataW.trod_int Tryd.underlying3 h6
  obtain ⟨z7, e7, _, _⟩ := DataW.trod_int Tryd.underlying3 h7
  simp at e0 e1 e2 e3 e4 e5 e6 e7
  subst e0 e1 e2 e3 e4 e5 e6 e7
  exact ⟨⟨z0, z1, z2, z3, z4, z5, z6, z7⟩, rfl⟩
section
variable {H : Type} {enc : TypeId × Value → H} {P : Program} {w : World} {base : Nat} {spare : Nat → Bool} {held : Bool}
theorem trodAll_five {t0 t1 t2 t3 t4 : TypeId} {args : Array Value} {ds : List (DataW H)} {ps : List MemPlace} (h : DataW.TrodAll enc P w base spare held [t0, t1, t2, t3, t4] args.toList ds ps) :
    ∃ v0 v1 v2 v3 v4 d0 d1 d2 d3 d4 p0 p1 p2 p3 p4, args = #[v0, v1, v2, v3, v4] ∧ ds = [d0, d1, d2, d3, d4] ∧ ps = p0 ++ (p1 ++ (p2 ++ (p3 ++ p4))) ∧ DataW.Trod enc P w base spare held t0 v0 d0 p0 ∧ DataW.Trod enc P w base spare held t1 v1 d1 p1 ∧ DataW.Trod enc P w base spare held t2 v2 d2 p2 ∧ DataW.Trod enc P w base spare held t3 v3 d3 p3 ∧ DataW.Trod enc P w base spare held t4 v4 d4 p4 := by
  obtain ⟨v0, r0, d0, e0, p0, q0, hargs, rfl, rfl, h0, k0⟩ := trodAll_cons h
  obtain ⟨v1, r1, d1, e1, p1, q1, rfl, rfl, rfl, h1, k1⟩ := trodAll_cons k0
  obtain ⟨v2, r2, d2, e2, p2, q2, rfl, rfl, rfl, h2, k2⟩ := trodAll_cons k1
  obtain ⟨v3, r3, d3, e3, p3, q3, rfl, rfl, rfl, h3, k3⟩ := trodAll_cons k2
  obtain ⟨v4, r4, d4, e4, p4, q4, rfl, rfl, rfl, h4, k4⟩ := trodAll_cons k3
  obtain ⟨rfl, rfl, rfl⟩ := trodAll_nil k4
  exact ⟨v0, v1, v2, v3, v4, d0, d1, d2, d3, d4, p0, p1, p2, p3, p4, by cases args; simp_all, rfl, by simp, h0, h1, h2, h3, h4⟩
theorem trodAll_mk5 {t0 t1 t2 t3 t4 : TypeId} {v0 v1 v2 v3 v4 : Value} {d0 d1 d2 d3 d4 : DataW H} {p0 p1 p2 p3 p4 : List MemPlace} (h0 : DataW.Trod enc P w base spare held t0 v0 d0 p0) (h1 : DataW.Trod enc P w base spare held t1 v1 d1 p1) (h2 : DataW.Trod enc P w base spare held t2 v2 d2 p2) (h3 : DataW.Trod enc P w base spare held t3 v3 d3 p3) (h4 : DataW.Trod enc P w base spare held t4 v4 d4 p4) :
    DataW.TrodAll enc P w base spare held [t0, t1, t2, t3, t4] [v0, v1, v2, v3, v4] [d0, d1, d2, d3, d4] (p0 ++ (p1 ++ (p2 ++ (p3 ++ p4)))) := ⟨p0, _, h0, trodAll_mk4 h1 h2 h3 h4, rfl⟩
end
end Go.Proofs.YtegpamoglifojaaDoor
