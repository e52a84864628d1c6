/-
  Acts that came in; facts for the rows.
-/
import Derived.Test.YtjmiifgofedcnaaFil
import Derived.ProofKit
import Derived.SizedLaws
import Derived.Deep.Slices
import Derived.Lib.SmallJoins
namespace Go.Proofs.Ytjmiifgofedcnaa
open Go.ChangeShapes Go.WideShapes Go.ChangeAt Go.RowKit Go.Joins Ag

theorem Try.ownA : ownKnob Try.prog.godebug = none := by kernel_rfl
theorem Try.laidOutA : laidOutB Try.prog = true := by kernel_rfl
theorem Try.cellsAct : Try.prog.cellsOf 31 = 5 := by kernel_rfl
theorem Try.bytesAct : Try.prog.bytesOf 31 = 40 := by kernel_rfl
theorem Try.cellsInt : Try.prog.cellsOf 3 = 1 := by kernel_rfl
theorem add_none (g o j : Nat) : (⟨g, o, none⟩ : Addr).add j = ⟨g, o + j, none⟩ := by unfold Addr.add; split <;> simp_all
theorem no_sub {W : World} {g o : Nat} {s : Option _} {v : Value} (h0 : W.cell? (⟨g, o, s⟩ : Addr) = some v) : s = none := by
  cases s with
  | none => rfl
  | some t =>
    unfold World.cell? at h0
    split at h0 <;> simp at h0
theorem five {α : Type} {l : List α} (h : l.length = 5) : ∃ a b c d e, l = [a, b, c, d, e] := by
  match l, h with
  | [a, b, c, d, e], _ => exact ⟨a, b, c, d, e, rfl⟩
/-- One act that came in. -/
theorem act_in {H : Type} {enc : TypeId × Value → H} {W : World} {fuel : Nat} {cs : List Value} {x : DataW H × List MemPlace} (h : DataW.trod enc Try.prog W 0 (fun _ => true) true fuel 31 cs = some x) :
    ∃ f : Act5, cs = [.int .i64 f.kind, .int .i64 f.which, .int .i64 f.id, .int .i64 f.tm, .int .i64 f.x] ∧ wfI f.kind ∧ wfI f.which ∧ wfI f.id ∧ wfI f.tm ∧ wfI f.x := by
  obtain ⟨xs, n, _, rfl, hl, hlen, hf⟩ := DataW.trod_struct Try.underlying31 h
  rw [Try.cellsAct] at hl
  obtain ⟨c0, c1, c2, c3, c4, rfl⟩ := five hl
  obtain ⟨y0, y1, y2, y3, y4, rfl⟩ := five (l := xs) hlen
  clear h
  have h0 := hf 0 _ rfl
  have h1 := hf 1 _ rfl
  have h2 := hf 2 _ rfl
  have h3 := hf 3 _ rfl
  have h4 := hf 4 _ rfl
  simp [Try.cellsInt] at h0 h1 h2 h3 h4
  obtain ⟨z0, e0, _, w0⟩ := DataW.trod_int Try.underlying3 h0
  obtain ⟨z1, e1, _, w1⟩ := DataW.trod_int Try.underlying3 h1
  obtain ⟨z2, e2, _, w2⟩ := DataW.trod_int Try.underlying3 h2
  obtain ⟨z3, e3, _, w3⟩ := DataW.trod_int Try.underlying3 h3
  obtain ⟨z4, e4, _, w4⟩ := DataW.trod_int Try.underlying3 h4
  simp at e0 e1 e2 e3 e4
  subst e0 e1 e2 e3 e4
  exact ⟨⟨z0, z1, z2, z3, z4⟩, rfl, w0, w1, w2, w3, w4⟩
/-- Acts that came in. -/
theorem acts_in {H : Type} {enc : TypeId × Value → H} {W : World} {fuel : Nat} {ao : Option Addr} {L sc : Nat} {x : DataW H × List MemPlace}
    (h : DataW.trod enc Try.prog W 0 (fun _ => true) true fuel 22 [.slice ao L sc] = some x) (hw : ∀ n ∈ x.1.weights Try.prog 22, n ≤ reachBytes) :
    L * 40 ≤ 140737488351232 ∧ ∃ f : Nat → Act5, ActsAt W ao L f ∧ ∀ k, k < L → wfI (f k).kind ∧ wfI (f k).which ∧ wfI (f k).id ∧ wfI (f k).tm ∧ wfI (f k).x := by
  rcases Go.Deep.open_slice Try.underlying22 h with ⟨hc, _⟩ | ⟨a, len, cap, m, n, D, Pl, hc, _, hl, _, hm, hx, hel⟩
  · simp at hc
    obtain ⟨rfl, rfl, rfl⟩ := hc
    exact ⟨by omega, fun _ => ⟨0, 0, 0, 0, 0⟩, ⟨0, 0, fun h => absurd h (by omega), fun k hk => absurd hk (by omega)⟩, fun k hk => absurd hk (by omega)⟩
  · simp at hc
    obtain ⟨rfl, rfl, rfl⟩ := hc
    rw [Try.cellsAct] at hel
    simp at hm
    subst hm
    have hb := hw ((((List.range L).map D).length + ((List.range (m - L)).map fun j => D (L + j)).length) * Try.prog.bytesOf 31) (by rw [hx]; simp [DataW.weights, Try.underlying22])
    rw [Try.bytesAct] at hb
    simp only [reachBytes, List.length_map, List.length_range] at hb
    have hel' : ∀ k, ∃ f : Act5, k < L → W.cells? 0 (a.add (k * 5)) 5 = some [.int .i64 f.kind, .int .i64 f.which, .int .i64 f.id, .int .i64 f.tm, .int .i64 f.x] ∧ wfI f.kind ∧ wfI f.which ∧ wfI f.id ∧ wfI f.tm ∧ wfI f.x := fun k => by
      by_cases hk : k < L
      · obtain ⟨cs, h1, h2⟩ := hel k (by omega)
        obtain ⟨f, rfl, hf⟩ := act_in h2
        exact ⟨f, fun _ => ⟨h1, hf⟩⟩
      · exact ⟨⟨0, 0, 0, 0, 0⟩, fun h => absurd h hk⟩
    obtain ⟨f, hf⟩ := Classical.axiomOfChoice hel'
    refine ⟨by omega, f, ?_, fun k hk => (hf k hk).2⟩
    by_cases hL : 0 < L
    · obtain ⟨g, o, s⟩ := a
      have hcell : ∀ k, k < L → ∀ i v, [Value.int .i64 (f k).kind, .int .i64 (f k).which, .int .i64 (f k).id, .int .i64 (f k).tm, .int .i64 (f k).x][i]? = some v → i < 5 → W.cell? ((⟨g, o, s⟩ : Addr).add (k * 5 + i)) = some v := fun k hk i v hv hi => by
        obtain ⟨_, hlen, hcell⟩ := World.cells?_some (hf k hk).1
        have h0 := hcell i (by omega)
        rw [Go.Deep.add_add] at h0
        rw [h0]
        exact hv
      have hs : s = none := by
        have h0 := hcell 0 hL 0 _ rfl (by omega)
        have e : (⟨g, o, s⟩ : Addr).add (0 * 5 + 0) = ⟨g, o, s⟩ := by unfold Addr.add; simp
        rw [e] at h0
        exact no_sub h0
      subst hs
      refine ⟨g, o, fun _ => rfl, fun k hk => ?_⟩
      have hc := fun i v hv hi => hcell k hk i v hv hi
      simp only [add_none, ← Nat.add_assoc] at hc
      exact ⟨hc 0 _ rfl (by omega), hc 1 _ rfl (by omega), hc 2 _ rfl (by omega), hc 3 _ rfl (by omega), hc 4 _ rfl (by omega)⟩
    · exact ⟨0, 0, fun h => absurd h hL, fun k hk => absurd hk (by omega)⟩
end Go.Proofs.Ytjmiifgofedcnaa
