/-
  THE STATEMENT AgendaShares: from the walk to the row.
-/
import Derived.Test.YtjmiifgofedcnaaShares
import Derived.ProofKit
import Derived.SizedLaws
import Derived.Deep.Slices
import Derived.Lib.SmallJoins
namespace Go.Proofs.Ytjmiifgofedcnaa
open Go.ChangeShapes Go.WideShapes Go.ChangeAt Go.RowKit Go.Joins Ag

theorem Try.own : ownKnob Try.prog.godebug = none := by kernel_rfl
theorem Try.laidOutS : laidOutB Try.prog = true := by kernel_rfl
theorem Try.cellsI : Try.prog.cellsOf 3 = 1 := by kernel_rfl
theorem Try.bytesI : Try.prog.bytesOf 3 = 8 := by kernel_rfl

/-- A list of numbers that came in. -/
theorem ints_in {H : Type} {enc : TypeId × Value → H} {W : World} {fuel : Nat} {ao : Option Addr} {L sc : Nat} {x : DataW H × List MemPlace}
    (h : DataW.trod enc Try.prog W 0 (fun _ => true) true fuel 38 [.slice ao L sc] = some x) (hw : ∀ n ∈ x.1.weights Try.prog 38, n ≤ reachBytes) :
    L * 8 ≤ 140737488351232 ∧ (ao = none → L = 0 ∧ sc = 0) ∧ ∃ xs : List Int, xs.length = L ∧ (∀ x ∈ xs, wfI x) ∧ ∀ ad, ao = some ad → ∀ j u, (ints xs)[j]? = some u → W.cell? (ad.add j) = some u := by
  rcases Go.Deep.open_slice1 Try.underlying38 Try.cellsI h with ⟨hc, _⟩ | ⟨a, len, cap, m, n, V, D, Pl, hc, _, hl, _, hm, hx, hel⟩
  · simp at hc
    obtain ⟨rfl, rfl, rfl⟩ := hc
    exact ⟨by omega, fun _ => ⟨rfl, rfl⟩, [], rfl, fun _ h => (by cases h), fun ad h => (by cases h)⟩
  · simp at hc
    obtain ⟨rfl, rfl, rfl⟩ := hc
    simp at hm
    subst hm
    have hb := hw ((((List.range L).map D).length + ((List.range (m - L)).map fun j => D (L + j)).length) * Try.prog.bytesOf 3) (by rw [hx]; simp [DataW.weights, Try.underlying38])
    rw [Try.bytesI] at hb
    simp only [reachBytes, List.length_map, List.length_range] at hb
    have hV : ∀ k, k < L → ∃ z : Int, V k = .int .i64 z ∧ wfI z ∧ W.cell? (a.add k) = some (.int .i64 z) := fun k hk => by
      obtain ⟨h1, h2⟩ := hel k (by omega)
      obtain ⟨z, e0, _, hz⟩ := DataW.trod_int Try.underlying3 h2
      simp at e0
      exact ⟨z, e0, hz, by rw [h1, e0]⟩
    refine ⟨by omega, fun h => (by cases h), (List.range L).map (fun k => match V k with | .int _ z => z | _ => 0), by simp, fun y hy => ?_, fun ad had j u hu => ?_⟩
    · obtain ⟨k, hk, rfl⟩ := List.mem_map.1 hy
      obtain ⟨z, e1, e2, _⟩ := hV k (List.mem_range.1 hk)
      rw [e1]
      exact e2
    · injection had with had
      subst had
      by_cases hj : j < L
      · obtain ⟨z, e1, _, e3⟩ := hV j hj
        have : u = .int .i64 z := by
          simp [ints, hj, e1] at hu
          exact hu.symm
        rw [this]
        exact e3
      · simp [ints, hj] at hu
theorem ints_one (xs : List Int) : ∀ u ∈ ints xs, u.oneCell' = true := by
  intro u hu
  obtain ⟨x, _, rfl⟩ := List.mem_map.1 hu
  rfl

set_option maxRecDepth 100000 in
theorem shares_lifted (os : Os) (started : os.Started) (H : Type) (enc : TypeId × Value → H) :
    ReturnsInHanded {} Try.checked os 7 .any (Rows.agendaSharesSpec.pre6 enc Try.prog Try.f7 Rows.agendaSharesRow.domain false) (Rows.agendaSharesSpec.post enc Try.prog Try.f7 false true false false) := by
  refine returnsInHanded_of_change_sized (C := Try.checked) Try.own started (by kernel_rfl) Try.func7
    (ChangeSpec.witness6 (enc := enc) (C := Try.checked) false ⟨#[], #[.int .i64 0, .int .i64 0, .slice none 0 0], []⟩ 8 (by kernel_rfl) (by kernel_rfl) (by kernel_rfl) (by kernel_rfl)) ?_
  intro W base args ds gs before hval0 hW _ hsz0 _
  have hsz : (DataW.weightsEach Try.prog (Try.f7.params.toList ++ Rows.agendaSharesSpec.plain.varTypes Try.prog) (ds ++ gs)).all (· ≤ reachBytes) = true := hsz0
  have hval : ∀ (j : Nat) t v, Try.f7.params[j]? = some t → args[j]? = some v → Value.okWide Try.prog W .any base t v := hval0
  have hW' := hW
  obtain ⟨p, q, hA0, hV, rfl, hfz, hnd⟩ := hW
  have hA : DataW.TrodAll enc Try.prog W 0 (fun _ => true) true Try.f7.params.toList args.toList ds p := hA0
  rw [Try.params7] at hA hval hsz
  obtain ⟨v0, v1, v2, d0, d1, d2, p0, p1, p2, rfl, rfl, rfl, h0, h1, h2⟩ := trodAll_three hA
  obtain ⟨rfl, rfl⟩ := trodVars_none hV
  obtain ⟨n, rfl, rfl, rfl, wn⟩ := open_int Try.underlying3 (hval 0 3 v0 rfl rfl) h0
  obtain ⟨m, rfl, rfl, rfl, wm⟩ := open_int Try.underlying3 (hval 1 3 v1 rfl rfl) h1
  obtain ⟨ao, L, sc, rfl⟩ := okWide_slice Try.underlying38 (hval 2 38 v2 rfl rfl)
  have h2k := h2
  obtain ⟨fuel, hf⟩ := h2
  obtain ⟨hb, hno, xs, hl, _, hc⟩ := ints_in hf (fun k hk => of_decide_eq_true (List.all_eq_true.1 hsz k (DataW.weights_mem_each (j := 2) (t := 38) rfl rfl k hk)))
  clear hA0 hval0
  simp only [List.append_nil] at hW'
  have hlt : ∀ x ∈ p2, x.block < W.heap.size := fun x hx => by simpa using hW'.lt x (by simpa using hx)
  have hargs : ∀ (W' : World), Below W.heap.size W W' → DataW.Trod enc Try.prog W' 0 (fun b => decide (b < W.heap.size)) true 38 (.slice ao L sc) d2 p2 :=
    fun W' hn => Below.trod Try.laidOutS (by kernel_rfl) (of_decide_eq_true (by kernel_rfl)) h2k hn hlt
  refine (shares_any n m wn wm ao L sc (ints xs) W (by rw [ints_len, hl]) hno hc (ints_one xs) hb).mono fun e W' ⟨he, hg⟩ => ?_
  subst he
  exact ⟨_, rfl, _, _, _, [], _, [], hW', trodAll_mk1 (shut_bool Try.underlying4 _), trodAll_mk3 (shut_int Try.underlying3 wn) (shut_int Try.underlying3 wm) (hargs W' hg), rfl, hg.frame _, fun h => by cases h⟩

theorem shares_holds : Rows.AgendaSharesSaid :=
  OpenClaim.holds_of_wide 7 Try.f7 rfl rfl rfl rfl rfl rfl rfl ⟨rfl, rfl, rfl, rfl, rfl⟩ rfl rfl rfl rfl rfl (by kernel_rfl) Try.func7 (by kernel_rfl)
    (of_decide_eq_true (by kernel_rfl)) (by unfold Func.isWrapper; first | (rw [if_pos (by decide +kernel)]; kernel_rfl) | (rw [if_neg (by decide +kernel)]; exact ⟨rfl, rfl⟩))
    (fun os started H enc _ => shares_lifted os started H enc)
#print axioms shares_holds
end Go.Proofs.Ytjmiifgofedcnaa
