/-
  THE STATEMENT ProfileGoes: from the walk to the row.
-/
import Derived.Test.YtljkllhpghjbiaaGoA
import Derived.Test.YtljkllhpghjbiaaRunP
namespace Go.Proofs.Ytljkllhpghjbiaa
open Go.ChangeShapes Go.WideShapes Go.ChangeAt Go.RowKit Go.Joins Pr

/-- Numbers that came in. -/
theorem ints_in {H : Type} {enc : TypeId × Value → H} {W : World} {fuel : Nat} {ao : Option Addr} {L sc : Nat} {x : DataW H × List MemPlace}
    (h : DataW.trod enc Try.prog W 0 (fun _ => true) true fuel 36 [.slice ao L sc] = some x) (hw : ∀ n ∈ x.1.weights Try.prog 36, n ≤ reachBytes) :
    L * 8 ≤ 140737488351232 ∧ ∃ gd od, ∃ dr : Nat → Int, (0 < L → ao = some ⟨gd, od, none⟩) ∧ ∀ j, j < L → W.cell? ⟨gd, od + j, none⟩ = some (.int .i64 (dr j)) := by
  rcases Go.Deep.open_slice1 Try.underlying36 Try.cellsInt h with ⟨hc, _⟩ | ⟨a, len, cap, m, n, V, D, Pl, hc, _, hl, _, hm, hx, hel⟩
  · simp at hc
    obtain ⟨rfl, rfl, rfl⟩ := hc
    exact ⟨by omega, 0, 0, fun _ => 0, fun h => absurd h (by omega), fun j hj => absurd hj (by omega)⟩
  · simp at hc
    obtain ⟨rfl, rfl, rfl⟩ := hc
    simp at hm
    subst hm
    have hb := hw ((((List.range L).map D).length + ((List.range (m - L)).map fun j => D (L + j)).length) * Try.prog.bytesOf 3) (by rw [hx]; simp [DataW.weights, Try.underlying36])
    rw [Try.bytesInt] at hb
    simp only [reachBytes, List.length_map, List.length_range] at hb
    have hV : ∀ k, ∃ z : Int, k < L → W.cell? (a.add k) = some (.int .i64 z) := fun k => by
      by_cases hk : k < L
      · obtain ⟨h1, h2⟩ := hel k (by omega)
        obtain ⟨z, e0, _, _⟩ := DataW.trod_int Try.underlying3 h2
        simp at e0
        exact ⟨z, fun _ => by rw [h1, e0]⟩
      · exact ⟨0, fun h => absurd h hk⟩
    obtain ⟨dr, hdr⟩ := Classical.axiomOfChoice hV
    by_cases hL : 0 < L
    · obtain ⟨g, o, s⟩ := a
      have hs : s = none := by
        have h0 := hdr 0 hL
        have e : (⟨g, o, s⟩ : Addr).add 0 = ⟨g, o, s⟩ := by unfold Addr.add; simp
        rw [e] at h0
        exact no_sub h0
      subst hs
      refine ⟨by omega, g, o, dr, fun _ => rfl, fun j hj => ?_⟩
      have := hdr j hj
      rwa [add_none] at this
    · exact ⟨by omega, 0, 0, dr, fun h => absurd h hL, fun j hj => absurd hj (by omega)⟩

set_option maxRecDepth 100000 in
theorem goes_lifted (os : Os) (started : os.Started) (H : Type) (enc : TypeId × Value → H) :
    ReturnsInHanded {} Try.checked os 4 .any (Rows.profileGoesSpec.pre6 enc Try.prog Try.f4 Rows.profileGoesRow.domain false) (Rows.profileGoesSpec.post enc Try.prog Try.f4 false true false false) := by
  refine returnsInHanded_of_change_sized (C := Try.checked) Try.own started (by kernel_rfl) Try.func4
    (ChangeSpec.witness6 (enc := enc) (C := Try.checked) false ⟨#[], #[.int .i64 0, .int .i64 0, .slice none 0 0, .slice none 0 0], []⟩ 8 (by kernel_rfl) (by kernel_rfl) (by kernel_rfl) (by kernel_rfl)) ?_
  intro W base args ds gs before hval0 hW _ hsz0 _
  have hsz : (DataW.weightsEach Try.prog (Try.f4.params.toList ++ Rows.profileGoesSpec.plain.varTypes Try.prog) (ds ++ gs)).all (· ≤ reachBytes) = true := hsz0
  have hval : ∀ (j : Nat) t v, Try.f4.params[j]? = some t → args[j]? = some v → Value.okWide Try.prog W .any base t v := hval0
  have hW' := hW
  obtain ⟨p, q, hA0, hV, rfl, hfz, hnd⟩ := hW
  have hA : DataW.TrodAll enc Try.prog W 0 (fun _ => true) true Try.f4.params.toList args.toList ds p := hA0
  rw [Try.params4] at hA hval hsz
  obtain ⟨v0, v1, v2, v3, d0, d1, d2, d3, p0, p1, p2, p3, rfl, rfl, rfl, h0, h1, h2, h3⟩ := trodAll_four hA
  obtain ⟨rfl, rfl⟩ := trodVars_none hV
  obtain ⟨now, rfl, rfl, rfl, w0⟩ := open_int Try.underlying3 (hval 0 3 v0 rfl rfl) h0
  obtain ⟨free, rfl, rfl, rfl, w1⟩ := open_int Try.underlying3 (hval 1 3 v1 rfl rfl) h1
  obtain ⟨ao, L, sc, rfl⟩ := okWide_slice Try.underlying22 (hval 2 22 v2 rfl rfl)
  obtain ⟨al, nl, cl, rfl⟩ := okWide_slice Try.underlying36 (hval 3 36 v3 rfl rfl)
  have h2k := h2
  have h3k := h3
  obtain ⟨fuel, hf⟩ := h2
  obtain ⟨fuel3, hf3⟩ := h3
  obtain ⟨hb, l, rfl, hruns, hnil, _⟩ := runs_in hf (fun k hk => of_decide_eq_true (List.all_eq_true.1 hsz k (DataW.weights_mem_each (j := 2) (t := 22) rfl rfl k hk)))
  obtain ⟨hb3, gl, ol, lv, hal, hlv⟩ := ints_in hf3 (fun k hk => of_decide_eq_true (List.all_eq_true.1 hsz k (DataW.weights_mem_each (j := 3) (t := 36) rfl rfl k hk)))
  clear hA0 hval0
  simp only [List.append_nil] at hW'
  have hlt : ∀ x ∈ p2 ++ p3, x.block < W.heap.size := fun x hx => by simpa using hW'.lt x (by simpa using hx)
  have hargs : ∀ (W' : World), Below W.heap.size W W' → DataW.Trod enc Try.prog W' 0 (fun b => decide (b < W.heap.size)) true 22 (.slice ao l.length sc) d2 p2 :=
    fun W' hn => Below.trod Try.laidOut (by kernel_rfl) (of_decide_eq_true (by kernel_rfl)) h2k hn (fun x hx => hlt x (by simp [hx]))
  have hargs3 : ∀ (W' : World), Below W.heap.size W W' → DataW.Trod enc Try.prog W' 0 (fun b => decide (b < W.heap.size)) true 36 (.slice al nl cl) d3 p3 :=
    fun W' hn => Below.trod Try.laidOut (by kernel_rfl) (of_decide_eq_true (by kernel_rfl)) h3k hn (fun x hx => hlt x (by simp [hx]))
  refine (goes_walk hruns hnil (by omega) hal hlv (by omega) now free).mono fun e W' ⟨he, hg⟩ => ?_
  subst he
  exact ⟨_, rfl, _, _, _, [], _, [], hW', trodAll_mk1 (shut_bool Try.underlying4 _), trodAll_mk4 (shut_int Try.underlying3 w0) (shut_int Try.underlying3 w1) (hargs W' hg) (hargs3 W' hg), rfl, hg.frame _, fun h => by cases h⟩

theorem goes_holds : Rows.ProfileGoesSaid :=
  OpenClaim.holds_of_wide 4 Try.f4 rfl rfl rfl rfl rfl rfl rfl ⟨rfl, rfl, rfl, rfl, rfl⟩ rfl rfl rfl rfl rfl (by kernel_rfl) Try.func4 (by kernel_rfl)
    (of_decide_eq_true (by kernel_rfl)) (by unfold Func.isWrapper; first | (rw [if_pos (by decide +kernel)]; kernel_rfl) | (rw [if_neg (by decide +kernel)]; exact ⟨rfl, rfl⟩))
    (fun os started H enc _ => goes_lifted os started H enc)
#print axioms goes_holds
end Go.Proofs.Ytljkllhpghjbiaa
