/-
  THE STATEMENT AgendaStays: from the walk to the row.
-/
import Derived.Test.YtjmiifgofedcnaaStD
import Derived.Test.YtjmiifgofedcnaaActP
namespace Go.Proofs.Ytjmiifgofedcnaa
open Go.ChangeShapes Go.WideShapes Go.ChangeAt Go.RowKit Go.Joins Ag

theorem Try.bytesInt : Try.prog.bytesOf 3 = 8 := by kernel_rfl

/-- Numbers that came in. -/
theorem drops_in {H : Type} {enc : TypeId × Value → H} {W : World} {fuel : Nat} {ao : Option Addr} {L sc : Nat} {x : DataW H × List MemPlace}
    (h : DataW.trod enc Try.prog W 0 (fun _ => true) true fuel 38 [.slice ao L sc] = some x) (hw : ∀ n ∈ x.1.weights Try.prog 38, n ≤ reachBytes) :
    L * 8 ≤ 140737488351232 ∧ ∃ gd od, ∃ dr : Nat → Int, (0 < L → ao = some ⟨gd, od, none⟩) ∧ ∀ j, j < L → W.cell? ⟨gd, od + j, none⟩ = some (.int .i64 (dr j)) ∧ wfI (dr j) := by
  rcases Go.Deep.open_slice1 Try.underlying38 Try.cellsInt h with ⟨hc, _⟩ | ⟨a, len, cap, m, n, V, D, Pl, hc, _, hl, _, hm, hx, hel⟩
  · simp at hc
    obtain ⟨rfl, rfl, rfl⟩ := hc
    exact ⟨by omega, 0, 0, fun _ => 0, fun h => absurd h (by omega), fun j hj => absurd hj (by omega)⟩
  · simp at hc
    obtain ⟨rfl, rfl, rfl⟩ := hc
    simp at hm
    subst hm
    have hb := hw ((((List.range L).map D).length + ((List.range (m - L)).map fun j => D (L + j)).length) * Try.prog.bytesOf 3) (by rw [hx]; simp [DataW.weights, Try.underlying38])
    rw [Try.bytesInt] at hb
    simp only [reachBytes, List.length_map, List.length_range] at hb
    have hV : ∀ k, ∃ z : Int, k < L → wfI z ∧ W.cell? (a.add k) = some (.int .i64 z) := fun k => by
      by_cases hk : k < L
      · obtain ⟨h1, h2⟩ := hel k (by omega)
        obtain ⟨z, e0, _, hz⟩ := DataW.trod_int Try.underlying3 h2
        simp at e0
        exact ⟨z, fun _ => ⟨hz, by rw [h1, e0]⟩⟩
      · exact ⟨0, fun h => absurd h hk⟩
    obtain ⟨dr, hdr⟩ := Classical.axiomOfChoice hV
    by_cases hL : 0 < L
    · obtain ⟨g, o, s⟩ := a
      have hs : s = none := by
        have h0 := (hdr 0 hL).2
        have e : (⟨g, o, s⟩ : Addr).add 0 = ⟨g, o, s⟩ := by unfold Addr.add; simp
        rw [e] at h0
        exact no_sub h0
      subst hs
      refine ⟨by omega, g, o, dr, fun _ => rfl, fun j hj => ⟨?_, (hdr j hj).1⟩⟩
      have := (hdr j hj).2
      rwa [add_none] at this
    · exact ⟨by omega, 0, 0, dr, fun h => absurd h hL, fun j hj => absurd hj (by omega)⟩

set_option maxRecDepth 100000 in
theorem stays_lifted (os : Os) (started : os.Started) (H : Type) (enc : TypeId × Value → H) :
    ReturnsInHanded {} Try.checked os 6 .any (Rows.agendaStaysSpec.pre6 enc Try.prog Try.f6 Rows.agendaStaysRow.domain false) (Rows.agendaStaysSpec.post enc Try.prog Try.f6 false true false false) := by
  refine returnsInHanded_of_change_sized (C := Try.checked) Try.ownA started (by kernel_rfl) Try.func6
    (ChangeSpec.witness6 (enc := enc) (C := Try.checked) false ⟨#[], #[.slice none 0 0, .slice none 0 0, .int .i64 0], []⟩ 8 (by kernel_rfl) (by kernel_rfl) (by kernel_rfl) (by kernel_rfl)) ?_
  intro W base args ds gs before hval0 hW _ hsz0 _
  have hsz : (DataW.weightsEach Try.prog (Try.f6.params.toList ++ Rows.agendaStaysSpec.plain.varTypes Try.prog) (ds ++ gs)).all (· ≤ reachBytes) = true := hsz0
  have hval : ∀ (j : Nat) t v, Try.f6.params[j]? = some t → args[j]? = some v → Value.okWide Try.prog W .any base t v := hval0
  have hW' := hW
  obtain ⟨p, q, hA0, hV, rfl, hfz, hnd⟩ := hW
  have hA : DataW.TrodAll enc Try.prog W 0 (fun _ => true) true Try.f6.params.toList args.toList ds p := hA0
  rw [Try.params6] at hA hval hsz
  obtain ⟨v0, v1, v2, d0, d1, d2, p0, p1, p2, rfl, rfl, rfl, h0, h1, h2⟩ := trodAll_three hA
  obtain ⟨rfl, rfl⟩ := trodVars_none hV
  obtain ⟨ao, L, sc, rfl⟩ := okWide_slice Try.underlying22 (hval 0 22 v0 rfl rfl)
  obtain ⟨ad, nd, cd, rfl⟩ := okWide_slice Try.underlying38 (hval 1 38 v1 rfl rfl)
  obtain ⟨t, rfl, rfl, rfl, wt⟩ := open_int Try.underlying3 (hval 2 3 v2 rfl rfl) h2
  have h0k := h0
  have h1k := h1
  obtain ⟨fuel, hf⟩ := h0
  obtain ⟨fuel1, hf1⟩ := h1
  obtain ⟨hb, f, hacts, hwf⟩ := acts_in hf (fun k hk => of_decide_eq_true (List.all_eq_true.1 hsz k (DataW.weights_mem_each (j := 0) (t := 22) rfl rfl k hk)))
  obtain ⟨hb1, gd, od, dr, had, hdr⟩ := drops_in hf1 (fun k hk => of_decide_eq_true (List.all_eq_true.1 hsz k (DataW.weights_mem_each (j := 1) (t := 38) rfl rfl k hk)))
  clear hA0 hval0
  simp only [List.append_nil] at hW'
  have hlt : ∀ x ∈ p0 ++ p1, x.block < W.heap.size := fun x hx => by simpa using hW'.lt x (by simpa using hx)
  have hargs : ∀ (W' : World), Below W.heap.size W W' → DataW.Trod enc Try.prog W' 0 (fun b => decide (b < W.heap.size)) true 22 (.slice ao L sc) d0 p0 :=
    fun W' hn => Below.trod Try.laidOutA (by kernel_rfl) (of_decide_eq_true (by kernel_rfl)) h0k hn (fun x hx => hlt x (by simp [hx]))
  have hargs1 : ∀ (W' : World), Below W.heap.size W W' → DataW.Trod enc Try.prog W' 0 (fun b => decide (b < W.heap.size)) true 38 (.slice ad nd cd) d1 p1 :=
    fun W' hn => Below.trod Try.laidOutA (by kernel_rfl) (of_decide_eq_true (by kernel_rfl)) h1k hn (fun x hx => hlt x (by simp [hx]))
  refine (stays_any hacts (fun k hk => ⟨(hwf k hk).2.2.1, (hwf k hk).2.2.2.1⟩) hb had hdr hb1 wt).mono fun e W' ⟨he, hg⟩ => ?_
  subst he
  exact ⟨_, rfl, _, _, _, [], _, [], hW', trodAll_mk1 (shut_bool Try.underlying4 _), trodAll_mk3 (hargs W' hg) (hargs1 W' hg) (shut_int Try.underlying3 wt), rfl, hg.frame _, fun h => by cases h⟩

theorem stays_holds : Rows.AgendaStaysSaid :=
  OpenClaim.holds_of_wide 6 Try.f6 rfl rfl rfl rfl rfl rfl rfl ⟨rfl, rfl, rfl, rfl, rfl⟩ rfl rfl rfl rfl rfl (by kernel_rfl) Try.func6 (by kernel_rfl)
    (of_decide_eq_true (by kernel_rfl)) (by unfold Func.isWrapper; first | (rw [if_pos (by decide +kernel)]; kernel_rfl) | (rw [if_neg (by decide +kernel)]; exact ⟨rfl, rfl⟩))
    (fun os started H enc _ => stays_lifted os started H enc)
#print axioms stays_holds
end Go.Proofs.Ytjmiifgofedcnaa
