/-
  THE STATEMENT PrioSorts: from the walk to the row.
-/
import Derived.Test.YtjgllfpnmmopdaaSrW
import Derived.Test.YtjgllfpnmmopdaaHea
namespace Go.Proofs.Ytjgllfpnmmopdaa
open Go.ChangeShapes Go.WideShapes Go.ChangeAt Go.RowKit Go.Joins Wd Cg
theorem Try.cells25 : Try.prog.cellsOf 25 = 2 := by kernel_rfl
theorem Try.bytes25 : Try.prog.bytesOf 25 = 16 := by kernel_rfl
theorem no_sub {W : World} {g o : Nat} {s : Option _} {v : Value} (h0 : W.cell? (⟨g, o, s⟩ : Addr) = some v) : s = none := by
  cases s with
  | none => rfl
  | some t =>
    unfold World.cell? at h0
    split at h0 <;> simp at h0
/-- A list of things of z cells that came in. -/
theorem recs_in {H : Type} {α : Type} {enc : TypeId × Value → H} {W : World} {fuel : Nat} {ao : Option Addr} {L sc : Nat} {x : DataW H × List MemPlace} {t e by_ z : Nat} (C : α → List Value) (d : α) (ok : α → Prop) (hz : 0 < z) (hC : ∀ f, (C f).length = z)
    (hu : Try.prog.underlying t = some (.slice e)) (hce : Try.prog.cellsOf e = z) (hby : Try.prog.bytesOf e = by_)
    (one : ∀ {fuel : Nat} {cs : List Value} {x : DataW H × List MemPlace}, DataW.trod enc Try.prog W 0 (fun _ => true) true fuel e cs = some x → ∃ f : α, cs = C f ∧ ok f)
    (h : DataW.trod enc Try.prog W 0 (fun _ => true) true fuel t [.slice ao L sc] = some x) (hw : ∀ n ∈ x.1.weights Try.prog t, n ≤ reachBytes) :
    L * by_ ≤ 140737488351232 ∧ ∃ l : List α, l.length = L ∧ (∃ g o, (0 < l.length → ao = some ⟨g, o, none⟩) ∧ ∀ k r, l[k]? = some r → ∀ i v, (C r)[i]? = some v → W.cell? ⟨g, o + k * z + i, none⟩ = some v) ∧ (∀ r ∈ l, ok r) ∧ (ao = none → l.length = 0 ∧ sc = 0) ∧ L ≤ sc := by
  rcases Go.Deep.open_slice hu h with ⟨hc, _⟩ | ⟨a, len, cap, m, n, D, Pl, hc, _, hl, _, hm, hx, hel⟩
  · simp at hc
    obtain ⟨rfl, rfl, rfl⟩ := hc
    exact ⟨by omega, [], rfl, ⟨0, 0, fun h => (by simp at h), fun k r hk => by simp at hk⟩, fun r hr => (by cases hr), fun _ => ⟨rfl, rfl⟩, Nat.le_refl _⟩
  · simp at hc
    obtain ⟨rfl, rfl, rfl⟩ := hc
    rw [hce] at hel
    simp at hm
    subst hm
    have hb := hw ((((List.range L).map D).length + ((List.range (m - L)).map fun j => D (L + j)).length) * Try.prog.bytesOf e) (by rw [hx]; simp [DataW.weights, hu])
    rw [hby] at hb
    simp only [reachBytes, List.length_map, List.length_range] at hb
    have hel' : ∀ k, ∃ f : α, k < L → W.cells? 0 (a.add (k * z)) z = some (C f) ∧ ok f := fun k => by
      by_cases hk : k < L
      · obtain ⟨cs, h1, h2⟩ := hel k (by omega)
        obtain ⟨f, rfl, hf⟩ := one h2
        exact ⟨f, fun _ => ⟨h1, hf⟩⟩
      · exact ⟨d, fun h => absurd h hk⟩
    obtain ⟨f, hf⟩ := Classical.axiomOfChoice hel'
    have hget : ∀ k r, ((List.range L).map f)[k]? = some r → k < L ∧ r = f k := fun k r hr => by
      obtain ⟨hk, e⟩ := List.getElem?_eq_some_iff.1 hr
      simp at hk e
      exact ⟨hk, e.symm⟩
    have hLm : L * by_ ≤ (L + (m - L)) * by_ := Nat.mul_le_mul_right _ (Nat.le_add_right _ _)
    refine ⟨by omega, (List.range L).map f, by simp, ?_, fun r hr => ?_, (fun h => by cases h), hl⟩
    · by_cases hL : 0 < L
      · obtain ⟨g, o, s⟩ := a
        have hcell : ∀ k, k < L → ∀ i v, (C (f k))[i]? = some v → W.cell? ((⟨g, o, s⟩ : Addr).add (k * z + i)) = some v := fun k hk i v hv => by
          have hi : i < z := by rw [← hC (f k)]; exact (List.getElem?_eq_some_iff.1 hv).1
          obtain ⟨_, hlen, hcell⟩ := World.cells?_some (hf k hk).1
          have h0 := hcell i (by omega)
          rw [Go.Deep.add_add] at h0
          rw [h0]
          exact hv
        have hs : s = none := by
          obtain ⟨v, hv⟩ : ∃ v, (C (f 0))[0]? = some v := ⟨_, List.getElem?_eq_getElem (by rw [hC]; omega)⟩
          have h0 := hcell 0 hL 0 v hv
          have e : (⟨g, o, s⟩ : Addr).add (0 * z + 0) = ⟨g, o, s⟩ := by unfold Addr.add; simp
          rw [e] at h0
          exact no_sub h0
        subst hs
        refine ⟨g, o, fun _ => rfl, fun k r hk i v hv => ?_⟩
        obtain ⟨hkL, rfl⟩ := hget k r hk
        have := hcell k hkL i v hv
        rwa [Addr.add_lit, ← Nat.add_assoc] at this
      · exact ⟨0, 0, fun h => by simp at h; omega, fun k r hk => absurd (hget k r hk).1 (by omega)⟩
    · obtain ⟨k, hk⟩ := List.getElem?_of_mem hr
      obtain ⟨hkL, rfl⟩ := hget k r hk
      exact (hf k hkL).2
def prC (p : Pr) : List Value := [.int .i64 p.a, .int .i64 p.b]
theorem two_of {α : Type} {l : List α} (h : l.length = 2) : ∃ a b, l = [a, b] := by
  match l, h with
  | [a, b], _ => exact ⟨a, b, rfl⟩
set_option maxRecDepth 20000 in
/-- One item that came in. -/
theorem item_in {H : Type} {enc : TypeId × Value → H} {W : World} {fuel : Nat} {cs : List Value} {x : DataW H × List MemPlace} (h : DataW.trod enc Try.prog W 0 (fun _ => true) true fuel 25 cs = some x) :
    ∃ f : Pr, cs = prC f ∧ True := by
  obtain ⟨xs, n, _, rfl, hl, hlen, hf⟩ := DataW.trod_struct Try.underlying25 h
  rw [Try.cells25] at hl
  obtain ⟨c0, c1, rfl⟩ := two_of hl
  obtain ⟨y0, y1, rfl⟩ := two_of (l := xs) hlen
  clear h
  have h0 := hf 0 _ rfl
  have h1 := hf 1 _ rfl
  simp [Try.cells3] at h0 h1
  obtain ⟨z0, e0, _, _⟩ := DataW.trod_int Try.underlying3 h0
  obtain ⟨z1, e1, _, _⟩ := DataW.trod_int Try.underlying3 h1
  simp at e0 e1
  subst e0 e1
  exact ⟨⟨z0, z1⟩, rfl, trivial⟩
theorem items_in {H : Type} {enc : TypeId × Value → H} {W : World} {fuel : Nat} {ao : Option Addr} {L sc : Nat} {x : DataW H × List MemPlace}
    (h : DataW.trod enc Try.prog W 0 (fun _ => true) true fuel 22 [.slice ao L sc] = some x) (hw : ∀ n ∈ x.1.weights Try.prog 22, n ≤ reachBytes) :
    L * 16 ≤ 140737488351232 ∧ ∃ l : List Pr, l.length = L ∧ (∃ g o, (0 < l.length → ao = some ⟨g, o, none⟩) ∧ ∀ k q, l[k]? = some q → W.cell? ⟨g, o + k * 2, none⟩ = some (.int .i64 q.a) ∧ W.cell? ⟨g, o + k * 2 + 1, none⟩ = some (.int .i64 q.b)) ∧ (ao = none → l.length = 0 ∧ sc = 0) := by
  obtain ⟨h1, l, h2, ⟨g, o, h3, h4⟩, _, h6, h7⟩ := recs_in prC ⟨0, 0⟩ (fun _ => True) (by decide) (fun _ => rfl) Try.underlying22 Try.cells25 Try.bytes25 item_in h hw
  exact ⟨h1, l, h2, ⟨g, o, h3, fun k a ha => ⟨h4 k a ha 0 _ rfl, h4 k a ha 1 _ rfl⟩⟩, h6⟩
set_option maxRecDepth 100000 in
theorem sorts_lifted (os : Os) (started : os.Started) (H : Type) (enc : TypeId × Value → H) :
    ReturnsInHanded {} Try.checked os 3 .any (Rows.prioSortsSpec.pre6 enc Try.prog Try.f3 Rows.prioSortsRow.domain false) (Rows.prioSortsSpec.post enc Try.prog Try.f3 false true false false) := by
  refine returnsInHanded_of_change_sized (C := Try.checked) Try.own started (by kernel_rfl) Try.func3
    (ChangeSpec.witness6 (enc := enc) (C := Try.checked) false ⟨#[], #[.slice none 0 0, .int .i64 0], []⟩ 8 (by kernel_rfl) (by kernel_rfl) (by kernel_rfl) (by kernel_rfl)) ?_
  intro W base args ds gs before hval0 hW _ hsz0 _
  have hsz : (DataW.weightsEach Try.prog (Try.f3.params.toList ++ Rows.prioSortsSpec.plain.varTypes Try.prog) (ds ++ gs)).all (· ≤ reachBytes) = true := hsz0
  have hval : ∀ (j : Nat) t v, Try.f3.params[j]? = some t → args[j]? = some v → Value.okWide Try.prog W .any base t v := hval0
  have hW' := hW
  obtain ⟨p, q, hA0, hV, rfl, hfz, hnd⟩ := hW
  have hA : DataW.TrodAll enc Try.prog W 0 (fun _ => true) true Try.f3.params.toList args.toList ds p := hA0
  rw [Try.params3] at hA hval hsz
  obtain ⟨v0, v1, d0, d1, p0, p1, rfl, rfl, rfl, h0, h1⟩ := trodAll_two hA
  obtain ⟨rfl, rfl⟩ := trodVars_none hV
  obtain ⟨ao, L, sc, rfl⟩ := okWide_slice Try.underlying22 (hval 0 22 v0 rfl rfl)
  obtain ⟨odd, rfl, rfl, rfl, w1⟩ := open_int Try.underlying3 (hval 1 3 v1 rfl rfl) h1
  have h0k := h0
  obtain ⟨fuel, hf⟩ := h0
  obtain ⟨hb, l, rfl, ⟨gl, ol, hao, hat⟩, hnil⟩ := items_in hf (fun k hk => of_decide_eq_true (List.all_eq_true.1 hsz k (DataW.weights_mem_each (j := 0) (t := 22) rfl rfl k hk)))
  clear hA0 hval0
  simp only [List.append_nil] at hW'
  have hlt : ∀ x ∈ p0, x.block < W.heap.size := fun x hx => by simpa using hW'.lt x (by simpa using hx)
  have hargs : ∀ (W' : World), Below W.heap.size W W' → DataW.Trod enc Try.prog W' 0 (fun b => decide (b < W.heap.size)) true 22 (.slice ao l.length sc) d0 p0 :=
    fun W' hn => Below.trod Try.laidOut (by kernel_rfl) (of_decide_eq_true (by kernel_rfl)) h0k hn (fun x hx => hlt x hx)
  refine (sorts_walk (odd := odd) rfl hb hnil hao hat).mono fun e W' ⟨he, hg⟩ => ?_
  subst he
  exact ⟨_, rfl, _, _, _, [], _, [], hW', trodAll_mk1 (shut_bool Try.underlying4 _), trodAll_mk2 (hargs W' hg) (shut_int Try.underlying3 w1), rfl, hg.frame _, fun h => by cases h⟩

theorem sorts_holds : Rows.PrioSortsSaid :=
  OpenClaim.holds_of_wide 3 Try.f3 rfl rfl rfl rfl rfl rfl rfl ⟨rfl, rfl, rfl, rfl, rfl⟩ rfl rfl rfl rfl rfl (by kernel_rfl) Try.func3 (by kernel_rfl)
    (of_decide_eq_true (by kernel_rfl)) (by unfold Func.isWrapper; first | (rw [if_pos (by decide +kernel)]; kernel_rfl) | (rw [if_neg (by decide +kernel)]; exact ⟨rfl, rfl⟩))
    (fun os started H enc _ => sorts_lifted os started H enc)
#print axioms sorts_holds
end Go.Proofs.Ytjgllfpnmmopdaa
