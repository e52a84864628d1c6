/-
  THE STATEMENT NodesScript: from the walk to the row, and to its card.
-/
import Derived.Test.YtmfecocbadekhaaDoorNamesP
import Derived.Test.YtmfecocbadekhaaDoorScript
import Derived.Deep.Slices
import Derived.SizedLaws
import Derived.Carry
namespace Go.Proofs.YtmfecocbadekhaaDoor
open Go.ChangeShapes Go.WideShapes Go.ChangeAt Go.RowKit Go.Joins Nd

theorem Tryd.laidOutS : laidOutB Tryd.prog = true := by kernel_rfl
theorem Tryd.cellsI : Tryd.prog.cellsOf 3 = 1 := by kernel_rfl
theorem Tryd.cellsB : Tryd.prog.cellsOf 4 = 1 := by kernel_rfl
theorem Tryd.cellsS : Tryd.prog.cellsOf 37 = 1 := by kernel_rfl
theorem Tryd.cellsO : Tryd.prog.cellsOf 39 = 4 := by kernel_rfl
theorem Tryd.bytesI : Tryd.prog.bytesOf 3 = 8 := by kernel_rfl
theorem Tryd.bytesO : Tryd.prog.bytesOf 39 = 48 := by kernel_rfl

theorem weights_all {H : Type} {P : Program} {e : TypeId} {d : DataW H} {n : Nat} (hn : n ∈ d.weights P e) : ∀ l : List (DataW H), d ∈ l → n ∈ DataW.weightsAll P e l
  | [], h => by simp at h
  | d' :: l, h => by
    rw [DataW.weightsAll]
    rcases List.mem_cons.1 h with rfl | h
    · exact List.mem_append.2 (.inl hn)
    · exact List.mem_append.2 (.inr (weights_all hn l h))
theorem add_none (g o j : Nat) : (⟨g, o, none⟩ : Addr).add j = ⟨g, o + j, none⟩ := by unfold Addr.add; split <;> simp_all
theorem no_sub {W : World} {g o : Nat} {s : Option _} {v : Value} (h0 : W.cell? (⟨g, o, s⟩ : Addr) = some v) : s = none := by
  cases s with
  | none => rfl
  | some t =>
    unfold World.cell? at h0
    split at h0 <;> simp at h0

/-- A list inside a step, as the walk asks for it. -/
theorem list_in {H : Type} {enc : TypeId × Value → H} {W : World} {fuel : Nat} {v : Value} {x : DataW H × List MemPlace}
    (h : DataW.trod enc Tryd.prog W 0 (fun _ => true) true fuel 37 [v] = some x) (hz : 0 < W.heap.size) (hw : ∀ n ∈ x.1.weights Tryd.prog 37, n ≤ reachBytes) :
    ∃ (la : Option Addr) (m lc gL oL : Nat) (f : Nat → Int), v = .slice la m lc ∧ (0 < m → la = some ⟨gL, oL, none⟩) ∧ (la = none → m = 0 ∧ lc = 0) ∧ m * 8 ≤ 140737488351232 ∧ (∀ j, j < m → W.cell? ⟨gL, oL + j, none⟩ = some (.int .i64 (f j))) ∧ gL < W.heap.size := by
  rcases open_ints Tryd.underlying37 Tryd.underlying3 Tryd.cellsI h with ⟨hc, hx⟩ | ⟨a, len, cap', zs, hc, _, hl, _, hlen, hx, hcell, _⟩
  · simp at hc
    exact ⟨none, 0, 0, 0, 0, fun _ => 0, hc, fun h => absurd h (by omega), fun _ => ⟨rfl, rfl⟩, by omega, fun j hj => absurd hj (by omega), hz⟩
  · simp at hc
    simp at hlen
    have hlast : ∃ c d, x.1 = .slice c d ∧ c.length = len := ⟨_, _, by rw [hx], by simp [lits]; omega⟩
    obtain ⟨c, d, hcd, hcl⟩ := hlast
    have hb := hw ((c.length + d.length) * Tryd.prog.bytesOf 3) (by rw [hcd]; simp [DataW.weights, Tryd.underlying37])
    rw [Tryd.bytesI] at hb
    simp only [reachBytes] at hb
    by_cases hm : 0 < len
    · have h0 := hcell 0 (by omega)
      obtain ⟨g, o, s⟩ := a
      have hs : s = none := by
        have : (⟨g, o, s⟩ : Addr).add 0 = ⟨g, o, s⟩ := by unfold Addr.add; simp
        rw [this] at h0
        exact no_sub h0
      subst hs
      refine ⟨some ⟨g, o, none⟩, len, cap', g, o, fun j => zs.getD j 0, hc, fun _ => rfl, (fun h => by cases h), by omega, fun j hj => ?_, ?_⟩
      · rw [← add_none]
        exact hcell j (by omega)
      · have := World.block_lt_of_cell? W _ h0
        rw [add_none] at this
        exact this
    · exact ⟨some a, len, cap', 0, 0, fun _ => 0, hc, fun h => absurd h hm, (fun h => by cases h), by omega, fun j hj => absurd hj (by omega), hz⟩

theorem op_in {H : Type} {enc : TypeId × Value → H} {W : World} {fuel g a : Nat} {cs : List Value} {x : DataW H × List MemPlace}
    (h : DataW.trod enc Tryd.prog W 0 (fun _ => true) true fuel 39 cs = some x) (hz : 0 < W.heap.size) (hw : ∀ n ∈ x.1.weights Tryd.prog 39, n ≤ reachBytes) (hc : ∀ i, i < 4 → W.cell? ⟨g, a + i, none⟩ = cs[i]?) :
    ∃ sec kind nn la m lc gL oL f, OpIs W g a sec kind nn la m lc gL oL f := by
  obtain ⟨y0, y1, y2, y3, n, hx, hl, h0, h1, h2, h3⟩ := trod_struct4 Tryd.underlying39 h
  rw [Tryd.cellsO] at hl
  match cs, hl with
  | [c0, c1, c2, c3], _ =>
    simp [Tryd.cellsI, Tryd.cellsB, Tryd.cellsS] at h0 h1 h2 h3
    obtain ⟨sec, hs, _⟩ := DataW.trod_bool Tryd.underlying4 h0
    obtain ⟨kind, hk, _⟩ := DataW.trod_int Tryd.underlying3 h1
    obtain ⟨nn, hn, _⟩ := DataW.trod_int Tryd.underlying3 h2
    obtain ⟨la, m, lc, gL, oL, f, hv, l1, l0, hm, hcell, hlt⟩ := list_in h3 hz (fun n hn => hw n (by rw [hx]; simp [DataW.weights, Tryd.underlying39, DataW.weightsEach, hn]))
    simp at hs hk hn
    subst hs
    subst hk
    subst hn
    subst hv
    exact ⟨sec, kind, nn, la, m, lc, gL, oL, f, ⟨by simpa using hc 0 (by omega), by simpa using hc 1 (by omega), by simpa using hc 2 (by omega), by simpa using hc 3 (by omega), l1, l0, hm, hcell, hlt⟩⟩

theorem script_in {H : Type} {enc : TypeId × Value → H} {W : World} {fuel : Nat} {ao : Option Addr} {L sc : Nat} {x : DataW H × List MemPlace}
    (h : DataW.trod enc Tryd.prog W 0 (fun _ => true) true fuel 22 [.slice ao L sc] = some x) (hz : 0 < W.heap.size) (hw : ∀ n ∈ x.1.weights Tryd.prog 22, n ≤ reachBytes) :
    ∃ g o : Nat, (0 < L → ao = some ⟨g, o, none⟩) ∧ L ≤ 140737488355328 ∧ ∀ k, k < L → ∃ sec kind nn la m lc gL oL f, OpIs W g (o + k * 4) sec kind nn la m lc gL oL f := by
  rcases Go.Deep.open_slice Tryd.underlying22 h with ⟨hc, _⟩ | ⟨a, len, cap, m, n, D, Pl, hc, _, hl, _, hm, hx, hel⟩
  · simp at hc
    obtain ⟨rfl, rfl, rfl⟩ := hc
    exact ⟨0, 0, fun h => absurd h (by omega), by omega, fun k hk => absurd hk (by omega)⟩
  · simp at hc
    obtain ⟨rfl, rfl, rfl⟩ := hc
    rw [Tryd.cellsO] at hel
    simp at hm
    subst hm
    have hb := hw ((((List.range L).map D).length + ((List.range (m - L)).map fun j => D (L + j)).length) * Tryd.prog.bytesOf 39) (by rw [hx]; simp [DataW.weights, Tryd.underlying22])
    rw [Tryd.bytesO] at hb
    simp only [reachBytes, List.length_map, List.length_range] at hb
    have hwk : ∀ k, k < L → ∀ n ∈ (D k).weights Tryd.prog 39, n ≤ reachBytes := fun k hk n hn => hw n (by
      rw [hx]
      simp only [DataW.weights, Tryd.underlying22]
      exact List.mem_cons.2 (.inr (List.mem_append.2 (.inl (weights_all hn _ (List.mem_map.2 ⟨k, List.mem_range.2 hk, rfl⟩))))))
    by_cases hL : 0 < L
    · obtain ⟨g, o, s⟩ := a
      have hs : s = none := by
        obtain ⟨cs, h1, _⟩ := hel 0 (by omega)
        obtain ⟨_, hlen, hcell⟩ := World.cells?_some h1
        have h0 := hcell 0 (by omega)
        rw [Go.Deep.add_add] at h0
        have e : (⟨g, o, s⟩ : Addr).add (0 * 4 + 0) = ⟨g, o, s⟩ := by unfold Addr.add; simp
        rw [e, List.getElem?_eq_getElem (by omega)] at h0
        exact no_sub h0
      subst hs
      refine ⟨g, o, fun _ => rfl, by omega, fun k hk => ?_⟩
      obtain ⟨cs, h1, h2⟩ := hel k (by omega)
      obtain ⟨_, hlen, hcell⟩ := World.cells?_some h1
      refine op_in h2 hz (hwk k hk) (fun i hi => ?_)
      have := hcell i hi
      rw [Go.Deep.add_add, add_none, ← Nat.add_assoc] at this
      exact this
    · exact ⟨0, 0, fun h => absurd h hL, by omega, fun k hk => absurd hk (by omega)⟩

set_option maxRecDepth 100000 in
theorem script_lifted (os : Os) (started : os.Started) (H : Type) (enc : TypeId × Value → H) :
    ReturnsInHanded {} Tryd.checked os 3 .any (fun w args => (Rows.nodesScriptSpec.pre enc Tryd.prog Tryd.f3 [] false w args ∧ laidMetH Tryd.prog [("math/bits.deBruijn64tab", Rows.laid_math_bits_deBruijn64tab)] w) ∧ sizedMet enc Tryd.prog Tryd.f3 (OpenSpec.ofChange Rows.nodesScriptSpec) false w args)
      (Rows.nodesScriptSpec.post enc Tryd.prog Tryd.f3 false true false false) := by
  refine returnsInHanded_of_change_and (C := Tryd.checked) (X := fun w _ => laidMetH Tryd.prog [("math/bits.deBruijn64tab", Rows.laid_math_bits_deBruijn64tab)] w) (fun _ _ _ hh h => h.of_heap hh) Tryd.own started (by kernel_rfl) Tryd.func3
    (ChangeSpec.witness_at (enc := enc) (C := Tryd.checked) (os := os) (X := fun w _ => laidMetH Tryd.prog [("math/bits.deBruijn64tab", Rows.laid_math_bits_deBruijn64tab)] w) false (laidWorld os) #[.int .i64 0, .int .i64 0, .slice none 0 0] 8 rfl (by kernel_rfl) (by kernel_rfl) (by kernel_rfl) (by kernel_rfl) (by kernel_rfl) (laidWorld_met os _)) ?_
  intro W base args ds gs before hval0 hW _ hsz0 hL _
  have hsz : (DataW.weightsEach Tryd.prog (Tryd.f3.params.toList ++ Rows.nodesScriptSpec.plain.varTypes Tryd.prog) (ds ++ gs)).all (· ≤ reachBytes) = true := hsz0
  have hval : ∀ (j : Nat) t v, Tryd.f3.params[j]? = some t → args[j]? = some v → Value.okWide Tryd.prog W .any base t v := hval0
  have hW' := hW
  obtain ⟨p, q, hA0, hV, rfl, hfz, hnd⟩ := hW
  have hA : DataW.TrodAll enc Tryd.prog W 0 (fun _ => true) true Tryd.f3.params.toList args.toList ds p := hA0
  rw [Tryd.params3] at hA hval hsz
  obtain ⟨v0, v1, v2, d0, d1, d2, p0, p1, p2, rfl, rfl, rfl, h0, h1, h2⟩ := trodAll_three hA
  obtain ⟨rfl, rfl⟩ := trodVars_none hV
  obtain ⟨n, rfl, rfl, rfl, wn⟩ := open_int Tryd.underlying3 (hval 0 3 v0 rfl rfl) h0
  obtain ⟨m, rfl, rfl, rfl, wm⟩ := open_int Tryd.underlying3 (hval 1 3 v1 rfl rfl) h1
  obtain ⟨ao, L, sc, rfl⟩ := okWide_slice Tryd.underlying22 (hval 2 22 v2 rfl rfl)
  have h2k := h2
  obtain ⟨fuel, hf⟩ := h2
  have hT := tab_of_laid hL
  have hz : 0 < W.heap.size := World.block_lt_of_cell? W ⟨0, 0, none⟩ (hT 0 (by decide))
  obtain ⟨g, o, hao, hLb, hop⟩ := script_in hf hz (fun k hk => of_decide_eq_true (List.all_eq_true.1 hsz k (DataW.weights_mem_each (j := 2) (t := 22) rfl rfl k hk)))
  clear hA0 hval0
  simp only [List.append_nil] at hW'
  have hlt : ∀ x ∈ p2, x.block < W.heap.size := fun x hx => by simpa using hW'.lt x (by simpa using hx)
  have hargs : ∀ (W' : World), Below W.heap.size W W' → DataW.Trod enc Tryd.prog W' 0 (fun b => decide (b < W.heap.size)) true 22 (.slice ao L sc) d2 p2 :=
    fun W' hn => Below.trod Tryd.laidOutS (by kernel_rfl) (of_decide_eq_true (by kernel_rfl)) h2k hn hlt
  have walk : Calls Tryd.prog 3 #[.int .i64 n, .int .i64 m, .slice ao L sc] W fun e w' => e = .returned (.bool true) ∧ Below W.heap.size W w' := by
    by_cases hn : n < 1 ∨ 256 < n
    · by_cases hm : m < 1 ∨ 256 < m
      · exact script_no1 n m ao L sc W hT hn hm
      · obtain ⟨k, rfl⟩ : ∃ k : Nat, m = k := ⟨m.toNat, by omega⟩
        exact script_no3 n k ao L sc W hT (by omega) (by omega) hn
    · obtain ⟨k, rfl⟩ : ∃ k : Nat, n = k := ⟨n.toNat, by omega⟩
      by_cases hm : m < 1 ∨ 256 < m
      · exact script_no2 k m ao L sc W hT (by omega) (by omega) hm
      · obtain ⟨k', rfl⟩ : ∃ k' : Nat, m = k' := ⟨m.toNat, by omega⟩
        exact script_yes k k' ao g o L sc W hT (by omega) (by omega) (by omega) (by omega) hz hLb hao hop
  refine walk.mono fun e W' ⟨he, hg⟩ => ?_
  subst he
  exact ⟨_, rfl, _, _, _, [], _, [], hW', trodAll_mk1 (shut_bool Tryd.underlying4 _), trodAll_mk3 (shut_int Tryd.underlying3 wn) (shut_int Tryd.underlying3 wm) (hargs W' hg), rfl, hg.frame _, fun h => by cases h⟩

theorem script_row : Rows.NodesScriptSaid :=
  OpenClaim.holds_of_wide 3 Tryd.f3 rfl rfl rfl rfl rfl rfl rfl ⟨rfl, rfl, rfl, rfl, rfl⟩ rfl rfl rfl rfl rfl (by kernel_rfl) Tryd.func3 (by kernel_rfl)
    (of_decide_eq_true (by kernel_rfl)) (by unfold Func.isWrapper; first | (rw [if_pos (by decide +kernel)]; kernel_rfl) | (rw [if_neg (by decide +kernel)]; exact ⟨rfl, rfl⟩))
    (fun os started H enc _ => script_lifted os started H enc)
theorem script_holds : Rows.NodesScriptCardSaid :=
  Claim7.holds_tied_plain_at .later [] [.data] true (true, "ef773a63a54d67e7b76d215de0c85035ddef231b1a7765e390ecdf2ef17f177b") false
    script_row (fun _ h => by cases h) (by kernel_rfl) (fun _ h => by cases h) nodesScript_row_tie rfl ⟨rfl, rfl⟩ (by kernel_rfl) rfl
    (fun f fn hf hfn => by
      obtain rfl : f = 3 := Option.some.inj ((show Tryd.prog.funcNamed "backfill/backfilllaw02.NodesScript" = some 3 by kernel_rfl).symm.trans hf) |>.symm
      obtain rfl : fn = Tryd.f3 := (Option.some.inj (Tryd.func3.symm.trans hfn)).symm
      exact ⟨by kernel_rfl, fun j t ht => by
        rw [Tryd.params3] at ht
        have h3 : t = 3 ∨ t = 22 := by
          rcases j with _ | _ | _ | j
          · exact .inl (by simpa using ht.symm)
          · exact .inl (by simpa using ht.symm)
          · exact .inr (by simpa using ht.symm)
          · simp at ht
        rcases h3 with rfl | rfl
        · exact (show Tryd.prog.wantsStandIn 3 = false by kernel_rfl)
        · exact (show Tryd.prog.wantsStandIn 22 = false by kernel_rfl)⟩)
    (by kernel_rfl)
#print axioms script_holds
end Go.Proofs.YtmfecocbadekhaaDoor
