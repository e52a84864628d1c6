/-
  THE STATEMENT NodesLowest: from the walk to the row, and to its card.
-/
import Derived.Test.YtmfecocbadekhaaDoorNamesP
import Derived.Test.YtmfecocbadekhaaDoorLowA
import Derived.SizedLaws
import Derived.Carry
namespace Go.Proofs.YtmfecocbadekhaaDoor
open Go.ChangeShapes Go.WideShapes Go.ChangeAt Go.RowKit Go.Joins Nd

theorem Tryd.laidOut : laidOutB Tryd.prog = true := by kernel_rfl
theorem Tryd.cells3 : Tryd.prog.cellsOf 3 = 1 := by kernel_rfl
theorem Tryd.bytes3 : Tryd.prog.bytesOf 3 = 8 := by kernel_rfl

/-- A slice of ints that came in, as the walks ask for it. -/
theorem ints_in {H : Type} {enc : TypeId × Value → H} {W : World} {fuel : Nat} {ao : Option Addr} {m cap : Nat} {x : DataW H × List MemPlace}
    (h : DataW.trod enc Tryd.prog W 0 (fun _ => true) true fuel 37 [.slice ao m cap] = some x) (hz : 0 < W.heap.size) :
    ∃ g o : Nat, ∃ f : Nat → Int, (0 < m → ao = some ⟨g, o, none⟩) ∧ g < W.heap.size ∧ (∀ j, j < m → W.cell? ⟨g, o + j, none⟩ = some (.int .i64 (f j))) ∧ (x.1 = .nil ∧ m = 0 ∨ ∃ a b, x.1 = .slice a b ∧ a.length = m) := by
  rcases open_ints Tryd.underlying37 Tryd.underlying3 Tryd.cells3 h with ⟨hc, hx⟩ | ⟨a, len, cap', zs, hc, _, hl, _, hlen, hx, hcell, _⟩
  · simp at hc
    obtain ⟨rfl, rfl, rfl⟩ := hc
    exact ⟨0, 0, fun _ => 0, fun h => absurd h (by omega), hz, fun j hj => absurd hj (by omega), .inl ⟨by rw [hx], rfl⟩⟩
  · simp at hc
    obtain ⟨rfl, rfl, rfl⟩ := hc
    simp at hlen
    have hlast : ∃ c d, x.1 = .slice c d ∧ c.length = m := ⟨_, _, by rw [hx], by simp [lits]; omega⟩
    by_cases hm : 0 < m
    · have h0 := hcell 0 (by omega)
      obtain ⟨g, o, s⟩ := a
      have hs : s = none := by
        cases s with
        | none => rfl
        | some t =>
          have : (⟨g, o, some t⟩ : Addr).add 0 = ⟨g, o, some t⟩ := by unfold Addr.add; simp
          rw [this] at h0
          unfold World.cell? at h0
          split at h0 <;> simp at h0
      subst hs
      have hadd : ∀ j, (⟨g, o, none⟩ : Addr).add j = ⟨g, o + j, none⟩ := fun j => by unfold Addr.add; split <;> simp_all
      refine ⟨g, o, fun j => zs.getD j 0, fun _ => rfl, ?_, fun j hj => ?_, .inr hlast⟩
      · have := World.block_lt_of_cell? W _ h0
        rw [hadd] at this
        exact this
      · rw [← hadd]
        exact hcell j (by omega)
    · exact ⟨0, 0, fun _ => 0, fun h => absurd h hm, hz, fun j hj => absurd hj (by omega), .inr hlast⟩

set_option maxRecDepth 100000 in
theorem lowest_lifted (os : Os) (started : os.Started) (H : Type) (enc : TypeId × Value → H) :
    ReturnsInHanded {} Tryd.checked os 4 .any (fun w args => (Rows.nodesLowestSpec.pre enc Tryd.prog Tryd.f4 [] false w args ∧ laidMetH Tryd.prog [("math/bits.deBruijn64tab", Rows.laid_math_bits_deBruijn64tab)] w) ∧ sizedMet enc Tryd.prog Tryd.f4 (OpenSpec.ofChange Rows.nodesLowestSpec) false w args)
      (Rows.nodesLowestSpec.post enc Tryd.prog Tryd.f4 false true false false) := by
  refine returnsInHanded_of_change_and (C := Tryd.checked) (X := fun w _ => laidMetH Tryd.prog [("math/bits.deBruijn64tab", Rows.laid_math_bits_deBruijn64tab)] w) (fun _ _ _ hh h => h.of_heap hh) Tryd.own started (by kernel_rfl) Tryd.func4
    (ChangeSpec.witness_at (enc := enc) (C := Tryd.checked) (os := os) (X := fun w _ => laidMetH Tryd.prog [("math/bits.deBruijn64tab", Rows.laid_math_bits_deBruijn64tab)] w) false (laidWorld os) #[.int .i64 0, .slice none 0 0, .int .i64 0] 8 rfl (by kernel_rfl) (by kernel_rfl) (by kernel_rfl) (by kernel_rfl) (by kernel_rfl) (laidWorld_met os _)) ?_
  intro W base args ds gs before hval0 hW _ hsz0 hL _
  have hsz : (DataW.weightsEach Tryd.prog (Tryd.f4.params.toList ++ Rows.nodesLowestSpec.plain.varTypes Tryd.prog) (ds ++ gs)).all (· ≤ reachBytes) = true := hsz0
  have hval : ∀ (j : Nat) t v, Tryd.f4.params[j]? = some t → args[j]? = some v → Value.okWide Tryd.prog W .any base t v := hval0
  have hW' := hW
  obtain ⟨p, q, hA0, hV, rfl, hfz, hnd⟩ := hW
  have hA : DataW.TrodAll enc Tryd.prog W 0 (fun _ => true) true Tryd.f4.params.toList args.toList ds p := hA0
  rw [Tryd.params4] at hA hval hsz
  obtain ⟨v0, v1, v2, d0, d1, d2, p0, p1, p2, rfl, rfl, rfl, h0, h1, h2⟩ := trodAll_three hA
  obtain ⟨rfl, rfl⟩ := trodVars_none hV
  obtain ⟨n, rfl, rfl, rfl, wn⟩ := open_int Tryd.underlying3 (hval 0 3 v0 rfl rfl) h0
  obtain ⟨many, rfl, rfl, rfl, wm⟩ := open_int Tryd.underlying3 (hval 2 3 v2 rfl rfl) h2
  obtain ⟨ao, m, cap, rfl⟩ := okWide_slice Tryd.underlying37 (hval 1 37 v1 rfl rfl)
  have h1k := h1
  obtain ⟨fuel, hf⟩ := h1
  have hT := tab_of_laid hL
  have hz : 0 < W.heap.size := World.block_lt_of_cell? W ⟨0, 0, none⟩ (hT 0 (by decide))
  obtain ⟨g, o, f, hao, hgw, hc, hd⟩ := ints_in hf hz
  have hm : m ≤ 140737488355328 := by
    rcases hd with ⟨_, hm0⟩ | ⟨a, b, ha, hl⟩
    · omega
    · simp only at ha
      subst ha
      have := sized_slice hsz (j := 1) (t := 37) (e := 3) rfl rfl Tryd.underlying37
      rw [Tryd.bytes3] at this
      simp only [reachBytes] at this
      omega
  clear hA0 hval0
  simp only [List.append_nil] at hW'
  have hlt : ∀ x ∈ p1, x.block < W.heap.size := fun x hx => by simpa using hW'.lt x (by simpa using hx)
  have hargs : ∀ (W' : World), Below W.heap.size W W' → DataW.Trod enc Tryd.prog W' 0 (fun b => decide (b < W.heap.size)) true 37 (.slice ao m cap) d1 p1 :=
    fun W' hn => Below.trod Tryd.laidOut (by kernel_rfl) (of_decide_eq_true (by kernel_rfl)) h1k hn hlt
  have walk : Calls Tryd.prog 4 #[.int .i64 n, .slice ao m cap, .int .i64 many] W fun e w' => e = .returned (.bool true) ∧ Below W.heap.size W w' := by
    by_cases hn : n < 1 ∨ 256 < n
    · exact lowest_no n many m cap ao W hT hn
    · obtain ⟨k, rfl⟩ : ∃ k : Nat, n = k := ⟨n.toNat, by omega⟩
      exact lowest_yes k many g o m cap ao f W hT (by omega) (by omega) hao hm hgw hc
  refine walk.mono fun e W' ⟨he, hg⟩ => ?_
  subst he
  exact ⟨_, rfl, _, _, _, [], _, [], hW', trodAll_mk1 (shut_bool Tryd.underlying4 _), trodAll_mk3 (shut_int Tryd.underlying3 wn) (hargs W' hg) (shut_int Tryd.underlying3 wm), rfl, hg.frame _, fun h => by cases h⟩

theorem lowest_row : Rows.NodesLowestSaid :=
  OpenClaim.holds_of_wide 4 Tryd.f4 rfl rfl rfl rfl rfl rfl rfl ⟨rfl, rfl, rfl, rfl, rfl⟩ rfl rfl rfl rfl rfl (by kernel_rfl) Tryd.func4 (by kernel_rfl)
    (of_decide_eq_true (by kernel_rfl)) (by unfold Func.isWrapper; first | (rw [if_pos (by decide +kernel)]; kernel_rfl) | (rw [if_neg (by decide +kernel)]; exact ⟨rfl, rfl⟩))
    (fun os started H enc _ => lowest_lifted os started H enc)
theorem lowest_holds : Rows.NodesLowestCardSaid :=
  Claim7.holds_tied_plain_at .later [] [.data] true (true, "ef773a63a54d67e7b76d215de0c85035ddef231b1a7765e390ecdf2ef17f177b") false
    lowest_row (fun _ h => by cases h) (by kernel_rfl) (fun _ h => by cases h) nodesLowest_row_tie rfl ⟨rfl, rfl⟩ (by kernel_rfl) rfl
    (fun f fn hf hfn => by
      obtain rfl : f = 4 := Option.some.inj ((show Tryd.prog.funcNamed "backfill/backfilllaw02.NodesLowest" = some 4 by kernel_rfl).symm.trans hf) |>.symm
      obtain rfl : fn = Tryd.f4 := (Option.some.inj (Tryd.func4.symm.trans hfn)).symm
      exact ⟨by kernel_rfl, fun j t ht => by
        rw [Tryd.params4] at ht
        have h3 : t = 3 ∨ t = 37 := by
          rcases j with _ | _ | _ | j
          · exact .inl (by simpa using ht.symm)
          · exact .inr (by simpa using ht.symm)
          · exact .inl (by simpa using ht.symm)
          · simp at ht
        rcases h3 with rfl | rfl
        · exact (show Tryd.prog.wantsStandIn 3 = false by kernel_rfl)
        · exact (show Tryd.prog.wantsStandIn 37 = false by kernel_rfl)⟩)
    (by kernel_rfl)
#print axioms lowest_holds
end Go.Proofs.YtmfecocbadekhaaDoor
