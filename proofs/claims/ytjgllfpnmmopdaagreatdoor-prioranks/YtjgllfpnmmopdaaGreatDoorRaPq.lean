/-
  THE STATEMENT PrioRanks: from the walk to the row, and to its card.
-/
import Derived.Test.YtjgllfpnmmopdaaGreatDoorHezq
import Derived.Test.YtjgllfpnmmopdaaGreatDoorRaWq
namespace Go.Proofs.YtjgllfpnmmopdaaGreatDoor
open Go.ChangeShapes Go.WideShapes Go.ChangeAt Go.RowKit Go.Joins Wd Ld Cg Tr

set_option maxRecDepth 20000 in
/-- How many accounts came in. -/
theorem acc_bound {H : Type} {enc : TypeId × Value → H} {W : World} {cf : Cf} {now hd : Int} {ao : Option Addr} {L ca : Nat} {jv : Value} {d : DataW H} {p : List MemPlace}
    (h : DataW.Trod enc Tryz.prog W 0 (fun _ => true) true 27 (.agg (stC cf now (.slice ao L ca) jv hd)) d p) (hw : ∀ n ∈ d.weights Tryz.prog 27, n ≤ reachBytes) : L * 48 ≤ 140737488351232 := by
  obtain ⟨fuel, hf⟩ := h
  obtain ⟨xs, n, _, hd0, hl, hlen, hf⟩ := DataW.trod_struct Tryz.underlying27 hf
  obtain ⟨y0, y1, y2, y3, y4, rfl⟩ := fiveL (l := xs) hlen
  have h2 := hf 2 _ rfl
  simp [Tryz.cellsAccs, Value.cells, stC] at h2
  have hw2 : ∀ k ∈ y2.1.weights Tryz.prog 24, k ≤ reachBytes := fun k hk => hw k (by rw [(Prod.mk.inj hd0).1]; simp only [DataW.weights, Tryz.underlying27]; exact DataW.weights_mem_each (j := 2) (t := 24) rfl rfl k hk)
  exact (recs_inW acC noAc (fun _ => True) (by decide) (fun _ => rfl) Tryz.underlying24 Tryz.cellsAcc Tryz.bytesAcc (fun h _ => by obtain ⟨f, e, _⟩ := acc_in2 h; exact ⟨f, e, trivial⟩) h2 hw2).1
set_option maxRecDepth 100000 in
theorem ranks_lifted (os : Os) (started : os.Started) (H : Type) (enc : TypeId × Value → H) :
    ReturnsInHanded {} Tryz.checked os 3 .any (fun w args => (Rows.prioRanksSpec.pre enc Tryz.prog Tryz.f3 [] false w args ∧ laidMetH Tryz.prog LaidL w) ∧ sizedMet enc Tryz.prog Tryz.f3 (OpenSpec.ofChange Rows.prioRanksSpec) false w args)
      (Rows.prioRanksSpec.post enc Tryz.prog Tryz.f3 false true false false) := by
  refine returnsInHanded_of_change_and (C := Tryz.checked) (X := fun w _ => laidMetH Tryz.prog LaidL w) (fun _ _ _ hh h => h.of_heap hh) Tryz.own started (by kernel_rfl) Tryz.func3
    (ChangeSpec.witness_at (enc := enc) (C := Tryz.checked) (os := os) (X := fun w _ => laidMetH Tryz.prog LaidL w) false (laidWorld os) #[.agg #[.int .i64 0, .int .i64 0, .int .i64 0, .int .i64 0, .int .i64 0, .int .i64 0, .int .i64 0, .int .i64 0, .int .i64 0, .slice none 0 0, .slice none 0 0, .int .i64 0]] 8 rfl (by kernel_rfl) (by kernel_rfl) (by kernel_rfl) (by kernel_rfl) (by kernel_rfl) (laidWorld_met os _)) ?_
  intro W base args ds gs before hval0 hW _ hsz0 hL _
  have hsz : (DataW.weightsEach Tryz.prog (Tryz.f3.params.toList ++ Rows.prioRanksSpec.plain.varTypes Tryz.prog) (ds ++ gs)).all (· ≤ reachBytes) = true := hsz0
  have hval : ∀ (j : Nat) t v, Tryz.f3.params[j]? = some t → args[j]? = some v → Value.okWide Tryz.prog W .any base t v := hval0
  have hW' := hW
  obtain ⟨p, q, hA0, hV, rfl, hfz, hnd⟩ := hW
  have hA : DataW.TrodAll enc Tryz.prog W 0 (fun _ => true) true Tryz.f3.params.toList args.toList ds p := hA0
  rw [Tryz.params3] at hA hval hsz
  obtain ⟨v0, d0, rfl, rfl, h0⟩ := trodAll_one hA
  obtain ⟨rfl, rfl⟩ := trodVars_none hV
  have hT := tab_of_laid hL
  have hk0 := h0
  obtain ⟨cf, now, hd, ao, jo, la, jl, ca, cj, gj, oj, rfl, hin, hsets, hna, hnj, hcj, hjn⟩ := state_in (hval 0 27 v0 rfl rfl) h0 (fun k hk => of_decide_eq_true (List.all_eq_true.1 hsz k (DataW.weights_mem_each (j := 0) (t := 27) rfl rfl k hk))) hT
  have hw0 : ∀ k ∈ d0.weights Tryz.prog 27, k ≤ reachBytes := fun k hk => of_decide_eq_true (List.all_eq_true.1 hsz k (DataW.weights_mem_each (j := 0) (t := 27) rfl rfl k hk))
  clear hA0 hval0
  simp only [List.append_nil] at hW'
  have hlt0 : ∀ x ∈ p, x.block < W.heap.size := fun x hx => hW'.lt x (by simp [hx])
  have hargs0 : ∀ (W' : World), Below W.heap.size W W' → DataW.Trod enc Tryz.prog W' 0 (fun b => decide (b < W.heap.size)) true 27 (.agg (stC cf now (.slice ao la.length ca) (.slice jo jl.length cj) hd)) d0 p :=
    fun W' hn => Below.trod Tryz.laidOut (by kernel_rfl) (of_decide_eq_true (by kernel_rfl)) hk0 hn hlt0
  have walk := ranks_walk (cf := cf) (now := now) (hd := hd) (cj := cj) hin hsets hna hnj (acc_bound hk0 hw0) hjn
  refine walk.mono fun e W' ⟨he, hg⟩ => ?_
  subst he
  exact ⟨_, rfl, _, _, _, [], _, [], hW', trodAll_mk1 (shut_bool Tryz.underlying4 _), trodAll_mk1 (hargs0 W' hg), rfl, hg.frame _, fun h => by cases h⟩

theorem ranks_row : Rows.PrioRanksSaid :=
  OpenClaim.holds_of_wide 3 Tryz.f3 rfl rfl rfl rfl rfl rfl rfl ⟨rfl, rfl, rfl, rfl, rfl⟩ rfl rfl rfl rfl rfl (by kernel_rfl) Tryz.func3 (by kernel_rfl)
    (of_decide_eq_true (by kernel_rfl)) (by unfold Func.isWrapper; first | (rw [if_pos (by decide +kernel)]; kernel_rfl) | (rw [if_neg (by decide +kernel)]; exact ⟨rfl, rfl⟩))
    (fun os started H enc _ => ranks_lifted os started H enc)
theorem ranks_holds : Rows.PrioRanksCardSaid :=
  Claim7.holds_tied_plain_at .later [] [.data] true (true, "8c8470bf52190165865e54abc8f778e40067d53953d759ef77399a5563ab9dba") false
    ranks_row (fun _ h => by cases h) (by kernel_rfl) (fun _ h => by cases h) prioRanks_row_tie rfl ⟨rfl, rfl⟩ (by kernel_rfl) rfl
    (fun f fn hf hfn => by
      obtain rfl : f = 3 := Option.some.inj ((show Tryz.prog.funcNamed "backfill/backfilllaw14.PrioRanks" = some 3 by kernel_rfl).symm.trans hf) |>.symm
      obtain rfl : fn = Tryz.f3 := (Option.some.inj (Tryz.func3.symm.trans hfn)).symm
      exact ⟨by kernel_rfl, fun j t ht => by
        rw [Tryz.params3] at ht
        have h3 : t = 27 := by
          rcases j with _ | j
          · simpa using ht.symm
          · simp at ht
        rw [h3]
        exact (show Tryz.prog.wantsStandIn 27 = false by kernel_rfl)⟩)
    (by kernel_rfl)
#print axioms ranks_holds
end Go.Proofs.YtjgllfpnmmopdaaGreatDoor
