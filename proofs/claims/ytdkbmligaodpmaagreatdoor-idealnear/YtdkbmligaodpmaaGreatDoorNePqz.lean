/-
 THE STATEMENT IdealNear: from the walk to the row, and to its card.
-/
import Derived.Test.YtdkbmligaodpmaaGreatDoorHdBqz
import Derived.Test.YtdkbmligaodpmaaGreatDoorNeWqz
namespace Go.Proofs.YtdkbmligaodpmaaGreatDoor
open Go.ChangeShapes Go.WideShapes Go.ChangeAt Go.RowKit Go.Joins Wd Ld Cg Tr

theorem near_any {w : World} (hT : Tab w) {ao so : Option Addr} {l : List Ac} {ts : List Tc} {ca ct : Nat} (hA : AcsAt w ao l) (hs : ∀ a ∈ l, a.nm.size ≤ maxLen) (hn : l.length * 48 ≤ 140737488355328) (hcp : l.length ≤ ca) (hH : TcsAt w so ts) (htl : ts.length ≤ 140737488355328) (c : Cf) (j : Jb) (hj : JbOk j) (age : Int) (hag : I64 age) :
  Calls Tryz.prog 4 #[cfV c, .slice ao l.length ca, .slice so ts.length ct, jbV j, .int .i64 age] w fun e w' => e = .returned (.bool true) ∧ Below w.heap.size w w' := by
 by_cases hok : loadE l = 0 ∧ chkZ c = 0
 ·exact near_yes hT hA hs hn hcp hH htl c j hj age hag hok.1 hok.2
 ·exact near_no hT hA hn so ts.length ct c j age hok
set_option maxRecDepth 100000 in
theorem near_lifted (os : Os) (started : os.Started) (H : Type) (enc : TypeId × Value → H) :
  ReturnsInHanded {} Tryz.checked os 4 .any (fun w args => (Rows.idealNearSpec.pre enc Tryz.prog Tryz.f4 [] false w args ∧ laidMetH Tryz.prog LaidL w) ∧ sizedMet enc Tryz.prog Tryz.f4 (OpenSpec.ofChange Rows.idealNearSpec) false w args)
   (Rows.idealNearSpec.post enc Tryz.prog Tryz.f4 false true false false) := by
 refine returnsInHanded_of_change_and (C := Tryz.checked) (X := fun w _ => laidMetH Tryz.prog LaidL w) (fun _ _ _ hh h => h.of_heap hh) Tryz.own started (by kernel_rfl) Tryz.func4
  (ChangeSpec.witness_at (enc := enc) (C := Tryz.checked) (os := os) (X := fun w _ => laidMetH Tryz.prog LaidL w) false (laidWorld os) #[.agg #[.int .i64 0, .int .i64 0, .int .i64 0, .int .i64 0, .int .i64 0, .int .i64 0, .int .i64 0, .int .i64 0], .slice none 0 0, .slice none 0 0, .agg #[.int .i64 0, .int .i64 0, .int .i64 0, .int .i64 0, .int .i64 0, .int .i64 0, .int .i64 0, .slice none 0 0], .int .i64 0] 8 rfl (by kernel_rfl) (by kernel_rfl) (by kernel_rfl) (by kernel_rfl) (by kernel_rfl) (laidWorld_met os _)) ?_
 intro W base args ds gs before hval0 hW _ hsz0 hL _
 have hsz : (DataW.weightsEach Tryz.prog (Tryz.f4.params.toList ++ Rows.idealNearSpec.plain.varTypes Tryz.prog) (ds ++ gs)).all (· ≤ reachBytes) = true := hsz0
 have hval : ∀ (j : Nat) t v, Tryz.f4.params[j]? = some t → args[j]? = some v → Value.okWide Tryz.prog W .any base t v := hval0
 have hW' := hW
 obtain ⟨p, q, hA0, hV, rfl, hfz, hnd⟩ := hW
 have hA : DataW.TrodAll enc Tryz.prog W 0 (fun _ => true) true Tryz.f4.params.toList args.toList ds p := hA0
 rw [Tryz.params4] at hA hval hsz
 obtain ⟨v0, v1, v2, v3, v4, d0, d1, d2, d3, d4, p0, p1, p2, p3, p4, rfl, rfl, rfl, h0, h1, h2, h3, h4⟩ := trodAll_five hA
 obtain ⟨rfl, rfl⟩ := trodVars_none hV
 have hk0 := h0
 obtain ⟨c0, rfl⟩ := cf_in (hval 0 23 v0 rfl rfl) h0
 have hk1 := h1
 obtain ⟨ao1, L1, sc1, rfl⟩ := okWide_slice Tryz.underlying24 (hval 1 24 v1 rfl rfl)
 obtain ⟨fuel1, hf1⟩ := h1
 obtain ⟨hb1, l1, rfl, ha1, hnm1, hus1, hnil1, hcp1⟩ := accs_in2 hf1 (fun k hk => of_decide_eq_true (List.all_eq_true.1 hsz k (DataW.weights_mem_each (j := 1) (t := 24) rfl rfl k hk)))
 have hk2 := h2
 obtain ⟨ao2, L2, sc2, rfl⟩ := okWide_slice Tryz.underlying52 (hval 2 52 v2 rfl rfl)
 obtain ⟨fuel2, hf2⟩ := h2
 obtain ⟨hb2, l2, rfl, ha2⟩ := ticks_in hf2 (fun k hk => of_decide_eq_true (List.all_eq_true.1 hsz k (DataW.weights_mem_each (j := 2) (t := 52) rfl rfl k hk)))
 have hk3 := h3
 obtain ⟨j3, rfl, hj3⟩ := job_val (hval 3 39 v3 rfl rfl) h3
 have hk4 := h4
 obtain ⟨x4, rfl, hx4⟩ := int_val (hval 4 3 v4 rfl rfl) h4
 clear hA0 hval0
 simp only [List.append_nil] at hW'
 have hT := tab_of_laid hL
 have hlt0 : ∀ x ∈ p0, x.block < W.heap.size := fun x hx => hW'.lt x (by simp [hx])
 have hargs0 : ∀ (W' : World), Below W.heap.size W W' → DataW.Trod enc Tryz.prog W' 0 (fun b => decide (b < W.heap.size)) true 23 (cfV c0) d0 p0 :=
  fun W' hn => Below.trod Tryz.laidOut (by kernel_rfl) (of_decide_eq_true (by kernel_rfl)) hk0 hn hlt0
 have hlt1 : ∀ x ∈ p1, x.block < W.heap.size := fun x hx => hW'.lt x (by simp [hx])
 have hargs1 : ∀ (W' : World), Below W.heap.size W W' → DataW.Trod enc Tryz.prog W' 0 (fun b => decide (b < W.heap.size)) true 24 (.slice ao1 l1.length sc1) d1 p1 :=
  fun W' hn => Below.trod Tryz.laidOut (by kernel_rfl) (of_decide_eq_true (by kernel_rfl)) hk1 hn hlt1
 have hlt2 : ∀ x ∈ p2, x.block < W.heap.size := fun x hx => hW'.lt x (by simp [hx])
 have hargs2 : ∀ (W' : World), Below W.heap.size W W' → DataW.Trod enc Tryz.prog W' 0 (fun b => decide (b < W.heap.size)) true 52 (.slice ao2 l2.length sc2) d2 p2 :=
  fun W' hn => Below.trod Tryz.laidOut (by kernel_rfl) (of_decide_eq_true (by kernel_rfl)) hk2 hn hlt2
 have hlt3 : ∀ x ∈ p3, x.block < W.heap.size := fun x hx => hW'.lt x (by simp [hx])
 have hargs3 : ∀ (W' : World), Below W.heap.size W W' → DataW.Trod enc Tryz.prog W' 0 (fun b => decide (b < W.heap.size)) true 39 (jbV j3) d3 p3 :=
  fun W' hn => Below.trod Tryz.laidOut (by kernel_rfl) (of_decide_eq_true (by kernel_rfl)) hk3 hn hlt3
 have hlt4 : ∀ x ∈ p4, x.block < W.heap.size := fun x hx => hW'.lt x (by simp [hx])
 have hargs4 : ∀ (W' : World), Below W.heap.size W W' → DataW.Trod enc Tryz.prog W' 0 (fun b => decide (b < W.heap.size)) true 3 (.int .i64 x4) d4 p4 :=
  fun W' hn => Below.trod Tryz.laidOut (by kernel_rfl) (of_decide_eq_true (by kernel_rfl)) hk4 hn hlt4
 have walk := near_any hT (ca := sc1) (ct := sc2) ha1 hnm1 hb1 hcp1 ha2 (by omega) c0 j3 hj3 x4 hx4
 refine walk.mono fun e W' ⟨he, hg⟩ => ?_
 subst he
 exact ⟨_, rfl, _, _, _, [], _, [], hW', trodAll_mk1 (shut_bool Tryz.underlying4 _), trodAll_mk5 (hargs0 W' hg) (hargs1 W' hg) (hargs2 W' hg) (hargs3 W' hg) (hargs4 W' hg), rfl, hg.frame _, fun h => by cases h⟩

theorem near_row : Rows.IdealNearSaid :=
 OpenClaim.holds_of_wide 4 Tryz.f4 rfl rfl rfl rfl rfl rfl rfl ⟨rfl, rfl, rfl, rfl, rfl⟩ rfl rfl rfl rfl rfl (by kernel_rfl) Tryz.func4 (by kernel_rfl)
  (of_decide_eq_true (by kernel_rfl)) (by unfold Func.isWrapper; first | (rw [if_pos (by decide +kernel)]; kernel_rfl) | (rw [if_neg (by decide +kernel)]; exact ⟨rfl, rfl⟩))
  (fun os started H enc _ => near_lifted os started H enc)
theorem near_holds : Rows.IdealNearCardSaid :=
 Claim7.holds_tied_plain_at .later [] [.data] true (true, "a4843d5bc53645e8ad59b83a5ee652cf9abb756007a24acd0632749613b8d282") false
  near_row (fun _ h => by cases h) (by kernel_rfl) (fun _ h => by cases h) idealNear_row_tie rfl ⟨rfl, rfl⟩ (by kernel_rfl) rfl
  (fun f fn hf hfn => by
   obtain rfl : f = 4 := Option.some.inj ((show Tryz.prog.funcNamed "backfill/backfilllaw16.IdealNear" = some 4 by kernel_rfl).symm.trans hf) |>.symm
   obtain rfl : fn = Tryz.f4 := (Option.some.inj (Tryz.func4.symm.trans hfn)).symm
   exact ⟨by kernel_rfl, fun j t ht => by
    rw [Tryz.params4] at ht
    have h3 : t = 23 ∨ t = 24 ∨ t = 52 ∨ t = 39 ∨ t = 3 := by
     rcases j with _ | _ | _ | _ | _ | j
     ·exact (.inl (by simpa using ht.symm))
     ·exact (.inr (.inl (by simpa using ht.symm)))
     ·exact (.inr (.inr (.inl (by simpa using ht.symm))))
     ·exact (.inr (.inr (.inr (.inl (by simpa using ht.symm)))))
     ·exact (.inr (.inr (.inr (.inr (by simpa using ht.symm)))))
     ·simp at ht
    rcases h3 with rfl | rfl | rfl | rfl | rfl
    ·exact (show Tryz.prog.wantsStandIn 23 = false by kernel_rfl)
    ·exact (show Tryz.prog.wantsStandIn 24 = false by kernel_rfl)
    ·exact (show Tryz.prog.wantsStandIn 52 = false by kernel_rfl)
    ·exact (show Tryz.prog.wantsStandIn 39 = false by kernel_rfl)
    ·exact (show Tryz.prog.wantsStandIn 3 = false by kernel_rfl)⟩)
  (by kernel_rfl)
#print axioms near_holds
end Go.Proofs.YtdkbmligaodpmaaGreatDoor
