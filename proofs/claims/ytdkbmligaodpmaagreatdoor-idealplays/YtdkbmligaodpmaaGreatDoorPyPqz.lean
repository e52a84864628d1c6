/-
 THE STATEMENT IdealPlays: from the walk to the row, and to its card.
-/
import Derived.Test.YtdkbmligaodpmaaGreatDoorHdBqz
import Derived.Test.YtdkbmligaodpmaaGreatDoorPyBqz
import Derived.Test.YtdkbmligaodpmaaGreatDoorPyCqz
import Derived.Test.YtdkbmligaodpmaaGreatDoorRiQqz
namespace Go.Proofs.YtdkbmligaodpmaaGreatDoor
open Go.ChangeShapes Go.WideShapes Go.ChangeAt Go.RowKit Go.Joins Wd Ld Cg Tr

theorem rprio_said : RPrio := fun _ hck _ _ _ _ _ _ h _ _ _ hA hn now j => rprio_any hck h hA hn now j
theorem plays_any {w : World} (hT : Tab w) {ao so : Option Addr} {l : List Ac} {ss : List Sp} {ca cs : Nat} (hA : AcsAt w ao l) (hs : ∀ a ∈ l, a.nm.size ≤ maxLen) (hn : l.length * 48 ≤ 140737488355328) (hS : SpsAt w so ss) (hI : ∀ s ∈ ss, I64 s.on ∧ I64 s.n) (hsl : ss.length ≤ 140737488355328) (c : Cf) :
  Calls Tryz.prog 3 #[cfV c, .slice ao l.length ca, .slice so ss.length cs] w fun e w' => e = .returned (.bool true) ∧ Below w.heap.size w w' := by
 by_cases hck : chkZ c = 0
 ·exact plays_yes rprio_said hT hA hs hn hS hI hsl c hck
 ·exact plays_no hT ao so l.length ss.length ca cs c hck
set_option maxRecDepth 100000 in
theorem plays_lifted (os : Os) (started : os.Started) (H : Type) (enc : TypeId × Value → H) :
  ReturnsInHanded {} Tryz.checked os 3 .any (fun w args => (Rows.idealPlaysSpec.pre enc Tryz.prog Tryz.f3 [] false w args ∧ laidMetH Tryz.prog LaidL w) ∧ sizedMet enc Tryz.prog Tryz.f3 (OpenSpec.ofChange Rows.idealPlaysSpec) false w args)
   (Rows.idealPlaysSpec.post enc Tryz.prog Tryz.f3 false true false false) := by
 refine returnsInHanded_of_change_and (C := Tryz.checked) (X := fun w _ => laidMetH Tryz.prog LaidL w) (fun _ _ _ hh h => h.of_heap hh) Tryz.own started (by kernel_rfl) Tryz.func3
  (ChangeSpec.witness_at (enc := enc) (C := Tryz.checked) (os := os) (X := fun w _ => laidMetH Tryz.prog LaidL w) false (laidWorld os) #[.agg #[.int .i64 0, .int .i64 0, .int .i64 0, .int .i64 0, .int .i64 0, .int .i64 0, .int .i64 0, .int .i64 0], .slice none 0 0, .slice none 0 0] 8 rfl (by kernel_rfl) (by kernel_rfl) (by kernel_rfl) (by kernel_rfl) (by kernel_rfl) (laidWorld_met os _)) ?_
 intro W base args ds gs before hval0 hW _ hsz0 hL _
 have hsz : (DataW.weightsEach Tryz.prog (Tryz.f3.params.toList ++ Rows.idealPlaysSpec.plain.varTypes Tryz.prog) (ds ++ gs)).all (· ≤ reachBytes) = true := hsz0
 have hval : ∀ (j : Nat) t v, Tryz.f3.params[j]? = some t → args[j]? = some v → Value.okWide Tryz.prog W .any base t v := hval0
 have hW' := hW
 obtain ⟨p, q, hA0, hV, rfl, hfz, hnd⟩ := hW
 have hA : DataW.TrodAll enc Tryz.prog W 0 (fun _ => true) true Tryz.f3.params.toList args.toList ds p := hA0
 rw [Tryz.params3] at hA hval hsz
 obtain ⟨v0, v1, v2, d0, d1, d2, p0, p1, p2, rfl, rfl, rfl, h0, h1, h2⟩ := trodAll_three hA
 obtain ⟨rfl, rfl⟩ := trodVars_none hV
 have hk0 := h0
 obtain ⟨c0, rfl⟩ := cf_in (hval 0 23 v0 rfl rfl) h0
 have hk1 := h1
 obtain ⟨ao1, L1, sc1, rfl⟩ := okWide_slice Tryz.underlying24 (hval 1 24 v1 rfl rfl)
 obtain ⟨fuel1, hf1⟩ := h1
 obtain ⟨hb1, l1, rfl, ha1, hnm1, hus1, hnil1, hcp1⟩ := accs_in2 hf1 (fun k hk => of_decide_eq_true (List.all_eq_true.1 hsz k (DataW.weights_mem_each (j := 1) (t := 24) rfl rfl k hk)))
 have hk2 := h2
 obtain ⟨ao2, L2, sc2, rfl⟩ := okWide_slice Tryz.underlying25 (hval 2 25 v2 rfl rfl)
 obtain ⟨fuel2, hf2⟩ := h2
 obtain ⟨hb2, l2, rfl, ha2, hi2, hnil2, hcp2⟩ := steps_in hf2 (fun k hk => of_decide_eq_true (List.all_eq_true.1 hsz k (DataW.weights_mem_each (j := 2) (t := 25) rfl rfl k hk)))
 clear hA0 hval0
 simp only [List.append_nil] at hW'
 have hT := tab_of_laid hL
 have hlt0 : ∀ x ∈ p0, x.block < W.heap.size := fun x hx => hW'.lt x (by simp [hx])
 have hargs0 : ∀ (W' : World), Below W.heap.size W W' → DataW.Trod enc Tryz.prog W' 0 (fun b => decide (b < W.heap.size)) true 23 (cfV c0) d0 p0 :=
  fun W' hn => Below.trod Tryz.laidOut (by kernel_rfl) (of_decide_eq_true (by kernel_rfl)) hk0 hn hlt0
 have hlt1 : ∀ x ∈ p1, x.block < W.heap.size := fun x hx => hW'.lt x (by simp [hx])
 have hargs1 : ∀ (W' : World), Below W.heap.size W W' → DataW.Trod enc Tryz.prog W' 0 (fun b => decide (b < W.heap.size)) true 24 (.slice ao1 l1.length sc1) d1 p1 :=
  fun W' hn => Below.trod Tryz.laidOut (by kernel_rfl) (of_decide_eq_true (by kernel_rfl)) hk1 hn hlt1
 have hlt2 : ∀ x ∈ p2, x.block < W.heap.size := fun x hx => hW'.lt x (by simp [hx])
 have hargs2 : ∀ (W' : World), Below W.heap.size W W' → DataW.Trod enc Tryz.prog W' 0 (fun b => decide (b < W.heap.size)) true 25 (.slice ao2 l2.length sc2) d2 p2 :=
  fun W' hn => Below.trod Tryz.laidOut (by kernel_rfl) (of_decide_eq_true (by kernel_rfl)) hk2 hn hlt2
 have walk := plays_any hT (ca := sc1) (cs := sc2) ha1 hnm1 hb1 ha2 hi2 (by omega) c0
 refine walk.mono fun e W' ⟨he, hg⟩ => ?_
 subst he
 exact ⟨_, rfl, _, _, _, [], _, [], hW', trodAll_mk1 (shut_bool Tryz.underlying4 _), trodAll_mk3 (hargs0 W' hg) (hargs1 W' hg) (hargs2 W' hg), rfl, hg.frame _, fun h => by cases h⟩

theorem plays_row : Rows.IdealPlaysSaid :=
 OpenClaim.holds_of_wide 3 Tryz.f3 rfl rfl rfl rfl rfl rfl rfl ⟨rfl, rfl, rfl, rfl, rfl⟩ rfl rfl rfl rfl rfl (by kernel_rfl) Tryz.func3 (by kernel_rfl)
  (of_decide_eq_true (by kernel_rfl)) (by unfold Func.isWrapper; first | (rw [if_pos (by decide +kernel)]; kernel_rfl) | (rw [if_neg (by decide +kernel)]; exact ⟨rfl, rfl⟩))
  (fun os started H enc _ => plays_lifted os started H enc)
theorem plays_holds : Rows.IdealPlaysCardSaid :=
 Claim7.holds_tied_plain_at .later [] [.data] true (true, "a4843d5bc53645e8ad59b83a5ee652cf9abb756007a24acd0632749613b8d282") false
  plays_row (fun _ h => by cases h) (by kernel_rfl) (fun _ h => by cases h) idealPlays_row_tie rfl ⟨rfl, rfl⟩ (by kernel_rfl) rfl
  (fun f fn hf hfn => by
   obtain rfl : f = 3 := Option.some.inj ((show Tryz.prog.funcNamed "backfill/backfilllaw16.IdealPlays" = some 3 by kernel_rfl).symm.trans hf) |>.symm
   obtain rfl : fn = Tryz.f3 := (Option.some.inj (Tryz.func3.symm.trans hfn)).symm
   exact ⟨by kernel_rfl, fun j t ht => by
    rw [Tryz.params3] at ht
    have h3 : t = 23 ∨ t = 24 ∨ t = 25 := by
     rcases j with _ | _ | _ | j
     ·exact (.inl (by simpa using ht.symm))
     ·exact (.inr (.inl (by simpa using ht.symm)))
     ·exact (.inr (.inr (by simpa using ht.symm)))
     ·simp at ht
    rcases h3 with rfl | rfl | rfl
    ·exact (show Tryz.prog.wantsStandIn 23 = false by kernel_rfl)
    ·exact (show Tryz.prog.wantsStandIn 24 = false by kernel_rfl)
    ·exact (show Tryz.prog.wantsStandIn 25 = false by kernel_rfl)⟩)
  (by kernel_rfl)
#print axioms plays_holds
end Go.Proofs.YtdkbmligaodpmaaGreatDoor
