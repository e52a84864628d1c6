/-
  Sorting rows of int by backfilllaw14.shown$1: merge, sort, Sort walked.
-/
import Derived.Test.YtjgllfpnmmopdaaSmN
import Derived.Deep.RegionHeld3
import Derived.Deep.QuietTactic
import Derived.WalkSmall
namespace Go.Proofs.Ytjgllfpnmmopdaa
open Go.RowKit Tr
set_option maxHeartbeats 1000000 in
set_option maxRecDepth 20000 in
theorem merge_Na {lt : Int → Int → Bool} {I : World → Prop} {D : Nat → Prop} (C : Clo (Value.int .i64) 17 [] lt I D) {w : World} {b o2 n c h : Nat} {P Q F S : List Int}
    (hM : RwN w b (P ++ (F ++ (S ++ Q)))) (ho : o2 = P.length) (hF : F.length = h) (hn : h + S.length = n) (hs : 0 < S.length) (hc : n ≤ c) (hb : n * 8 ≤ 140737488355328) (hI : I w) (hDb : ¬ D b) :
    Calls Try.prog 50 #[.agg #[(.func (.func 17) #[] #[])], .slice (some ⟨b, o2, none⟩) n c, .int .i64 h] w fun e w' => e = .returned (.tuple #[]) ∧ RwN w' b (P ++ (mergeV lt F S ++ Q)) ∧ Chg (fun j => j = b ∨ D j) w w' ∧ I w' := by
  obtain ⟨w1, hw1⟩ : ∃ w1, w.alloc (.cells #[(.func (.func 17) #[] #[])] 63) = w1 := ⟨_, rfl⟩
  have hb1 : Below w.heap.size w w1 := by rw [← hw1]; exact (Below.refl _ _).alloc (Nat.le_refl _) _
  have zw1 : w1.heap.size = w.heap.size + 1 := by rw [← hw1]; simp
  have cb1 : w1.cell? ⟨w.heap.size, 0, none⟩ = some (.func (.func 17) #[] #[]) := by rw [← hw1]; exact cells_at (heap_alloc_new w _) rfl
  have hM1 := hM.below hb1
  have hcp := copyOf_N (w := w1.drew) (n := h) (c := c) (ao := some ⟨b, o2, none⟩) (l := F) (by omega) hF (fun e => by cases e) (fun ad e => by cases e; exact RwN.src (RwN.below ((Below.refl _ w1).drew) hM1) rfl o2 (by omega))
  have hbl := hM.lt
  have HI1 : Hid (I w1) := C.keep w w1 (fun _ => False) hI (Chg.of_below hb1 _) (fun _ _ e => e)
  have hh : h ≤ n := by omega
  have hhc : h ≤ c := by omega
  have HX : Hid (RwN w1 b (P ++ (F ++ (S ++ Q)))) := hM1
  have HO : Hid (o2 = P.length ∧ F.length = h ∧ h + S.length = n ∧ n ≤ c ∧ n * 8 ≤ 140737488355328) := ⟨ho, hF, hn, hc, hb⟩
  have HB1 : Hid (Below w.heap.size w w1 ∧ w1.heap.size = w.heap.size + 1) := ⟨hb1, zw1⟩
  have HC : Hid (Clo (Value.int .i64) 17 [] lt I D) := C
  have HLW : Hid (∀ j, D j → j < w.heap.size) := C.low w hI
  have hhn : (h : Int) ≤ n := by omega
  have hhc' : (h : Int) ≤ c := by omega
  have hcne : ¬ c = h := by omega
  clear ho hF hn hc hb hs hM hM1 C hI hb1 zw1
  go_enter Try.func50, Try.ntmps50
  go_upto_region 1 with fail
  go_region_with (go_at_call 33; refine hcp.mono ?_; rintro e w2 ⟨rfl, hF2, hb2, hz2⟩)
  have HMG : Hid (MgN lt I D w b w.heap.size w1.heap.size (.func (.func 17) #[] #[]) P Q F S F S 0 w2) := by
    have z1 := HB1.out.2
    have k2 : Chg (fun _ => False) w1 w2 := Chg.of_below (by have := hb2; exact ((Below.refl _ w1).drew).trans hb2) _
    have hi2 : I w2 := HC.out.keep w1 w2 _ HI1.out k2 (fun _ _ e => e)
    have lw := fun j (hj : D j) => HLW.out j hj
    exact ⟨⟨[], F, rfl, rfl, HX.out.chg k2 (fun e => e), rfl⟩, hF2, ⟨[], rfl⟩, k2.cell cb1 (fun e => e), hi2, (Chg.of_below HB1.out.1 _).trans (k2.mono (fun _ _ e => e.elim)) (fun _ _ e => e), hDb, (fun e => by have := lw _ e; omega), (fun e => by have := lw _ e; omega), (by omega), (by omega), HC.out.keep⟩
  go_wp2
  have hcall : Hid (∀ x p q, I x → Calls Try.prog 17 #[.int .i64 p, .int .i64 q] x fun e x' => e = .returned (.bool (lt p q)) ∧ I x' ∧ Chg D x x') := fun x p q h => HC.out.call x p q h
  clear hcp HX hF2 hb2 hz2 cb1 hhn hhc' hcne hh hhc HB1 HI1 HLW HC hw1
  generalize w.heap.size = sb at *
  generalize w1.heap.size = fb at *
  clear w1
  go_loopg [6, 7, 8] (F.length + S.length) (fun gk v6 v7 v8 wr => ∃ (F2 S2 : List Int) (a6 a7 : Addr) (c7 i : Nat), F2.length + S2.length = gk ∧ v6 = .slice (some a6) F2.length F2.length ∧ v7 = .slice (some a7) S2.length c7 ∧ v8 = .int .i64 i ∧ S2.length ≤ c7 ∧ (0 < F2.length → a6 = ⟨fb, F.length - F2.length, none⟩) ∧ (0 < S2.length → a7 = ⟨b, P.length + i + F2.length, none⟩) ∧ MgN lt I D w b sb fb (.func (.func 17) #[] #[]) P Q F S F2 S2 i wr)
  case atStart =>
    obtain ⟨e1, e2, e3, e4, e5⟩ := HO.out
    refine ⟨F, S, ⟨fb, 0, none⟩, ⟨b, o2 + h, none⟩, c - h, 0, rfl, by rw [e2], by rw [show n - h = S.length by omega], rfl, by omega, (fun _ => by simp), (fun _ => ?_), HMG.out⟩
    rw [e1, ← e2, Nat.add_zero]
  case round =>
    obtain ⟨F2, S2, a6, a7, c7, i, hgk, rfl, rfl, rfl, hc7, ha6, ha7, hmg⟩ := hrel
    have HM : Hid (MgN lt I D w b sb fb (.func (.func 17) #[] #[]) P Q F S F2 S2 i wr) := hmg
    clear hmg HMG
    cases F2 with
    | nil =>
      simp only [List.length_nil]
      go_wp2
      go_end0
      exact ⟨rfl, HM.out.done, HM.out.chg, HM.out.inv⟩
    | cons p F3 =>
      obtain rfl := ha6 (by simp)
      obtain ⟨f, hf⟩ : ∃ f, F3.length = f := ⟨_, rfl⟩
      have HSUM := HM.out.sum
      have HF : Hid (F3.length = f) := hf
      have HGK : Hid ((p :: F3).length + S2.length = gk) := hgk
      have HA7 : Hid (0 < S2.length → a7 = ⟨b, P.length + i + (F3.length + 1), none⟩) := ha7
      have HFL : Hid (F3.length + 1 ≤ F.length) := by
        obtain ⟨F1, e⟩ := HM.out.tail
        show F3.length + 1 ≤ F.length
        rw [e]; simp
      rw [hf] at HFL
      have hc7' := hc7
      simp only [List.length_cons, hf] at ha7 HSUM ⊢
      obtain ⟨f2, hf2⟩ : ∃ f2, F.length - (f + 1) = f2 := ⟨_, rfl⟩
      have HF2 : Hid (F.length - (f + 1) = f2) := hf2
      simp only [hf2]
      have hin : (i : Int) < n := by have := HO.out; omega
      have hin' : i < n := by omega
      have HAD : Hid (P.length + i = o2 + i) := by show P.length + i = o2 + i; have := HO.out.1; omega
      clear hf hf2 hgk ha6
      cases S2 with
      | nil =>
        simp only [List.length_nil]
        go_upto_region 5 with fail
        go_quiet (fail)
        have HMX : Hid (MgN lt I D w b sb fb (.func (.func 17) #[] #[]) P Q F S (p :: F3) [] i (wr.drewN nq)) := HM.out.drewN nq
        clear HM
        generalize wr.drewN nq = X at *
        obtain ⟨g, g1⟩ := HMX.out.rdG
        have g3 := HMX.out.free (o2 + i)
        rw [HAD.out] at g1
        have r1 := HMX.out.rdF
        simp only [HF.out, HF2.out] at r1
        skip
        have HN : Hid (∀ x', x' = (X.setCell ⟨b, o2 + i, none⟩ (.int .i64 p)).drew → MgN lt I D w b sb fb (.func (.func 17) #[] #[]) P Q F S F3 [] (i + 1) x') := fun x' e => by
          have h := (HMX.out.takeF (.inl rfl)).drew
          rw [HAD.out] at h
          rw [e]; exact h
        have h1f : (1 : Int) ≤ (f : Int) + 1 := by omega
        have HW : Hid (wrap64 ((i : Int) + 1) = ((i + 1 : Nat) : Int)) := by
          show wrap64 ((i : Int) + 1) = ((i + 1 : Nat) : Int)
          have := HO.out
          unfold wrap64; omega
        by_cases hf1 : f = 0
        · subst hf1
          go_upto_region 7 with fail
          go_region_with fail
          all_goals (go_wp2; (go_roundg (0 + 0)); (case measure => have := HGK.out; simp only [List.length_cons, List.length_nil, HF.out] at this; omega); (case rel => exact ⟨F3, [], ⟨fb, f2, none⟩, a7, c7, i + 1, by rw [HF.out, List.length_nil], by rw [HF.out], rfl, by rw [HW.out], hc7', (fun h => by rw [HF.out] at h; omega), (fun h => by simp at h), HN.out _ rfl⟩))
        · go_upto_region 7 with fail
          go_region_with fail
          all_goals (go_wp2; (go_roundg (f + 0)); (case measure => have := HGK.out; simp only [List.length_cons, List.length_nil, HF.out] at this; omega); (case rel => exact ⟨F3, [], ⟨fb, f2 + 1, none⟩, a7, c7, i + 1, by rw [HF.out, List.length_nil], by rw [HF.out], rfl, by rw [HW.out], hc7', (fun _ => by rw [HF.out]; congr 1; have := HF2.out; have := HFL.out; omega), (fun h => by simp at h), HN.out _ rfl⟩))
      | cons q S3 =>
        obtain rfl := ha7 (by simp)
        obtain ⟨s, hs⟩ : ∃ s, S3.length = s := ⟨_, rfl⟩
        have HS : Hid (S3.length = s) := hs
        simp only [List.length_cons, hs] at hc7 HSUM ⊢
        obtain ⟨q2, hq2⟩ : ∃ q2, P.length + i + (f + 1) = q2 := ⟨_, rfl⟩
        have HQ2 : Hid (P.length + i + (f + 1) = q2) := hq2
        have HD : Hid (MgN lt I D w b sb fb (.func (.func 17) #[] #[]) P Q F S (p :: F3) (q :: S3) i wr.drew) := HM.out.drew
        simp only [hq2]
        have d1 := HD.out.rdS
        have d2 := HD.out.rdF
        have d3 := HD.out.box
        simp only [List.length_cons, HF.out, hq2, HF2.out] at d1 d2
        have HDD : Hid (wr.drew.cell? ⟨b, q2, none⟩ = some (.int .i64 q) ∧ wr.drew.cell? ⟨fb, f2, none⟩ = some (.int .i64 p) ∧ wr.drew.cell? ⟨sb, 0, none⟩ = some (.func (.func 17) #[] #[])) := ⟨d1, d2, d3⟩
        have hca := hcall.out wr.drew q p HD.out.inv
        clear hs hq2 ha7 d1 d2 d3
        go_upto_region 5 with fail
        go_region_held3 (fun x => x.cell? ⟨b, q2, none⟩ = some (.int .i64 q) ∧ x.cell? ⟨fb, f2, none⟩ = some (.int .i64 p) ∧ x.cell? ⟨sb, 0, none⟩ = some (.func (.func 17) #[] #[])) (first | exact HDD.out | exact HX5.out) (first | (go_at_call 17; refine hca.mono ?_; rintro e x5 ⟨rfl, hi5, hk5⟩; have HM5 : Hid (MgN lt I D w b sb fb (.func (.func 17) #[] #[]) P Q F S (p :: F3) (q :: S3) i x5) := HD.out.call hk5 hi5; have HX5 : Hid (x5.cell? ⟨b, q2, none⟩ = some (.int .i64 q) ∧ x5.cell? ⟨fb, f2, none⟩ = some (.int .i64 p) ∧ x5.cell? ⟨sb, 0, none⟩ = some (.func (.func 17) #[] #[])) := (by have d1 := HM5.out.rdS; have d2 := HM5.out.rdF; have d3 := HM5.out.box; simp only [List.length_cons, HF.out, HQ2.out, HF2.out] at d1 d2; exact ⟨d1, d2, d3⟩)))
        have HM6 : Hid (MgN lt I D w b sb fb (.func (.func 17) #[] #[]) P Q F S (p :: F3) (q :: S3) i x5) := HM5.out
        clear HX5 HM5 HDD HD hca hi5 hk5 HM
        obtain ⟨t, ht⟩ : ∃ t, lt q p = t := ⟨_, rfl⟩
        have HT : Hid (lt q p = t) := ht
        rw [ht]
        clear ht
        obtain ⟨g, g1⟩ := HM6.out.rdG
        have g3 := HM6.out.free (o2 + i)
        rw [HAD.out] at g1
        cases t with
        | true =>
          have r1 := HM6.out.rdS
          simp only [List.length_cons, HF.out, HQ2.out] at r1
          skip
          have HN : Hid (∀ x', x' = (x5.setCell ⟨b, o2 + i, none⟩ (.int .i64 q)).drew → MgN lt I D w b sb fb (.func (.func 17) #[] #[]) P Q F S (p :: F3) S3 (i + 1) x') := fun x' e => by
            have h := (HM6.out.takeS HT.out).drew
            rw [HAD.out] at h
            rw [e]; exact h
          have HW : Hid (wrap64 ((i : Int) + 1) = ((i + 1 : Nat) : Int)) := by
            show wrap64 ((i : Int) + 1) = ((i + 1 : Nat) : Int)
            have := HO.out
            unfold wrap64; omega
          have h1s : (1 : Int) ≤ (s : Int) + 1 := by omega
          by_cases hc1 : c7 = 1
          · have hs0 : s = 0 := by omega
            subst hs0
            go_upto_region 6 with fail
            go_region_with fail
            all_goals (go_wp2; (go_roundg (f + 1)); (case measure => have := HGK.out; simp only [List.length_cons, HF.out, HS.out] at this; omega); (case rel => exact ⟨p :: F3, S3, ⟨fb, f2, none⟩, ⟨b, q2, none⟩, 0, i + 1, by rw [List.length_cons, HF.out, HS.out], by rw [List.length_cons, HF.out], by rw [HS.out], by rw [HW.out], by rw [HS.out]; omega, (fun _ => by rw [List.length_cons, HF.out, HF2.out]), (fun h => by rw [HS.out] at h; omega), HN.out _ rfl⟩))
          · go_upto_region 6 with fail
            go_region_with fail
            all_goals (go_wp2; (go_roundg (f + 1 + s)); (case measure => have := HGK.out; simp only [List.length_cons, HF.out, HS.out] at this; omega); (case rel => exact ⟨p :: F3, S3, ⟨fb, f2, none⟩, ⟨b, q2 + 1, none⟩, c7 - 1, i + 1, by rw [List.length_cons, HF.out, HS.out], by rw [List.length_cons, HF.out], by rw [HS.out], by rw [HW.out], by rw [HS.out]; omega, (fun _ => by rw [List.length_cons, HF.out, HF2.out]), (fun _ => by rw [List.length_cons, HF.out]; congr 1; have := HQ2.out; omega), HN.out _ rfl⟩))
        | false =>
          have r1 := HM6.out.rdF
          simp only [HF.out, HF2.out] at r1
          skip
          have HN : Hid (∀ x', x' = (x5.setCell ⟨b, o2 + i, none⟩ (.int .i64 p)).drew → MgN lt I D w b sb fb (.func (.func 17) #[] #[]) P Q F S F3 (q :: S3) (i + 1) x') := fun x' e => by
            have h := (HM6.out.takeF (.inr ⟨q, S3, rfl, HT.out⟩)).drew
            rw [HAD.out] at h
            rw [e]; exact h
          have h1f : (1 : Int) ≤ (f : Int) + 1 := by omega
          have HW : Hid (wrap64 ((i : Int) + 1) = ((i + 1 : Nat) : Int)) := by
            show wrap64 ((i : Int) + 1) = ((i + 1 : Nat) : Int)
            have := HO.out
            unfold wrap64; omega
          by_cases hf1 : f = 0
          · subst hf1
            go_upto_region 7 with fail
            go_region_with fail
            all_goals (go_wp2; (go_roundg (0 + (s + 1))); (case measure => have := HGK.out; simp only [List.length_cons, HF.out, HS.out] at this; omega); (case rel => exact ⟨F3, (q :: S3), ⟨fb, f2, none⟩, ⟨b, q2, none⟩, c7, i + 1, by rw [HF.out, List.length_cons, HS.out], by rw [HF.out], by rw [List.length_cons, HS.out], by rw [HW.out], by rw [List.length_cons, HS.out]; omega, (fun h => by rw [HF.out] at h; omega), (fun _ => by rw [HF.out]; congr 1; have := HQ2.out; omega), HN.out _ rfl⟩))
          · go_upto_region 7 with fail
            go_region_with fail
            all_goals (go_wp2; (go_roundg (f + (s + 1))); (case measure => have := HGK.out; simp only [List.length_cons, HF.out, HS.out] at this; omega); (case rel => exact ⟨F3, (q :: S3), ⟨fb, f2 + 1, none⟩, ⟨b, q2, none⟩, c7, i + 1, by rw [HF.out, List.length_cons, HS.out], by rw [HF.out], by rw [List.length_cons, HS.out], by rw [HW.out], by rw [List.length_cons, HS.out]; omega, (fun _ => by rw [HF.out]; congr 1; have := HF2.out; have := HFL.out; omega), (fun _ => by rw [HF.out]; congr 1; have := HQ2.out; omega), HN.out _ rfl⟩))
end Go.Proofs.Ytjgllfpnmmopdaa
