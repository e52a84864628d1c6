/-
  LAYER 17, package audit: machineOf, needSet (made by gen17z.py).
-/
import Derived.Test.YtbcinapnnlfnbaaGreatXad
import Derived.Test.YtbcinapnnlfnbaaGreatXnd
import Derived.Test.YtbcinapnnlfnbaaGreatXru
import Derived.Deep.CutBlock
import Derived.Deep.DeepCutAuto
namespace Go.Proofs.YtbcinapnnlfnbaaGreat
open Go.RowKit Wd Tr Cg Lg

theorem machine_any {w : World} (c : Cf) (n : Nat) (hn : c.nodes = (n : Int)) (h1 : 1 ≤ n) (h2 : n ≤ 256) : Calls Tryz.prog 34 #[cfV c] w fun e w' => ∃ mb, e = .returned (.pointer (some ⟨mb, 0, none⟩)) ∧ Nd.SetIn w' mb n (2 ^ n - 1) ∧ Below w.heap.size w w' ∧ w.heap.size ≤ mb := by
  have cN := fun x => Nd.new_yes n x h1 h2
  unfold cfV
  rw [hn]
  clear hn
  go_enter Tryz.func34, Tryz.ntmps34
  go_wp2_with (go_at_call 64; refine (cN _).mono ?_; rintro e w1 ⟨rfl, hs, hb⟩)
  go_ret
  have hz : (w.alloc (.cells #[.int .i64 (n : Int), .int .i64 c.queue, .int .i64 c.limit, .int .i64 c.age, .int .i64 c.fair, .int .i64 c.size, .int .i64 c.period, .int .i64 c.half] 23)).heap.size = w.heap.size + 1 := by simp
  rw [hz] at hs
  exact ⟨_, rfl, hs, ((Below.refl _ w).alloc (Nat.le_refl _) _).trans (hb.mono (by simp)), by omega⟩
/-- What is asked of a job's nodes. -/
def setsB (n : Int) (j : Jv) : Bool := decide ((j.set.length : Int) = if startB j.st then j.nd else 0) && riseB n (-1) j.set
set_option maxHeartbeats 2000000 in
set_option maxRecDepth 20000 in
theorem needSet_any {w : World} (c : Cf) (p : Pj) (n : Nat) (hn : c.nodes = (n : Int)) (h1 : 1 ≤ n) (h2 : n ≤ 256) (hI : IntsAt w p.sa p.v.set) (hl : p.v.set.length ≤ 140737488355328) :
    Calls Tryz.prog 33 #[pjV p, cfV c] w fun e w' => e = asksE (setsB c.nodes p.v) 174 ∧ Below w.heap.size w w' := by
  have cS : ∀ x, Calls Tryz.prog 63 #[pjV p] x fun e w' => e = .returned (.bool (startB p.v.st)) ∧ Below x.heap.size x w' := fun x => started_any p
  have cM : ∀ x, Calls Tryz.prog 34 #[cfV c] x fun e w' => ∃ mb, e = .returned (.pointer (some ⟨mb, 0, none⟩)) ∧ Nd.SetIn w' mb n (2 ^ n - 1) ∧ Below x.heap.size x w' ∧ x.heap.size ≤ mb := fun x => machine_any c n hn h1 h2
  have HLOW : Hid (∀ ad, p.sa = some ad → 0 < p.v.set.length → ad.block < w.heap.size) := by
    intro ad e hp
    obtain ⟨g, o, hg, hc⟩ := hI
    have e2 := hg hp
    rw [e] at e2
    cases e2
    exact World.block_lt_of_cell? w ⟨g, o + 0, none⟩ (hc 0 _ (List.getElem?_eq_getElem hp))
  have HI : Hid (IntsAt w p.sa p.v.set) := hI
  have HN : Hid (c.nodes = (n : Int)) := hn
  clear hn
  obtain ⟨⟨ac, nd, lm, sb, st, sr, en, xs⟩, sa, sc⟩ := p
  unfold pjV cfV at *
  dsimp only at cS cM HLOW HI hl ⊢
  have cQ := need_any
  obtain ⟨AV, hAV⟩ : ∃ AV, asksE (setsB c.nodes ⟨ac, nd, lm, sb, st, sr, en, xs⟩) 174 = AV := ⟨_, rfl⟩
  have HAV : Hid (asksE (setsB c.nodes ⟨ac, nd, lm, sb, st, sr, en, xs⟩) 174 = AV) := hAV
  rw [hAV]
  clear hAV hI
  obtain ⟨many, hmany⟩ : ∃ many, (if startB st then nd else 0) = many := ⟨_, rfl⟩
  have HMANY : Hid ((if startB st then nd else 0) = many) := hmany
  have HAV2 : Hid (AV = asksE (decide ((xs.length : Int) = many) && riseB c.nodes (-1) xs) 174) := by show AV = _; rw [← HAV.out, ← hmany]; rfl
  clear hmany HAV
  have HL : Hid (xs.length ≤ 140737488355328) := hl
  clear hl
  obtain ⟨W, hW⟩ : ∃ W, (w.alloc (.cells #[.int .i64 ac, .int .i64 nd, .int .i64 lm, .int .i64 sb, .int .i64 st, .int .i64 sr, .int .i64 en, .slice sa xs.length sc] 36)).alloc (.cells #[.int .i64 c.nodes, .int .i64 c.queue, .int .i64 c.limit, .int .i64 c.age, .int .i64 c.fair, .int .i64 c.size, .int .i64 c.period, .int .i64 c.half] 23) = W := ⟨_, rfl⟩
  have HBW : Hid (Below w.heap.size w W) := by rw [← hW]; exact ((Below.refl _ w).alloc (Nat.le_refl _) _).alloc (by simp) _
  have j0 : W.cell? ⟨w.heap.size, 0, none⟩ = some (.int .i64 ac) := by rw [← hW]; simp
  have j1 : W.cell? ⟨w.heap.size, 1, none⟩ = some (.int .i64 nd) := by rw [← hW]; simp
  have j2 : W.cell? ⟨w.heap.size, 2, none⟩ = some (.int .i64 lm) := by rw [← hW]; simp
  have j3 : W.cell? ⟨w.heap.size, 3, none⟩ = some (.int .i64 sb) := by rw [← hW]; simp
  have j4 : W.cell? ⟨w.heap.size, 4, none⟩ = some (.int .i64 st) := by rw [← hW]; simp
  have j5 : W.cell? ⟨w.heap.size, 5, none⟩ = some (.int .i64 sr) := by rw [← hW]; simp
  have j6 : W.cell? ⟨w.heap.size, 6, none⟩ = some (.int .i64 en) := by rw [← hW]; simp
  have j7 : W.cell? ⟨w.heap.size, 7, none⟩ = some (.slice sa xs.length sc) := by rw [← hW]; simp
  have k0 : W.cell? ⟨w.heap.size + 1, 0, none⟩ = some (.int .i64 c.nodes) := by rw [← hW]; simp
  have k1 : W.cell? ⟨w.heap.size + 1, 1, none⟩ = some (.int .i64 c.queue) := by rw [← hW]; simp
  have k2 : W.cell? ⟨w.heap.size + 1, 2, none⟩ = some (.int .i64 c.limit) := by rw [← hW]; simp
  have k3 : W.cell? ⟨w.heap.size + 1, 3, none⟩ = some (.int .i64 c.age) := by rw [← hW]; simp
  have k4 : W.cell? ⟨w.heap.size + 1, 4, none⟩ = some (.int .i64 c.fair) := by rw [← hW]; simp
  have k5 : W.cell? ⟨w.heap.size + 1, 5, none⟩ = some (.int .i64 c.size) := by rw [← hW]; simp
  have k6 : W.cell? ⟨w.heap.size + 1, 6, none⟩ = some (.int .i64 c.period) := by rw [← hW]; simp
  have k7 : W.cell? ⟨w.heap.size + 1, 7, none⟩ = some (.int .i64 c.half) := by rw [← hW]; simp
  go_enter Tryz.func33, Tryz.ntmps33
  go_upto_region 2 with fail
  try rw [hW]
  clear hW
  go_upto_region 2 with fail
  go_cut [6] (fun v x => v = .bool (startB st) ∧ Below W.heap.size W x)
  case first =>
    go_wp2_with (go_at_call 63; refine (cS _).mono ?_; rintro e w1 ⟨rfl, hb⟩)
    go_meet
    exact ⟨rfl, hb⟩
  case rest =>
  obtain ⟨rfl, hx1⟩ := hcut
  have HX1 : Hid (Below W.heap.size W wc) := hx1
  have q1 := cellB hx1 j1
  clear hx1
  obtain ⟨V, hV⟩ : ∃ V : World, V = wc := ⟨_, rfl⟩
  rw [← hV] at HX1 q1
  rw [← hV]
  clear hV
  go_upto_if 6 with fail
  go_cut [4] (fun v x => v = .int .i64 many ∧ V = x)
  case first =>
    cases hs : startB st with
    | true =>
      have HM : Hid (nd = many) := by show nd = many; rw [← HMANY.out, hs]; rfl
      clear hs
      go_wp2
      go_meet
      exact ⟨by rw [HM.out], rfl⟩
    | false =>
      have HM : Hid (0 = many) := by show 0 = many; rw [← HMANY.out, hs]; rfl
      clear hs
      go_wp2
      go_meet
      exact ⟨by rw [HM.out], rfl⟩
  case rest =>
  obtain ⟨rfl, hx⟩ := hcut
  rw [← hx]
  clear hx q1
  replace j0 := cellB HX1.out j0
  replace k0 := cellB HX1.out k0
  replace j1 := cellB HX1.out j1
  replace k1 := cellB HX1.out k1
  replace j2 := cellB HX1.out j2
  replace k2 := cellB HX1.out k2
  replace j3 := cellB HX1.out j3
  replace k3 := cellB HX1.out k3
  replace j4 := cellB HX1.out j4
  replace k4 := cellB HX1.out k4
  replace j5 := cellB HX1.out j5
  replace k5 := cellB HX1.out k5
  replace j6 := cellB HX1.out j6
  replace k6 := cellB HX1.out k6
  replace j7 := cellB HX1.out j7
  replace k7 := cellB HX1.out k7
  go_upto_region 4 with fail
  have HBV : Hid (Below w.heap.size w V) := HBW.out.trans (HX1.out.mono HBW.out.size)
  by_cases hq : (xs.length : Int) = many
  · have e5 : ((xs.length : Int) == many) = true := beq_iff_eq.2 hq
    have HA3 : Hid (AV = asksE (riseB c.nodes (-1) xs) 174) := by show AV = _; rw [HAV2.out, decide_eq_true hq]; rfl
    have HCL : Hid (∀ x mb, Nd.SetIn x mb n (2 ^ n - 1) → Below V.heap.size V x → V.heap.size ≤ mb → Calls Tryz.prog 36 #[.pointer (some ⟨mb, 0, none⟩), .slice sa xs.length sc] x fun e x' => ∃ E : Int, e = .returned (.int .i64 E) ∧ (E = 0 ↔ riseB c.nodes (-1) xs = true) ∧ Below V.heap.size V x') := by
      intro x mb hS hb hm
      refine (claim_ints hS (HI.out.below (HBV.out.trans (hb.mono HBV.out.size))) (fun ad e hp => Nat.lt_of_lt_of_le (HLOW.out ad e hp) (Nat.le_trans HBV.out.size hm)) HL.out).mono ?_
      rintro e w' ⟨rfl, h3, h4⟩
      refine ⟨_, rfl, ?_, hb.trans ⟨h4.os, h4.tape, h4.output, h4.size, fun k hk => h4.block k (Nat.lt_of_lt_of_le hk hb.size) (by omega)⟩⟩
      rw [HN.out]
      constructor
      · intro h
        cases hr : riseB (n : Int) (-1) xs with
        | true => rfl
        | false => exact absurd h (Nd.claim_no (.inl hr))
      · intro h
        exact (Nd.claim_ok h (Nd.full_free h)).1
    clear hq
    cases hr : riseB c.nodes (-1) xs with
    | true =>
      have HAA : Hid (AV = .returned (.tuple #[])) := by show AV = _; rw [HA3.out, hr]; rfl
      rw [hr] at HCL
      clear hr
      refine wp_region_last (S := (fun x' : World => Below V.heap.size V x')) (L := 99) (by kernel_rfl) ?_
      have HSW0 : (fun x' : World => Below V.heap.size V x') (V.drew) := drew_below V
      refine last_takeF (i := 0) (v := ?v0k1) rfl (by kernel_rfl) (by kernel_rfl) (by kernel_rfl) (by kernel_rfl) rfl (fun _ _ _ h => h) (by rfl) HSW0 ?hy0k1 ?rest0k1
      case hy0k1 =>
        intro xx hSx
        have f0 := cellB hSx j0
        have f1 := cellB hSx j1
        have f2 := cellB hSx j2
        have f3 := cellB hSx j3
        have f4 := cellB hSx j4
        have f5 := cellB hSx j5
        have f6 := cellB hSx j6
        have f7 := cellB hSx j7
        have g0 := cellB hSx k0
        have g1 := cellB hSx k1
        have g2 := cellB hSx k2
        have g3 := cellB hSx k3
        have g4 := cellB hSx k4
        have g5 := cellB hSx k5
        have g6 := cellB hSx k6
        have g7 := cellB hSx k7
        go_simp
        try (with_reducible rfl)
      simp only [Act.put, List.setIfInBounds_toArray, List.set_cons_zero, List.set_cons_succ]
      refine last_takeF (i := 1) (v := ?v1k2) rfl (by kernel_rfl) (by kernel_rfl) (by kernel_rfl) (by kernel_rfl) rfl (fun _ _ _ h => h) (by rfl) HSW0 ?hy1k2 ?rest1k2
      case hy1k2 =>
        intro xx hSx
        have f0 := cellB hSx j0
        have f1 := cellB hSx j1
        have f2 := cellB hSx j2
        have f3 := cellB hSx j3
        have f4 := cellB hSx j4
        have f5 := cellB hSx j5
        have f6 := cellB hSx j6
        have f7 := cellB hSx j7
        have g0 := cellB hSx k0
        have g1 := cellB hSx k1
        have g2 := cellB hSx k2
        have g3 := cellB hSx k3
        have g4 := cellB hSx k4
        have g5 := cellB hSx k5
        have g6 := cellB hSx k6
        have g7 := cellB hSx k7
        go_simp
        try (with_reducible rfl)
      simp only [Act.put, List.setIfInBounds_toArray, List.set_cons_zero, List.set_cons_succ]
      refine last_takeF (i := 2) (v := ?v2k3) rfl (by kernel_rfl) (by kernel_rfl) (by kernel_rfl) (by kernel_rfl) rfl (fun _ _ _ h => h) (by rfl) HSW0 ?hy2k3 ?rest2k3
      case hy2k3 =>
        intro xx hSx
        have f0 := cellB hSx j0
        have f1 := cellB hSx j1
        have f2 := cellB hSx j2
        have f3 := cellB hSx j3
        have f4 := cellB hSx j4
        have f5 := cellB hSx j5
        have f6 := cellB hSx j6
        have f7 := cellB hSx j7
        have g0 := cellB hSx k0
        have g1 := cellB hSx k1
        have g2 := cellB hSx k2
        have g3 := cellB hSx k3
        have g4 := cellB hSx k4
        have g5 := cellB hSx k5
        have g6 := cellB hSx k6
        have g7 := cellB hSx k7
        go_simp
        try (with_reducible rfl)
      simp only [Act.put, List.setIfInBounds_toArray, List.set_cons_zero, List.set_cons_succ]
      refine last_takeF (i := 3) (v := ?v3k4) rfl (by kernel_rfl) (by kernel_rfl) (by kernel_rfl) (by kernel_rfl) rfl (fun _ _ _ h => h) (by rfl) HSW0 ?hy3k4 ?rest3k4
      case hy3k4 =>
        intro xx hSx
        have f0 := cellB hSx j0
        have f1 := cellB hSx j1
        have f2 := cellB hSx j2
        have f3 := cellB hSx j3
        have f4 := cellB hSx j4
        have f5 := cellB hSx j5
        have f6 := cellB hSx j6
        have f7 := cellB hSx j7
        have g0 := cellB hSx k0
        have g1 := cellB hSx k1
        have g2 := cellB hSx k2
        have g3 := cellB hSx k3
        have g4 := cellB hSx k4
        have g5 := cellB hSx k5
        have g6 := cellB hSx k6
        have g7 := cellB hSx k7
        go_simp
        try (with_reducible rfl)
      simp only [Act.put, List.setIfInBounds_toArray, List.set_cons_zero, List.set_cons_succ]
      refine last_takeF (i := 4) (v := ?v4k5) rfl (by kernel_rfl) (by kernel_rfl) (by kernel_rfl) (by kernel_rfl) rfl (fun _ _ _ h => h) (by rfl) HSW0 ?hy4k5 ?rest4k5
      case hy4k5 =>
        intro xx hSx
        have f0 := cellB hSx j0
        have f1 := cellB hSx j1
        have f2 := cellB hSx j2
        have f3 := cellB hSx j3
        have f4 := cellB hSx j4
        have f5 := cellB hSx j5
        have f6 := cellB hSx j6
        have f7 := cellB hSx j7
        have g0 := cellB hSx k0
        have g1 := cellB hSx k1
        have g2 := cellB hSx k2
        have g3 := cellB hSx k3
        have g4 := cellB hSx k4
        have g5 := cellB hSx k5
        have g6 := cellB hSx k6
        have g7 := cellB hSx k7
        go_simp
        try (with_reducible rfl)
      simp only [Act.put, List.setIfInBounds_toArray, List.set_cons_zero, List.set_cons_succ]
      try rw [e5]
      refine last_takeF (i := 5) (v := ?v5k6) rfl (by kernel_rfl) (by kernel_rfl) (by kernel_rfl) (by kernel_rfl) rfl (fun _ _ _ h => h) (by rfl) HSW0 ?hy5k6 ?rest5k6
      case hy5k6 =>
        intro xx hSx
        have f0 := cellB hSx j0
        have f1 := cellB hSx j1
        have f2 := cellB hSx j2
        have f3 := cellB hSx j3
        have f4 := cellB hSx j4
        have f5 := cellB hSx j5
        have f6 := cellB hSx j6
        have f7 := cellB hSx j7
        have g0 := cellB hSx k0
        have g1 := cellB hSx k1
        have g2 := cellB hSx k2
        have g3 := cellB hSx k3
        have g4 := cellB hSx k4
        have g5 := cellB hSx k5
        have g6 := cellB hSx k6
        have g7 := cellB hSx k7
        go_simp
        try (with_reducible rfl)
      simp only [Act.put, List.setIfInBounds_toArray, List.set_cons_zero, List.set_cons_succ]
      refine last_takeF (i := 6) (v := ?v6k7) rfl (by kernel_rfl) (by kernel_rfl) (by kernel_rfl) (by kernel_rfl) rfl (fun _ _ _ h => h) (by rfl) HSW0 ?hy6k7 ?rest6k7
      case hy6k7 =>
        intro xx hSx
        have f0 := cellB hSx j0
        have f1 := cellB hSx j1
        have f2 := cellB hSx j2
        have f3 := cellB hSx j3
        have f4 := cellB hSx j4
        have f5 := cellB hSx j5
        have f6 := cellB hSx j6
        have f7 := cellB hSx j7
        have g0 := cellB hSx k0
        have g1 := cellB hSx k1
        have g2 := cellB hSx k2
        have g3 := cellB hSx k3
        have g4 := cellB hSx k4
        have g5 := cellB hSx k5
        have g6 := cellB hSx k6
        have g7 := cellB hSx k7
        go_simp
        try (with_reducible rfl)
      simp only [Act.put, List.setIfInBounds_toArray, List.set_cons_zero, List.set_cons_succ]
      refine last_takeF (i := 8) (v := ?v8k8) rfl (by kernel_rfl) (by kernel_rfl) (by kernel_rfl) (by kernel_rfl) rfl (fun _ _ _ h => h) (by rfl) HSW0 ?hy8k8 ?rest8k8
      case hy8k8 =>
        intro xx hSx
        have f0 := cellB hSx j0
        have f1 := cellB hSx j1
        have f2 := cellB hSx j2
        have f3 := cellB hSx j3
        have f4 := cellB hSx j4
        have f5 := cellB hSx j5
        have f6 := cellB hSx j6
        have f7 := cellB hSx j7
        have g0 := cellB hSx k0
        have g1 := cellB hSx k1
        have g2 := cellB hSx k2
        have g3 := cellB hSx k3
        have g4 := cellB hSx k4
        have g5 := cellB hSx k5
        have g6 := cellB hSx k6
        have g7 := cellB hSx k7
        go_simp
        try (with_reducible rfl)
      simp only [Act.put, List.setIfInBounds_toArray, List.set_cons_zero, List.set_cons_succ]
      refine last_takeF (i := 9) (v := ?v9k9) rfl (by kernel_rfl) (by kernel_rfl) (by kernel_rfl) (by kernel_rfl) rfl (fun _ _ _ h => h) (by rfl) HSW0 ?hy9k9 ?rest9k9
      case hy9k9 =>
        intro xx hSx
        have f0 := cellB hSx j0
        have f1 := cellB hSx j1
        have f2 := cellB hSx j2
        have f3 := cellB hSx j3
        have f4 := cellB hSx j4
        have f5 := cellB hSx j5
        have f6 := cellB hSx j6
        have f7 := cellB hSx j7
        have g0 := cellB hSx k0
        have g1 := cellB hSx k1
        have g2 := cellB hSx k2
        have g3 := cellB hSx k3
        have g4 := cellB hSx k4
        have g5 := cellB hSx k5
        have g6 := cellB hSx k6
        have g7 := cellB hSx k7
        go_simp
        try (with_reducible rfl)
      simp only [Act.put, List.setIfInBounds_toArray, List.set_cons_zero, List.set_cons_succ]
      refine last_one (i := 7) (by kernel_rfl) rfl ?_
      intro K hK
      go_simp
      go_at_call 34
      refine (cM _).mono ?_
      rintro e Z1 ⟨mb, rfl, hS1, bz1, hm1⟩
      have HSZ1 : (fun x' : World => Below V.heap.size V x') Z1 := HSW0.trans (bz1.mono HSW0.size)
      go_simp
      refine hK.out _ _ (fun _ => HSZ1) (fun _ => ?_)
      clear hK K HSW0
      refine last_one (i := 10) (by kernel_rfl) rfl ?_
      intro K hK
      go_simp
      go_at_call 36
      refine (HCL.out _ _ hS1 HSZ1 (Nat.le_trans (by exact Nat.le_refl _) hm1)).mono ?_
      rintro e Z2 ⟨E, rfl, hE, bz2⟩
      have HSZ2 : (fun x' : World => Below V.heap.size V x') Z2 := bz2
      go_simp
      refine hK.out _ _ (fun _ => HSZ2) (fun _ => ?_)
      clear hK K HSZ1
      have e11 : (E == (0 : Int)) = true := beq_iff_eq.2 (hE.2 rfl)
      refine last_takeF (i := 11) (v := ?v11k10) rfl (by kernel_rfl) (by kernel_rfl) (by kernel_rfl) (by kernel_rfl) rfl (fun _ _ _ h => h) (by rfl) HSZ2 ?hy11k10 ?rest11k10
      case hy11k10 =>
        intro xx hSx
        have f0 := cellB hSx j0
        have f1 := cellB hSx j1
        have f2 := cellB hSx j2
        have f3 := cellB hSx j3
        have f4 := cellB hSx j4
        have f5 := cellB hSx j5
        have f6 := cellB hSx j6
        have f7 := cellB hSx j7
        have g0 := cellB hSx k0
        have g1 := cellB hSx k1
        have g2 := cellB hSx k2
        have g3 := cellB hSx k3
        have g4 := cellB hSx k4
        have g5 := cellB hSx k5
        have g6 := cellB hSx k6
        have g7 := cellB hSx k7
        go_simp
        try (with_reducible rfl)
      simp only [Act.put, List.setIfInBounds_toArray, List.set_cons_zero, List.set_cons_succ]
      try rw [e11]
      refine last_takeF (i := 12) (v := ?v12k11) rfl (by kernel_rfl) (by kernel_rfl) (by kernel_rfl) (by kernel_rfl) rfl (fun _ _ _ h => h) (by rfl) HSZ2 ?hy12k11 ?rest12k11
      case hy12k11 =>
        intro xx hSx
        have f0 := cellB hSx j0
        have f1 := cellB hSx j1
        have f2 := cellB hSx j2
        have f3 := cellB hSx j3
        have f4 := cellB hSx j4
        have f5 := cellB hSx j5
        have f6 := cellB hSx j6
        have f7 := cellB hSx j7
        have g0 := cellB hSx k0
        have g1 := cellB hSx k1
        have g2 := cellB hSx k2
        have g3 := cellB hSx k3
        have g4 := cellB hSx k4
        have g5 := cellB hSx k5
        have g6 := cellB hSx k6
        have g7 := cellB hSx k7
        go_simp
        try (with_reducible rfl)
      simp only [Act.put, List.setIfInBounds_toArray, List.set_cons_zero, List.set_cons_succ]
      refine last_one (i := 13) (by kernel_rfl) rfl ?_
      intro K hK
      go_simp
      go_at_call 27
      refine (cQ _ _ _).mono ?_
      rintro e Z3 ⟨rfl, rfl⟩
      have HSZ3 : (fun x' : World => Below V.heap.size V x') Z3 := HSZ2
      go_simp
      refine hK.out _ _ (fun _ => HSZ3) (fun _ => ?_)
      clear hK K HSZ2
      refine last_done (by kernel_rfl) ?_ _
      go_wp2
      go_end0
      exact ⟨HAA.out.symm, HBV.out.trans (HSZ3.mono HBV.out.size)⟩
    | false =>
      have HAA : Hid (AV = .panicked (thrown 174)) := by show AV = _; rw [HA3.out, hr]; rfl
      rw [hr] at HCL
      clear hr
      refine wp_region_last (S := (fun x' : World => Below V.heap.size V x')) (L := 99) (by kernel_rfl) ?_
      have HSW0 : (fun x' : World => Below V.heap.size V x') (V.drew) := drew_below V
      refine last_takeF (i := 0) (v := ?v0k12) rfl (by kernel_rfl) (by kernel_rfl) (by kernel_rfl) (by kernel_rfl) rfl (fun _ _ _ h => h) (by rfl) HSW0 ?hy0k12 ?rest0k12
      case hy0k12 =>
        intro xx hSx
        have f0 := cellB hSx j0
        have f1 := cellB hSx j1
        have f2 := cellB hSx j2
        have f3 := cellB hSx j3
        have f4 := cellB hSx j4
        have f5 := cellB hSx j5
        have f6 := cellB hSx j6
        have f7 := cellB hSx j7
        have g0 := cellB hSx k0
        have g1 := cellB hSx k1
        have g2 := cellB hSx k2
        have g3 := cellB hSx k3
        have g4 := cellB hSx k4
        have g5 := cellB hSx k5
        have g6 := cellB hSx k6
        have g7 := cellB hSx k7
        go_simp
        try (with_reducible rfl)
      simp only [Act.put, List.setIfInBounds_toArray, List.set_cons_zero, List.set_cons_succ]
      refine last_takeF (i := 1) (v := ?v1k13) rfl (by kernel_rfl) (by kernel_rfl) (by kernel_rfl) (by kernel_rfl) rfl (fun _ _ _ h => h) (by rfl) HSW0 ?hy1k13 ?rest1k13
      case hy1k13 =>
        intro xx hSx
        have f0 := cellB hSx j0
        have f1 := cellB hSx j1
        have f2 := cellB hSx j2
        have f3 := cellB hSx j3
        have f4 := cellB hSx j4
        have f5 := cellB hSx j5
        have f6 := cellB hSx j6
        have f7 := cellB hSx j7
        have g0 := cellB hSx k0
        have g1 := cellB hSx k1
        have g2 := cellB hSx k2
        have g3 := cellB hSx k3
        have g4 := cellB hSx k4
        have g5 := cellB hSx k5
        have g6 := cellB hSx k6
        have g7 := cellB hSx k7
        go_simp
        try (with_reducible rfl)
      simp only [Act.put, List.setIfInBounds_toArray, List.set_cons_zero, List.set_cons_succ]
      refine last_takeF (i := 2) (v := ?v2k14) rfl (by kernel_rfl) (by kernel_rfl) (by kernel_rfl) (by kernel_rfl) rfl (fun _ _ _ h => h) (by rfl) HSW0 ?hy2k14 ?rest2k14
      case hy2k14 =>
        intro xx hSx
        have f0 := cellB hSx j0
        have f1 := cellB hSx j1
        have f2 := cellB hSx j2
        have f3 := cellB hSx j3
        have f4 := cellB hSx j4
        have f5 := cellB hSx j5
        have f6 := cellB hSx j6
        have f7 := cellB hSx j7
        have g0 := cellB hSx k0
        have g1 := cellB hSx k1
        have g2 := cellB hSx k2
        have g3 := cellB hSx k3
        have g4 := cellB hSx k4
        have g5 := cellB hSx k5
        have g6 := cellB hSx k6
        have g7 := cellB hSx k7
        go_simp
        try (with_reducible rfl)
      simp only [Act.put, List.setIfInBounds_toArray, List.set_cons_zero, List.set_cons_succ]
      refine last_takeF (i := 3) (v := ?v3k15) rfl (by kernel_rfl) (by kernel_rfl) (by kernel_rfl) (by kernel_rfl) rfl (fun _ _ _ h => h) (by rfl) HSW0 ?hy3k15 ?rest3k15
      case hy3k15 =>
        intro xx hSx
        have f0 := cellB hSx j0
        have f1 := cellB hSx j1
        have f2 := cellB hSx j2
        have f3 := cellB hSx j3
        have f4 := cellB hSx j4
        have f5 := cellB hSx j5
        have f6 := cellB hSx j6
        have f7 := cellB hSx j7
        have g0 := cellB hSx k0
        have g1 := cellB hSx k1
        have g2 := cellB hSx k2
        have g3 := cellB hSx k3
        have g4 := cellB hSx k4
        have g5 := cellB hSx k5
        have g6 := cellB hSx k6
        have g7 := cellB hSx k7
        go_simp
        try (with_reducible rfl)
      simp only [Act.put, List.setIfInBounds_toArray, List.set_cons_zero, List.set_cons_succ]
      refine last_takeF (i := 4) (v := ?v4k16) rfl (by kernel_rfl) (by kernel_rfl) (by kernel_rfl) (by kernel_rfl) rfl (fun _ _ _ h => h) (by rfl) HSW0 ?hy4k16 ?rest4k16
      case hy4k16 =>
        intro xx hSx
        have f0 := cellB hSx j0
        have f1 := cellB hSx j1
        have f2 := cellB hSx j2
        have f3 := cellB hSx j3
        have f4 := cellB hSx j4
        have f5 := cellB hSx j5
        have f6 := cellB hSx j6
        have f7 := cellB hSx j7
        have g0 := cellB hSx k0
        have g1 := cellB hSx k1
        have g2 := cellB hSx k2
        have g3 := cellB hSx k3
        have g4 := cellB hSx k4
        have g5 := cellB hSx k5
        have g6 := cellB hSx k6
        have g7 := cellB hSx k7
        go_simp
        try (with_reducible rfl)
      simp only [Act.put, List.setIfInBounds_toArray, List.set_cons_zero, List.set_cons_succ]
      try rw [e5]
      refine last_takeF (i := 5) (v := ?v5k17) rfl (by kernel_rfl) (by kernel_rfl) (by kernel_rfl) (by kernel_rfl) rfl (fun _ _ _ h => h) (by rfl) HSW0 ?hy5k17 ?rest5k17
      case hy5k17 =>
        intro xx hSx
        have f0 := cellB hSx j0
        have f1 := cellB hSx j1
        have f2 := cellB hSx j2
        have f3 := cellB hSx j3
        have f4 := cellB hSx j4
        have f5 := cellB hSx j5
        have f6 := cellB hSx j6
        have f7 := cellB hSx j7
        have g0 := cellB hSx k0
        have g1 := cellB hSx k1
        have g2 := cellB hSx k2
        have g3 := cellB hSx k3
        have g4 := cellB hSx k4
        have g5 := cellB hSx k5
        have g6 := cellB hSx k6
        have g7 := cellB hSx k7
        go_simp
        try (with_reducible rfl)
      simp only [Act.put, List.setIfInBounds_toArray, List.set_cons_zero, List.set_cons_succ]
      refine last_takeF (i := 6) (v := ?v6k18) rfl (by kernel_rfl) (by kernel_rfl) (by kernel_rfl) (by kernel_rfl) rfl (fun _ _ _ h => h) (by rfl) HSW0 ?hy6k18 ?rest6k18
      case hy6k18 =>
        intro xx hSx
        have f0 := cellB hSx j0
        have f1 := cellB hSx j1
        have f2 := cellB hSx j2
        have f3 := cellB hSx j3
        have f4 := cellB hSx j4
        have f5 := cellB hSx j5
        have f6 := cellB hSx j6
        have f7 := cellB hSx j7
        have g0 := cellB hSx k0
        have g1 := cellB hSx k1
        have g2 := cellB hSx k2
        have g3 := cellB hSx k3
        have g4 := cellB hSx k4
        have g5 := cellB hSx k5
        have g6 := cellB hSx k6
        have g7 := cellB hSx k7
        go_simp
        try (with_reducible rfl)
      simp only [Act.put, List.setIfInBounds_toArray, List.set_cons_zero, List.set_cons_succ]
      refine last_takeF (i := 8) (v := ?v8k19) rfl (by kernel_rfl) (by kernel_rfl) (by kernel_rfl) (by kernel_rfl) rfl (fun _ _ _ h => h) (by rfl) HSW0 ?hy8k19 ?rest8k19
      case hy8k19 =>
        intro xx hSx
        have f0 := cellB hSx j0
        have f1 := cellB hSx j1
        have f2 := cellB hSx j2
        have f3 := cellB hSx j3
        have f4 := cellB hSx j4
        have f5 := cellB hSx j5
        have f6 := cellB hSx j6
        have f7 := cellB hSx j7
        have g0 := cellB hSx k0
        have g1 := cellB hSx k1
        have g2 := cellB hSx k2
        have g3 := cellB hSx k3
        have g4 := cellB hSx k4
        have g5 := cellB hSx k5
        have g6 := cellB hSx k6
        have g7 := cellB hSx k7
        go_simp
        try (with_reducible rfl)
      simp only [Act.put, List.setIfInBounds_toArray, List.set_cons_zero, List.set_cons_succ]
      refine last_takeF (i := 9) (v := ?v9k20) rfl (by kernel_rfl) (by kernel_rfl) (by kernel_rfl) (by kernel_rfl) rfl (fun _ _ _ h => h) (by rfl) HSW0 ?hy9k20 ?rest9k20
      case hy9k20 =>
        intro xx hSx
        have f0 := cellB hSx j0
        have f1 := cellB hSx j1
        have f2 := cellB hSx j2
        have f3 := cellB hSx j3
        have f4 := cellB hSx j4
        have f5 := cellB hSx j5
        have f6 := cellB hSx j6
        have f7 := cellB hSx j7
        have g0 := cellB hSx k0
        have g1 := cellB hSx k1
        have g2 := cellB hSx k2
        have g3 := cellB hSx k3
        have g4 := cellB hSx k4
        have g5 := cellB hSx k5
        have g6 := cellB hSx k6
        have g7 := cellB hSx k7
        go_simp
        try (with_reducible rfl)
      simp only [Act.put, List.setIfInBounds_toArray, List.set_cons_zero, List.set_cons_succ]
      refine last_one (i := 7) (by kernel_rfl) rfl ?_
      intro K hK
      go_simp
      go_at_call 34
      refine (cM _).mono ?_
      rintro e Z1 ⟨mb, rfl, hS1, bz1, hm1⟩
      have HSZ1 : (fun x' : World => Below V.heap.size V x') Z1 := HSW0.trans (bz1.mono HSW0.size)
      go_simp
      refine hK.out _ _ (fun _ => HSZ1) (fun _ => ?_)
      clear hK K HSW0
      refine last_one (i := 10) (by kernel_rfl) rfl ?_
      intro K hK
      go_simp
      go_at_call 36
      refine (HCL.out _ _ hS1 HSZ1 (Nat.le_trans (by exact Nat.le_refl _) hm1)).mono ?_
      rintro e Z2 ⟨E, rfl, hE, bz2⟩
      have HSZ2 : (fun x' : World => Below V.heap.size V x') Z2 := bz2
      go_simp
      refine hK.out _ _ (fun _ => HSZ2) (fun _ => ?_)
      clear hK K HSZ1
      have e11 : (E == (0 : Int)) = false := beq_eq_false_iff_ne.2 (fun h => by cases hE.1 h)
      refine last_takeF (i := 11) (v := ?v11k21) rfl (by kernel_rfl) (by kernel_rfl) (by kernel_rfl) (by kernel_rfl) rfl (fun _ _ _ h => h) (by rfl) HSZ2 ?hy11k21 ?rest11k21
      case hy11k21 =>
        intro xx hSx
        have f0 := cellB hSx j0
        have f1 := cellB hSx j1
        have f2 := cellB hSx j2
        have f3 := cellB hSx j3
        have f4 := cellB hSx j4
        have f5 := cellB hSx j5
        have f6 := cellB hSx j6
        have f7 := cellB hSx j7
        have g0 := cellB hSx k0
        have g1 := cellB hSx k1
        have g2 := cellB hSx k2
        have g3 := cellB hSx k3
        have g4 := cellB hSx k4
        have g5 := cellB hSx k5
        have g6 := cellB hSx k6
        have g7 := cellB hSx k7
        go_simp
        try (with_reducible rfl)
      simp only [Act.put, List.setIfInBounds_toArray, List.set_cons_zero, List.set_cons_succ]
      try rw [e11]
      refine last_takeF (i := 12) (v := ?v12k22) rfl (by kernel_rfl) (by kernel_rfl) (by kernel_rfl) (by kernel_rfl) rfl (fun _ _ _ h => h) (by rfl) HSZ2 ?hy12k22 ?rest12k22
      case hy12k22 =>
        intro xx hSx
        have f0 := cellB hSx j0
        have f1 := cellB hSx j1
        have f2 := cellB hSx j2
        have f3 := cellB hSx j3
        have f4 := cellB hSx j4
        have f5 := cellB hSx j5
        have f6 := cellB hSx j6
        have f7 := cellB hSx j7
        have g0 := cellB hSx k0
        have g1 := cellB hSx k1
        have g2 := cellB hSx k2
        have g3 := cellB hSx k3
        have g4 := cellB hSx k4
        have g5 := cellB hSx k5
        have g6 := cellB hSx k6
        have g7 := cellB hSx k7
        go_simp
        try (with_reducible rfl)
      simp only [Act.put, List.setIfInBounds_toArray, List.set_cons_zero, List.set_cons_succ]
      refine last_one (i := 13) (by kernel_rfl) rfl ?_
      intro K hK
      go_simp
      go_at_call 27
      refine (cQ _ _ _).mono ?_
      rintro e Z3 ⟨rfl, rfl⟩
      go_simp
      exact ⟨rfl, HAA.out.symm, HBV.out.trans (Below.mono HSZ2 HBV.out.size)⟩
  · have e5 : ((xs.length : Int) == many) = false := beq_eq_false_iff_ne.2 hq
    have HAA : Hid (AV = .panicked (thrown 174)) := by show AV = _; rw [HAV2.out, decide_eq_false hq]; rfl
    clear hq
    refine wp_region_last (S := (fun x' : World => Below V.heap.size V x')) (L := 99) (by kernel_rfl) ?_
    have HSW0 : (fun x' : World => Below V.heap.size V x') (V.drew) := drew_below V
    refine last_takeF (i := 0) (v := ?v0k23) rfl (by kernel_rfl) (by kernel_rfl) (by kernel_rfl) (by kernel_rfl) rfl (fun _ _ _ h => h) (by rfl) HSW0 ?hy0k23 ?rest0k23
    case hy0k23 =>
      intro xx hSx
      have f0 := cellB hSx j0
      have f1 := cellB hSx j1
      have f2 := cellB hSx j2
      have f3 := cellB hSx j3
      have f4 := cellB hSx j4
      have f5 := cellB hSx j5
      have f6 := cellB hSx j6
      have f7 := cellB hSx j7
      have g0 := cellB hSx k0
      have g1 := cellB hSx k1
      have g2 := cellB hSx k2
      have g3 := cellB hSx k3
      have g4 := cellB hSx k4
      have g5 := cellB hSx k5
      have g6 := cellB hSx k6
      have g7 := cellB hSx k7
      go_simp
      try (with_reducible rfl)
    simp only [Act.put, List.setIfInBounds_toArray, List.set_cons_zero, List.set_cons_succ]
    refine last_takeF (i := 1) (v := ?v1k24) rfl (by kernel_rfl) (by kernel_rfl) (by kernel_rfl) (by kernel_rfl) rfl (fun _ _ _ h => h) (by rfl) HSW0 ?hy1k24 ?rest1k24
    case hy1k24 =>
      intro xx hSx
      have f0 := cellB hSx j0
      have f1 := cellB hSx j1
      have f2 := cellB hSx j2
      have f3 := cellB hSx j3
      have f4 := cellB hSx j4
      have f5 := cellB hSx j5
      have f6 := cellB hSx j6
      have f7 := cellB hSx j7
      have g0 := cellB hSx k0
      have g1 := cellB hSx k1
      have g2 := cellB hSx k2
      have g3 := cellB hSx k3
      have g4 := cellB hSx k4
      have g5 := cellB hSx k5
      have g6 := cellB hSx k6
      have g7 := cellB hSx k7
      go_simp
      try (with_reducible rfl)
    simp only [Act.put, List.setIfInBounds_toArray, List.set_cons_zero, List.set_cons_succ]
    refine last_takeF (i := 2) (v := ?v2k25) rfl (by kernel_rfl) (by kernel_rfl) (by kernel_rfl) (by kernel_rfl) rfl (fun _ _ _ h => h) (by rfl) HSW0 ?hy2k25 ?rest2k25
    case hy2k25 =>
      intro xx hSx
      have f0 := cellB hSx j0
      have f1 := cellB hSx j1
      have f2 := cellB hSx j2
      have f3 := cellB hSx j3
      have f4 := cellB hSx j4
      have f5 := cellB hSx j5
      have f6 := cellB hSx j6
      have f7 := cellB hSx j7
      have g0 := cellB hSx k0
      have g1 := cellB hSx k1
      have g2 := cellB hSx k2
      have g3 := cellB hSx k3
      have g4 := cellB hSx k4
      have g5 := cellB hSx k5
      have g6 := cellB hSx k6
      have g7 := cellB hSx k7
      go_simp
      try (with_reducible rfl)
    simp only [Act.put, List.setIfInBounds_toArray, List.set_cons_zero, List.set_cons_succ]
    refine last_takeF (i := 3) (v := ?v3k26) rfl (by kernel_rfl) (by kernel_rfl) (by kernel_rfl) (by kernel_rfl) rfl (fun _ _ _ h => h) (by rfl) HSW0 ?hy3k26 ?rest3k26
    case hy3k26 =>
      intro xx hSx
      have f0 := cellB hSx j0
      have f1 := cellB hSx j1
      have f2 := cellB hSx j2
      have f3 := cellB hSx j3
      have f4 := cellB hSx j4
      have f5 := cellB hSx j5
      have f6 := cellB hSx j6
      have f7 := cellB hSx j7
      have g0 := cellB hSx k0
      have g1 := cellB hSx k1
      have g2 := cellB hSx k2
      have g3 := cellB hSx k3
      have g4 := cellB hSx k4
      have g5 := cellB hSx k5
      have g6 := cellB hSx k6
      have g7 := cellB hSx k7
      go_simp
      try (with_reducible rfl)
    simp only [Act.put, List.setIfInBounds_toArray, List.set_cons_zero, List.set_cons_succ]
    refine last_takeF (i := 4) (v := ?v4k27) rfl (by kernel_rfl) (by kernel_rfl) (by kernel_rfl) (by kernel_rfl) rfl (fun _ _ _ h => h) (by rfl) HSW0 ?hy4k27 ?rest4k27
    case hy4k27 =>
      intro xx hSx
      have f0 := cellB hSx j0
      have f1 := cellB hSx j1
      have f2 := cellB hSx j2
      have f3 := cellB hSx j3
      have f4 := cellB hSx j4
      have f5 := cellB hSx j5
      have f6 := cellB hSx j6
      have f7 := cellB hSx j7
      have g0 := cellB hSx k0
      have g1 := cellB hSx k1
      have g2 := cellB hSx k2
      have g3 := cellB hSx k3
      have g4 := cellB hSx k4
      have g5 := cellB hSx k5
      have g6 := cellB hSx k6
      have g7 := cellB hSx k7
      go_simp
      try (with_reducible rfl)
    simp only [Act.put, List.setIfInBounds_toArray, List.set_cons_zero, List.set_cons_succ]
    try rw [e5]
    refine last_takeF (i := 5) (v := ?v5k28) rfl (by kernel_rfl) (by kernel_rfl) (by kernel_rfl) (by kernel_rfl) rfl (fun _ _ _ h => h) (by rfl) HSW0 ?hy5k28 ?rest5k28
    case hy5k28 =>
      intro xx hSx
      have f0 := cellB hSx j0
      have f1 := cellB hSx j1
      have f2 := cellB hSx j2
      have f3 := cellB hSx j3
      have f4 := cellB hSx j4
      have f5 := cellB hSx j5
      have f6 := cellB hSx j6
      have f7 := cellB hSx j7
      have g0 := cellB hSx k0
      have g1 := cellB hSx k1
      have g2 := cellB hSx k2
      have g3 := cellB hSx k3
      have g4 := cellB hSx k4
      have g5 := cellB hSx k5
      have g6 := cellB hSx k6
      have g7 := cellB hSx k7
      go_simp
      try (with_reducible rfl)
    simp only [Act.put, List.setIfInBounds_toArray, List.set_cons_zero, List.set_cons_succ]
    refine last_skipF (i := 6) rfl (by kernel_rfl) (by kernel_rfl) (by kernel_rfl) (by kernel_rfl) rfl (fun _ _ _ h => h) (by rfl) HSW0 ?_
    simp only [Act.put, List.setIfInBounds_toArray, List.set_cons_zero, List.set_cons_succ]
    refine last_skipF (i := 7) rfl (by kernel_rfl) (by kernel_rfl) (by kernel_rfl) (by kernel_rfl) rfl (fun _ _ _ h => h) (by rfl) HSW0 ?_
    simp only [Act.put, List.setIfInBounds_toArray, List.set_cons_zero, List.set_cons_succ]
    refine last_skipF (i := 8) rfl (by kernel_rfl) (by kernel_rfl) (by kernel_rfl) (by kernel_rfl) rfl (fun _ _ _ h => h) (by rfl) HSW0 ?_
    simp only [Act.put, List.setIfInBounds_toArray, List.set_cons_zero, List.set_cons_succ]
    refine last_skipF (i := 9) rfl (by kernel_rfl) (by kernel_rfl) (by kernel_rfl) (by kernel_rfl) rfl (fun _ _ _ h => h) (by rfl) HSW0 ?_
    simp only [Act.put, List.setIfInBounds_toArray, List.set_cons_zero, List.set_cons_succ]
    refine last_skipF (i := 10) rfl (by kernel_rfl) (by kernel_rfl) (by kernel_rfl) (by kernel_rfl) rfl (fun _ _ _ h => h) (by rfl) HSW0 ?_
    simp only [Act.put, List.setIfInBounds_toArray, List.set_cons_zero, List.set_cons_succ]
    refine last_skipF (i := 11) rfl (by kernel_rfl) (by kernel_rfl) (by kernel_rfl) (by kernel_rfl) rfl (fun _ _ _ h => h) (by rfl) HSW0 ?_
    simp only [Act.put, List.setIfInBounds_toArray, List.set_cons_zero, List.set_cons_succ]
    refine last_takeF (i := 12) (v := ?v12k35) rfl (by kernel_rfl) (by kernel_rfl) (by kernel_rfl) (by kernel_rfl) rfl (fun _ _ _ h => h) (by rfl) HSW0 ?hy12k35 ?rest12k35
    case hy12k35 =>
      intro xx hSx
      have f0 := cellB hSx j0
      have f1 := cellB hSx j1
      have f2 := cellB hSx j2
      have f3 := cellB hSx j3
      have f4 := cellB hSx j4
      have f5 := cellB hSx j5
      have f6 := cellB hSx j6
      have f7 := cellB hSx j7
      have g0 := cellB hSx k0
      have g1 := cellB hSx k1
      have g2 := cellB hSx k2
      have g3 := cellB hSx k3
      have g4 := cellB hSx k4
      have g5 := cellB hSx k5
      have g6 := cellB hSx k6
      have g7 := cellB hSx k7
      go_simp
      try (with_reducible rfl)
    simp only [Act.put, List.setIfInBounds_toArray, List.set_cons_zero, List.set_cons_succ]
    refine last_one (i := 13) (by kernel_rfl) rfl ?_
    intro K hK
    go_simp
    go_at_call 27
    refine (cQ _ _ _).mono ?_
    rintro e Z3 ⟨rfl, rfl⟩
    go_simp
    exact ⟨rfl, HAA.out.symm, HBV.out.trans (Below.mono HSW0 HBV.out.size)⟩
end Go.Proofs.YtbcinapnnlfnbaaGreat
