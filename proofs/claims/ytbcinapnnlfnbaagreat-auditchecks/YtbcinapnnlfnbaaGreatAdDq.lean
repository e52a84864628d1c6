/-
  LAYER 17, package audit: needJobs (made by gen17aa.py).
-/
import Derived.Test.YtbcinapnnlfnbaaGreatXsw
import Derived.Test.YtbcinapnnlfnbaaGreatRuFq
import Derived.Test.YtbcinapnnlfnbaaGreatXcq
namespace Go.Proofs.YtbcinapnnlfnbaaGreat
open Go.RowKit Wd Tr Cg Lg

set_option maxHeartbeats 4000000 in
set_option maxRecDepth 20000 in
theorem needJobs_any {w : World} (c : Cf) (hck : chkZ c = 0) (now : Int) (hn0 : 0 ≤ now) (hnow : now ≤ 1099511627776) (ao : Option Addr) (na ca : Nat) (hna : na ≤ 140737488355328) {jo : Option Addr} {ps : List Pj} (cj : Nat) (hd : Int) (hJ : PjsAt w jo ps) (hl : ps.length ≤ 140737488355328) (hsl : ∀ p ∈ ps, p.v.set.length ≤ 140737488355328) :
    Calls Tryz.prog 15 #[.agg (stL c now ao na ca jo ps.length cj hd)] w fun e w' => e = asksE (decide (ps.length ≤ 4096) && jobsB c now na (ps.map Pj.v) ps.length) 174 ∧ Below w.heap.size w w' := by
  obtain ⟨r, hm0, _⟩ := chk_ok hck
  have hbb := bound_box r
  have hlim := r.l1
  obtain ⟨n, hn⟩ : ∃ n : Nat, c.nodes = (n : Int) := ⟨c.nodes.toNat, by have := r.n0; omega⟩
  have HNN : Hid (c.nodes = (n : Int) ∧ 1 ≤ n ∧ n ≤ 256) := ⟨hn, by have := r.n0; omega, by have := r.n1; omega⟩
  clear hn hm0
  have cB := pBound_yes hck
  have cF := from_any
  have cQ := need_any
  obtain ⟨g, o, hg, hrow⟩ := row_at hJ
  have HROW : Hid (∀ x, Below w.heap.size w x → ∀ (k : Nat) (q : Pj), ps[k]? = some q → JbAt x g (o + k * 8) q.jb) := hrow
  have HTM : Hid (∀ x (p : Pj), 0 ≤ p.v.sb → p.v.sb ≤ 1099511627776 → 1 ≤ p.v.lm → p.v.lm ≤ 1048576 → Calls Tryz.prog 32 #[pjV p, .int .i64 now] x fun e w' => e = asksE (timB now p.v) 174 ∧ Below x.heap.size x w') := fun x p h1 h2 h3 h4 => needTimes_any p now h1 h2 hnow h3 h4
  have HST : Hid (∀ x, Below w.heap.size w x → ∀ p ∈ ps, Calls Tryz.prog 33 #[pjV p, cfV c] x fun e w' => e = asksE (setsB c.nodes p.v) 174 ∧ Below x.heap.size x w') := fun x hx p hp => needSet_any c p n HNN.out.1 HNN.out.2.1 HNN.out.2.2 ((hJ.sets p hp).below hx) (hsl p hp)
  have HGET : Hid (∀ k, k < ps.length → ∃ q, ps[k]? = some q) := fun k hk => ⟨_, List.getElem?_eq_getElem hk⟩
  obtain ⟨AV, hAV⟩ : ∃ AV, asksE (decide (ps.length ≤ 4096) && jobsB c now na (ps.map Pj.v) ps.length) 174 = AV := ⟨_, rfl⟩
  have HAV : Hid (asksE (decide (ps.length ≤ 4096) && jobsB c now na (ps.map Pj.v) ps.length) 174 = AV) := hAV
  rw [hAV]
  clear hAV
  have HVM : Hid (∀ (k : Nat) (q : Pj), ps[k]? = some q → (ps.map Pj.v)[k]? = some q.v) := fun k q h => vmap_at h
  obtain ⟨vs, hvs⟩ : ∃ vs, ps.map Pj.v = vs := ⟨_, rfl⟩
  rw [hvs] at HAV HVM
  clear hvs
  obtain ⟨N, hN⟩ : ∃ N, ps.length = N := ⟨_, rfl⟩
  rw [hN] at hl hg HGET HAV ⊢
  have HG : Hid (0 < N → jo = some ⟨g, o, none⟩) := hg
  clear hN hg hrow hJ hsl
  have hbB := hbb.2.2
  obtain ⟨B, hB⟩ : ∃ B, boundZ c = B := ⟨_, rfl⟩
  have HBd : Hid (boundZ c = B) := hB
  rw [hB] at cB hbB
  obtain ⟨hb1, hb2⟩ := hbB
  clear hB hbb hck
  unfold stL
  unfold cfV at cB
  obtain ⟨W, hW⟩ : ∃ W, w.alloc (.cells #[.int .i64 c.nodes, .int .i64 c.queue, .int .i64 c.limit, .int .i64 c.age, .int .i64 c.fair, .int .i64 c.size, .int .i64 c.period, .int .i64 c.half, .int .i64 now, .slice ao na ca, .slice jo N cj, .int .i64 hd] 27) = W := ⟨_, rfl⟩
  have HBW : Hid (Below w.heap.size w W) := by show Below w.heap.size w W; rw [← hW]; exact (Below.refl _ w).alloc (Nat.le_refl _) _
  have k0 : W.cell? ⟨w.heap.size, 0, none⟩ = some (.int .i64 c.nodes) := by rw [← hW]; exact cells_at (heap_alloc_new w _) rfl
  have k1 : W.cell? ⟨w.heap.size, 1, none⟩ = some (.int .i64 c.queue) := by rw [← hW]; exact cells_at (heap_alloc_new w _) rfl
  have k2 : W.cell? ⟨w.heap.size, 2, none⟩ = some (.int .i64 c.limit) := by rw [← hW]; exact cells_at (heap_alloc_new w _) rfl
  have k3 : W.cell? ⟨w.heap.size, 3, none⟩ = some (.int .i64 c.age) := by rw [← hW]; exact cells_at (heap_alloc_new w _) rfl
  have k4 : W.cell? ⟨w.heap.size, 4, none⟩ = some (.int .i64 c.fair) := by rw [← hW]; exact cells_at (heap_alloc_new w _) rfl
  have k5 : W.cell? ⟨w.heap.size, 5, none⟩ = some (.int .i64 c.size) := by rw [← hW]; exact cells_at (heap_alloc_new w _) rfl
  have k6 : W.cell? ⟨w.heap.size, 6, none⟩ = some (.int .i64 c.period) := by rw [← hW]; exact cells_at (heap_alloc_new w _) rfl
  have k7 : W.cell? ⟨w.heap.size, 7, none⟩ = some (.int .i64 c.half) := by rw [← hW]; exact cells_at (heap_alloc_new w _) rfl
  have k8 : W.cell? ⟨w.heap.size, 8, none⟩ = some (.int .i64 now) := by rw [← hW]; exact cells_at (heap_alloc_new w _) rfl
  have k9 : W.cell? ⟨w.heap.size, 9, none⟩ = some (.slice ao na ca) := by rw [← hW]; exact cells_at (heap_alloc_new w _) rfl
  have k10 : W.cell? ⟨w.heap.size, 10, none⟩ = some (.slice jo N cj) := by rw [← hW]; exact cells_at (heap_alloc_new w _) rfl
  have k11 : W.cell? ⟨w.heap.size, 11, none⟩ = some (.int .i64 hd) := by rw [← hW]; exact cells_at (heap_alloc_new w _) rfl
  by_cases h4 : N ≤ 4096
  · have h4' : (N : Int) ≤ 4096 := by omega
    have e4 : decide ((N : Int) ≤ 4096) = true := decide_eq_true h4'
    replace HAV : Hid (asksE (jobsB c now na vs N) 174 = AV) := by show _ = AV; rw [← HAV.out, decide_eq_true h4]; rfl
    go_enter Tryz.func15, Tryz.ntmps15
    go_upto_region 2 with (go_at_call 27; refine (cQ _ _ _).mono ?_; rintro e w1 ⟨rfl, hw1⟩; obtain rfl := hw1.symm; (first | rw [e4] | skip); rw [asksE_yes])
    try rw [hW]
    clear hW e4 h4'
    obtain ⟨last, hlast⟩ : ∃ last, min now (1099511627776 - B) = last := ⟨_, rfl⟩
    have HLAST : Hid (min now (1099511627776 - B) = last) := hlast
    clear hlast
    go_cut [2, 3] (fun v1 v2 x => v1 = .int .i64 0 ∧ v2 = .int .i64 last ∧ Below W.heap.size W x)
    case first =>
      have hwB : IntKind.i64.wrap (1099511627776 - B) = 1099511627776 - B := by rw [IntKind.wrap_i64]; omega
      by_cases hm : 1099511627776 - B < now
      · have HL2 : Hid (1099511627776 - B = last) := by show 1099511627776 - B = last; rw [← HLAST.out]; clear hwB; omega
        refine wp_region_last (S := (fun x' : World => Below W.heap.size W x')) (L := 99) (by kernel_rfl) ?_
        have HSW0 : (fun x' : World => Below W.heap.size W x') (W.drew) := drew_below W
        refine last_takeF (i := 0) (v := ?v0k1) rfl (by kernel_rfl) (by kernel_rfl) (by kernel_rfl) (by kernel_rfl) rfl (fun _ _ _ h => h) (by rfl) HSW0 ?hy0k1 ?rest0k1
        case hy0k1 =>
          intro xx hSx
          have f0 := cellB hSx k0
          have f1 := cellB hSx k1
          have f2 := cellB hSx k2
          have f3 := cellB hSx k3
          have f4 := cellB hSx k4
          have f5 := cellB hSx k5
          have f6 := cellB hSx k6
          have f7 := cellB hSx k7
          have f8 := cellB hSx k8
          go_simp
          try (with_reducible rfl)
        simp only [Act.put, List.setIfInBounds_toArray, List.set_cons_zero, List.set_cons_succ]
        refine last_takeF (i := 1) (v := ?v1k2) rfl (by kernel_rfl) (by kernel_rfl) (by kernel_rfl) (by kernel_rfl) rfl (fun _ _ _ h => h) (by rfl) HSW0 ?hy1k2 ?rest1k2
        case hy1k2 =>
          intro xx hSx
          have f0 := cellB hSx k0
          have f1 := cellB hSx k1
          have f2 := cellB hSx k2
          have f3 := cellB hSx k3
          have f4 := cellB hSx k4
          have f5 := cellB hSx k5
          have f6 := cellB hSx k6
          have f7 := cellB hSx k7
          have f8 := cellB hSx k8
          go_simp
          try (with_reducible rfl)
        simp only [Act.put, List.setIfInBounds_toArray, List.set_cons_zero, List.set_cons_succ]
        refine last_takeF (i := 2) (v := ?v2k3) rfl (by kernel_rfl) (by kernel_rfl) (by kernel_rfl) (by kernel_rfl) rfl (fun _ _ _ h => h) (by rfl) HSW0 ?hy2k3 ?rest2k3
        case hy2k3 =>
          intro xx hSx
          have f0 := cellB hSx k0
          have f1 := cellB hSx k1
          have f2 := cellB hSx k2
          have f3 := cellB hSx k3
          have f4 := cellB hSx k4
          have f5 := cellB hSx k5
          have f6 := cellB hSx k6
          have f7 := cellB hSx k7
          have f8 := cellB hSx k8
          go_simp
          try (with_reducible rfl)
        simp only [Act.put, List.setIfInBounds_toArray, List.set_cons_zero, List.set_cons_succ]
        refine last_takeF (i := 3) (v := ?v3k4) rfl (by kernel_rfl) (by kernel_rfl) (by kernel_rfl) (by kernel_rfl) rfl (fun _ _ _ h => h) (by rfl) HSW0 ?hy3k4 ?rest3k4
        case hy3k4 =>
          intro xx hSx
          have f0 := cellB hSx k0
          have f1 := cellB hSx k1
          have f2 := cellB hSx k2
          have f3 := cellB hSx k3
          have f4 := cellB hSx k4
          have f5 := cellB hSx k5
          have f6 := cellB hSx k6
          have f7 := cellB hSx k7
          have f8 := cellB hSx k8
          go_simp
          try (with_reducible rfl)
        simp only [Act.put, List.setIfInBounds_toArray, List.set_cons_zero, List.set_cons_succ]
        refine last_one (i := 4) (by kernel_rfl) rfl ?_
        intro K hK
        go_simp
        go_at_call 31
        refine (cB _).mono ?_
        rintro e Z1 ⟨rfl, bz1⟩
        have HSZ1 : (fun x' : World => Below W.heap.size W x') Z1 := HSW0.trans (bz1.mono HSW0.size)
        go_simp
        refine hK.out _ _ (fun _ => HSZ1) (fun _ => ?_)
        clear hK K HSW0
        refine last_takeF (i := 5) (v := ?v5k5) rfl (by kernel_rfl) (by kernel_rfl) (by kernel_rfl) (by kernel_rfl) rfl (fun _ _ _ h => h) (by rfl) HSZ1 ?hy5k5 ?rest5k5
        case hy5k5 =>
          intro xx hSx
          have f0 := cellB hSx k0
          have f1 := cellB hSx k1
          have f2 := cellB hSx k2
          have f3 := cellB hSx k3
          have f4 := cellB hSx k4
          have f5 := cellB hSx k5
          have f6 := cellB hSx k6
          have f7 := cellB hSx k7
          have f8 := cellB hSx k8
          go_simp
          try (with_reducible rfl)
        simp only [Act.put, List.setIfInBounds_toArray, List.set_cons_zero, List.set_cons_succ]
        try rw [hwB]
        refine last_takeF (i := 6) (v := ?v6k6) rfl (by kernel_rfl) (by kernel_rfl) (by kernel_rfl) (by kernel_rfl) rfl (fun _ _ _ h => h) (by rfl) HSZ1 ?hy6k6 ?rest6k6
        case hy6k6 =>
          intro xx hSx
          have f0 := cellB hSx k0
          have f1 := cellB hSx k1
          have f2 := cellB hSx k2
          have f3 := cellB hSx k3
          have f4 := cellB hSx k4
          have f5 := cellB hSx k5
          have f6 := cellB hSx k6
          have f7 := cellB hSx k7
          have f8 := cellB hSx k8
          go_simp
          try (with_reducible rfl)
        simp only [Act.put, List.setIfInBounds_toArray, List.set_cons_zero, List.set_cons_succ]
        refine last_takeF (i := 7) (v := ?v7k7) rfl (by kernel_rfl) (by kernel_rfl) (by kernel_rfl) (by kernel_rfl) rfl (fun _ _ _ h => h) (by rfl) HSZ1 ?hy7k7 ?rest7k7
        case hy7k7 =>
          intro xx hSx
          have f0 := cellB hSx k0
          have f1 := cellB hSx k1
          have f2 := cellB hSx k2
          have f3 := cellB hSx k3
          have f4 := cellB hSx k4
          have f5 := cellB hSx k5
          have f6 := cellB hSx k6
          have f7 := cellB hSx k7
          have f8 := cellB hSx k8
          go_simp
          try (with_reducible rfl)
        simp only [Act.put, List.setIfInBounds_toArray, List.set_cons_zero, List.set_cons_succ]
        refine last_takeF (i := 8) (v := ?v8k8) rfl (by kernel_rfl) (by kernel_rfl) (by kernel_rfl) (by kernel_rfl) rfl (fun _ _ _ h => h) (by rfl) HSZ1 ?hy8k8 ?rest8k8
        case hy8k8 =>
          intro xx hSx
          have f0 := cellB hSx k0
          have f1 := cellB hSx k1
          have f2 := cellB hSx k2
          have f3 := cellB hSx k3
          have f4 := cellB hSx k4
          have f5 := cellB hSx k5
          have f6 := cellB hSx k6
          have f7 := cellB hSx k7
          have f8 := cellB hSx k8
          go_simp
          try (with_reducible rfl)
        simp only [Act.put, List.setIfInBounds_toArray, List.set_cons_zero, List.set_cons_succ]
        refine last_done (by kernel_rfl) ?_ _
        have HSX : Hid (Below W.heap.size W Z1) := HSZ1
        clear HSZ1 bz1
        go_wp2
        go_meet
        exact ⟨rfl, by rw [HL2.out], HSX.out⟩
      · have HL2 : Hid (now = last) := by show now = last; rw [← HLAST.out]; clear hwB; omega
        refine wp_region_last (S := (fun x' : World => Below W.heap.size W x')) (L := 99) (by kernel_rfl) ?_
        have HSW0 : (fun x' : World => Below W.heap.size W x') (W.drew) := drew_below W
        refine last_takeF (i := 0) (v := ?v0k9) rfl (by kernel_rfl) (by kernel_rfl) (by kernel_rfl) (by kernel_rfl) rfl (fun _ _ _ h => h) (by rfl) HSW0 ?hy0k9 ?rest0k9
        case hy0k9 =>
          intro xx hSx
          have f0 := cellB hSx k0
          have f1 := cellB hSx k1
          have f2 := cellB hSx k2
          have f3 := cellB hSx k3
          have f4 := cellB hSx k4
          have f5 := cellB hSx k5
          have f6 := cellB hSx k6
          have f7 := cellB hSx k7
          have f8 := cellB hSx k8
          go_simp
          try (with_reducible rfl)
        simp only [Act.put, List.setIfInBounds_toArray, List.set_cons_zero, List.set_cons_succ]
        refine last_takeF (i := 1) (v := ?v1k10) rfl (by kernel_rfl) (by kernel_rfl) (by kernel_rfl) (by kernel_rfl) rfl (fun _ _ _ h => h) (by rfl) HSW0 ?hy1k10 ?rest1k10
        case hy1k10 =>
          intro xx hSx
          have f0 := cellB hSx k0
          have f1 := cellB hSx k1
          have f2 := cellB hSx k2
          have f3 := cellB hSx k3
          have f4 := cellB hSx k4
          have f5 := cellB hSx k5
          have f6 := cellB hSx k6
          have f7 := cellB hSx k7
          have f8 := cellB hSx k8
          go_simp
          try (with_reducible rfl)
        simp only [Act.put, List.setIfInBounds_toArray, List.set_cons_zero, List.set_cons_succ]
        refine last_takeF (i := 2) (v := ?v2k11) rfl (by kernel_rfl) (by kernel_rfl) (by kernel_rfl) (by kernel_rfl) rfl (fun _ _ _ h => h) (by rfl) HSW0 ?hy2k11 ?rest2k11
        case hy2k11 =>
          intro xx hSx
          have f0 := cellB hSx k0
          have f1 := cellB hSx k1
          have f2 := cellB hSx k2
          have f3 := cellB hSx k3
          have f4 := cellB hSx k4
          have f5 := cellB hSx k5
          have f6 := cellB hSx k6
          have f7 := cellB hSx k7
          have f8 := cellB hSx k8
          go_simp
          try (with_reducible rfl)
        simp only [Act.put, List.setIfInBounds_toArray, List.set_cons_zero, List.set_cons_succ]
        refine last_takeF (i := 3) (v := ?v3k12) rfl (by kernel_rfl) (by kernel_rfl) (by kernel_rfl) (by kernel_rfl) rfl (fun _ _ _ h => h) (by rfl) HSW0 ?hy3k12 ?rest3k12
        case hy3k12 =>
          intro xx hSx
          have f0 := cellB hSx k0
          have f1 := cellB hSx k1
          have f2 := cellB hSx k2
          have f3 := cellB hSx k3
          have f4 := cellB hSx k4
          have f5 := cellB hSx k5
          have f6 := cellB hSx k6
          have f7 := cellB hSx k7
          have f8 := cellB hSx k8
          go_simp
          try (with_reducible rfl)
        simp only [Act.put, List.setIfInBounds_toArray, List.set_cons_zero, List.set_cons_succ]
        refine last_one (i := 4) (by kernel_rfl) rfl ?_
        intro K hK
        go_simp
        go_at_call 31
        refine (cB _).mono ?_
        rintro e Z1 ⟨rfl, bz1⟩
        have HSZ1 : (fun x' : World => Below W.heap.size W x') Z1 := HSW0.trans (bz1.mono HSW0.size)
        go_simp
        refine hK.out _ _ (fun _ => HSZ1) (fun _ => ?_)
        clear hK K HSW0
        refine last_takeF (i := 5) (v := ?v5k13) rfl (by kernel_rfl) (by kernel_rfl) (by kernel_rfl) (by kernel_rfl) rfl (fun _ _ _ h => h) (by rfl) HSZ1 ?hy5k13 ?rest5k13
        case hy5k13 =>
          intro xx hSx
          have f0 := cellB hSx k0
          have f1 := cellB hSx k1
          have f2 := cellB hSx k2
          have f3 := cellB hSx k3
          have f4 := cellB hSx k4
          have f5 := cellB hSx k5
          have f6 := cellB hSx k6
          have f7 := cellB hSx k7
          have f8 := cellB hSx k8
          go_simp
          try (with_reducible rfl)
        simp only [Act.put, List.setIfInBounds_toArray, List.set_cons_zero, List.set_cons_succ]
        try rw [hwB]
        refine last_takeF (i := 6) (v := ?v6k14) rfl (by kernel_rfl) (by kernel_rfl) (by kernel_rfl) (by kernel_rfl) rfl (fun _ _ _ h => h) (by rfl) HSZ1 ?hy6k14 ?rest6k14
        case hy6k14 =>
          intro xx hSx
          have f0 := cellB hSx k0
          have f1 := cellB hSx k1
          have f2 := cellB hSx k2
          have f3 := cellB hSx k3
          have f4 := cellB hSx k4
          have f5 := cellB hSx k5
          have f6 := cellB hSx k6
          have f7 := cellB hSx k7
          have f8 := cellB hSx k8
          go_simp
          try (with_reducible rfl)
        simp only [Act.put, List.setIfInBounds_toArray, List.set_cons_zero, List.set_cons_succ]
        refine last_takeF (i := 7) (v := ?v7k15) rfl (by kernel_rfl) (by kernel_rfl) (by kernel_rfl) (by kernel_rfl) rfl (fun _ _ _ h => h) (by rfl) HSZ1 ?hy7k15 ?rest7k15
        case hy7k15 =>
          intro xx hSx
          have f0 := cellB hSx k0
          have f1 := cellB hSx k1
          have f2 := cellB hSx k2
          have f3 := cellB hSx k3
          have f4 := cellB hSx k4
          have f5 := cellB hSx k5
          have f6 := cellB hSx k6
          have f7 := cellB hSx k7
          have f8 := cellB hSx k8
          go_simp
          try (with_reducible rfl)
        simp only [Act.put, List.setIfInBounds_toArray, List.set_cons_zero, List.set_cons_succ]
        refine last_takeF (i := 8) (v := ?v8k16) rfl (by kernel_rfl) (by kernel_rfl) (by kernel_rfl) (by kernel_rfl) rfl (fun _ _ _ h => h) (by rfl) HSZ1 ?hy8k16 ?rest8k16
        case hy8k16 =>
          intro xx hSx
          have f0 := cellB hSx k0
          have f1 := cellB hSx k1
          have f2 := cellB hSx k2
          have f3 := cellB hSx k3
          have f4 := cellB hSx k4
          have f5 := cellB hSx k5
          have f6 := cellB hSx k6
          have f7 := cellB hSx k7
          have f8 := cellB hSx k8
          go_simp
          try (with_reducible rfl)
        simp only [Act.put, List.setIfInBounds_toArray, List.set_cons_zero, List.set_cons_succ]
        refine last_done (by kernel_rfl) ?_ _
        have HSX : Hid (Below W.heap.size W Z1) := HSZ1
        clear HSZ1 bz1
        go_wp2
        go_meet
        exact ⟨rfl, by rw [HL2.out], HSX.out⟩
    case rest =>
    obtain ⟨rfl, rfl, hx⟩ := hcut
    have HXB : Hid (Below W.heap.size W wc) := hx
    obtain ⟨V, hV⟩ : ∃ V : World, V = wc := ⟨_, rfl⟩
    rw [← hV] at HXB
    rw [← hV]
    clear hV hx
    have p0 := cellB HXB.out k0
    have p1 := cellB HXB.out k1
    have p2 := cellB HXB.out k2
    have p3 := cellB HXB.out k3
    have p4 := cellB HXB.out k4
    have p5 := cellB HXB.out k5
    have p6 := cellB HXB.out k6
    have p7 := cellB HXB.out k7
    have p8 := cellB HXB.out k8
    have p9 := cellB HXB.out k9
    have p10 := cellB HXB.out k10
    have p11 := cellB HXB.out k11
    go_upto_region 3 with fail
    go_wp2
    clear p0 p1 p2 p3 p4 p5 p6 p7 p8 p9 p10 p11
    go_loopg [2, 21] N (fun gk v1 v2 wr => ∃ k : Nat, k + gk = N ∧ v1 = .int .i64 (aheadOf vs k) ∧ v2 = .int .i64 (k : Int) ∧ 0 ≤ aheadOf vs k ∧ jobsB c now na vs k = true ∧ Below W.heap.size W wr)
    case atStart => exact ⟨0, by omega, by rw [ahead_zero], rfl, by rw [ahead_zero]; omega, rfl, HXB.out⟩
    case round =>
      obtain ⟨k, hk, rfl, rfl, hp0, hjb, hbr⟩ := hrel
      have HBR : Hid (Below W.heap.size W wr) := hbr
      have HB2 : Hid (Below w.heap.size w wr) := HBW.out.trans (hbr.mono HBW.out.size)
      have HJB : Hid (jobsB c now na vs k = true ∧ k + gk = N) := ⟨hjb, hk⟩
      clear hbr hjb HXB
      by_cases hlt : k < N
      · have hlt' : (k : Int) < (N : Int) := by omega
        obtain ⟨p, hp⟩ := HGET.out k hlt
        obtain rfl := HG.out (by omega)
        obtain ⟨y0, y1, y2, y3, y4, y5, y6, y7⟩ := HROW.out wr HB2.out k p hp
        have HFL : Hid (jobB c now na (aheadOf vs k) p.v = false → AV = .panicked (thrown 174)) := by
          intro hf
          rw [← HAV.out]
          have : jobsB c now na vs N = false := by
            cases h : jobsB c now na vs N with
            | false => rfl
            | true => have := jobs_iff.1 h k hlt p.v (HVM.out k p hp); rw [hf] at this; cases this
          rw [this]; rfl
        have HTR : Hid (jobB c now na (aheadOf vs k) p.v = true → jobsB c now na vs (k + 1) = true) := by
          intro ht
          rw [jobs_succ (HVM.out k p hp), HJB.out.1, ht]; rfl
        have HAH : Hid (aheadOf vs (k + 1) = p.v.sb) := ahead_succ (HVM.out k p hp)
        have HEQ : Hid (jobB c now na (aheadOf vs k) p.v = (partB c now na (aheadOf vs k) p.v && (timB now p.v && setsB c.nodes p.v))) := job_eq hp0
        have HTM2 : Hid (∀ x, 0 ≤ p.v.sb → p.v.sb ≤ 1099511627776 → 1 ≤ p.v.lm → p.v.lm ≤ 1048576 → Calls Tryz.prog 32 #[pjV p, .int .i64 now] x fun e w' => e = asksE (timB now p.v) 174 ∧ Below x.heap.size x w') := fun x => HTM.out x p
        have HST2 : Hid (∀ x, Below w.heap.size w x → Calls Tryz.prog 33 #[pjV p, cfV c] x fun e w' => e = asksE (setsB c.nodes p.v) 174 ∧ Below x.heap.size x w') := fun x hx => HST.out x hx p (List.mem_of_getElem? hp)
        unfold partB at HEQ
        rw [HBd.out, HLAST.out] at HEQ
        clear hp
        obtain ⟨⟨ac, nd, lm, sb, st, sr, en, xs⟩, sa, sc⟩ := p
        dsimp only [Pj.jb] at y0 y1 y2 y3 y4 y5 y6 y7 HFL HTR HAH HEQ HTM2 HST2
        obtain ⟨TB, hTB⟩ : ∃ TB, timB now ⟨ac, nd, lm, sb, st, sr, en, xs⟩ = TB := ⟨_, rfl⟩
        obtain ⟨SB, hSB⟩ : ∃ SB, setsB c.nodes ⟨ac, nd, lm, sb, st, sr, en, xs⟩ = SB := ⟨_, rfl⟩
        obtain ⟨JBV, hJBV⟩ : ∃ JBV, jobB c now na (aheadOf vs k) ⟨ac, nd, lm, sb, st, sr, en, xs⟩ = JBV := ⟨_, rfl⟩
        rw [hTB] at HTM2 HEQ
        rw [hSB] at HST2 HEQ
        rw [hJBV] at HFL HTR HEQ
        unfold pjV at HTM2 HST2
        unfold cfV at HST2
        dsimp only at HTM2 HST2
        clear hTB hSB hJBV
        obtain ⟨ah, hah⟩ : ∃ ah, aheadOf vs k = ah := ⟨_, rfl⟩
        rw [hah] at HEQ hp0 ⊢
        clear hah
        obtain ⟨X, hX⟩ : ∃ X, wr.alloc (.cells #[.int .i64 ac, .int .i64 nd, .int .i64 lm, .int .i64 sb, .int .i64 st, .int .i64 sr, .int .i64 en, .slice sa xs.length sc] 36) = X := ⟨_, rfl⟩
        have HBX : Hid (Below w.heap.size w X ∧ Below W.heap.size W X) := by
          have h0 : Below wr.heap.size wr X := by rw [← hX]; exact (Below.refl _ wr).alloc (Nat.le_refl _) _
          exact ⟨HB2.out.trans (h0.mono HB2.out.size), HBR.out.trans (h0.mono HBR.out.size)⟩
        have n0 : X.cell? ⟨wr.heap.size, 0, none⟩ = some (.int .i64 ac) := by rw [← hX]; exact cells_at (heap_alloc_new wr _) rfl
        have n1 : X.cell? ⟨wr.heap.size, 1, none⟩ = some (.int .i64 nd) := by rw [← hX]; exact cells_at (heap_alloc_new wr _) rfl
        have n2 : X.cell? ⟨wr.heap.size, 2, none⟩ = some (.int .i64 lm) := by rw [← hX]; exact cells_at (heap_alloc_new wr _) rfl
        have n3 : X.cell? ⟨wr.heap.size, 3, none⟩ = some (.int .i64 sb) := by rw [← hX]; exact cells_at (heap_alloc_new wr _) rfl
        have n4 : X.cell? ⟨wr.heap.size, 4, none⟩ = some (.int .i64 st) := by rw [← hX]; exact cells_at (heap_alloc_new wr _) rfl
        have n5 : X.cell? ⟨wr.heap.size, 5, none⟩ = some (.int .i64 sr) := by rw [← hX]; exact cells_at (heap_alloc_new wr _) rfl
        have n6 : X.cell? ⟨wr.heap.size, 6, none⟩ = some (.int .i64 en) := by rw [← hX]; exact cells_at (heap_alloc_new wr _) rfl
        have n7 : X.cell? ⟨wr.heap.size, 7, none⟩ = some (.slice sa xs.length sc) := by rw [← hX]; exact cells_at (heap_alloc_new wr _) rfl
        have m0 := cellB HBX.out.2 k0
        have m1 := cellB HBX.out.2 k1
        have m2 := cellB HBX.out.2 k2
        have m3 := cellB HBX.out.2 k3
        have m4 := cellB HBX.out.2 k4
        have m5 := cellB HBX.out.2 k5
        have m6 := cellB HBX.out.2 k6
        have m7 := cellB HBX.out.2 k7
        have m8 := cellB HBX.out.2 k8
        have m9 := cellB HBX.out.2 k9
        have m10 := cellB HBX.out.2 k10
        have m11 := cellB HBX.out.2 k11
        have q10 := cellB HBR.out k10
        go_upto_region 6 with fail
        try rw [hX]
        clear hX y0 y1 y2 y3 y4 y5 y6 y7 q10
        have hw1 : wrap64 ((na : Int) - 1) = (na : Int) - 1 := by unfold wrap64; omega
        have HW1 : Hid (wrap64 ((na : Int) - 1) = (na : Int) - 1) := hw1
        clear hw1
        cases a1 : fromB 1 ((na : Int) - 1) ac with
        | false =>
          have HAA : Hid (AV = .panicked (thrown 174)) := HFL.out (by rw [HEQ.out]; simp only [a1]; rfl)
          clear HTR HFL
          go_wp2_with (first | (go_at_call 29; refine (cF _ _ _ _).mono ?_; rintro e w1 ⟨rfl, hw1⟩; obtain rfl := hw1.symm; (first | rw [a1] | (rw [HW1.out, a1]))) | (go_at_call 27; refine (cQ _ _ _).mono ?_; rintro e w1 ⟨rfl, hw1⟩; obtain rfl := hw1.symm; first | rw [asksE_yes] | rw [asksE_no]))
          (try simp only [Exit.inBlock, Exit.then])
          exact ⟨rfl, HAA.out.symm, HBX.out.1⟩
        | true =>
        go_upto_region 7 with (first | (go_at_call 29; refine (cF _ _ _ _).mono ?_; rintro e w1 ⟨rfl, hw1⟩; obtain rfl := hw1.symm; (first | rw [a1] | (rw [HW1.out, a1]))) | (go_at_call 27; refine (cQ _ _ _).mono ?_; rintro e w1 ⟨rfl, hw1⟩; obtain rfl := hw1.symm; first | rw [asksE_yes] | rw [asksE_no]))
        cases a2 : fromB 1 c.nodes nd with
        | false =>
          have HAA : Hid (AV = .panicked (thrown 174)) := HFL.out (by rw [HEQ.out]; simp only [a1, a2]; rfl)
          clear HTR HFL
          go_wp2_with (first | (go_at_call 29; refine (cF _ _ _ _).mono ?_; rintro e w1 ⟨rfl, hw1⟩; obtain rfl := hw1.symm; (first | rw [a2] | (rw [HW1.out, a2]))) | (go_at_call 27; refine (cQ _ _ _).mono ?_; rintro e w1 ⟨rfl, hw1⟩; obtain rfl := hw1.symm; first | rw [asksE_yes] | rw [asksE_no]))
          (try simp only [Exit.inBlock, Exit.then])
          exact ⟨rfl, HAA.out.symm, HBX.out.1⟩
        | true =>
        go_upto_region 8 with (first | (go_at_call 29; refine (cF _ _ _ _).mono ?_; rintro e w1 ⟨rfl, hw1⟩; obtain rfl := hw1.symm; (first | rw [a2] | (rw [HW1.out, a2]))) | (go_at_call 27; refine (cQ _ _ _).mono ?_; rintro e w1 ⟨rfl, hw1⟩; obtain rfl := hw1.symm; first | rw [asksE_yes] | rw [asksE_no]))
        cases a3 : fromB 1 c.limit lm with
        | false =>
          have HAA : Hid (AV = .panicked (thrown 174)) := HFL.out (by rw [HEQ.out]; simp only [a1, a2, a3]; rfl)
          clear HTR HFL
          go_wp2_with (first | (go_at_call 29; refine (cF _ _ _ _).mono ?_; rintro e w1 ⟨rfl, hw1⟩; obtain rfl := hw1.symm; (first | rw [a3] | (rw [HW1.out, a3]))) | (go_at_call 27; refine (cQ _ _ _).mono ?_; rintro e w1 ⟨rfl, hw1⟩; obtain rfl := hw1.symm; first | rw [asksE_yes] | rw [asksE_no]))
          (try simp only [Exit.inBlock, Exit.then])
          exact ⟨rfl, HAA.out.symm, HBX.out.1⟩
        | true =>
        go_upto_region 9 with (first | (go_at_call 29; refine (cF _ _ _ _).mono ?_; rintro e w1 ⟨rfl, hw1⟩; obtain rfl := hw1.symm; (first | rw [a3] | (rw [HW1.out, a3]))) | (go_at_call 27; refine (cQ _ _ _).mono ?_; rintro e w1 ⟨rfl, hw1⟩; obtain rfl := hw1.symm; first | rw [asksE_yes] | rw [asksE_no]))
        cases a4 : fromB ah last sb with
        | false =>
          have HAA : Hid (AV = .panicked (thrown 174)) := HFL.out (by rw [HEQ.out]; simp only [a1, a2, a3, a4]; rfl)
          clear HTR HFL
          go_wp2_with (first | (go_at_call 29; refine (cF _ _ _ _).mono ?_; rintro e w1 ⟨rfl, hw1⟩; obtain rfl := hw1.symm; (first | rw [a4] | (rw [HW1.out, a4]))) | (go_at_call 27; refine (cQ _ _ _).mono ?_; rintro e w1 ⟨rfl, hw1⟩; obtain rfl := hw1.symm; first | rw [asksE_yes] | rw [asksE_no]))
          (try simp only [Exit.inBlock, Exit.then])
          exact ⟨rfl, HAA.out.symm, HBX.out.1⟩
        | true =>
        go_upto_region 10 with (first | (go_at_call 29; refine (cF _ _ _ _).mono ?_; rintro e w1 ⟨rfl, hw1⟩; obtain rfl := hw1.symm; (first | rw [a4] | (rw [HW1.out, a4]))) | (go_at_call 27; refine (cQ _ _ _).mono ?_; rintro e w1 ⟨rfl, hw1⟩; obtain rfl := hw1.symm; first | rw [asksE_yes] | rw [asksE_no]))
        have b3 : 1 ≤ lm ∧ lm ≤ c.limit := by simpa [fromB] using a3
        have b4 : ah ≤ sb ∧ sb ≤ last := by simpa [fromB] using a4
        have HTC := fun x => HTM2.out x (by omega) (by have := HLAST.out; omega) b3.1 (by omega)
        replace HEQ : Hid (JBV = (TB && SB)) := by show JBV = _; rw [HEQ.out]; simp only [a1, a2, a3, a4]; rfl
        have HSB0 : Hid (0 ≤ sb) := by show 0 ≤ sb; omega
        clear a1 a2 a3 a4 b3 b4
        cases TB with
        | false =>
          have HAA : Hid (AV = .panicked (thrown 174)) := HFL.out (by rw [HEQ.out]; rfl)
          rw [asksE_no] at HTC
          go_wp2_with (go_at_call 32; refine (HTC _).mono ?_; rintro e w1 ⟨rfl, hb1⟩)
          (try simp only [Exit.inBlock, Exit.then])
          exact ⟨rfl, HAA.out.symm, HBX.out.1.trans (hb1.mono HBX.out.1.size)⟩
        | true =>
        rw [asksE_yes] at HTC
        go_upto_region 11 with (go_at_call 32; refine (HTC _).mono ?_; rintro e Y1 ⟨rfl, hb1⟩)
        have HBY : Hid (Below w.heap.size w Y1 ∧ Below W.heap.size W Y1) := ⟨HBX.out.1.trans (hb1.mono HBX.out.1.size), HBX.out.2.trans (hb1.mono HBX.out.2.size)⟩
        replace n0 := cellB hb1 n0
        replace n1 := cellB hb1 n1
        replace n2 := cellB hb1 n2
        replace n3 := cellB hb1 n3
        replace n4 := cellB hb1 n4
        replace n5 := cellB hb1 n5
        replace n6 := cellB hb1 n6
        replace n7 := cellB hb1 n7
        replace m0 := cellB hb1 m0
        replace m1 := cellB hb1 m1
        replace m2 := cellB hb1 m2
        replace m3 := cellB hb1 m3
        replace m4 := cellB hb1 m4
        replace m5 := cellB hb1 m5
        replace m6 := cellB hb1 m6
        replace m7 := cellB hb1 m7
        replace m8 := cellB hb1 m8
        replace m9 := cellB hb1 m9
        replace m10 := cellB hb1 m10
        replace m11 := cellB hb1 m11
        clear hb1 HTC HTM2
        have HSC := HST2.out Y1 HBY.out.1
        clear HST2
        cases SB with
        | false =>
          have HAA : Hid (AV = .panicked (thrown 174)) := HFL.out (by rw [HEQ.out]; rfl)
          rw [asksE_no] at HSC
          go_wp2_with (go_at_call 33; refine HSC.mono ?_; rintro e w1 ⟨rfl, hb2⟩)
          (try simp only [Exit.inBlock, Exit.then])
          exact ⟨rfl, HAA.out.symm, HBY.out.1.trans (hb2.mono HBY.out.1.size)⟩
        | true =>
        rw [asksE_yes] at HSC
        have HJ1 : Hid (jobsB c now na vs (k + 1) = true) := HTR.out (by rw [HEQ.out]; rfl)
        go_upto_region 12 with (go_at_call 33; refine HSC.mono ?_; rintro e Y2 ⟨rfl, hb2⟩)
        have HBZ : Hid (Below W.heap.size W Y2) := HBY.out.2.trans (hb2.mono HBY.out.2.size)
        replace n3 := cellB hb2 n3
        clear hb2 HSC
        have HSB : Hid (0 ≤ sb) := by show 0 ≤ sb; have := HSB0.out; exact this
        have HWK : Hid (wrap64 ((k : Int) + 1) = ((k + 1 : Nat) : Int)) := by show wrap64 ((k : Int) + 1) = ((k + 1 : Nat) : Int); unfold wrap64; omega
        go_wp2
        go_roundg (N - (k + 1))
        case measure => have := HJB.out.2; omega
        case rel => exact ⟨k + 1, by omega, by rw [HAH.out], by first | rw [HWK.out] | simp, by rw [HAH.out]; exact HSB.out, HJ1.out, HBZ.out⟩
      · obtain rfl : k = N := by have := HJB.out.2; omega
        have HAA : Hid (AV = .returned (.tuple #[])) := by show AV = _; rw [← HAV.out, HJB.out.1]; rfl
        go_wp2
        go_end0
        exact ⟨HAA.out.symm, HB2.out⟩
  · have h4' : ¬ (N : Int) ≤ 4096 := by omega
    have e4 : decide ((N : Int) ≤ 4096) = false := decide_eq_false h4'
    have HAA : Hid (AV = .panicked (thrown 174)) := by show AV = _; rw [← HAV.out, decide_eq_false h4]; rfl
    go_enter Tryz.func15, Tryz.ntmps15
    go_wp2_with (go_at_call 27; refine (cQ _ _ _).mono ?_; rintro e w1 ⟨rfl, hw1⟩; obtain rfl := hw1.symm; (first | rw [e4] | skip); rw [asksE_no])
    exact ⟨rfl, HAA.out.symm, by first | exact HBW.out | (rw [hW]; exact HBW.out)⟩
end Go.Proofs.YtbcinapnnlfnbaaGreat
