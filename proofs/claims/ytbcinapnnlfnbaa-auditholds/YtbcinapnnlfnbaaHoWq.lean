/-
  AUDITHOLDS walked, over what is asked of audit.Check (made by gen17ff.py).
-/
import Derived.Test.YtbcinapnnlfnbaaHoMq
import Derived.Test.YtbcinapnnlfnbaaXlu
import Derived.Test.YtbcinapnnlfnbaaAuNq
import Derived.Test.YtbcinapnnlfnbaaXcq
import Derived.Test.YtbcinapnnlfnbaaXpg
import Derived.Test.YtbcinapnnlfnbaaRuFq
namespace Go.Proofs.Ytbcinapnnlfnbaa
open Go.RowKit Wd Tr Cg Lg

theorem chg_bel2 {B mb : Nat} {w x : World} (h : Chg (fun i => i = mb) w x) (hB : B ≤ w.heap.size) (hm : B ≤ mb) : Below B w x := ⟨h.os, h.tape, h.output, h.size, fun k hk => h.block k (by omega) (by omega)⟩
set_option maxRecDepth 20000 in
set_option maxHeartbeats 8000000 in
theorem holds_any (hC : AChk) {w : World} (c : Cf) (now : Int) {ao : Option Addr} {la : List Ac} {ca : Nat} {jo : Option Addr} {ps : List Pj} {cj : Nat} (hd : Int) (h : StIn w ao la ca jo ps cj) :
    Calls Try.prog 3 #[.agg (stL c now ao la.length ca jo ps.length cj hd)] w fun e w' => e = .returned (.bool true) ∧ Below w.heap.size w w' := by
  have HHV : Hid (∀ x, Below w.heap.size w x → Calls Try.prog 6 #[.agg (stL c now ao la.length ca jo ps.length cj hd)] x fun e w' => e = .returned (.bool (decide (2147483647 < wtN la ps))) ∧ Below x.heap.size x w') := fun x hx => heavy_any c now hd (h.below hx)
  have HSH := shown_any hC
  have HCK : Hid (wtN la ps ≤ 2147483647 → ∀ x, Below w.heap.size w x → Calls Try.prog 8 #[.agg (stL c now ao la.length ca jo ps.length cj hd)] x fun e w' => e = .returned (.int .i64 (auditV (chkZ c) ⟨c, now, la, ps.map Pj.v, hd⟩)) ∧ Below x.heap.size x w') := fun hw x hx => hC x c now ao la ca jo ps cj hd (h.below hx) hw
  have HLO : Hid (∀ x, Below w.heap.size w x → Calls Try.prog 10 #[.slice ao la.length ca] x fun e w' => ∃ v, e = .returned (.tuple #[.pointer v, .int .i64 (loadE la)]) ∧ Below x.heap.size x w') := fun x hx => (pload_any (h.acs.below hx) h.nm h.l48 h.cap).mono (fun e w' h => by
    by_cases h0 : loadE la = 0
    · obtain ⟨t, e1, _⟩ := h.1 h0
      exact ⟨_, by rw [h0]; exact e1, h.2.2⟩
    · exact ⟨_, h.2.1 h0, h.2.2⟩)
  have HCF : Hid (∀ x, Calls Try.prog 9 #[cfV c] x fun e w' => e = .returned (.int .i64 (chkZ c)) ∧ Below x.heap.size x w') := pcheck_any c
  have HRW0 : Hid (∀ x, Below w.heap.size w x → ∀ (n : Nat), 0 ≤ rawJ n now (ps.map Pj.v) → rawJ n now (ps.map Pj.v) ≤ 1099511627776 → Calls Try.prog 11 #[.slice jo ps.length cj, .slice (some ⟨x.heap.size, 0, none⟩) 1 1, .int .i64 now] (x.alloc (.cells #[.int .i64 (n : Int)] 3)) fun e w' => e = .returned (.int .i64 (rawJ n now (ps.map Pj.v))) ∧ Below x.heap.size x w') := by
    intro x hx n h1 h2
    have hb : Below x.heap.size x (x.alloc (.cells #[.int .i64 (n : Int)] 3)) := (Below.refl _ x).alloc (Nat.le_refl _) _
    have := raw_any (c := cj) (c' := 1) (h.jobs.jobs.below (hx.trans (hb.mono hx.size))) (by rw [List.length_map]; have := h.l80; omega) (ints_one x (n : Int)) (by simp) now
    rw [List.length_map] at this
    unfold rawV at this
    rw [raw_jb, show wrap64 (rawJ (n : Int) now (ps.map Pj.v)) = rawJ (n : Int) now (ps.map Pj.v) by unfold wrap64; omega] at this
    exact this.mono (fun e w' h => ⟨h.1, hb.trans (h.2.mono hb.size)⟩)
  obtain ⟨g, o, hg, hrow⟩ := row_at h.jobs
  have HROW : Hid (∀ x, Below w.heap.size w x → ∀ (k : Nat) (q : Pj), ps[k]? = some q → JbAt x g (o + k * 8) q.jb) := hrow
  have HGET : Hid (∀ k, k < ps.length → ∃ q, ps[k]? = some q ∧ (ps.map Pj.v)[k]? = some q.v) := fun k hk => ⟨_, List.getElem?_eq_getElem hk, vmap_at (List.getElem?_eq_getElem hk)⟩
  have HSE : Hid (∀ x, Below w.heap.size w x → ∀ (k : Nat) (p : Pj), ps[k]? = some p → IntsAt x p.sa p.v.set ∧ p.v.set.length * 8 ≤ 140737488355328) := fun x hx k p hp => ⟨(h.jobs.sets p (List.mem_of_getElem? hp)).below hx, h.sl p (List.mem_of_getElem? hp)⟩
  obtain ⟨g2, o2, hg2, hacs⟩ := h.acs
  have HAC : Hid (∀ x, Below w.heap.size w x → ∀ (k : Nat) (a : Ac), la[k]? = some a → AcAt x g2 (o2 + k * 5) a) := fun x hx k a ha => (hacs k a ha).below hx
  have HGA : Hid (∀ k, k < la.length → ∃ a, la[k]? = some a ∧ Word a.us) := fun k hk => ⟨_, List.getElem?_eq_getElem hk, h.us k _ (List.getElem?_eq_getElem hk)⟩
  have HBL : Hid (la.length * 48 ≤ 140737488355328 ∧ ps.length * 80 ≤ 140737488355328) := ⟨h.l48, h.l80⟩
  have HVL : Hid ((ps.map Pj.v).length = ps.length) := by show (ps.map Pj.v).length = ps.length; simp
  obtain ⟨AV, hAV⟩ : ∃ AV, auditV (chkZ c) ⟨c, now, la, ps.map Pj.v, hd⟩ = AV := ⟨_, rfl⟩
  have HAV : Hid (auditV (chkZ c) ⟨c, now, la, ps.map Pj.v, hd⟩ = AV) := hAV
  rw [hAV] at HCK
  obtain ⟨vs, hvs⟩ : ∃ vs, ps.map Pj.v = vs := ⟨_, rfl⟩
  rw [hvs] at HGET HVL HAV HRW0
  obtain ⟨L, hL⟩ : ∃ L, la.length = L := ⟨_, rfl⟩
  obtain ⟨N, hN⟩ : ∃ N, ps.length = N := ⟨_, rfl⟩
  have HLL : Hid (la.length = L) := hL
  rw [hL] at HHV HCK HLO HGA HBL hg2 ⊢
  rw [hN] at HHV HCK HRW0 HGET HBL HVL hg ⊢
  have HG : Hid (0 < N → jo = some ⟨g, o, none⟩) := hg
  have HG2 : Hid (0 < L → ao = some ⟨g2, o2, none⟩) := hg2
  clear hL hN hvs hAV hg hg2 hrow hacs h
  unfold stL at *
  unfold cfV at HCF
  obtain ⟨W, hW⟩ : ∃ W, w.alloc (.cells #[.int .i64 c.nodes, .int .i64 c.queue, .int .i64 c.limit, .int .i64 c.age, .int .i64 c.fair, .int .i64 c.size, .int .i64 c.period, .int .i64 c.half, .int .i64 now, .slice ao L ca, .slice jo N cj, .int .i64 hd] 27) = W := ⟨_, rfl⟩
  have HBW : Hid (Below w.heap.size w W) := by show Below w.heap.size w W; rw [← hW]; exact (Below.refl _ w).alloc (Nat.le_refl _) _
  have c0 : W.cell? ⟨w.heap.size, 0, none⟩ = some (.int .i64 c.nodes) := by rw [← hW]; exact cells_at (heap_alloc_new w _) rfl
  have c1 : W.cell? ⟨w.heap.size, 1, none⟩ = some (.int .i64 c.queue) := by rw [← hW]; exact cells_at (heap_alloc_new w _) rfl
  have c2 : W.cell? ⟨w.heap.size, 2, none⟩ = some (.int .i64 c.limit) := by rw [← hW]; exact cells_at (heap_alloc_new w _) rfl
  have c3 : W.cell? ⟨w.heap.size, 3, none⟩ = some (.int .i64 c.age) := by rw [← hW]; exact cells_at (heap_alloc_new w _) rfl
  have c4 : W.cell? ⟨w.heap.size, 4, none⟩ = some (.int .i64 c.fair) := by rw [← hW]; exact cells_at (heap_alloc_new w _) rfl
  have c5 : W.cell? ⟨w.heap.size, 5, none⟩ = some (.int .i64 c.size) := by rw [← hW]; exact cells_at (heap_alloc_new w _) rfl
  have c6 : W.cell? ⟨w.heap.size, 6, none⟩ = some (.int .i64 c.period) := by rw [← hW]; exact cells_at (heap_alloc_new w _) rfl
  have c7 : W.cell? ⟨w.heap.size, 7, none⟩ = some (.int .i64 c.half) := by rw [← hW]; exact cells_at (heap_alloc_new w _) rfl
  have c8 : W.cell? ⟨w.heap.size, 8, none⟩ = some (.int .i64 now) := by rw [← hW]; exact cells_at (heap_alloc_new w _) rfl
  have c9 : W.cell? ⟨w.heap.size, 9, none⟩ = some (.slice ao L ca) := by rw [← hW]; exact cells_at (heap_alloc_new w _) rfl
  have c10 : W.cell? ⟨w.heap.size, 10, none⟩ = some (.slice jo N cj) := by rw [← hW]; exact cells_at (heap_alloc_new w _) rfl
  have c11 : W.cell? ⟨w.heap.size, 11, none⟩ = some (.int .i64 hd) := by rw [← hW]; exact cells_at (heap_alloc_new w _) rfl
  have HK : Hid (W.cell? ⟨w.heap.size, 0, none⟩ = some (.int .i64 c.nodes) ∧ W.cell? ⟨w.heap.size, 1, none⟩ = some (.int .i64 c.queue) ∧ W.cell? ⟨w.heap.size, 2, none⟩ = some (.int .i64 c.limit) ∧ W.cell? ⟨w.heap.size, 3, none⟩ = some (.int .i64 c.age) ∧ W.cell? ⟨w.heap.size, 4, none⟩ = some (.int .i64 c.fair) ∧ W.cell? ⟨w.heap.size, 5, none⟩ = some (.int .i64 c.size) ∧ W.cell? ⟨w.heap.size, 6, none⟩ = some (.int .i64 c.period) ∧ W.cell? ⟨w.heap.size, 7, none⟩ = some (.int .i64 c.half) ∧ W.cell? ⟨w.heap.size, 8, none⟩ = some (.int .i64 now) ∧ W.cell? ⟨w.heap.size, 9, none⟩ = some (.slice ao L ca) ∧ W.cell? ⟨w.heap.size, 10, none⟩ = some (.slice jo N cj) ∧ W.cell? ⟨w.heap.size, 11, none⟩ = some (.int .i64 hd)) := ⟨c0, c1, c2, c3, c4, c5, c6, c7, c8, c9, c10, c11⟩
  have cH := HHV.out W HBW.out
  clear HHV
  go_enter Try.func3, Try.ntmps3
  go_wp2_with fail
  refine cH.mono ?_
  rintro e x1 ⟨rfl, b1⟩
  have HB1 : Hid (Below W.heap.size W x1) := b1
  clear b1 hW cH c0 c1 c2 c3 c4 c5 c6 c7 c8 c9 c10 c11
  by_cases hhv : 2147483647 < wtN la ps
  · rw [decide_eq_true hhv]
    clear hhv
    go_wp2
    go_ret
    exact ⟨rfl, HBW.out.trans (HB1.out.mono HBW.out.size)⟩
  rw [decide_eq_false hhv]
  have HWT : Hid (wtN la ps ≤ 2147483647) := (Nat.not_lt.1 hhv)
  clear hhv
  go_wp2_with fail
  refine (HSH _).mono ?_
  rintro e x2 ⟨rfl, b2⟩
  have HB2 : Hid (Below W.heap.size W x2) := HB1.out.trans (b2.mono HB1.out.size)
  clear b2 HB1 HSH
  obtain ⟨k0, k1, k2, k3, k4, k5, k6, k7, k8, k9, k10, k11⟩ := HK.out
  have m0 := cellB HB2.out k0
  have m1 := cellB HB2.out k1
  have m2 := cellB HB2.out k2
  have m3 := cellB HB2.out k3
  have m4 := cellB HB2.out k4
  have m5 := cellB HB2.out k5
  have m6 := cellB HB2.out k6
  have m7 := cellB HB2.out k7
  have m8 := cellB HB2.out k8
  have m9 := cellB HB2.out k9
  have m10 := cellB HB2.out k10
  have m11 := cellB HB2.out k11
  clear k0 k1 k2 k3 k4 k5 k6 k7 k8 k9 k10 k11
  have cC := HCK.out HWT.out x2 (HBW.out.trans (HB2.out.mono HBW.out.size))
  clear HCK
  go_wp2_with fail
  refine cC.mono ?_
  rintro e x3 ⟨rfl, b3⟩
  have HB3 : Hid (Below W.heap.size W x3) := HB2.out.trans (b3.mono HB2.out.size)
  clear b3 cC HB2 m0 m1 m2 m3 m4 m5 m6 m7 m8 m9 m10 m11
  by_cases hz : ¬ (AV = 0)
  · have hz' : (AV != 0) = true := by simpa using hz
    clear hz
    go_wp2
    go_ret
    exact ⟨rfl, HBW.out.trans (HB3.out.mono HBW.out.size)⟩
  replace hz := Decidable.not_not.1 hz
  subst hz
  obtain ⟨hck, hok⟩ := aud_ok.1 HAV.out
  obtain ⟨r, _, _⟩ := chk_ok hck
  have hn0 : 0 ≤ now := hok.n0
  have hn1 : now ≤ 1099511627776 := hok.n1
  have hmany : N ≤ 4096 := by have := hok.many; dsimp only at this; rw [HVL.out] at this; exact this
  have hmanyI : (N : Int) ≤ 4096 := by omega
  have hlim : c.limit ≤ 1048576 := r.l1
  have HJV : Hid (jobsB c now L vs vs.length = true) := by have := hok.jobs; dsimp only at this; rw [HLL.out] at this; exact this
  have HAP : Hid (apartB vs vs.length = true) := hok.apart
  have HUS : Hid (∀ (k : Nat) (a : Ac), la[k]? = some a → a.us ≤ rawJ (k : Int) now vs * 4294967296) := fun k a ha => by
    have := usages_iff.1 hok.usage k (List.getElem?_eq_some_iff.1 ha).1 a ha
    exact of_decide_eq_true this
  have HQU : Hid ((pendN vs : Int) ≤ c.queue) := hok.queue
  have HHO : Hid (holdB ⟨c, now, la, vs, hd⟩ = true) := hok.hold
  have HRB : Hid (∀ n : Nat, 0 ≤ rawJ (n : Int) now vs ∧ rawJ (n : Int) now vs ≤ 1099511627776) := fun n => by
    have hb := raw_box r (js := vs) HJV.out (n : Int)
    rw [HVL.out] at hb
    omega
  obtain ⟨n, hn⟩ : ∃ n : Nat, c.nodes = (n : Int) := ⟨c.nodes.toNat, by have := r.n0; omega⟩
  have HNN : Hid (c.nodes = (n : Int) ∧ n ≤ 256) := ⟨hn, by have := r.n1; omega⟩
  have HLD : Hid (loadE la = 0) := hok.load
  have HCK0 : Hid (chkZ c = 0) := hck
  clear hn hok r hck HAV
  obtain ⟨k0, k1, k2, k3, k4, k5, k6, k7, k8, k9, k10, k11⟩ := HK.out
  have m0 := cellB HB3.out k0
  have m1 := cellB HB3.out k1
  have m2 := cellB HB3.out k2
  have m3 := cellB HB3.out k3
  have m4 := cellB HB3.out k4
  have m5 := cellB HB3.out k5
  have m6 := cellB HB3.out k6
  have m7 := cellB HB3.out k7
  have m8 := cellB HB3.out k8
  have m9 := cellB HB3.out k9
  have m10 := cellB HB3.out k10
  have m11 := cellB HB3.out k11
  clear k0 k1 k2 k3 k4 k5 k6 k7 k8 k9 k10 k11
  have cF := HCF.out
  rw [HCK0.out] at cF
  go_upto_region 9 with (go_at_call 9; refine (cF _).mono ?_; rintro e x4 ⟨rfl, b4⟩; have m1' := cellB b4 m1; have m8' := cellB b4 m8; have m10' := cellB b4 m10)
  have HB4 : Hid (Below W.heap.size W x4) := HB3.out.trans (b4.mono HB3.out.size)
  clear b4 cF m1' m8' m10' m0 m1 m2 m3 m4 m5 m6 m7 m8 m9 m10 m11 HB3
  obtain ⟨k0, k1, k2, k3, k4, k5, k6, k7, k8, k9, k10, k11⟩ := HK.out
  have m0 := cellB HB4.out k0
  have m1 := cellB HB4.out k1
  have m2 := cellB HB4.out k2
  have m3 := cellB HB4.out k3
  have m4 := cellB HB4.out k4
  have m5 := cellB HB4.out k5
  have m6 := cellB HB4.out k6
  have m7 := cellB HB4.out k7
  have m8 := cellB HB4.out k8
  have m9 := cellB HB4.out k9
  have m10 := cellB HB4.out k10
  have m11 := cellB HB4.out k11
  clear k0 k1 k2 k3 k4 k5 k6 k7 k8 k9 k10 k11
  have cL := HLO.out x4 (HBW.out.trans (HB4.out.mono HBW.out.size))
  rw [HLD.out] at cL
  go_upto_region 12 with (go_at_call 10; refine cL.mono ?_; rintro e x5 ⟨v, rfl, b5⟩)
  have HB5 : Hid (Below W.heap.size W x5) := HB4.out.trans (b5.mono HB4.out.size)
  clear b5 cL m0 m1 m2 m3 m4 m5 m6 m7 m8 m9 m10 m11 HB4
  obtain ⟨k0, k1, k2, k3, k4, k5, k6, k7, k8, k9, k10, k11⟩ := HK.out
  have m0 := cellB HB5.out k0
  have m1 := cellB HB5.out k1
  have m2 := cellB HB5.out k2
  have m3 := cellB HB5.out k3
  have m4 := cellB HB5.out k4
  have m5 := cellB HB5.out k5
  have m6 := cellB HB5.out k6
  have m7 := cellB HB5.out k7
  have m8 := cellB HB5.out k8
  have m9 := cellB HB5.out k9
  have m10 := cellB HB5.out k10
  have m11 := cellB HB5.out k11
  clear k0 k1 k2 k3 k4 k5 k6 k7 k8 k9 k10 k11
  rw [HNN.out.1] at m0
  obtain ⟨x6, hmk, hro, hb6⟩ := make_own x5 HNN.out.2
  have HR6 : Hid (RwO x6 x5.heap.size (List.replicate n 0) ∧ Below w.heap.size w x6 ∧ w.heap.size ≤ x5.heap.size ∧ w.heap.size < x5.heap.size) := ⟨hro, (HBW.out.trans (HB5.out.mono HBW.out.size)).trans (hb6.mono (HBW.out.trans (HB5.out.mono HBW.out.size)).size), (HBW.out.trans (HB5.out.mono HBW.out.size)).size, World.block_lt_of_cell? x5 ⟨w.heap.size, 0, none⟩ m0⟩
  have HM6 : Hid (∀ x, Chg (fun i => i = x5.heap.size) x6 x → x.cell? ⟨w.heap.size, 0, none⟩ = some (.int .i64 (n : Int)) ∧ x.cell? ⟨w.heap.size, 1, none⟩ = some (.int .i64 c.queue) ∧ x.cell? ⟨w.heap.size, 2, none⟩ = some (.int .i64 c.limit) ∧ x.cell? ⟨w.heap.size, 3, none⟩ = some (.int .i64 c.age) ∧ x.cell? ⟨w.heap.size, 4, none⟩ = some (.int .i64 c.fair) ∧ x.cell? ⟨w.heap.size, 5, none⟩ = some (.int .i64 c.size) ∧ x.cell? ⟨w.heap.size, 6, none⟩ = some (.int .i64 c.period) ∧ x.cell? ⟨w.heap.size, 7, none⟩ = some (.int .i64 c.half) ∧ x.cell? ⟨w.heap.size, 8, none⟩ = some (.int .i64 now) ∧ x.cell? ⟨w.heap.size, 9, none⟩ = some (.slice ao L ca) ∧ x.cell? ⟨w.heap.size, 10, none⟩ = some (.slice jo N cj) ∧ x.cell? ⟨w.heap.size, 11, none⟩ = some (.int .i64 hd)) := by
    intro x hx
    have hne : w.heap.size ≠ x5.heap.size := Nat.ne_of_lt HR6.out.2.2.2
    exact ⟨hx.cell (cellB hb6 m0) hne, hx.cell (cellB hb6 m1) hne, hx.cell (cellB hb6 m2) hne, hx.cell (cellB hb6 m3) hne, hx.cell (cellB hb6 m4) hne, hx.cell (cellB hb6 m5) hne, hx.cell (cellB hb6 m6) hne, hx.cell (cellB hb6 m7) hne, hx.cell (cellB hb6 m8) hne, hx.cell (cellB hb6 m9) hne, hx.cell (cellB hb6 m10) hne, hx.cell (cellB hb6 m11) hne⟩
  replace m10 := m10
  have m10' := cellB hb6 m10
  clear hro hb6
  go_upto_region 14 with fail
  clear hmk
  obtain ⟨V, hV⟩ : ∃ V : World, V = x6 := ⟨_, rfl⟩
  rw [← hV] at HR6 HM6 m10'
  rw [← hV]
  clear hV
  go_wp2
  clear m0 m1 m2 m3 m4 m5 m6 m7 m8 m9 m10 m11 m10'
  obtain ⟨ob, hob⟩ : ∃ ob, x5.heap.size = ob := ⟨_, rfl⟩
  rw [hob] at HR6 HM6 ⊢
  clear hob HB5
  go_loopg [6, 56] N (fun gk z6 z56 wr => ∃ (k : Nat) (O : List Int), k + gk = N ∧ z6 = .int .i64 (pendN (vs.take k) : Int) ∧ z56 = .int .i64 (k : Int) ∧ O.length = n ∧ RwO wr ob O ∧ Own0 vs k [] O ∧ Chg (fun i => i = ob) V wr)
  case atStart => exact ⟨0, _, by omega, rfl, rfl, List.length_replicate, HR6.out.1, Own0.start vs n, Chg.refl _ _⟩
  case round =>
    obtain ⟨k, O, hk, rfl, rfl, hOl, hro, hown, hchg⟩ := hrel
    have HK1 : Hid (k + gk = N) := hk
    have HO : Hid (O.length = n ∧ RwO wr ob O ∧ Own0 vs k [] O ∧ Chg (fun i => i = ob) V wr) := ⟨hOl, hro, hown, hchg⟩
    have HBR : Hid (Below w.heap.size w wr) := HR6.out.2.1.trans (chg_bel2 hchg HR6.out.2.1.size HR6.out.2.2.1)
    have hpl : pendN (vs.take k) ≤ k := Nat.le_trans (pend_le _) (by rw [List.length_take]; omega)
    clear hOl hown
    by_cases hlt : k < N
    · have hlt' : (k : Int) < (N : Int) := by omega
      obtain ⟨p, hp, hv⟩ := HGET.out k hlt
      obtain rfl := HG.out (by omega)
      obtain ⟨y0, y1, y2, y3, y4, y5, y6, y7⟩ := HROW.out wr HBR.out k p hp
      have HPS : Hid (pendN (vs.take (k + 1)) = pendN (vs.take k) + (if p.v.st = 1 then 1 else 0)) := pend_succ hv
      have HSP : Hid (∀ x, Below w.heap.size w x → IntsAt x p.sa p.v.set ∧ p.v.set.length * 8 ≤ 140737488355328) := fun x hx => HSE.out x hx k p hp
      have HRF : Hid (p.v.st = 2 → (p.v.set.length : Int) = p.v.nd ∧ 1 ≤ p.v.sr ∧ p.v.sr ≤ now ∧ now < p.v.sr + p.v.lm ∧ p.v.lm ≤ c.limit ∧ riseB c.nodes (-1) p.v.set = true) := fun e => run_facts HJV.out hv e
      have HPV : Hid (vs[k]? = some p.v) := hv
      clear hp hv
      obtain ⟨⟨ac, nd, lm, sb, st, sr, en, xs⟩, sa, sc⟩ := p
      dsimp only [Pj.jb] at y0 y1 y2 y3 y4 y5 y6 y7 HPS HSP HRF HPV
      obtain ⟨X, hX⟩ : ∃ X, wr.alloc (.cells #[.int .i64 ac, .int .i64 nd, .int .i64 lm, .int .i64 sb, .int .i64 st, .int .i64 sr, .int .i64 en, .slice sa xs.length sc] 38) = X := ⟨_, rfl⟩
      have hbX : Below wr.heap.size wr X := by rw [← hX]; exact (Below.refl _ wr).alloc (Nat.le_refl _) _
      have n0 : X.cell? ⟨wr.heap.size, 0, none⟩ = some (.int .i64 ac) := by rw [← hX]; exact cells_at (heap_alloc_new wr _) rfl
      have n1 : X.cell? ⟨wr.heap.size, 1, none⟩ = some (.int .i64 nd) := by rw [← hX]; exact cells_at (heap_alloc_new wr _) rfl
      have n2 : X.cell? ⟨wr.heap.size, 2, none⟩ = some (.int .i64 lm) := by rw [← hX]; exact cells_at (heap_alloc_new wr _) rfl
      have n3 : X.cell? ⟨wr.heap.size, 3, none⟩ = some (.int .i64 sb) := by rw [← hX]; exact cells_at (heap_alloc_new wr _) rfl
      have n4 : X.cell? ⟨wr.heap.size, 4, none⟩ = some (.int .i64 st) := by rw [← hX]; exact cells_at (heap_alloc_new wr _) rfl
      have n5 : X.cell? ⟨wr.heap.size, 5, none⟩ = some (.int .i64 sr) := by rw [← hX]; exact cells_at (heap_alloc_new wr _) rfl
      have n6 : X.cell? ⟨wr.heap.size, 6, none⟩ = some (.int .i64 en) := by rw [← hX]; exact cells_at (heap_alloc_new wr _) rfl
      have n7 : X.cell? ⟨wr.heap.size, 7, none⟩ = some (.slice sa xs.length sc) := by rw [← hX]; exact cells_at (heap_alloc_new wr _) rfl
      have HBX : Hid (Below w.heap.size w X ∧ RwO X ob O ∧ Chg (fun i => i = ob) V X ∧ wr.heap.size ≠ ob) := ⟨HBR.out.trans (hbX.mono HBR.out.size), hro.below hbX, HO.out.2.2.2.trans (Chg.of_below hbX _) (fun _ _ e => e), by have := hro.lt; omega⟩
      go_upto_region 17 with fail
      try rw [hX]
      clear hX y0 y1 y2 y3 y4 y5 y6 y7 hbX hro hchg
      have HWK : Hid (wrap64 ((k : Int) + 1) = ((k + 1 : Nat) : Int)) := by show wrap64 ((k : Int) + 1) = ((k + 1 : Nat) : Int); unfold wrap64; omega
      by_cases s1 : st = 1
      · subst s1
        replace HPS : Hid (((pendN (vs.take (k + 1)) : Nat) : Int) = (pendN (vs.take k) : Int) + 1) := by show ((pendN (vs.take (k + 1)) : Nat) : Int) = _; rw [HPS.out]; simp
        go_wp2
        go_roundg (N - (k + 1))
        case measure => have := HK1.out; omega
        case rel => exact ⟨k + 1, O, by omega, by rw [HPS.out], by first | rw [HWK.out] | simp, HO.out.1, HBX.out.2.1, HO.out.2.2.1.skip, HBX.out.2.2.1⟩
      · replace HPS : Hid (pendN (vs.take (k + 1)) = pendN (vs.take k)) := by show pendN (vs.take (k + 1)) = _; rw [HPS.out, if_neg s1]; rfl
        by_cases s2 : st = 2
        · subst s2
          obtain ⟨f1, f2, f3, f4, f5, f6⟩ := HRF.out rfl
          subst f1
          have HF6 : Hid (riseB c.nodes (-1) xs = true) := f6
          obtain ⟨hI, hxl⟩ := HSP.out X HBX.out.1
          have m8 := (HM6.out X HBX.out.2.2.1).2.2.2.2.2.2.2.2.1
          clear f6
          go_upto_region 23 with fail
          go_wp2
          clear m8
          obtain ⟨g3, o3, hg3, hc3⟩ := hI
          have HC3 : Hid (∀ x, Chg (fun i => i = ob) X x → ∀ q y, xs[q]? = some y → x.cell? ⟨g3, o3 + q, none⟩ = some (.int .i64 y)) := fun x hx q y hq => hx.cell (hc3 q y hq) (fun e => by
            have h1 := HSP.out w (Below.refl _ _)
            obtain ⟨⟨g4, o4, hg4, hc4⟩, _⟩ := h1
            have hp0 : 0 < xs.length := by have := (List.getElem?_eq_some_iff.1 hq).1; omega
            have e3 := hg3 hp0
            rw [hg4 hp0] at e3
            cases e3
            have := World.block_lt_of_cell? w ⟨g3, o3 + q, none⟩ (hc4 q y hq)
            have := HR6.out.2.2.1
            dsimp only at *
            omega)
          have HG3 : Hid (0 < xs.length → sa = some ⟨g3, o3, none⟩) := hg3
          have HGK1 : Hid (k + gk = N) := HK1.out
          clear hg3 hc3
          obtain ⟨V2, hV2⟩ : ∃ V2 : World, V2 = X := ⟨_, rfl⟩
          rw [← hV2] at HBX HC3 n0 n1 n2 n3 n4 n5 n6 n7
          rw [← hV2]
          clear hV2
          go_loopg [100] xs.length (fun gk2 z wr2 => ∃ (q : Nat) (O2 : List Int), q + gk2 = xs.length ∧ z = .int .i64 (q : Int) ∧ O2.length = n ∧ RwO wr2 ob O2 ∧ Own0 vs k (xs.take q) O2 ∧ Chg (fun i => i = ob) V2 wr2)
          case atStart => exact ⟨0, O, by omega, rfl, HO.out.1, HBX.out.2.1, by simpa using HO.out.2.2.1, Chg.refl _ _⟩
          case round =>
            obtain ⟨q, O2, hq, rfl, hO2, hro2, hown2, hchg2⟩ := hrel
            have HO2 : Hid (O2.length = n ∧ RwO wr ob O2 ∧ Own0 vs k (xs.take q) O2 ∧ Chg (fun i => i = ob) V2 wr ∧ q + gk = xs.length) := ⟨hO2, hro2, hown2, hchg2, hq⟩
            by_cases hql : q < xs.length
            · have hql' : (q : Int) < (xs.length : Int) := by omega
              obtain ⟨y, hy⟩ : ∃ y, xs[q]? = some y := ⟨_, List.getElem?_eq_getElem hql⟩
              obtain rfl := HG3.out (by omega)
              have hym := rise_mem HF6.out y (List.mem_of_getElem? hy)
              obtain ⟨m, rfl⟩ : ∃ m : Nat, y = (m : Int) := ⟨y.toNat, by omega⟩
              have hmn : m < n := by have := HNN.out.1; omega
              have hmn' : (m : Int) < (n : Int) := by omega
              obtain ⟨zz, hzz⟩ : ∃ zz, O2[m]? = some zz := ⟨_, List.getElem?_eq_getElem (by rw [hO2]; exact hmn)⟩
              have hz0 : zz = 0 := Own0.free HAP.out HPV.out rfl HF6.out hy hown2 (by rw [Int.toNat_natCast]; exact hzz)
              subst hz0
              have t0 := hro2.at hzz
              have t1 := hro2.free m
              have t2 := HC3.out wr hchg2 q _ hy
              have HNX : Hid (RwO (wr.setCell ⟨ob, m, none⟩ (.int .i64 ((k : Int) + 1))) ob (O2.set m ((k : Int) + 1)) ∧ Own0 vs k (xs.take (q + 1)) (O2.set m ((k : Int) + 1)) ∧ Chg (fun i => i = ob) V2 (wr.setCell ⟨ob, m, none⟩ (.int .i64 ((k : Int) + 1)))) := ⟨hro2.set m _, by have := Own0.put (v := (k : Int) + 1) (by omega) hy hown2; rw [Int.toNat_natCast] at this; exact this, hchg2.setCell ⟨ob, _, none⟩ _ (.inl rfl)⟩
              have HWQ : Hid (wrap64 ((q : Int) + 1) = ((q + 1 : Nat) : Int)) := by show wrap64 ((q : Int) + 1) = ((q + 1 : Nat) : Int); unfold wrap64; omega
              clear hO2 hro2 hown2 hchg2 hy hzz hym
              go_wp2
              go_roundg (xs.length - (q + 1))
              case measure => have := HO2.out.2.2.2.2; omega
              case rel => exact ⟨q + 1, _, by omega, by first | rw [HWQ.out] | simp, by rw [List.length_set]; exact HO2.out.1, HNX.out.1, HNX.out.2.1, HNX.out.2.2⟩
            · obtain rfl : q = xs.length := by omega
              rw [List.take_of_length_le (Nat.le_refl _)] at hown2
              have HNX : Hid (O2.length = n ∧ RwO wr ob O2 ∧ Own0 vs (k + 1) [] O2 ∧ Chg (fun i => i = ob) V wr) := ⟨hO2, hro2, Own0.next HPV.out rfl hown2, HBX.out.2.2.1.trans hchg2 (fun _ _ e => e)⟩
              clear hO2 hro2 hown2 hchg2
              go_wp2
              go_roundg (N - (k + 1))
              case measure => have := HGK1.out; omega
              case rel => exact ⟨k + 1, O2, by omega, by rw [HPS.out], by first | rw [HWK.out] | simp, HNX.out⟩
        · go_wp2
          go_roundg (N - (k + 1))
          case measure => have := HK1.out; omega
          case rel => exact ⟨k + 1, O, by omega, by rw [HPS.out], by first | rw [HWK.out] | simp, HO.out.1, HBX.out.2.1, HO.out.2.2.1.skip, HBX.out.2.2.1⟩
    · obtain rfl : k = N := by omega
      have HPA : Hid (pendN (vs.take k) = pendN vs) := by show pendN (vs.take k) = _; rw [← HVL.out, List.take_length]
      rw [HPA.out] at hpl ⊢
      obtain ⟨PN, hPN⟩ : ∃ PN, pendN vs = PN := ⟨_, rfl⟩
      rw [hPN] at hpl HQU ⊢
      clear hPN HPA
      obtain ⟨m0, m1, m2, m3, m4, m5, m6, m7, m8, m9, m10, m11⟩ := HM6.out wr hchg
      have HM7 : Hid (wr.cell? ⟨w.heap.size, 0, none⟩ = some (.int .i64 (n : Int)) ∧ wr.cell? ⟨w.heap.size, 1, none⟩ = some (.int .i64 c.queue) ∧ wr.cell? ⟨w.heap.size, 2, none⟩ = some (.int .i64 c.limit) ∧ wr.cell? ⟨w.heap.size, 3, none⟩ = some (.int .i64 c.age) ∧ wr.cell? ⟨w.heap.size, 4, none⟩ = some (.int .i64 c.fair) ∧ wr.cell? ⟨w.heap.size, 5, none⟩ = some (.int .i64 c.size) ∧ wr.cell? ⟨w.heap.size, 6, none⟩ = some (.int .i64 c.period) ∧ wr.cell? ⟨w.heap.size, 7, none⟩ = some (.int .i64 c.half) ∧ wr.cell? ⟨w.heap.size, 8, none⟩ = some (.int .i64 now) ∧ wr.cell? ⟨w.heap.size, 9, none⟩ = some (.slice ao L ca) ∧ wr.cell? ⟨w.heap.size, 10, none⟩ = some (.slice jo k cj) ∧ wr.cell? ⟨w.heap.size, 11, none⟩ = some (.int .i64 hd)) := ⟨m0, m1, m2, m3, m4, m5, m6, m7, m8, m9, m10, m11⟩
      clear m0 m1 m2 m3 m4 m5 m6 m7 m8 m10 m11
      have hplI : (PN : Int) ≤ 4096 := by omega
      have hLb : L ≤ 140737488355328 := by have := HBL.out.1; omega
      clear hro hchg hlt hpl
      go_upto_region 31 with fail
      go_wp2
      clear m9
      obtain ⟨V3, hV3⟩ : ∃ V3 : World, V3 = wr := ⟨_, rfl⟩
      rw [← hV3] at HM7 HBR
      rw [← hV3]
      clear hV3 HO HM6 HR6
      go_loopg [129] L (fun gk3 z wr3 => ∃ q : Nat, q + gk3 = L ∧ z = .int .i64 (q : Int) ∧ Below V3.heap.size V3 wr3)
      case atStart => exact ⟨0, by omega, rfl, Below.refl _ _⟩
      case round =>
        obtain ⟨q, hq, rfl, hb3⟩ := hrel
        have HQ : Hid (q + gk = L ∧ Below V3.heap.size V3 wr ∧ Below w.heap.size w wr) := ⟨hq, hb3, HBR.out.trans (hb3.mono HBR.out.size)⟩
        clear hb3
        obtain ⟨k0, k1, k2, k3, k4, k5, k6, k7, k8, k9, k10, k11⟩ := HM7.out
        by_cases hql : q < L
        · have hql' : (q : Int) < (L : Int) := by omega
          obtain ⟨a, ha, hw0⟩ := HGA.out q hql
          obtain rfl := HG2.out (by omega)
          obtain ⟨y0, y1, y2, y3, y4⟩ := HAC.out wr HQ.out.2.2 q a ha
          obtain ⟨r1, r2⟩ := HRB.out q
          obtain ⟨u1, u2⟩ := use_halves hw0 (HUS.out q a ha)
          clear ha
          obtain ⟨nm, pa, sh, cl, us⟩ := a
          dsimp only at y0 y1 y2 y3 y4 u1 u2 hw0
          have cR0 := fun x hx => HRW0.out x hx q r1 r2
          obtain ⟨R, hR⟩ : ∃ R, rawJ (q : Int) now vs = R := ⟨_, rfl⟩
          rw [hR] at r1 r2 u1 u2 cR0
          clear hR
          have HU2 : Hid (us / 4294967296 = R → us * 4294967296 % 18446744073709551616 = 0) := u2
          have HU1 : Hid (us / 4294967296 ≤ R) := Int.not_lt.1 u1
          obtain ⟨hu0, hu1⟩ := hw0
          clear u1 u2
          obtain ⟨X, hX⟩ : ∃ X, wr.alloc (.cells #[.string nm, .int .i64 pa, .int .i64 sh, .bool cl, .int .u64 us] 41) = X := ⟨_, rfl⟩
          have hbX : Below wr.heap.size wr X := by rw [← hX]; exact (Below.refl _ wr).alloc (Nat.le_refl _) _
          have HBX : Hid (Below w.heap.size w X ∧ Below V3.heap.size V3 X) := ⟨HQ.out.2.2.trans (hbX.mono HQ.out.2.2.size), HQ.out.2.1.trans (hbX.mono HQ.out.2.1.size)⟩
          have n4 : X.cell? ⟨wr.heap.size, 4, none⟩ = some (.int .u64 us) := by rw [← hX]; exact cells_at (heap_alloc_new wr _) rfl
          have s8 := cellB HBX.out.2 k8
          have s10 := cellB HBX.out.2 k10
          have q9 := cellB HQ.out.2.1 k9
          have cR := cR0 X HBX.out.1
          have hbA : Below X.heap.size X (X.alloc (.cells #[.int .i64 (q : Int)] 3)) := (Below.refl _ X).alloc (Nat.le_refl _) _
          have t8 := cellB hbA s8
          have t10 := cellB hbA s10
          clear hbX hbA cR0 k0 k1 k2 k3 k4 k5 k6 k7 k8 k9 k10 k11
          go_upto_region 34 with fail
          try rw [hX]
          clear hX y0 y1 y2 y3 y4
          go_upto_region 35 with (go_at_call 11; refine cR.mono ?_; rintro e Y1 ⟨rfl, hb1⟩)
          have HBY : Hid (Below V3.heap.size V3 Y1) := HBX.out.2.trans (hb1.mono HBX.out.2.size)
          replace n4 := cellB hb1 n4
          clear hb1 cR s8 s10 t8 t10 q9
          have HWQ : Hid (wrap64 ((q : Int) + 1) = ((q + 1 : Nat) : Int)) := by show wrap64 ((q : Int) + 1) = ((q + 1 : Nat) : Int); unfold wrap64; omega
          have g1 : ¬ R < us / 4294967296 := Int.not_lt.2 HU1.out
          by_cases he : us / 4294967296 = R
          · have g2 := HU2.out he
            have g3 : (us / 4294967296 == R) = true := beq_iff_eq.2 he
            have g4 : IntKind.u64.wrap (us * 4294967296) = 0 := by rw [IntKind.wrap_u64]; exact g2
            clear he g2
            go_wp2
            go_roundg (L - (q + 1))
            case measure => have := HQ.out.1; omega
            case rel => exact ⟨q + 1, by omega, by first | rw [HWQ.out] | simp, HBY.out⟩
          · have g3 : (us / 4294967296 == R) = false := beq_eq_false_iff_ne.2 he
            clear he
            go_wp2
            go_roundg (L - (q + 1))
            case measure => have := HQ.out.1; omega
            case rel => exact ⟨q + 1, by omega, by first | rw [HWQ.out] | simp, HBY.out⟩
        · obtain rfl : q = L := by omega
          have m1 := cellB HQ.out.2.1 k1
          have m10 := cellB HQ.out.2.1 k10
          have m11 := cellB HQ.out.2.1 k11
          clear k0 k1 k2 k3 k4 k5 k6 k7 k8 k9 k10 k11 HM7
          have hqu : ¬ c.queue < (PN : Int) := by have := HQU.out; omega
          by_cases h1 : hd = -1
          · subst h1
            go_wp2
            go_ret
            exact ⟨rfl, HQ.out.2.2⟩
          · have hh := HHO.out
            unfold holdB at hh
            rw [decide_eq_false h1, Bool.false_or, Bool.and_eq_true, decide_eq_true_eq] at hh
            obtain ⟨h0, hh⟩ := hh
            dsimp only at h0
            obtain ⟨i, rfl⟩ : ∃ i : Nat, hd = (i : Int) := ⟨hd.toNat, by omega⟩
            dsimp only at hh
            rw [Int.toNat_natCast] at hh
            cases hvi : vs[i]? with
            | none => rw [hvi] at hh; cases hh
            | some j =>
              rw [hvi] at hh
              simp only [Bool.and_eq_true, decide_eq_true_eq] at hh
              have hiN : i < k := by have := (List.getElem?_eq_some_iff.1 hvi).1; rw [HVL.out] at this; exact this
              have hiN' : (i : Int) < (k : Int) := by omega
              obtain ⟨p, hp, hv⟩ := HGET.out i hiN
              obtain rfl := HG.out (by omega)
              have y4 := (HROW.out wr HQ.out.2.2 i p hp).st
              rw [hvi] at hv
              cases hv
              have hst : p.jb.st = 1 := hh.1
              rw [hst] at y4
              have h1' : ((i : Int) == -1) = false := beq_eq_false_iff_ne.2 h1
              clear hst hh hp hvi hqu h1
              have hqu : ¬ c.queue < (PN : Int) := by have := HQU.out; omega
              go_wp2
              go_ret
              exact ⟨rfl, HQ.out.2.2⟩
end Go.Proofs.Ytbcinapnnlfnbaa
