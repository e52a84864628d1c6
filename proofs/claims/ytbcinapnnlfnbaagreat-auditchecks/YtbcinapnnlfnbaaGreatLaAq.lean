/-
  AUDITCHECKS walked, over what is asked of audit.Check (made by gen17h.py).
-/
import Derived.Test.YtbcinapnnlfnbaaGreatXlu
namespace Go.Proofs.YtbcinapnnlfnbaaGreat
open Go.RowKit Wd Tr Cg Lg

theorem acs_own {W : World} {B : Nat} {ao : Option Addr} {l : List Ac} {cap : Nat} (h : W.ownsRow B 47 5 (.slice ao l.length cap) l.length (flatA l)) : AcsAt W ao l := by
  obtain ⟨ao', cap', e, _, h0, h1⟩ := own_val h
  cases e
  cases ao with
  | none => exact ⟨0, 0, fun hp => by have := (h0 rfl).1; omega, fun k n hn => by have := (List.getElem?_eq_some_iff.1 hn).1; have := (h0 rfl).1; omega⟩
  | some a =>
    obtain ⟨g, rfl, _, _⟩ := h1 a rfl
    refine ⟨g, 0, fun _ => rfl, fun k a ha => ?_⟩
    obtain ⟨e0, e1, e2, e3, e4⟩ := flatA_at l k a ha
    have hc := fun j u (hu : (flatA l)[j]? = some u) => (show W.cell? ⟨g, 0 + j, none⟩ = some u by have := h.cells (g := g) rfl j u hu; rwa [Addr.add_lit] at this)
    exact ⟨hc _ _ e0, hc _ _ e1, hc _ _ e2, hc _ _ e3, hc _ _ e4⟩
theorem sets_vals : ∀ {qs ps : List Pj}, qs.map Pj.v = ps.map Pj.v → setsN qs = setsN ps
  | [], [], _ => rfl
  | q :: qs, p :: ps, h => by
    simp only [List.map_cons, List.cons.injEq] at h
    simp only [setsN, h.1, sets_vals h.2]
  | [], p :: ps, h => by simp at h
  | q :: qs, [], h => by simp at h
theorem vals_mem {qs ps : List Pj} (h : qs.map Pj.v = ps.map Pj.v) {q : Pj} (hq : q ∈ qs) : ∃ p ∈ ps, p.v = q.v := by
  have : q.v ∈ ps.map Pj.v := by rw [← h]; exact List.mem_map_of_mem hq
  exact List.mem_map.1 this
theorem vals_len {qs ps : List Pj} (h : qs.map Pj.v = ps.map Pj.v) : qs.length = ps.length := by have := congrArg List.length h; simpa using this
theorem Cpy.stin {w w' : World} {ao ao' jo jo' : Option Addr} {la : List Ac} {ca ca' cj cj' : Nat} {ps qs : List Pj} (h : StIn w ao la ca jo ps cj) (k : Cpy w w' ao' la ca' jo' qs cj') (hv : qs.map Pj.v = ps.map Pj.v) : StIn w' ao' la ca' jo' qs cj' := by
  obtain ⟨_, _, e1, a1, a2, _⟩ := own_val k.acc
  cases e1
  obtain ⟨_, _, e2, b1, b2, _⟩ := own_val k.job
  cases e2
  have hs : ∀ q ∈ qs, q.v.set.length ≤ q.sc ∧ (q.sa = none → q.v.set.length = 0 ∧ q.sc = 0) := fun q hq => by
    obtain ⟨_, _, e3, c1, c2, _⟩ := own_val (k.sets q hq)
    cases e3
    exact ⟨c1, c2⟩
  exact ⟨acs_own k.acc, h.us, h.nm, h.l48, a1, fun e => ⟨List.length_eq_zero_iff.1 (a2 e).1, (a2 e).2⟩, ⟨jobs_own k.job, fun q hq => ints_own (k.sets q hq)⟩, by rw [vals_len hv]; exact h.l80, b1, fun e => ⟨List.length_eq_zero_iff.1 (b2 e).1, (b2 e).2⟩,
    fun q hq => by obtain ⟨p, hp, e⟩ := vals_mem hv hq; rw [← e]; exact h.sl p hp, fun q hq => (hs q hq).1, fun q hq e => ⟨List.length_eq_zero_iff.1 ((hs q hq).2 e).1, ((hs q hq).2 e).2⟩⟩
theorem wt_vals {la : List Ac} {qs ps : List Pj} (h : qs.map Pj.v = ps.map Pj.v) : wtN la qs = wtN la ps := by unfold wtN; rw [vals_len h, sets_vals h]
theorem StIn.l47 {w : World} {ao jo : Option Addr} {la : List Ac} {ca cj : Nat} {ps : List Pj} (h : StIn w ao la ca jo ps cj) : ps.length ≤ 140737488355328 ∧ la.length ≤ 140737488355328 ∧ ∀ p ∈ ps, p.v.set.length ≤ 140737488355328 := by
  have h1 := h.l80
  have h2 := h.l48
  exact ⟨by omega, by omega, fun p hp => by have := h.sl p hp; omega⟩
theorem StIn.ucheck {w : World} {ao jo : Option Addr} {la : List Ac} {ca cj : Nat} {ps : List Pj} (h : StIn w ao la ca jo ps cj) (c : Cf) (now hd : Int) : Calls Tryz.prog 8 #[.agg (stL c now ao la.length ca jo ps.length cj hd)] w fun e w' => e = .returned (.int .i64 (auditV (chkZ c) ⟨c, now, la, ps.map Pj.v, hd⟩)) ∧ Below w.heap.size w w' :=
  ucheck_any c now ca cj hd h.acs h.us h.l48 h.jobs h.l47.1 h.jcap h.l47.2.2
set_option maxRecDepth 20000 in
set_option maxHeartbeats 8000000 in
theorem checks_any (hC : AChk) {w : World} (c : Cf) (now : Int) {ao : Option Addr} {la : List Ac} {ca : Nat} {jo : Option Addr} {ps : List Pj} {cj : Nat} (hd : Int) (h : StIn w ao la ca jo ps cj) :
    Calls Tryz.prog 3 #[.agg (stL c now ao la.length ca jo ps.length cj hd)] w fun e w' => e = .returned (.bool true) ∧ Below w.heap.size w w' := by
  have HHV : Hid (∀ x, Below w.heap.size w x → Calls Tryz.prog 4 #[.agg (stL c now ao la.length ca jo ps.length cj hd)] x fun e w' => e = .returned (.bool (decide (2147483647 < wtN la ps))) ∧ Below x.heap.size x w') := fun x hx => heavy_any c now hd (h.below hx)
  have HSH := shown_any hC
  have HCP : Hid (∀ x, Below w.heap.size w x → Calls Tryz.prog 6 #[.agg (stL c now ao la.length ca jo ps.length cj hd)] x fun e w' => ∃ ao' ca' jo' cj' qs, e = .returned (.agg (stL c now ao' la.length ca' jo' ps.length cj' hd)) ∧ qs.map Pj.v = ps.map Pj.v ∧ Cpy x w' ao' la ca' jo' qs cj') := fun x hx => copied_any c now hd (h.below hx)
  have HRF : Hid (∀ x, Below w.heap.size w x → Calls Tryz.prog 8 #[.agg (stL c now ao la.length ca jo ps.length cj hd)] x fun e w' => e = .returned (.int .i64 (auditV (chkZ c) ⟨c, now, la, ps.map Pj.v, hd⟩)) ∧ Below x.heap.size x w') := fun x hx => (h.below hx).ucheck c now hd
  have HOW : Hid (∀ (x0 x : World) (ao' : Option Addr) (ca' : Nat) (jo' : Option Addr) (cj' : Nat) (qs : List Pj), wtN la ps ≤ 2147483647 → Below w.heap.size w x0 → qs.map Pj.v = ps.map Pj.v → Cpy x0 x ao' la ca' jo' qs cj' → ∀ y, Below x.heap.size x y → Calls Tryz.prog 7 #[.agg (stL c now ao' la.length ca' jo' ps.length cj' hd)] y fun e w' => e = .returned (.int .i64 (auditV (chkZ c) ⟨c, now, la, ps.map Pj.v, hd⟩)) ∧ Below y.heap.size y w') := fun x0 x ao' ca' jo' cj' qs hw h0 hv k y hy => by
    have := hC y c now ao' la ca' jo' qs cj' hd ((Cpy.stin (h.below h0) k hv).below hy) (by rw [wt_vals hv]; exact hw)
    rw [vals_len hv, hv] at this
    exact this
  have HSM : Hid (∀ (x0 x : World) (ao' : Option Addr) (ca' : Nat) (jo' : Option Addr) (cj' : Nat) (qs : List Pj), Below w.heap.size w x0 → qs.map Pj.v = ps.map Pj.v → Cpy x0 x ao' la ca' jo' qs cj' → ∀ y, Below x.heap.size x y → Calls Tryz.prog 9 #[.agg (stL c now ao' la.length ca' jo' ps.length cj' hd), .agg (stL c now ao la.length ca jo ps.length cj hd)] y fun e w' => e = .returned (.bool true) ∧ Below y.heap.size y w') := fun x0 x ao' ca' jo' cj' qs h0 hv k y hy => by
    have h1 := (Cpy.stin (h.below h0) k hv).below hy
    have bb : Below w.heap.size w y := h0.trans ((k.bel.trans (hy.mono k.bel.size)).mono h0.size)
    have h2 := h.below bb
    exact same_yes c now hd ca' cj' ca cj h1.acs h2.acs h1.jobs h2.jobs hv h.l47.2.1 h.l47.1 h.l47.2.2
  obtain ⟨L, hL⟩ : ∃ L, la.length = L := ⟨_, rfl⟩
  obtain ⟨N, hN⟩ : ∃ N, ps.length = N := ⟨_, rfl⟩
  obtain ⟨AV, hAV⟩ : ∃ AV, auditV (chkZ c) ⟨c, now, la, ps.map Pj.v, hd⟩ = AV := ⟨_, rfl⟩
  rw [hL] at HHV HCP HRF HOW HSM ⊢
  rw [hN] at HHV HCP HRF HOW HSM ⊢
  rw [hAV] at HRF HOW
  clear hC h hL hN hAV
  unfold stL at *
  obtain ⟨W, hW⟩ : ∃ W, w.alloc (.cells #[.int .i64 c.nodes, .int .i64 c.queue, .int .i64 c.limit, .int .i64 c.age, .int .i64 c.fair, .int .i64 c.size, .int .i64 c.period, .int .i64 c.half, .int .i64 now, .slice ao L ca, .slice jo N cj, .int .i64 hd] 27) = W := ⟨_, rfl⟩
  have HBW : Hid (Below w.heap.size w W) := by rw [← hW]; exact (Below.refl _ w).alloc (Nat.le_refl _) _
  have c0 : W.cell? ⟨w.heap.size, 0, none⟩ = some (.int .i64 c.nodes) := by rw [← hW]; exact cells_at (heap_alloc_new w _) rfl
  have c1 : W.cell? ⟨w.heap.size, 1, none⟩ = some (.int .i64 c.queue) := by rw [← hW]; exact cells_at (heap_alloc_new w _) rfl
  have c2 : W.cell? ⟨w.heap.size, 2, none⟩ = some (.int .i64 c.limit) := by rw [← hW]; exact cells_at (heap_alloc_new w _) rfl
  have c3 : W.cell? ⟨w.heap.size, 3, none⟩ = some (.int .i64 c.age) := by rw [← hW]; exact cells_at (heap_alloc_new w _) rfl
  have c4 : W.cell? ⟨w.heap.size, 4, none⟩ = some (.int .i64 c.fair) := by rw [← hW]; exact cells_at (heap_alloc_new w _) rfl
  have c5 : W.cell? ⟨w.heap.size, 5, none⟩ = some (.int .i64 c.size) := by rw [← hW]; exact cells_at (heap_alloc_new w _) rfl
  have c6 : W.cell? ⟨w.heap.size, 6, none⟩ = some (.int .i64 c.period) := by rw [← hW]; exact cells_at (heap_alloc_new w _) rfl
  have c7 : W.cell? ⟨w.heap.size, 7, none⟩ = some (.int .i64 c.half) := by rw [← hW]; exact cells_at (heap_alloc_new w _) rfl
  have c8 : W.cell? ⟨w.heap.size, 8, none⟩ = some (.int .i64 now) := by rw [← hW]; exact cells_at (heap_alloc_new w _) rfl
  have c9 : W.cell? ⟨w.heap.size, 9, none⟩ = some (.slice ao L ca) := by rw [← hW]; exact cells_at (heap_alloc_new w _) rfl
  have c10 : W.cell? ⟨w.heap.size, 10, none⟩ = some (.slice jo N cj) := by rw [← hW]; exact cells_at (heap_alloc_new w _) rfl
  have c11 : W.cell? ⟨w.heap.size, 11, none⟩ = some (.int .i64 hd) := by rw [← hW]; exact cells_at (heap_alloc_new w _) rfl
  have HK : Hid (W.cell? ⟨w.heap.size, 0, none⟩ = some (.int .i64 c.nodes) ∧ W.cell? ⟨w.heap.size, 1, none⟩ = some (.int .i64 c.queue) ∧ W.cell? ⟨w.heap.size, 2, none⟩ = some (.int .i64 c.limit) ∧ W.cell? ⟨w.heap.size, 3, none⟩ = some (.int .i64 c.age) ∧ W.cell? ⟨w.heap.size, 4, none⟩ = some (.int .i64 c.fair) ∧ W.cell? ⟨w.heap.size, 5, none⟩ = some (.int .i64 c.size) ∧ W.cell? ⟨w.heap.size, 6, none⟩ = some (.int .i64 c.period) ∧ W.cell? ⟨w.heap.size, 7, none⟩ = some (.int .i64 c.half) ∧ W.cell? ⟨w.heap.size, 8, none⟩ = some (.int .i64 now) ∧ W.cell? ⟨w.heap.size, 9, none⟩ = some (.slice ao L ca) ∧ W.cell? ⟨w.heap.size, 10, none⟩ = some (.slice jo N cj) ∧ W.cell? ⟨w.heap.size, 11, none⟩ = some (.int .i64 hd)) := ⟨c0, c1, c2, c3, c4, c5, c6, c7, c8, c9, c10, c11⟩
  have cH := HHV.out W HBW.out
  clear HHV
  go_enter Tryz.func3, Tryz.ntmps3
  go_wp2_with fail
  refine cH.mono ?_
  rintro e x1 ⟨rfl, b1⟩
  have HB1 : Hid (Below W.heap.size W x1) := b1
  clear b1 hW cH c0 c1 c2 c3 c4 c5 c6 c7 c8 c9 c10 c11
  by_cases hhv : 2147483647 < wtN la ps
  · rw [decide_eq_true hhv]
    clear hhv
    go_wp2
    go_ret
    exact ⟨rfl, HBW.out.trans (HB1.out.mono HBW.out.size)⟩
  rw [decide_eq_false hhv]
  have HWT : Hid (wtN la ps ≤ 2147483647) := (Nat.not_lt.1 hhv)
  clear hhv
  go_wp2_with fail
  refine (HSH _).mono ?_
  rintro e x2 ⟨rfl, b2⟩
  have HB2 : Hid (Below W.heap.size W x2) := HB1.out.trans (b2.mono HB1.out.size)
  clear b2 HB1 HSH
  obtain ⟨k0, k1, k2, k3, k4, k5, k6, k7, k8, k9, k10, k11⟩ := HK.out
  have m0 := cellB HB2.out k0
  have m1 := cellB HB2.out k1
  have m2 := cellB HB2.out k2
  have m3 := cellB HB2.out k3
  have m4 := cellB HB2.out k4
  have m5 := cellB HB2.out k5
  have m6 := cellB HB2.out k6
  have m7 := cellB HB2.out k7
  have m8 := cellB HB2.out k8
  have m9 := cellB HB2.out k9
  have m10 := cellB HB2.out k10
  have m11 := cellB HB2.out k11
  clear k0 k1 k2 k3 k4 k5 k6 k7 k8 k9 k10 k11
  have cP := HCP.out x2 (HBW.out.trans (HB2.out.mono HBW.out.size))
  clear HCP
  go_wp2_with fail
  refine cP.mono ?_
  rintro e x3 ⟨ao', ca', jo', cj', qs, rfl, hv, hk⟩
  have HCK : Hid (Cpy x2 x3 ao' la ca' jo' qs cj') := hk
  have HOW2 : Hid (∀ y, Below x3.heap.size x3 y → Calls Tryz.prog 7 #[.agg #[.int .i64 c.nodes, .int .i64 c.queue, .int .i64 c.limit, .int .i64 c.age, .int .i64 c.fair, .int .i64 c.size, .int .i64 c.period, .int .i64 c.half, .int .i64 now, .slice ao' L ca', .slice jo' N cj', .int .i64 hd]] y fun e w' => e = .returned (.int .i64 AV) ∧ Below y.heap.size y w') := HOW.out x2 x3 ao' ca' jo' cj' qs HWT.out (HBW.out.trans (HB2.out.mono HBW.out.size)) hv hk
  have HSM2 : Hid (∀ y, Below x3.heap.size x3 y → Calls Tryz.prog 9 #[.agg #[.int .i64 c.nodes, .int .i64 c.queue, .int .i64 c.limit, .int .i64 c.age, .int .i64 c.fair, .int .i64 c.size, .int .i64 c.period, .int .i64 c.half, .int .i64 now, .slice ao' L ca', .slice jo' N cj', .int .i64 hd], .agg #[.int .i64 c.nodes, .int .i64 c.queue, .int .i64 c.limit, .int .i64 c.age, .int .i64 c.fair, .int .i64 c.size, .int .i64 c.period, .int .i64 c.half, .int .i64 now, .slice ao L ca, .slice jo N cj, .int .i64 hd]] y fun e w' => e = .returned (.bool true) ∧ Below y.heap.size y w') := HSM.out x2 x3 ao' ca' jo' cj' qs (HBW.out.trans (HB2.out.mono HBW.out.size)) hv hk
  have HB3 : Hid (Below W.heap.size W x3) := HB2.out.trans (hk.bel.mono HB2.out.size)
  clear HOW HSM cP hv hk HWT m0 m1 m2 m3 m4 m5 m6 m7 m8 m9 m10 m11
  obtain ⟨x4, hx4⟩ : ∃ x4, x3.alloc (.cells #[.int .i64 c.nodes, .int .i64 c.queue, .int .i64 c.limit, .int .i64 c.age, .int .i64 c.fair, .int .i64 c.size, .int .i64 c.period, .int .i64 c.half, .int .i64 now, .slice ao' L ca', .slice jo' N cj', .int .i64 hd] 27) = x4 := ⟨_, rfl⟩
  have h34 : Below x3.heap.size x3 x4 := by rw [← hx4]; exact (Below.refl _ x3).alloc (Nat.le_refl _) _
  have H34 : Hid (Below x3.heap.size x3 x4) := h34
  have c0 : x4.cell? ⟨x3.heap.size, 0, none⟩ = some (.int .i64 c.nodes) := by rw [← hx4]; exact cells_at (heap_alloc_new x3 _) rfl
  have c1 : x4.cell? ⟨x3.heap.size, 1, none⟩ = some (.int .i64 c.queue) := by rw [← hx4]; exact cells_at (heap_alloc_new x3 _) rfl
  have c2 : x4.cell? ⟨x3.heap.size, 2, none⟩ = some (.int .i64 c.limit) := by rw [← hx4]; exact cells_at (heap_alloc_new x3 _) rfl
  have c3 : x4.cell? ⟨x3.heap.size, 3, none⟩ = some (.int .i64 c.age) := by rw [← hx4]; exact cells_at (heap_alloc_new x3 _) rfl
  have c4 : x4.cell? ⟨x3.heap.size, 4, none⟩ = some (.int .i64 c.fair) := by rw [← hx4]; exact cells_at (heap_alloc_new x3 _) rfl
  have c5 : x4.cell? ⟨x3.heap.size, 5, none⟩ = some (.int .i64 c.size) := by rw [← hx4]; exact cells_at (heap_alloc_new x3 _) rfl
  have c6 : x4.cell? ⟨x3.heap.size, 6, none⟩ = some (.int .i64 c.period) := by rw [← hx4]; exact cells_at (heap_alloc_new x3 _) rfl
  have c7 : x4.cell? ⟨x3.heap.size, 7, none⟩ = some (.int .i64 c.half) := by rw [← hx4]; exact cells_at (heap_alloc_new x3 _) rfl
  have c8 : x4.cell? ⟨x3.heap.size, 8, none⟩ = some (.int .i64 now) := by rw [← hx4]; exact cells_at (heap_alloc_new x3 _) rfl
  have c9 : x4.cell? ⟨x3.heap.size, 9, none⟩ = some (.slice ao' L ca') := by rw [← hx4]; exact cells_at (heap_alloc_new x3 _) rfl
  have c10 : x4.cell? ⟨x3.heap.size, 10, none⟩ = some (.slice jo' N cj') := by rw [← hx4]; exact cells_at (heap_alloc_new x3 _) rfl
  have c11 : x4.cell? ⟨x3.heap.size, 11, none⟩ = some (.int .i64 hd) := by rw [← hx4]; exact cells_at (heap_alloc_new x3 _) rfl
  have HO : Hid (x4.cell? ⟨x3.heap.size, 0, none⟩ = some (.int .i64 c.nodes) ∧ x4.cell? ⟨x3.heap.size, 1, none⟩ = some (.int .i64 c.queue) ∧ x4.cell? ⟨x3.heap.size, 2, none⟩ = some (.int .i64 c.limit) ∧ x4.cell? ⟨x3.heap.size, 3, none⟩ = some (.int .i64 c.age) ∧ x4.cell? ⟨x3.heap.size, 4, none⟩ = some (.int .i64 c.fair) ∧ x4.cell? ⟨x3.heap.size, 5, none⟩ = some (.int .i64 c.size) ∧ x4.cell? ⟨x3.heap.size, 6, none⟩ = some (.int .i64 c.period) ∧ x4.cell? ⟨x3.heap.size, 7, none⟩ = some (.int .i64 c.half) ∧ x4.cell? ⟨x3.heap.size, 8, none⟩ = some (.int .i64 now) ∧ x4.cell? ⟨x3.heap.size, 9, none⟩ = some (.slice ao' L ca') ∧ x4.cell? ⟨x3.heap.size, 10, none⟩ = some (.slice jo' N cj') ∧ x4.cell? ⟨x3.heap.size, 11, none⟩ = some (.int .i64 hd)) := ⟨c0, c1, c2, c3, c4, c5, c6, c7, c8, c9, c10, c11⟩
  have cC := HOW2.out x4 h34
  have HB4 : Hid (Below W.heap.size W x4) := HB3.out.trans (h34.mono HB3.out.size)
  clear h34
  go_wp2_with fail
  refine cC.mono ?_
  rintro e x5 ⟨rfl, b5⟩
  have H35 : Hid (Below x3.heap.size x3 x5) := H34.out.trans (b5.mono H34.out.size)
  have H45 : Hid (Below x4.heap.size x4 x5) := b5
  have HB5 : Hid (Below W.heap.size W x5) := HB4.out.trans (b5.mono HB4.out.size)
  clear b5 cC hx4 c0 c1 c2 c3 c4 c5 c6 c7 c8 c9 c10 c11
  obtain ⟨k0, k1, k2, k3, k4, k5, k6, k7, k8, k9, k10, k11⟩ := HK.out
  have m0 := cellB HB5.out k0
  have m1 := cellB HB5.out k1
  have m2 := cellB HB5.out k2
  have m3 := cellB HB5.out k3
  have m4 := cellB HB5.out k4
  have m5 := cellB HB5.out k5
  have m6 := cellB HB5.out k6
  have m7 := cellB HB5.out k7
  have m8 := cellB HB5.out k8
  have m9 := cellB HB5.out k9
  have m10 := cellB HB5.out k10
  have m11 := cellB HB5.out k11
  clear k0 k1 k2 k3 k4 k5 k6 k7 k8 k9 k10 k11
  have cR := HRF.out x5 (HBW.out.trans (HB5.out.mono HBW.out.size))
  clear HRF
  go_wp2_with fail
  refine cR.mono ?_
  rintro e x6 ⟨rfl, b6⟩
  have H36 : Hid (Below x3.heap.size x3 x6) := H35.out.trans (b6.mono H35.out.size)
  have H46 : Hid (Below x4.heap.size x4 x6) := H45.out.trans (b6.mono H45.out.size)
  have HB6 : Hid (Below W.heap.size W x6) := HB5.out.trans (b6.mono HB5.out.size)
  clear b6 cR m0 m1 m2 m3 m4 m5 m6 m7 m8 m9 m10 m11
  obtain ⟨k0, k1, k2, k3, k4, k5, k6, k7, k8, k9, k10, k11⟩ := HK.out
  have m0 := cellB HB6.out k0
  have m1 := cellB HB6.out k1
  have m2 := cellB HB6.out k2
  have m3 := cellB HB6.out k3
  have m4 := cellB HB6.out k4
  have m5 := cellB HB6.out k5
  have m6 := cellB HB6.out k6
  have m7 := cellB HB6.out k7
  have m8 := cellB HB6.out k8
  have m9 := cellB HB6.out k9
  have m10 := cellB HB6.out k10
  have m11 := cellB HB6.out k11
  clear k0 k1 k2 k3 k4 k5 k6 k7 k8 k9 k10 k11
  obtain ⟨k0, k1, k2, k3, k4, k5, k6, k7, k8, k9, k10, k11⟩ := HO.out
  have d0 := cellB H46.out k0
  have d1 := cellB H46.out k1
  have d2 := cellB H46.out k2
  have d3 := cellB H46.out k3
  have d4 := cellB H46.out k4
  have d5 := cellB H46.out k5
  have d6 := cellB H46.out k6
  have d7 := cellB H46.out k7
  have d8 := cellB H46.out k8
  have d9 := cellB H46.out k9
  have d10 := cellB H46.out k10
  have d11 := cellB H46.out k11
  clear k0 k1 k2 k3 k4 k5 k6 k7 k8 k9 k10 k11
  have cS := HSM2.out x6 H36.out
  go_wp2_with fail
  refine cS.mono ?_
  rintro e x7 ⟨rfl, b7⟩
  have H37 : Hid (Below x3.heap.size x3 x7) := H36.out.trans (b7.mono H36.out.size)
  have H47 : Hid (Below x4.heap.size x4 x7) := H46.out.trans (b7.mono H46.out.size)
  have HB7 : Hid (Below W.heap.size W x7) := HB6.out.trans (b7.mono HB6.out.size)
  clear b7 cS m0 m1 m2 m3 m4 m5 m6 m7 m8 m9 m10 m11 d0 d1 d2 d3 d4 d5 d6 d7 d8 d9 d10 d11
  obtain ⟨k0, k1, k2, k3, k4, k5, k6, k7, k8, k9, k10, k11⟩ := HO.out
  have d0 := cellB H47.out k0
  have d1 := cellB H47.out k1
  have d2 := cellB H47.out k2
  have d3 := cellB H47.out k3
  have d4 := cellB H47.out k4
  have d5 := cellB H47.out k5
  have d6 := cellB H47.out k6
  have d7 := cellB H47.out k7
  have d8 := cellB H47.out k8
  have d9 := cellB H47.out k9
  have d10 := cellB H47.out k10
  have d11 := cellB H47.out k11
  clear k0 k1 k2 k3 k4 k5 k6 k7 k8 k9 k10 k11
  have cC := HOW2.out x7 H37.out
  go_wp2_with fail
  refine cC.mono ?_
  rintro e x8 ⟨rfl, b8⟩
  have HB8 : Hid (Below W.heap.size W x8) := HB7.out.trans (b8.mono HB7.out.size)
  clear b8 cC d0 d1 d2 d3 d4 d5 d6 d7 d8 d9 d10 d11
  go_wp2
  go_ret
  exact ⟨rfl, HBW.out.trans (HB8.out.mono HBW.out.size)⟩
end Go.Proofs.YtbcinapnnlfnbaaGreat
