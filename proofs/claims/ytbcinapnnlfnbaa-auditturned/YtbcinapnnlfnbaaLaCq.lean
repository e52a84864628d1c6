/-
  AUDITTURNED walked, over what is asked of audit.Check (made by gen17k.py).
-/
import Derived.Test.YtbcinapnnlfnbaaLuJq
namespace Go.Proofs.Ytbcinapnnlfnbaa
open Go.RowKit Wd Tr Cg Lg

theorem sets_mir (n : Int) : ∀ {qs ps : List Pj}, qs.map Pj.v = (ps.map Pj.v).map (mirJ n) → setsN qs = setsN ps
  | [], [], _ => rfl
  | q :: qs, p :: ps, h => by
    simp only [List.map_cons, List.cons.injEq] at h
    simp only [setsN, h.1, sets_mir n h.2]
    show (mirL n p.v.set).length + _ = _
    rw [mir_len]
  | [], p :: ps, h => by simp at h
  | q :: qs, [], h => by simp at h
theorem Cpy.stinM {w w' : World} {ao ao' jo jo' : Option Addr} {la M : List Ac} {ca ca' cj cj' : Nat} {ps qs : List Pj} {n : Int} (h : StIn w ao la ca jo ps cj) (k : Cpy w w' ao' M ca' jo' qs cj') (hM : M.length = la.length) (hu : ∀ (n : Nat) (a : Ac), M[n]? = some a → Word a.us) (hnm : ∀ a ∈ M, a.nm.size ≤ maxLen) (hv : qs.map Pj.v = (ps.map Pj.v).map (mirJ n)) : StIn w' ao' M ca' jo' qs cj' := by
  obtain ⟨_, _, e1, a1, a2, _⟩ := own_val k.acc
  cases e1
  obtain ⟨_, _, e2, b1, b2, _⟩ := own_val k.job
  cases e2
  have hl : qs.length = ps.length := by have := congrArg List.length hv; simpa using this
  have hs : ∀ q ∈ qs, q.v.set.length ≤ q.sc ∧ (q.sa = none → q.v.set.length = 0 ∧ q.sc = 0) := fun q hq => by
    obtain ⟨_, _, e3, c1, c2, _⟩ := own_val (k.sets q hq)
    cases e3
    exact ⟨c1, c2⟩
  have hm : ∀ q ∈ qs, ∃ p ∈ ps, q.v.set.length = p.v.set.length := fun q hq => by
    have : q.v ∈ (ps.map Pj.v).map (mirJ n) := by rw [← hv]; exact List.mem_map_of_mem hq
    obtain ⟨v, hv1, e⟩ := List.mem_map.1 this
    obtain ⟨p, hp, rfl⟩ := List.mem_map.1 hv1
    exact ⟨p, hp, by rw [← e]; exact mir_len n _⟩
  exact ⟨acs_own k.acc, hu, hnm, by rw [hM]; exact h.l48, a1, fun e => ⟨List.length_eq_zero_iff.1 (a2 e).1, (a2 e).2⟩, ⟨jobs_own k.job, fun q hq => ints_own (k.sets q hq)⟩, by rw [hl]; exact h.l80, b1, fun e => ⟨List.length_eq_zero_iff.1 (b2 e).1, (b2 e).2⟩,
    fun q hq => by obtain ⟨p, hp, e⟩ := hm q hq; rw [e]; exact h.sl p hp, fun q hq => (hs q hq).1, fun q hq e => ⟨List.length_eq_zero_iff.1 ((hs q hq).2 e).1, ((hs q hq).2 e).2⟩⟩
set_option maxRecDepth 20000 in
set_option maxHeartbeats 8000000 in
theorem turns_any (hC : AChk) {w : World} (c : Cf) (now : Int) {ao : Option Addr} {la : List Ac} {ca : Nat} {jo : Option Addr} {ps : List Pj} {cj : Nat} (hd : Int) (h : StIn w ao la ca jo ps cj) :
    Calls Try.prog 4 #[.agg (stL c now ao la.length ca jo ps.length cj hd)] w fun e w' => e = .returned (.bool true) ∧ Below w.heap.size w w' := by
  have HHV : Hid (∀ x, Below w.heap.size w x → Calls Try.prog 6 #[.agg (stL c now ao la.length ca jo ps.length cj hd)] x fun e w' => e = .returned (.bool (decide (2147483647 < wtN la ps))) ∧ Below x.heap.size x w') := fun x hx => heavy_any c now hd (h.below hx)
  have HSH := shown_any hC
  have HCK : Hid (wtN la ps ≤ 2147483647 → ∀ x, Below w.heap.size w x → Calls Try.prog 8 #[.agg (stL c now ao la.length ca jo ps.length cj hd)] x fun e w' => e = .returned (.int .i64 (auditV (chkZ c) ⟨c, now, la, ps.map Pj.v, hd⟩)) ∧ Below x.heap.size x w') := fun hw x hx => hC x c now ao la ca jo ps cj hd (h.below hx) hw
  have HTU : Hid (1 ≤ c.nodes → c.nodes ≤ 256 → (∀ p ∈ ps, ∀ x ∈ p.v.set, -1099511627776 ≤ x ∧ x ≤ 1099511627776) → ∀ x, Below w.heap.size w x → Calls Try.prog 12 #[.agg (stL c now ao la.length ca jo ps.length cj hd)] x fun e w' => ∃ ao' ca' jo' cj' qs, e = .returned (.agg (stL c now ao' la.length ca' jo' ps.length cj' hd)) ∧ qs.map Pj.v = (ps.map Pj.v).map (mirJ c.nodes) ∧ Cpy x w' ao' (turnL la la.length) ca' jo' qs cj') := fun h1 h2 h3 x hx => turned_any c now hd (h.below hx) h1 h2 h3
  have HTC : Hid (wtN la ps ≤ 2147483647 → ∀ (x0 x : World) (ao' : Option Addr) (ca' : Nat) (jo' : Option Addr) (cj' : Nat) (qs : List Pj), Below w.heap.size w x0 → qs.map Pj.v = (ps.map Pj.v).map (mirJ c.nodes) → Cpy x0 x ao' (turnL la la.length) ca' jo' qs cj' → Calls Try.prog 8 #[.agg (stL c now ao' la.length ca' jo' ps.length cj' hd)] x (fun e w' => e = .returned (.int .i64 (auditV (chkZ c) ⟨c, now, la, ps.map Pj.v, hd⟩)) ∧ Below x.heap.size x w')) := fun hw x0 x ao' ca' jo' cj' qs hb hv k => by
    have hx0 := h.below hb
    have hlen : qs.length = ps.length := by have := congrArg List.length hv; simpa using this
    have hat : ∀ (n : Nat) (b : Ac), (turnL la la.length)[n]? = some b → ∃ a, la[n]? = some a ∧ b.us = a.us ∧ b.nm = a.nm := fun n b hb => by
      cases ha : la[n]? with
      | none => rw [turn_get, ha] at hb; cases hb
      | some a => exact ⟨a, rfl, turn_us ha hb⟩
    have hin := Cpy.stinM hx0 k (turn_len _ _) (fun n b hb => by obtain ⟨a, ha, e, _⟩ := hat n b hb; rw [e]; exact h.us n a ha) (fun b hb => by
      obtain ⟨n, hn⟩ := List.mem_iff_getElem?.1 hb
      obtain ⟨a, ha, _, e⟩ := hat n b hn
      rw [e]
      exact h.nm a (List.mem_of_getElem? ha)) hv
    have := hC x c now ao' _ ca' jo' qs cj' hd hin (by unfold wtN at hw ⊢; rw [turn_len, hlen, sets_mir _ hv]; exact hw)
    rw [hv, turn_len, hlen] at this
    have e := audit_turned (chkZ c) ⟨c, now, la, ps.map Pj.v, hd⟩ (la := turnL la la.length) (by rw [(turn_tnd la).load]) (turn_len _ _) (fun i a b ha hb => (turn_us ha hb).1)
    rw [show auditV (chkZ c) ⟨c, now, turnL la la.length, (ps.map Pj.v).map (mirJ c.nodes), hd⟩ = auditV (chkZ c) ⟨c, now, la, ps.map Pj.v, hd⟩ from e] at this
    exact this
  have HNO : Hid (¬ (1 ≤ c.nodes ∧ c.nodes ≤ 256) → auditV (chkZ c) ⟨c, now, la, ps.map Pj.v, hd⟩ = 170) := fun hn => aud_170 (fun e => hn (by obtain ⟨r, _, _⟩ := chk_ok e; exact ⟨r.n0, r.n1⟩))
  obtain ⟨g, o, hg, hrow⟩ := row_at h.jobs
  have HROW : Hid (∀ x, Below w.heap.size w x → ∀ (k : Nat) (q : Pj), ps[k]? = some q → JbAt x g (o + k * 8) q.jb) := hrow
  have HSET : Hid (∀ x, Below w.heap.size w x → ∀ p ∈ ps, IntsAt x p.sa p.v.set) := fun x hx p hp => (h.jobs.sets p hp).below hx
  have HSL : Hid (∀ p ∈ ps, p.v.set.length * 8 ≤ 140737488355328) := h.sl
  have hl2 := h.l80
  obtain ⟨L, hL⟩ : ∃ L, la.length = L := ⟨_, rfl⟩
  obtain ⟨N, hN⟩ : ∃ N, ps.length = N := ⟨_, rfl⟩
  have HNN : Hid (ps.length = N) := hN
  obtain ⟨AV, hAV⟩ : ∃ AV, auditV (chkZ c) ⟨c, now, la, ps.map Pj.v, hd⟩ = AV := ⟨_, rfl⟩
  rw [hL] at HHV HCK HTU HTC ⊢
  rw [hN] at HHV HCK HTU HTC hl2 hg ⊢
  rw [hAV] at HCK HTC HNO
  have HG : Hid (0 < N → jo = some ⟨g, o, none⟩) := hg
  clear hC h hL hN hAV hg hrow
  unfold stL at *
  obtain ⟨W, hW⟩ : ∃ W, w.alloc (.cells #[.int .i64 c.nodes, .int .i64 c.queue, .int .i64 c.limit, .int .i64 c.age, .int .i64 c.fair, .int .i64 c.size, .int .i64 c.period, .int .i64 c.half, .int .i64 now, .slice ao L ca, .slice jo N cj, .int .i64 hd] 27) = W := ⟨_, rfl⟩
  have HBW : Hid (Below w.heap.size w W) := by rw [← hW]; exact (Below.refl _ w).alloc (Nat.le_refl _) _
  have c0 : W.cell? ⟨w.heap.size, 0, none⟩ = some (.int .i64 c.nodes) := by rw [← hW]; exact cells_at (heap_alloc_new w _) rfl
  have c1 : W.cell? ⟨w.heap.size, 1, none⟩ = some (.int .i64 c.queue) := by rw [← hW]; exact cells_at (heap_alloc_new w _) rfl
  have c2 : W.cell? ⟨w.heap.size, 2, none⟩ = some (.int .i64 c.limit) := by rw [← hW]; exact cells_at (heap_alloc_new w _) rfl
  have c3 : W.cell? ⟨w.heap.size, 3, none⟩ = some (.int .i64 c.age) := by rw [← hW]; exact cells_at (heap_alloc_new w _) rfl
  have c4 : W.cell? ⟨w.heap.size, 4, none⟩ = some (.int .i64 c.fair) := by rw [← hW]; exact cells_at (heap_alloc_new w _) rfl
  have c5 : W.cell? ⟨w.heap.size, 5, none⟩ = some (.int .i64 c.size) := by rw [← hW]; exact cells_at (heap_alloc_new w _) rfl
  have c6 : W.cell? ⟨w.heap.size, 6, none⟩ = some (.int .i64 c.period) := by rw [← hW]; exact cells_at (heap_alloc_new w _) rfl
  have c7 : W.cell? ⟨w.heap.size, 7, none⟩ = some (.int .i64 c.half) := by rw [← hW]; exact cells_at (heap_alloc_new w _) rfl
  have c8 : W.cell? ⟨w.heap.size, 8, none⟩ = some (.int .i64 now) := by rw [← hW]; exact cells_at (heap_alloc_new w _) rfl
  have c9 : W.cell? ⟨w.heap.size, 9, none⟩ = some (.slice ao L ca) := by rw [← hW]; exact cells_at (heap_alloc_new w _) rfl
  have c10 : W.cell? ⟨w.heap.size, 10, none⟩ = some (.slice jo N cj) := by rw [← hW]; exact cells_at (heap_alloc_new w _) rfl
  have c11 : W.cell? ⟨w.heap.size, 11, none⟩ = some (.int .i64 hd) := by rw [← hW]; exact cells_at (heap_alloc_new w _) rfl
  have HK : Hid (W.cell? ⟨w.heap.size, 0, none⟩ = some (.int .i64 c.nodes) ∧ W.cell? ⟨w.heap.size, 1, none⟩ = some (.int .i64 c.queue) ∧ W.cell? ⟨w.heap.size, 2, none⟩ = some (.int .i64 c.limit) ∧ W.cell? ⟨w.heap.size, 3, none⟩ = some (.int .i64 c.age) ∧ W.cell? ⟨w.heap.size, 4, none⟩ = some (.int .i64 c.fair) ∧ W.cell? ⟨w.heap.size, 5, none⟩ = some (.int .i64 c.size) ∧ W.cell? ⟨w.heap.size, 6, none⟩ = some (.int .i64 c.period) ∧ W.cell? ⟨w.heap.size, 7, none⟩ = some (.int .i64 c.half) ∧ W.cell? ⟨w.heap.size, 8, none⟩ = some (.int .i64 now) ∧ W.cell? ⟨w.heap.size, 9, none⟩ = some (.slice ao L ca) ∧ W.cell? ⟨w.heap.size, 10, none⟩ = some (.slice jo N cj) ∧ W.cell? ⟨w.heap.size, 11, none⟩ = some (.int .i64 hd)) := ⟨c0, c1, c2, c3, c4, c5, c6, c7, c8, c9, c10, c11⟩
  have cH := HHV.out W HBW.out
  clear HHV
  go_enter Try.func4, Try.ntmps4
  go_wp2_with fail
  refine cH.mono ?_
  rintro e x1 ⟨rfl, b1⟩
  have HB1 : Hid (Below W.heap.size W x1) := b1
  clear b1 hW cH c0 c1 c2 c3 c4 c5 c6 c7 c8 c9 c10 c11
  by_cases hhv : 2147483647 < wtN la ps
  · rw [decide_eq_true hhv]
    clear hhv
    go_wp2
    go_ret
    exact ⟨rfl, HBW.out.trans (HB1.out.mono HBW.out.size)⟩
  rw [decide_eq_false hhv]
  have HWT : Hid (wtN la ps ≤ 2147483647) := (Nat.not_lt.1 hhv)
  clear hhv
  go_wp2_with fail
  refine (HSH _).mono ?_
  rintro e x2 ⟨rfl, b2⟩
  have HB2 : Hid (Below W.heap.size W x2) := HB1.out.trans (b2.mono HB1.out.size)
  clear b2 HB1 HSH
  obtain ⟨k0, k1, k2, k3, k4, k5, k6, k7, k8, k9, k10, k11⟩ := HK.out
  have m0 := cellB HB2.out k0
  have m1 := cellB HB2.out k1
  have m2 := cellB HB2.out k2
  have m3 := cellB HB2.out k3
  have m4 := cellB HB2.out k4
  have m5 := cellB HB2.out k5
  have m6 := cellB HB2.out k6
  have m7 := cellB HB2.out k7
  have m8 := cellB HB2.out k8
  have m9 := cellB HB2.out k9
  have m10 := cellB HB2.out k10
  have m11 := cellB HB2.out k11
  clear k0 k1 k2 k3 k4 k5 k6 k7 k8 k9 k10 k11
  have cC := HCK.out HWT.out x2 (HBW.out.trans (HB2.out.mono HBW.out.size))
  by_cases hn : ¬ (1 ≤ c.nodes ∧ c.nodes ≤ 256)
  · have HA := HNO.out hn
    subst HA
    by_cases h1 : c.nodes < 1
    · skip
      go_wp2_with fail
      refine cC.mono ?_
      rintro e x3 ⟨rfl, b3⟩
      have HE : Hid (Below w.heap.size w x3) := HBW.out.trans ((HB2.out.trans (b3.mono HB2.out.size)).mono HBW.out.size)
      clear b3 cC
      go_wp2
      go_ret
      exact ⟨rfl, HE.out⟩
    · have h2 : 256 < c.nodes := by omega
      go_wp2_with fail
      refine cC.mono ?_
      rintro e x3 ⟨rfl, b3⟩
      have HE : Hid (Below w.heap.size w x3) := HBW.out.trans ((HB2.out.trans (b3.mono HB2.out.size)).mono HBW.out.size)
      clear b3 cC
      go_wp2
      go_ret
      exact ⟨rfl, HE.out⟩
  replace hn := Decidable.not_not.1 hn
  have HTU2 := HTU.out hn.1 hn.2
  have HTU3 : Hid ((∀ p ∈ ps, ∀ x ∈ p.v.set, -1099511627776 ≤ x ∧ x ≤ 1099511627776) → ∀ x, Below w.heap.size w x → Calls Try.prog 12 #[.agg #[.int .i64 c.nodes, .int .i64 c.queue, .int .i64 c.limit, .int .i64 c.age, .int .i64 c.fair, .int .i64 c.size, .int .i64 c.period, .int .i64 c.half, .int .i64 now, .slice ao L ca, .slice jo N cj, .int .i64 hd]] x fun e w' => ∃ ao' ca' jo' cj' qs, e = .returned (.agg #[.int .i64 c.nodes, .int .i64 c.queue, .int .i64 c.limit, .int .i64 c.age, .int .i64 c.fair, .int .i64 c.size, .int .i64 c.period, .int .i64 c.half, .int .i64 now, .slice ao' L ca', .slice jo' N cj', .int .i64 hd]) ∧ qs.map Pj.v = (ps.map Pj.v).map (mirJ c.nodes) ∧ Cpy x w' ao' (turnL la L) ca' jo' qs cj') := HTU2
  obtain ⟨hn1, hn2⟩ := hn
  have hn1' : ¬ c.nodes < 1 := by omega
  have hn2' : ¬ 256 < c.nodes := by omega
  clear HTU2 HTU cC HNO
  go_wp2
  clear m0 m1 m2 m3 m4 m5 m6 m7 m8 m9 m10 m11
  go_loopg [27] N (fun gk pk wr => ∃ i : Nat, i + gk = N ∧ pk = .int .i64 i ∧ Below W.heap.size W wr ∧ ∀ p ∈ ps.take i, ∀ x ∈ p.v.set, -1099511627776 ≤ x ∧ x ≤ 1099511627776)
  case atStart => exact ⟨0, by omega, rfl, HB2.out, fun p hp => by simp at hp⟩
  case round =>
    clear HB2
    obtain ⟨i, hi, rfl, hb, hr⟩ := hrel
    have HB : Hid (Below W.heap.size W wr) := hb
    have HR : Hid (∀ p ∈ ps.take i, ∀ x ∈ p.v.set, -1099511627776 ≤ x ∧ x ≤ 1099511627776) := hr
    clear hb hr
    by_cases hlt : i < N
    · have hlt' : (i : Int) < N := by omega
      obtain ⟨p, hp⟩ : ∃ p, ps[i]? = some p := ⟨_, List.getElem?_eq_getElem (by rw [HNN.out]; exact hlt)⟩
      obtain rfl := HG.out (by omega)
      obtain ⟨d0, d1, d2, d3, d4, d5, d6, d7⟩ := HROW.out wr (HBW.out.trans (HB.out.mono HBW.out.size)) i p hp
      have HPM : Hid (p ∈ ps) := List.mem_of_getElem? hp
      have HTK : Hid (ps.take (i + 1) = ps.take i ++ [p]) := (show ps.take (i + 1) = ps.take i ++ [p] by obtain ⟨h1, rfl⟩ := List.getElem?_eq_some_iff.1 hp; exact List.take_succ_eq_append_getElem h1)
      have hp8 := HSL.out p HPM.out
      have HIN : Hid (∀ x, Below w.heap.size w x → IntsAt x p.sa p.v.set) := fun x hx => HSET.out x hx p HPM.out
      clear hp HPM
      obtain ⟨⟨ac, nd, lm, sb, st, sr, en, xs⟩, sa, sc⟩ := p
      dsimp only [Pj.jb] at d0 d1 d2 d3 d4 d5 d6 d7 hp8 HIN
      obtain ⟨m, hm⟩ : ∃ m, xs.length = m := ⟨_, rfl⟩
      have HMM : Hid (xs.length = m) := hm
      rw [hm] at d7 hp8
      clear hm
      obtain ⟨w3, hw3⟩ : ∃ w3, wr.alloc (.cells #[.int .i64 ac, .int .i64 nd, .int .i64 lm, .int .i64 sb, .int .i64 st, .int .i64 sr, .int .i64 en, .slice sa m sc] 38) = w3 := ⟨_, rfl⟩
      have HB3 : Hid (Below W.heap.size W w3) := by rw [← hw3]; exact HB.out.alloc HB.out.size _
      have j7 : w3.cell? ⟨wr.heap.size, 7, none⟩ = some (.slice sa m sc) := by rw [← hw3]; exact cells_at (heap_alloc_new wr _) rfl
      go_wp2
      clear d0 d1 d2 d3 d4 d5 d6 d7 j7 hw3
      go_loopg [34] m (fun gk pl wx => ∃ k : Nat, k + gk = m ∧ pl = .int .i64 k ∧ w3 = wx ∧ ∀ x ∈ xs.take k, -1099511627776 ≤ x ∧ x ≤ 1099511627776)
      case atStart => exact ⟨0, by omega, rfl, rfl, fun x hx => by simp at hx⟩
      case round =>
        obtain ⟨k, hk, rfl, rfl, hxs⟩ := hrel
        have HXS : Hid (∀ x ∈ xs.take k, -1099511627776 ≤ x ∧ x ≤ 1099511627776) := hxs
        clear hxs
        by_cases hltk : k < m
        · have hltk' : (k : Int) < m := by omega
          obtain ⟨x, hx⟩ : ∃ x, xs[k]? = some x := ⟨_, List.getElem?_eq_getElem (by rw [HMM.out]; exact hltk)⟩
          obtain ⟨gs, os, hgs, hcs⟩ := HIN.out w3 (HBW.out.trans (HB3.out.mono HBW.out.size))
          obtain rfl := hgs (by rw [HMM.out]; omega)
          have u0 := hcs k x hx
          have HXT : Hid (xs.take (k + 1) = xs.take k ++ [x]) := (show xs.take (k + 1) = xs.take k ++ [x] by obtain ⟨h1, rfl⟩ := List.getElem?_eq_some_iff.1 hx; exact List.take_succ_eq_append_getElem h1)
          clear hcs hgs hx
          by_cases g1 : x < -1099511627776
          · go_wp2
            go_ret
            exact ⟨rfl, HBW.out.trans (HB3.out.mono HBW.out.size)⟩
          by_cases g2 : 1099511627776 < x
          · go_wp2
            go_ret
            exact ⟨rfl, HBW.out.trans (HB3.out.mono HBW.out.size)⟩
          go_wp2
          go_roundg (m - (k + 1))
          case measure => omega
          case rel =>
            refine ⟨k + 1, by omega, rfl, rfl, fun y hy => ?_⟩
            rw [HXT.out] at hy
            rcases List.mem_append.1 hy with h | h
            · exact HXS.out y h
            · have e : y = x := by simpa using h
              omega
        · obtain rfl : k = m := by omega
          have HXA : Hid (∀ x ∈ xs, -1099511627776 ≤ x ∧ x ≤ 1099511627776) := by
            have := HXS.out
            rw [List.take_of_length_le (by rw [HMM.out]; omega)] at this
            exact this
          clear HXS
          go_wp2
          go_roundg (N - (i + 1))
          case measure => omega
          case rel =>
            refine ⟨i + 1, by omega, rfl, HB3.out, fun q hq => ?_⟩
            rw [HTK.out] at hq
            rcases List.mem_append.1 hq with h | h
            · exact HR.out q h
            · have e : q = ⟨⟨ac, nd, lm, sb, st, sr, en, xs⟩, sa, sc⟩ := by simpa using h
              rw [e]
              exact HXA.out
    · obtain rfl : i = N := by omega
      have hall := HR.out
      rw [List.take_of_length_le (by rw [HNN.out]; omega)] at hall
      have HT4 := HTU3.out hall
      have HT5 : Hid (∀ x, Below w.heap.size w x → Calls Try.prog 12 #[.agg #[.int .i64 c.nodes, .int .i64 c.queue, .int .i64 c.limit, .int .i64 c.age, .int .i64 c.fair, .int .i64 c.size, .int .i64 c.period, .int .i64 c.half, .int .i64 now, .slice ao L ca, .slice jo i cj, .int .i64 hd]] x fun e w' => ∃ ao' ca' jo' cj' qs, e = .returned (.agg #[.int .i64 c.nodes, .int .i64 c.queue, .int .i64 c.limit, .int .i64 c.age, .int .i64 c.fair, .int .i64 c.size, .int .i64 c.period, .int .i64 c.half, .int .i64 now, .slice ao' L ca', .slice jo' i cj', .int .i64 hd]) ∧ qs.map Pj.v = (ps.map Pj.v).map (mirJ c.nodes) ∧ Cpy x w' ao' (turnL la L) ca' jo' qs cj') := HT4
      clear hall HT4 HTU3 HR
      obtain ⟨V, hV⟩ : ∃ V, wr = V := ⟨_, rfl⟩
      rw [hV] at HB ⊢
      clear hV
      obtain ⟨k0, k1, k2, k3, k4, k5, k6, k7, k8, k9, k10, k11⟩ := HK.out
      have m0 := cellB HB.out k0
      have m1 := cellB HB.out k1
      have m2 := cellB HB.out k2
      have m3 := cellB HB.out k3
      have m4 := cellB HB.out k4
      have m5 := cellB HB.out k5
      have m6 := cellB HB.out k6
      have m7 := cellB HB.out k7
      have m8 := cellB HB.out k8
      have m9 := cellB HB.out k9
      have m10 := cellB HB.out k10
      have m11 := cellB HB.out k11
      clear k0 k1 k2 k3 k4 k5 k6 k7 k8 k9 k10 k11
      have HBV : Hid (Below w.heap.size w V) := HBW.out.trans (HB.out.mono HBW.out.size)
      have cT := HT5.out V.drew (HBV.out.trans ((drew_below V).mono HBV.out.size))
      have HCK2 := HCK.out HWT.out
      have HTC2 := HTC.out HWT.out
      go_upto_region 17 with fail
      refine wp_region_last (S := (fun x' : World => Below V.heap.size V x')) (L := 99) (by kernel_rfl) ?_
      have HSW0 : (fun x' : World => Below V.heap.size V x') (V.drew) := drew_below V
      refine last_takeF (i := 0) (v := ?v0k1) rfl (by kernel_rfl) (by kernel_rfl) (by kernel_rfl) (by kernel_rfl) rfl (fun _ _ _ h => h) (by rfl) HSW0 ?hy0k1 ?rest0k1
      case hy0k1 =>
        intro xx hSx
        have f0 := cellB hSx m0
        have f1 := cellB hSx m1
        have f2 := cellB hSx m2
        have f3 := cellB hSx m3
        have f4 := cellB hSx m4
        have f5 := cellB hSx m5
        have f6 := cellB hSx m6
        have f7 := cellB hSx m7
        have f8 := cellB hSx m8
        have f9 := cellB hSx m9
        have f10 := cellB hSx m10
        have f11 := cellB hSx m11
        go_simp
        try (with_reducible rfl)
      simp only [Act.put, List.setIfInBounds_toArray, List.set_cons_zero, List.set_cons_succ]
      refine last_takeF (i := 3) (v := ?v3k2) rfl (by kernel_rfl) (by kernel_rfl) (by kernel_rfl) (by kernel_rfl) rfl (fun _ _ _ h => h) (by rfl) HSW0 ?hy3k2 ?rest3k2
      case hy3k2 =>
        intro xx hSx
        have f0 := cellB hSx m0
        have f1 := cellB hSx m1
        have f2 := cellB hSx m2
        have f3 := cellB hSx m3
        have f4 := cellB hSx m4
        have f5 := cellB hSx m5
        have f6 := cellB hSx m6
        have f7 := cellB hSx m7
        have f8 := cellB hSx m8
        have f9 := cellB hSx m9
        have f10 := cellB hSx m10
        have f11 := cellB hSx m11
        go_simp
        try (with_reducible rfl)
      simp only [Act.put, List.setIfInBounds_toArray, List.set_cons_zero, List.set_cons_succ]
      refine last_one (i := 1) (by kernel_rfl) rfl ?_
      intro K hK
      go_simp
      go_at_call 12
      refine (cT).mono ?_
      rintro e Z1 ⟨ao', ca', jo', cj', qs, rfl, hv, hk⟩
      have HSZ1 : (fun x' : World => Below V.heap.size V x') Z1 := HSW0.trans (hk.bel.mono HSW0.size)
      go_simp
      refine hK.out _ _ (fun _ => HSZ1) (fun _ => ?_)
      clear hK K HSW0
      refine last_one (i := 2) (by kernel_rfl) rfl ?_
      intro K hK
      go_simp
      go_at_call 8
      refine (HTC2 V.drew Z1 ao' ca' jo' cj' qs (HBV.out.trans ((drew_below V).mono HBV.out.size)) hv hk).mono ?_
      rintro e Z2 ⟨rfl, bz2⟩
      have HSZ2 : (fun x' : World => Below V.heap.size V x') Z2 := HSZ1.trans (bz2.mono HSZ1.size)
      go_simp
      refine hK.out _ _ (fun _ => HSZ2) (fun _ => ?_)
      clear hK K HSZ1
      refine last_one (i := 4) (by kernel_rfl) rfl ?_
      intro K hK
      go_simp
      go_at_call 8
      refine (HCK2 Z2 (HBV.out.trans (HSZ2.mono HBV.out.size))).mono ?_
      rintro e Z3 ⟨rfl, bz3⟩
      have HSZ3 : (fun x' : World => Below V.heap.size V x') Z3 := HSZ2.trans (bz3.mono HSZ2.size)
      go_simp
      refine hK.out _ _ (fun _ => HSZ3) (fun _ => ?_)
      clear hK K HSZ2
      refine last_takeF (i := 5) (v := ?v5k3) rfl (by kernel_rfl) (by kernel_rfl) (by kernel_rfl) (by kernel_rfl) rfl (fun _ _ _ h => h) (by rfl) HSZ3 ?hy5k3 ?rest5k3
      case hy5k3 =>
        intro xx hSx
        have f0 := cellB hSx m0
        have f1 := cellB hSx m1
        have f2 := cellB hSx m2
        have f3 := cellB hSx m3
        have f4 := cellB hSx m4
        have f5 := cellB hSx m5
        have f6 := cellB hSx m6
        have f7 := cellB hSx m7
        have f8 := cellB hSx m8
        have f9 := cellB hSx m9
        have f10 := cellB hSx m10
        have f11 := cellB hSx m11
        go_simp
        try (with_reducible rfl)
      simp only [Act.put, List.setIfInBounds_toArray, List.set_cons_zero, List.set_cons_succ]
      refine last_takeF (i := 6) (v := ?v6k4) rfl (by kernel_rfl) (by kernel_rfl) (by kernel_rfl) (by kernel_rfl) rfl (fun _ _ _ h => h) (by rfl) HSZ3 ?hy6k4 ?rest6k4
      case hy6k4 =>
        intro xx hSx
        have f0 := cellB hSx m0
        have f1 := cellB hSx m1
        have f2 := cellB hSx m2
        have f3 := cellB hSx m3
        have f4 := cellB hSx m4
        have f5 := cellB hSx m5
        have f6 := cellB hSx m6
        have f7 := cellB hSx m7
        have f8 := cellB hSx m8
        have f9 := cellB hSx m9
        have f10 := cellB hSx m10
        have f11 := cellB hSx m11
        go_simp
        try (with_reducible rfl)
      simp only [Act.put, List.setIfInBounds_toArray, List.set_cons_zero, List.set_cons_succ]
      refine last_done (by kernel_rfl) ?_ _
      have HE : Hid (Below w.heap.size w Z3) := HBV.out.trans (HSZ3.mono HBV.out.size)
      clear HSZ3 bz2 bz3 hv hk
      go_wp2
      go_ret
      exact ⟨rfl, HE.out⟩
end Go.Proofs.Ytbcinapnnlfnbaa
