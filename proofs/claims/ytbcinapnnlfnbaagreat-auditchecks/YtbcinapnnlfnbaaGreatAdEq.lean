/-
  LAYER 17, package audit: needConfig, needClock, needTree, needQueue, needHolder, needUsage (made by gen17bb.py).
-/
import Derived.Test.YtbcinapnnlfnbaaGreatRuFq
import Derived.Test.YtbcinapnnlfnbaaGreatXad
import Derived.Test.YtbcinapnnlfnbaaGreatXpg
import Derived.Test.YtbcinapnnlfnbaaGreatXcq
import Derived.Test.YtbcinapnnlfnbaaGreatAuNq
namespace Go.Proofs.YtbcinapnnlfnbaaGreat
open Go.RowKit Wd Tr Cg Lg

section
variable {w : World} (c : Cf) (now : Int) (ao : Option Addr) (na ca : Nat) (jo : Option Addr) (N cj : Nat) (hd : Int)
set_option maxRecDepth 20000 in
theorem needConfig_any : Calls Tryz.prog 12 #[.agg (stL c now ao na ca jo N cj hd)] w fun e w' => e = asksE (chkZ c == 0) 170 ∧ Below w.heap.size w w' := by
  have cC := pcheck_any c
  have cQ := need_any
  unfold stL
  unfold cfV at cC
  generalize chkZ c = q at *
  cases t : (q == 0) with
  | true =>
    go_enter Tryz.func12, Tryz.ntmps12
    go_wp2_with (first | (go_at_call 28; refine (cC _).mono ?_; rintro e w1 ⟨rfl, hb⟩) | (go_at_call 27; refine (cQ _ _ _).mono ?_; rintro e w1 ⟨rfl, hw1⟩; obtain rfl := hw1.symm; (first | rw [t] | skip); first | rw [asksE_yes] | rw [asksE_no]))
    go_end0
    exact ⟨rfl, ((Below.refl _ w).alloc (Nat.le_refl _) _).trans (hb.mono (by simp))⟩
  | false =>
    go_enter Tryz.func12, Tryz.ntmps12
    go_wp2_with (first | (go_at_call 28; refine (cC _).mono ?_; rintro e w1 ⟨rfl, hb⟩) | (go_at_call 27; refine (cQ _ _ _).mono ?_; rintro e w1 ⟨rfl, hw1⟩; obtain rfl := hw1.symm; (first | rw [t] | skip); first | rw [asksE_yes] | rw [asksE_no]))
    exact ⟨rfl, rfl, ((Below.refl _ w).alloc (Nat.le_refl _) _).trans (hb.mono (by simp))⟩
set_option maxRecDepth 20000 in
theorem needClock_any : Calls Tryz.prog 13 #[.agg (stL c now ao na ca jo N cj hd)] w fun e w' => e = asksE (fromB 0 1099511627776 now) 171 ∧ Below w.heap.size w w' := by
  have cF := from_any
  have cQ := need_any
  unfold stL
  cases t : fromB 0 1099511627776 now with
  | true =>
    go_enter Tryz.func13, Tryz.ntmps13
    go_wp2_with (first | (go_at_call 29; refine (cF _ _ _ _).mono ?_; rintro e w1 ⟨rfl, hw1⟩; obtain rfl := hw1.symm; rw [t]) | (go_at_call 27; refine (cQ _ _ _).mono ?_; rintro e w1 ⟨rfl, hw1⟩; obtain rfl := hw1.symm; (first | rw [t] | skip); first | rw [asksE_yes] | rw [asksE_no]))
    go_end0
    exact ⟨rfl, (Below.refl _ w).alloc (Nat.le_refl _) _⟩
  | false =>
    go_enter Tryz.func13, Tryz.ntmps13
    go_wp2_with (first | (go_at_call 29; refine (cF _ _ _ _).mono ?_; rintro e w1 ⟨rfl, hw1⟩; obtain rfl := hw1.symm; rw [t]) | (go_at_call 27; refine (cQ _ _ _).mono ?_; rintro e w1 ⟨rfl, hw1⟩; obtain rfl := hw1.symm; (first | rw [t] | skip); first | rw [asksE_yes] | rw [asksE_no]))
    exact ⟨rfl, rfl, (Below.refl _ w).alloc (Nat.le_refl _) _⟩
end
set_option maxRecDepth 20000 in
theorem needTree_any {w : World} (c : Cf) (now : Int) {ao : Option Addr} {la : List Ac} {ca : Nat} (jo : Option Addr) (N cj : Nat) (hd : Int) (hA : AcsAt w ao la) (hs : ∀ a ∈ la, a.nm.size ≤ maxLen) (hn : la.length * 48 ≤ 140737488355328) (hc : la.length ≤ ca) :
    Calls Tryz.prog 14 #[.agg (stL c now ao la.length ca jo N cj hd)] w fun e w' => e = asksE (loadE la == 0) 172 ∧ Below w.heap.size w w' := by
  have cL : ∀ x, Below w.heap.size w x → Calls Tryz.prog 30 #[.slice ao la.length ca] x fun e w' => ∃ v, e = .returned (.tuple #[.pointer v, .int .i64 (loadE la)]) ∧ Below x.heap.size x w' := fun x hx => (pload_any (hA.below hx) hs hn hc).mono (fun e w' h => by
    by_cases h0 : loadE la = 0
    · obtain ⟨t, e1, _⟩ := h.1 h0
      exact ⟨_, by rw [h0]; exact e1, h.2.2⟩
    · exact ⟨_, h.2.1 h0, h.2.2⟩)
  have cQ := need_any
  unfold stL
  generalize loadE la = q at *
  generalize la.length = L at *
  clear hA hs hn hc
  have hbW : ∀ o : Obj, Below w.heap.size w (w.alloc o) := fun o => (Below.refl _ w).alloc (Nat.le_refl _) _
  cases t : (q == 0) with
  | true =>
    go_enter Tryz.func14, Tryz.ntmps14
    go_wp2_with (first | (go_at_call 30; refine (cL _ (hbW _)).mono ?_; rintro e w1 ⟨v, rfl, hb⟩) | (go_at_call 27; refine (cQ _ _ _).mono ?_; rintro e w1 ⟨rfl, hw1⟩; obtain rfl := hw1.symm; (first | rw [t] | skip); first | rw [asksE_yes] | rw [asksE_no]))
    go_end0
    exact ⟨rfl, (hbW _).trans (hb.mono (by simp))⟩
  | false =>
    go_enter Tryz.func14, Tryz.ntmps14
    go_wp2_with (first | (go_at_call 30; refine (cL _ (hbW _)).mono ?_; rintro e w1 ⟨v, rfl, hb⟩) | (go_at_call 27; refine (cQ _ _ _).mono ?_; rintro e w1 ⟨rfl, hw1⟩; obtain rfl := hw1.symm; (first | rw [t] | skip); first | rw [asksE_yes] | rw [asksE_no]))
    exact ⟨rfl, rfl, (hbW _).trans (hb.mono (by simp))⟩
set_option maxHeartbeats 1000000 in
set_option maxRecDepth 20000 in
theorem needQueue_any {w : World} (c : Cf) (now : Int) (ao : Option Addr) (na ca : Nat) {jo : Option Addr} {ps : List Pj} (cj : Nat) (hd : Int) (hJ : PjsAt w jo ps) (hl : ps.length ≤ 140737488355328) :
    Calls Tryz.prog 16 #[.agg (stL c now ao na ca jo ps.length cj hd)] w fun e w' => e = asksE (decide ((pendN (ps.map Pj.v) : Int) ≤ c.queue)) 175 ∧ Below w.heap.size w w' := by
  have cQ := need_any
  obtain ⟨g, o, hg, hrow⟩ := row_at hJ
  have HROW : Hid (∀ x, Below w.heap.size w x → ∀ (k : Nat) (q : Pj), ps[k]? = some q → JbAt x g (o + k * 8) q.jb) := hrow
  have HGET : Hid (∀ k, k < ps.length → ∃ q, ps[k]? = some q ∧ (ps.map Pj.v)[k]? = some q.v) := fun k hk => ⟨_, List.getElem?_eq_getElem hk, vmap_at (List.getElem?_eq_getElem hk)⟩
  have HALL : Hid ((ps.map Pj.v).take ps.length = ps.map Pj.v) := List.take_of_length_le (by simp)
  have HPL : Hid (∀ k, pendN ((ps.map Pj.v).take k) ≤ k) := fun k => Nat.le_trans (pend_le _) (by rw [List.length_take]; omega)
  obtain ⟨vs, hvs⟩ : ∃ vs, ps.map Pj.v = vs := ⟨_, rfl⟩
  rw [hvs] at HGET HALL HPL ⊢
  obtain ⟨N, hN⟩ : ∃ N, ps.length = N := ⟨_, rfl⟩
  rw [hN] at hl hg HGET HALL ⊢
  have HG : Hid (0 < N → jo = some ⟨g, o, none⟩) := hg
  clear hN hg hrow hJ hvs
  unfold stL
  obtain ⟨W, hW⟩ : ∃ W, w.alloc (.cells #[.int .i64 c.nodes, .int .i64 c.queue, .int .i64 c.limit, .int .i64 c.age, .int .i64 c.fair, .int .i64 c.size, .int .i64 c.period, .int .i64 c.half, .int .i64 now, .slice ao na ca, .slice jo N cj, .int .i64 hd] 27) = W := ⟨_, rfl⟩
  have HBW : Hid (Below w.heap.size w W) := by show Below w.heap.size w W; rw [← hW]; exact (Below.refl _ w).alloc (Nat.le_refl _) _
  have k0 : W.cell? ⟨w.heap.size, 0, none⟩ = some (.int .i64 c.nodes) := by rw [← hW]; exact cells_at (heap_alloc_new w _) rfl
  have k1 : W.cell? ⟨w.heap.size, 1, none⟩ = some (.int .i64 c.queue) := by rw [← hW]; exact cells_at (heap_alloc_new w _) rfl
  have k2 : W.cell? ⟨w.heap.size, 2, none⟩ = some (.int .i64 c.limit) := by rw [← hW]; exact cells_at (heap_alloc_new w _) rfl
  have k3 : W.cell? ⟨w.heap.size, 3, none⟩ = some (.int .i64 c.age) := by rw [← hW]; exact cells_at (heap_alloc_new w _) rfl
  have k4 : W.cell? ⟨w.heap.size, 4, none⟩ = some (.int .i64 c.fair) := by rw [← hW]; exact cells_at (heap_alloc_new w _) rfl
  have k5 : W.cell? ⟨w.heap.size, 5, none⟩ = some (.int .i64 c.size) := by rw [← hW]; exact cells_at (heap_alloc_new w _) rfl
  have k6 : W.cell? ⟨w.heap.size, 6, none⟩ = some (.int .i64 c.period) := by rw [← hW]; exact cells_at (heap_alloc_new w _) rfl
  have k7 : W.cell? ⟨w.heap.size, 7, none⟩ = some (.int .i64 c.half) := by rw [← hW]; exact cells_at (heap_alloc_new w _) rfl
  have k8 : W.cell? ⟨w.heap.size, 8, none⟩ = some (.int .i64 now) := by rw [← hW]; exact cells_at (heap_alloc_new w _) rfl
  have k9 : W.cell? ⟨w.heap.size, 9, none⟩ = some (.slice ao na ca) := by rw [← hW]; exact cells_at (heap_alloc_new w _) rfl
  have k10 : W.cell? ⟨w.heap.size, 10, none⟩ = some (.slice jo N cj) := by rw [← hW]; exact cells_at (heap_alloc_new w _) rfl
  have k11 : W.cell? ⟨w.heap.size, 11, none⟩ = some (.int .i64 hd) := by rw [← hW]; exact cells_at (heap_alloc_new w _) rfl
  go_enter Tryz.func16, Tryz.ntmps16
  go_wp2
  try rw [hW]
  clear hW
  go_loopg [2, 8] N (fun gk v1 v2 wr => ∃ k : Nat, k + gk = N ∧ v1 = .int .i64 (pendN (vs.take k) : Int) ∧ v2 = .int .i64 (k : Int) ∧ Below W.heap.size W wr)
  case atStart => exact ⟨0, by omega, rfl, rfl, Below.refl _ _⟩
  case round =>
    obtain ⟨k, hk, rfl, rfl, hbr⟩ := hrel
    have HBR : Hid (Below W.heap.size W wr) := hbr
    have HB2 : Hid (Below w.heap.size w wr) := HBW.out.trans (hbr.mono HBW.out.size)
    have HK : Hid (k + gk = N) := hk
    have hpl := HPL.out k
    by_cases hlt : k < N
    · have hlt' : (k : Int) < (N : Int) := by omega
      obtain ⟨p, hp, hv⟩ := HGET.out k hlt
      obtain rfl := HG.out (by omega)
      obtain ⟨y0, y1, y2, y3, y4, y5, y6, y7⟩ := HROW.out wr HB2.out k p hp
      have HPS : Hid (pendN (vs.take (k + 1)) = pendN (vs.take k) + (if p.v.st = 1 then 1 else 0)) := pend_succ hv
      clear hp hv
      obtain ⟨⟨ac, nd, lm, sb, st, sr, en, xs⟩, sa, sc⟩ := p
      dsimp only [Pj.jb] at y0 y1 y2 y3 y4 y5 y6 y7 HPS
      have q10 := cellB hbr k10
      have HNX : Hid (∀ o, Below W.heap.size W (wr.alloc o)) := fun o => HBR.out.alloc HBR.out.size _
      clear hbr
      by_cases hst : st = 1
      · subst hst
        replace HPS : Hid (((pendN (vs.take (k + 1)) : Nat) : Int) = (pendN (vs.take k) : Int) + 1) := by show ((pendN (vs.take (k + 1)) : Nat) : Int) = _; rw [HPS.out]; simp
        go_wp2
        go_roundg (N - (k + 1))
        case measure => have := HK.out; omega
        case rel => exact ⟨k + 1, by omega, by rw [HPS.out], by simp, HNX.out _⟩
      · replace HPS : Hid (pendN (vs.take (k + 1)) = pendN (vs.take k)) := by show pendN (vs.take (k + 1)) = _; rw [HPS.out, if_neg hst]; rfl
        go_wp2
        go_roundg (N - (k + 1))
        case measure => have := HK.out; omega
        case rel => exact ⟨k + 1, by omega, by rw [HPS.out], by simp, HNX.out _⟩
    · obtain rfl : k = N := by omega
      have q1 := cellB hbr k1
      rw [HALL.out]
      clear hbr hpl
      cases t : decide ((pendN vs : Int) ≤ c.queue) with
      | true =>
        go_wp2_with (go_at_call 27; refine (cQ _ _ _).mono ?_; rintro e w1 ⟨rfl, hw1⟩; obtain rfl := hw1.symm; (first | rw [t] | skip); first | rw [asksE_yes] | rw [asksE_no])
        go_end0
        exact ⟨by rw [t]; rfl, HB2.out⟩
      | false =>
        go_wp2_with (go_at_call 27; refine (cQ _ _ _).mono ?_; rintro e w1 ⟨rfl, hw1⟩; obtain rfl := hw1.symm; (first | rw [t] | skip); first | rw [asksE_yes] | rw [asksE_no])
        exact ⟨rfl, by rw [t]; rfl, HB2.out⟩
set_option maxHeartbeats 1000000 in
set_option maxRecDepth 20000 in
theorem needHolder_any {w : World} (c : Cf) (now : Int) (ao : Option Addr) (la : List Ac) (na ca : Nat) {jo : Option Addr} {ps : List Pj} (cj : Nat) (hd : Int) (hJ : PjsAt w jo ps) (hl : ps.length ≤ 140737488355328) :
    Calls Tryz.prog 19 #[.agg (stL c now ao na ca jo ps.length cj hd)] w fun e w' => e = asksE (holdB ⟨c, now, la, ps.map Pj.v, hd⟩) 177 ∧ Below w.heap.size w w' := by
  have cQ := need_any
  have cF := from_any
  obtain ⟨g, o, hg, hrow⟩ := row_at hJ
  have HROW : Hid (∀ x, Below w.heap.size w x → ∀ (k : Nat) (q : Pj), ps[k]? = some q → JbAt x g (o + k * 8) q.jb) := hrow
  have HGET : Hid (∀ k, k < ps.length → ∃ q, ps[k]? = some q ∧ (ps.map Pj.v)[k]? = some q.v) := fun k hk => ⟨_, List.getElem?_eq_getElem hk, vmap_at (List.getElem?_eq_getElem hk)⟩
  have HNO : Hid (∀ k, ps.length ≤ k → (ps.map Pj.v)[k]? = none) := fun k hk => List.getElem?_eq_none (by simpa using hk)
  obtain ⟨AV, hAV⟩ : ∃ AV, asksE (holdB ⟨c, now, la, ps.map Pj.v, hd⟩) 177 = AV := ⟨_, rfl⟩
  have HAV : Hid (asksE (holdB ⟨c, now, la, ps.map Pj.v, hd⟩) 177 = AV) := hAV
  rw [hAV]
  clear hAV
  obtain ⟨vs, hvs⟩ : ∃ vs, ps.map Pj.v = vs := ⟨_, rfl⟩
  rw [hvs] at HGET HAV HNO
  obtain ⟨N, hN⟩ : ∃ N, ps.length = N := ⟨_, rfl⟩
  rw [hN] at hl hg HGET HNO ⊢
  have HG : Hid (0 < N → jo = some ⟨g, o, none⟩) := hg
  clear hN hg hrow hJ hvs
  unfold stL
  obtain ⟨W, hW⟩ : ∃ W, w.alloc (.cells #[.int .i64 c.nodes, .int .i64 c.queue, .int .i64 c.limit, .int .i64 c.age, .int .i64 c.fair, .int .i64 c.size, .int .i64 c.period, .int .i64 c.half, .int .i64 now, .slice ao na ca, .slice jo N cj, .int .i64 hd] 27) = W := ⟨_, rfl⟩
  have HBW : Hid (Below w.heap.size w W) := by show Below w.heap.size w W; rw [← hW]; exact (Below.refl _ w).alloc (Nat.le_refl _) _
  have k0 : W.cell? ⟨w.heap.size, 0, none⟩ = some (.int .i64 c.nodes) := by rw [← hW]; exact cells_at (heap_alloc_new w _) rfl
  have k1 : W.cell? ⟨w.heap.size, 1, none⟩ = some (.int .i64 c.queue) := by rw [← hW]; exact cells_at (heap_alloc_new w _) rfl
  have k2 : W.cell? ⟨w.heap.size, 2, none⟩ = some (.int .i64 c.limit) := by rw [← hW]; exact cells_at (heap_alloc_new w _) rfl
  have k3 : W.cell? ⟨w.heap.size, 3, none⟩ = some (.int .i64 c.age) := by rw [← hW]; exact cells_at (heap_alloc_new w _) rfl
  have k4 : W.cell? ⟨w.heap.size, 4, none⟩ = some (.int .i64 c.fair) := by rw [← hW]; exact cells_at (heap_alloc_new w _) rfl
  have k5 : W.cell? ⟨w.heap.size, 5, none⟩ = some (.int .i64 c.size) := by rw [← hW]; exact cells_at (heap_alloc_new w _) rfl
  have k6 : W.cell? ⟨w.heap.size, 6, none⟩ = some (.int .i64 c.period) := by rw [← hW]; exact cells_at (heap_alloc_new w _) rfl
  have k7 : W.cell? ⟨w.heap.size, 7, none⟩ = some (.int .i64 c.half) := by rw [← hW]; exact cells_at (heap_alloc_new w _) rfl
  have k8 : W.cell? ⟨w.heap.size, 8, none⟩ = some (.int .i64 now) := by rw [← hW]; exact cells_at (heap_alloc_new w _) rfl
  have k9 : W.cell? ⟨w.heap.size, 9, none⟩ = some (.slice ao na ca) := by rw [← hW]; exact cells_at (heap_alloc_new w _) rfl
  have k10 : W.cell? ⟨w.heap.size, 10, none⟩ = some (.slice jo N cj) := by rw [← hW]; exact cells_at (heap_alloc_new w _) rfl
  have k11 : W.cell? ⟨w.heap.size, 11, none⟩ = some (.int .i64 hd) := by rw [← hW]; exact cells_at (heap_alloc_new w _) rfl
  by_cases h1 : hd = -1
  · subst h1
    have HAA : Hid (AV = .returned (.tuple #[])) := by show AV = _; rw [← HAV.out]; rfl
    go_enter Tryz.func19, Tryz.ntmps19
    go_wp2
    first | (go_end0; exact ⟨HAA.out.symm, HBW.out⟩) | (refine bodyPost_ret (results_none rfl _ _ _) rfl ?_; exact ⟨HAA.out.symm, by first | exact HBW.out | (rw [hW]; exact HBW.out)⟩)
  · have h1' : (hd == -1) = false := beq_eq_false_iff_ne.2 h1
    have HWN : Hid (wrap64 ((N : Int) - 1) = (N : Int) - 1) := by show wrap64 ((N : Int) - 1) = (N : Int) - 1; unfold wrap64; omega
    cases t : fromB 0 ((N : Int) - 1) hd with
    | false =>
      have HAA : Hid (AV = .panicked (thrown 177)) := by
        show AV = _
        rw [← HAV.out]
        have : holdB ⟨c, now, la, vs, hd⟩ = false := by
          unfold holdB
          rw [decide_eq_false h1, Bool.false_or]
          by_cases h0 : 0 ≤ hd
          · have : (N : Int) - 1 < hd := by simpa [fromB, h0] using t
            simp only [HNO.out hd.toNat (by omega), Bool.and_false]
          · rw [decide_eq_false h0]; rfl
        rw [this]; rfl
      go_enter Tryz.func19, Tryz.ntmps19
      go_wp2_with (first | (go_at_call 29; refine (cF _ _ _ _).mono ?_; rintro e w1 ⟨rfl, hw1⟩; obtain rfl := hw1.symm; (first | rw [t] | (rw [HWN.out, t]))) | (go_at_call 27; refine (cQ _ _ _).mono ?_; rintro e w1 ⟨rfl, hw1⟩; obtain rfl := hw1.symm; (first | rw [t] | skip); first | rw [asksE_yes] | rw [asksE_no]))
      exact ⟨rfl, HAA.out.symm, by first | exact HBW.out | (rw [hW]; exact HBW.out)⟩
    | true =>
      have hb : 0 ≤ hd ∧ hd ≤ (N : Int) - 1 := by simpa [fromB] using t
      obtain ⟨k, hk⟩ : ∃ k : Nat, hd = (k : Int) := ⟨hd.toNat, by omega⟩
      subst hk
      have hkN : k < N := by omega
      have hkN' : (k : Int) < (N : Int) := by omega
      obtain ⟨p, hp, hv⟩ := HGET.out k hkN
      obtain rfl := HG.out (by omega)
      obtain ⟨y0, y1, y2, y3, y4, y5, y6, y7⟩ := HROW.out W HBW.out k p hp
      have HA : Hid (AV = asksE (decide (p.v.st = 1) && decide (p.v.sb < now)) 177) := by
        show AV = _
        rw [← HAV.out]
        unfold holdB
        rw [decide_eq_false h1, Bool.false_or]
        simp only [Int.toNat_natCast, hv]
        rw [decide_eq_true (by omega : (0 : Int) ≤ (k : Int)), Bool.true_and]
      clear hp hv
      obtain ⟨⟨ac, nd, lm, sb, st, sr, en, xs⟩, sa, sc⟩ := p
      dsimp only [Pj.jb] at y0 y1 y2 y3 y4 y5 y6 y7 HA
      obtain ⟨X, hX⟩ : ∃ X, W.alloc (.cells #[.int .i64 ac, .int .i64 nd, .int .i64 lm, .int .i64 sb, .int .i64 st, .int .i64 sr, .int .i64 en, .slice sa xs.length sc] 36) = X := ⟨_, rfl⟩
      have hbX : Below W.heap.size W X := by rw [← hX]; exact (Below.refl _ W).alloc (Nat.le_refl _) _
      have HBX : Hid (Below w.heap.size w X) := HBW.out.trans (hbX.mono HBW.out.size)
      have n0 : X.cell? ⟨W.heap.size, 0, none⟩ = some (.int .i64 ac) := by rw [← hX]; exact cells_at (heap_alloc_new W _) rfl
      have n1 : X.cell? ⟨W.heap.size, 1, none⟩ = some (.int .i64 nd) := by rw [← hX]; exact cells_at (heap_alloc_new W _) rfl
      have n2 : X.cell? ⟨W.heap.size, 2, none⟩ = some (.int .i64 lm) := by rw [← hX]; exact cells_at (heap_alloc_new W _) rfl
      have n3 : X.cell? ⟨W.heap.size, 3, none⟩ = some (.int .i64 sb) := by rw [← hX]; exact cells_at (heap_alloc_new W _) rfl
      have n4 : X.cell? ⟨W.heap.size, 4, none⟩ = some (.int .i64 st) := by rw [← hX]; exact cells_at (heap_alloc_new W _) rfl
      have n5 : X.cell? ⟨W.heap.size, 5, none⟩ = some (.int .i64 sr) := by rw [← hX]; exact cells_at (heap_alloc_new W _) rfl
      have n6 : X.cell? ⟨W.heap.size, 6, none⟩ = some (.int .i64 en) := by rw [← hX]; exact cells_at (heap_alloc_new W _) rfl
      have n7 : X.cell? ⟨W.heap.size, 7, none⟩ = some (.slice sa xs.length sc) := by rw [← hX]; exact cells_at (heap_alloc_new W _) rfl
      have m8 := cellB hbX k8
      clear hbX
      go_enter Tryz.func19, Tryz.ntmps19
      go_upto_region 3 with (first | (go_at_call 29; refine (cF _ _ _ _).mono ?_; rintro e w1 ⟨rfl, hw1⟩; obtain rfl := hw1.symm; (first | rw [t] | (rw [HWN.out, t]))) | (go_at_call 27; refine (cQ _ _ _).mono ?_; rintro e w1 ⟨rfl, hw1⟩; obtain rfl := hw1.symm; (first | rw [t] | skip); first | rw [asksE_yes] | rw [asksE_no]))
      try rw [hW]
      clear hW t
      go_upto_region 4 with fail
      try rw [hX]
      clear hX
      by_cases hst : st = 1
      · subst hst
        cases t2 : decide (sb < now) with
        | true =>
          have HAA : Hid (AV = .returned (.tuple #[])) := by show AV = _; rw [HA.out, t2]; rfl
          go_wp2_with (go_at_call 27; refine (cQ _ _ _).mono ?_; rintro e w1 ⟨rfl, hw1⟩; obtain rfl := hw1.symm; (first | rw [t2] | skip); first | rw [asksE_yes] | rw [asksE_no])
          go_end0
          exact ⟨HAA.out.symm, HBX.out⟩
        | false =>
          have HAA : Hid (AV = .panicked (thrown 177)) := by show AV = _; rw [HA.out, t2]; rfl
          go_wp2_with (go_at_call 27; refine (cQ _ _ _).mono ?_; rintro e w1 ⟨rfl, hw1⟩; obtain rfl := hw1.symm; (first | rw [t2] | skip); first | rw [asksE_yes] | rw [asksE_no])
          exact ⟨rfl, HAA.out.symm, HBX.out⟩
      · have HAA : Hid (AV = .panicked (thrown 177)) := by show AV = _; rw [HA.out, decide_eq_false hst]; rfl
        have t3 : (false == true) = false := rfl
        go_wp2_with (go_at_call 27; refine (cQ _ _ _).mono ?_; rintro e w1 ⟨rfl, hw1⟩; obtain rfl := hw1.symm; (first | rw [t3] | skip); first | rw [asksE_yes] | rw [asksE_no])
        exact ⟨rfl, HAA.out.symm, HBX.out⟩
theorem use_iff {raw us : Int} (h0 : 0 ≤ raw) (hu : Word us) : (decide (0 < hiW (raw * 4294967296)) || decide (us ≤ loW (raw * 4294967296))) = decide (us ≤ raw * 4294967296) := by
  obtain ⟨u0, u1⟩ := hu
  unfold hiW loW
  rw [Bool.eq_iff_iff]
  simp only [Bool.or_eq_true, decide_eq_true_eq]
  omega
set_option maxHeartbeats 2000000 in
set_option maxRecDepth 20000 in
theorem needUsage_any {w : World} (c : Cf) (now : Int) {ao : Option Addr} {la : List Ac} (ca : Nat) {jo : Option Addr} {ps : List Pj} (cj : Nat) (hd : Int) (hA : AcsAt w ao la) (hu : ∀ (n : Nat) (a : Ac), la[n]? = some a → Word a.us) (hn : la.length * 48 ≤ 140737488355328) (hJ : PjsAt w jo ps) (hl : ps.length ≤ 140737488355328) (hr : ∀ n : Int, 0 ≤ rawJ n now (ps.map Pj.v) ∧ rawJ n now (ps.map Pj.v) ≤ 1099511627776) :
    Calls Tryz.prog 18 #[.agg (stL c now ao la.length ca jo ps.length cj hd)] w fun e w' => e = asksE (usagesB now (ps.map Pj.v) la la.length) 173 ∧ Below w.heap.size w w' := by
  have cQ := need_any
  have HM : Hid (∀ r x, 0 ≤ r → r ≤ 1099511627776 → Calls Tryz.prog 39 #[.int .u64 r, .int .u64 4294967296] x fun e w' => e = .returned (.tuple #[.int .u64 (hiW (r * 4294967296)), .int .u64 (loW (r * 4294967296))]) ∧ x = w') := fun r x h1 h2 => (mul64 r 4294967296 ⟨h1, by omega⟩ ⟨by omega, by omega⟩ x).mono (fun e w' h => ⟨h.1, h.2.symm⟩)
  have HRW : Hid (∀ x, Below w.heap.size w x → ∀ (n : Nat), Calls Tryz.prog 38 #[.slice jo ps.length cj, .slice (some ⟨x.heap.size, 0, none⟩) 1 1, .int .i64 now] (x.alloc (.cells #[.int .i64 (n : Int)] 3)) fun e w' => e = .returned (.int .i64 (rawJ n now (ps.map Pj.v))) ∧ Below x.heap.size x w') := by
    intro x hx n
    have hb : Below x.heap.size x (x.alloc (.cells #[.int .i64 (n : Int)] 3)) := (Below.refl _ x).alloc (Nat.le_refl _) _
    have := raw_any (c := cj) (c' := 1) (hJ.jobs.below (hx.trans (hb.mono hx.size))) (by rw [List.length_map]; exact hl) (ints_one x (n : Int)) (by simp) now
    rw [List.length_map] at this
    unfold rawV at this
    have h2 := hr (n : Int)
    rw [raw_jb, show wrap64 (rawJ (n : Int) now (ps.map Pj.v)) = rawJ (n : Int) now (ps.map Pj.v) by unfold wrap64; omega] at this
    exact this.mono (fun e w' h => ⟨h.1, hb.trans (h.2.mono hb.size)⟩)
  have HR : Hid (∀ n : Nat, 0 ≤ rawJ (n : Int) now (ps.map Pj.v) ∧ rawJ (n : Int) now (ps.map Pj.v) ≤ 1099511627776) := fun n => hr n
  obtain ⟨g, o, hg, hacs⟩ := hA
  have HAC : Hid (∀ x, Below w.heap.size w x → ∀ (k : Nat) (a : Ac), la[k]? = some a → AcAt x g (o + k * 5) a) := fun x hx k a ha => (hacs k a ha).below hx
  have HGET : Hid (∀ k, k < la.length → ∃ a, la[k]? = some a ∧ Word a.us) := fun k hk => ⟨_, List.getElem?_eq_getElem hk, hu k _ (List.getElem?_eq_getElem hk)⟩
  have HUF : Hid (∀ k a, k < la.length → la[k]? = some a → usageB now (ps.map Pj.v) k a = false → usagesB now (ps.map Pj.v) la la.length = false) := fun k a hk ha hf => by
    cases h : usagesB now (ps.map Pj.v) la la.length with
    | false => rfl
    | true => have := usages_iff.1 h k hk a ha; rw [hf] at this; cases this
  have HUS : Hid (∀ k a, la[k]? = some a → usagesB now (ps.map Pj.v) la (k + 1) = (usagesB now (ps.map Pj.v) la k && usageB now (ps.map Pj.v) k a)) := fun k a ha => usages_succ ha
  obtain ⟨L, hL⟩ : ∃ L, la.length = L := ⟨_, rfl⟩
  rw [hL] at hg HGET HUF hn ⊢
  obtain ⟨N, hN⟩ : ∃ N, ps.length = N := ⟨_, rfl⟩
  rw [hN] at HRW ⊢
  obtain ⟨vs, hvs⟩ : ∃ vs, ps.map Pj.v = vs := ⟨_, rfl⟩
  rw [hvs] at HRW HR HUF HUS ⊢
  have HG : Hid (0 < L → ao = some ⟨g, o, none⟩) := hg
  clear hN hL hvs hg hacs hJ hu hr hl
  obtain ⟨AV, hAV⟩ : ∃ AV, asksE (usagesB now vs la L) 173 = AV := ⟨_, rfl⟩
  have HAV : Hid (asksE (usagesB now vs la L) 173 = AV) := hAV
  rw [hAV]
  clear hAV
  unfold stL
  obtain ⟨W, hW⟩ : ∃ W, w.alloc (.cells #[.int .i64 c.nodes, .int .i64 c.queue, .int .i64 c.limit, .int .i64 c.age, .int .i64 c.fair, .int .i64 c.size, .int .i64 c.period, .int .i64 c.half, .int .i64 now, .slice ao L ca, .slice jo N cj, .int .i64 hd] 27) = W := ⟨_, rfl⟩
  have HBW : Hid (Below w.heap.size w W) := by show Below w.heap.size w W; rw [← hW]; exact (Below.refl _ w).alloc (Nat.le_refl _) _
  have k0 : W.cell? ⟨w.heap.size, 0, none⟩ = some (.int .i64 c.nodes) := by rw [← hW]; exact cells_at (heap_alloc_new w _) rfl
  have k1 : W.cell? ⟨w.heap.size, 1, none⟩ = some (.int .i64 c.queue) := by rw [← hW]; exact cells_at (heap_alloc_new w _) rfl
  have k2 : W.cell? ⟨w.heap.size, 2, none⟩ = some (.int .i64 c.limit) := by rw [← hW]; exact cells_at (heap_alloc_new w _) rfl
  have k3 : W.cell? ⟨w.heap.size, 3, none⟩ = some (.int .i64 c.age) := by rw [← hW]; exact cells_at (heap_alloc_new w _) rfl
  have k4 : W.cell? ⟨w.heap.size, 4, none⟩ = some (.int .i64 c.fair) := by rw [← hW]; exact cells_at (heap_alloc_new w _) rfl
  have k5 : W.cell? ⟨w.heap.size, 5, none⟩ = some (.int .i64 c.size) := by rw [← hW]; exact cells_at (heap_alloc_new w _) rfl
  have k6 : W.cell? ⟨w.heap.size, 6, none⟩ = some (.int .i64 c.period) := by rw [← hW]; exact cells_at (heap_alloc_new w _) rfl
  have k7 : W.cell? ⟨w.heap.size, 7, none⟩ = some (.int .i64 c.half) := by rw [← hW]; exact cells_at (heap_alloc_new w _) rfl
  have k8 : W.cell? ⟨w.heap.size, 8, none⟩ = some (.int .i64 now) := by rw [← hW]; exact cells_at (heap_alloc_new w _) rfl
  have k9 : W.cell? ⟨w.heap.size, 9, none⟩ = some (.slice ao L ca) := by rw [← hW]; exact cells_at (heap_alloc_new w _) rfl
  have k10 : W.cell? ⟨w.heap.size, 10, none⟩ = some (.slice jo N cj) := by rw [← hW]; exact cells_at (heap_alloc_new w _) rfl
  have k11 : W.cell? ⟨w.heap.size, 11, none⟩ = some (.int .i64 hd) := by rw [← hW]; exact cells_at (heap_alloc_new w _) rfl
  go_enter Tryz.func18, Tryz.ntmps18
  go_wp2
  try rw [hW]
  clear hW
  go_loopg [10] L (fun gk v wr => ∃ k : Nat, k + gk = L ∧ v = .int .i64 (k : Int) ∧ usagesB now vs la k = true ∧ Below W.heap.size W wr)
  case atStart => exact ⟨0, by omega, rfl, rfl, Below.refl _ _⟩
  case round =>
    obtain ⟨k, hk, rfl, hus, hbr⟩ := hrel
    have HBR : Hid (Below W.heap.size W wr) := hbr
    have HB2 : Hid (Below w.heap.size w wr) := HBW.out.trans (hbr.mono HBW.out.size)
    have HK : Hid (k + gk = L ∧ usagesB now vs la k = true) := ⟨hk, hus⟩
    clear hus
    by_cases hlt : k < L
    · have hlt' : (k : Int) < (L : Int) := by omega
      obtain ⟨a, ha, hw0⟩ := HGET.out k hlt
      obtain rfl := HG.out (by omega)
      obtain ⟨y0, y1, y2, y3, y4⟩ := HAC.out wr HB2.out k a ha
      have HUF2 : Hid (usageB now vs k a = false → AV = .panicked (thrown 173)) := fun hf => by rw [← HAV.out, HUF.out k a hlt ha hf]; rfl
      have HUS2 : Hid (usageB now vs k a = true → usagesB now vs la (k + 1) = true) := fun ht => by rw [HUS.out k a ha, HK.out.2, ht]; rfl
      have hr0 := HR.out k
      have HUI : Hid ((decide (0 < hiW (rawJ (k : Int) now vs * 4294967296)) || decide (a.us ≤ loW (rawJ (k : Int) now vs * 4294967296))) = usageB now vs k a) := use_iff hr0.1 hw0
      clear ha
      obtain ⟨nm, pa, sh, cl, us⟩ := a
      dsimp only at y0 y1 y2 y3 y4 HUF2 HUS2 HUI
      obtain ⟨UB, hUB⟩ : ∃ UB, usageB now vs k ⟨nm, pa, sh, cl, us⟩ = UB := ⟨_, rfl⟩
      rw [hUB] at HUF2 HUS2 HUI
      clear hUB
      obtain ⟨R, hR⟩ : ∃ R, rawJ (k : Int) now vs = R := ⟨_, rfl⟩
      have HR1 : Hid (rawJ (k : Int) now vs = R) := hR
      rw [hR] at hr0 HUI
      clear hR
      obtain ⟨r1, r2⟩ := hr0
      obtain ⟨X, hX⟩ : ∃ X, wr.alloc (.cells #[.string nm, .int .i64 pa, .int .i64 sh, .bool cl, .int .u64 us] 47) = X := ⟨_, rfl⟩
      have hbX : Below wr.heap.size wr X := by rw [← hX]; exact (Below.refl _ wr).alloc (Nat.le_refl _) _
      have HBX : Hid (Below w.heap.size w X ∧ Below W.heap.size W X) := ⟨HB2.out.trans (hbX.mono HB2.out.size), HBR.out.trans (hbX.mono HBR.out.size)⟩
      have n4 : X.cell? ⟨wr.heap.size, 4, none⟩ = some (.int .u64 us) := by rw [← hX]; exact cells_at (heap_alloc_new wr _) rfl
      have m8 := cellB HBX.out.2 k8
      have m10 := cellB HBX.out.2 k10
      have q9 := cellB hbr k9
      have cR := HRW.out X HBX.out.1 k
      rw [HR1.out] at cR
      have hbA : Below X.heap.size X (X.alloc (.cells #[.int .i64 (k : Int)] 3)) := (Below.refl _ X).alloc (Nat.le_refl _) _
      have s8 := cellB hbA m8
      have s10 := cellB hbA m10
      clear hbX hbA
      go_upto_region 4 with fail
      try rw [hX]
      clear hX y0 y1 y2 y3 y4 hbr
      go_upto_region 5 with (go_at_call 38; refine cR.mono ?_; rintro e Y1 ⟨rfl, hb1⟩)
      have HBY : Hid (Below w.heap.size w Y1 ∧ Below W.heap.size W Y1) := ⟨HBX.out.1.trans (hb1.mono HBX.out.1.size), HBX.out.2.trans (hb1.mono HBX.out.2.size)⟩
      replace n4 := cellB hb1 n4
      clear hb1 cR m8 m10 s8 s10
      have cM := HM.out R Y1 r1 r2
      go_upto_region 6 with (go_at_call 39; refine cM.mono ?_; rintro e Y2 ⟨rfl, hy2⟩; obtain rfl := hy2)
      clear cM
      obtain ⟨H, hH⟩ : ∃ H, hiW (R * 4294967296) = H := ⟨_, rfl⟩
      obtain ⟨Lo, hLo⟩ : ∃ Lo, loW (R * 4294967296) = Lo := ⟨_, rfl⟩
      rw [hH, hLo] at HUI ⊢
      clear hH hLo
      by_cases hh : 0 < H
      · have hUB : UB = true := by rw [← HUI.out, decide_eq_true hh]; rfl
        have HN : Hid (usagesB now vs la (k + 1) = true) := HUS2.out hUB
        clear hUB
        have t : (false == true) = false := rfl
        go_wp2_with (go_at_call 27; refine (cQ _ _ _).mono ?_; rintro e w1 ⟨rfl, hw1⟩; obtain rfl := hw1.symm; (first | rw [t] | skip); first | rw [asksE_yes] | rw [asksE_no])
        go_roundg (L - (k + 1))
        case measure => have := HK.out.1; omega
        case rel => exact ⟨k + 1, by omega, by simp, HN.out, HBY.out.2⟩
      · cases t : decide (us ≤ Lo) with
        | true =>
          have hUB : UB = true := by rw [← HUI.out, t, Bool.or_true]
          have HN : Hid (usagesB now vs la (k + 1) = true) := HUS2.out hUB
          clear hUB
          go_wp2_with (go_at_call 27; refine (cQ _ _ _).mono ?_; rintro e w1 ⟨rfl, hw1⟩; obtain rfl := hw1.symm; (first | rw [t] | skip); first | rw [asksE_yes] | rw [asksE_no])
          go_roundg (L - (k + 1))
          case measure => have := HK.out.1; omega
          case rel => exact ⟨k + 1, by omega, by simp, HN.out, HBY.out.2⟩
        | false =>
          have hUB : UB = false := by rw [← HUI.out, t, decide_eq_false hh]; rfl
          have HAA : Hid (AV = .panicked (thrown 173)) := HUF2.out hUB
          clear hUB
          go_wp2_with (go_at_call 27; refine (cQ _ _ _).mono ?_; rintro e w1 ⟨rfl, hw1⟩; obtain rfl := hw1.symm; (first | rw [t] | skip); first | rw [asksE_yes] | rw [asksE_no])
          (try simp only [Exit.inBlock, Exit.then])
          exact ⟨rfl, HAA.out.symm, HBY.out.1⟩
    · obtain rfl : k = L := by omega
      have HAA : Hid (AV = .returned (.tuple #[])) := by show AV = _; rw [← HAV.out, HK.out.2]; rfl
      clear hbr
      go_wp2
      go_end0
      exact ⟨HAA.out.symm, HB2.out⟩
end Go.Proofs.YtbcinapnnlfnbaaGreat
