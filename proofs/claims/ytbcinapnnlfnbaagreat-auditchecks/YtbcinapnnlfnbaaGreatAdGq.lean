/-
  LAYER 17, package audit: needNodes (made by gen17dd.py).
-/
import Derived.Test.YtbcinapnnlfnbaaGreatXsw
import Derived.Test.YtbcinapnnlfnbaaGreatAdFq
namespace Go.Proofs.YtbcinapnnlfnbaaGreat
open Go.RowKit Wd Tr Cg Lg

theorem evL_le {f : Jv → Nat → List Ev} (hf : ∀ j i, (f j i).length ≤ 1) (js : List Jv) : ∀ m, m ≤ js.length → (evL f js m).length ≤ m
  | 0, _ => by simp [evL]
  | m + 1, hm => by
    rw [evL_succ f (List.getElem?_eq_getElem (show m < js.length by omega)), List.length_append]
    have h1 := evL_le hf js m (by omega)
    have h2 := hf js[m] m
    omega
theorem chg_bel {B mb : Nat} {w x : World} (h : Chg (fun i => i = mb) w x) (hB : B ≤ w.heap.size) (hm : B ≤ mb) : Below B w x := ⟨h.os, h.tape, h.output, h.size, fun k hk => h.block k (by omega) (by omega)⟩
set_option maxHeartbeats 4000000 in
set_option maxRecDepth 20000 in
theorem needNodes_any {w : World} (c : Cf) (now : Int) (ao : Option Addr) (na ca : Nat) {jo : Option Addr} {ps : List Pj} (cj : Nat) (hd : Int) (n : Nat) (hn : c.nodes = (n : Int)) (h1 : 1 ≤ n) (h2 : n ≤ 256) (hJ : PjsAt w jo ps) (hl : ps.length ≤ 4096) (hsl : ∀ p ∈ ps, p.v.set.length ≤ 140737488355328) (J : Jok (ps.map Pj.v)) (hrise : ∀ k, riseB c.nodes (-1) (setN (ps.map Pj.v) k) = true) :
    Calls Tryz.prog 17 #[.agg (stL c now ao na ca jo ps.length cj hd)] w fun e w' => e = asksE (apartB (ps.map Pj.v) (ps.map Pj.v).length) 176 ∧ Below w.heap.size w w' := by
  have cQ := need_any
  have HMA : Hid (∀ x, Calls Tryz.prog 34 #[cfV c] x fun e w' => ∃ mb, e = .returned (.pointer (some ⟨mb, 0, none⟩)) ∧ Nd.SetIn w' mb n (2 ^ n - 1) ∧ Below x.heap.size x w' ∧ x.heap.size ≤ mb) := fun x => machine_any c n hn h1 h2
  have HTO : Hid (∀ x, Below w.heap.size w x → Calls Tryz.prog 35 #[.slice jo ps.length cj] x fun e w' => ∃ (v : Value) (C : List Ev), e = .returned v ∧ C.Perm (evA (ps.map Pj.v)) ∧ SrtE C ∧ w'.ownsRow x.heap.size 63 3 v C.length (flatE (slxOf ps) C) ∧ Below x.heap.size x w') := fun x hx => turnsOf_any (hJ.below hx) hl
  have HSE : Hid (∀ x, Below w.heap.size w x → ∀ (k : Nat) (p : Pj), ps[k]? = some p → IntsAt x p.sa p.v.set ∧ p.v.set.length ≤ 140737488355328 ∧ ∀ ad, p.sa = some ad → 0 < p.v.set.length → ad.block < w.heap.size) := by
    intro x hx k p hp
    have hm := List.mem_of_getElem? hp
    refine ⟨(hJ.sets p hm).below hx, hsl p hm, fun ad e hq => ?_⟩
    obtain ⟨g, o, hg, hc⟩ := hJ.sets p hm
    have e2 := hg hq
    rw [e] at e2
    cases e2
    exact World.block_lt_of_cell? w ⟨g, o + 0, none⟩ (hc 0 _ (List.getElem?_eq_getElem hq))
  have HSX : Hid (∀ (k : Nat) (q : Pj), ps[k]? = some q → (slxOf ps).so k = q.sa ∧ (slxOf ps).sl k = q.v.set.length ∧ (slxOf ps).sc k = q.sc) := fun k q h => by simp [slxOf, h]
  have HEV : Hid (∀ e ∈ evA (ps.map Pj.v), ∃ p, ps[e.jx]? = some p ∧ setN (ps.map Pj.v) e.jx = p.v.set) := by
    intro e he
    have : ∃ j, (ps.map Pj.v)[e.jx]? = some j := by
      cases ht : e.tk with
      | true => obtain ⟨j, hj, _⟩ := (evA_take ht).1 he; exact ⟨j, hj⟩
      | false => obtain ⟨j, hj, _⟩ := (evA_give ht).1 he; exact ⟨j, hj⟩
    obtain ⟨j, hj⟩ := this
    rw [List.getElem?_map] at hj
    cases hq : ps[e.jx]? with
    | none => rw [hq] at hj; cases hj
    | some p =>
      refine ⟨p, rfl, ?_⟩
      exact setN_at (by rw [List.getElem?_map, hq]; rfl)
  have HJ : Hid (Jok (ps.map Pj.v) ∧ ∀ k, riseB (n : Int) (-1) (setN (ps.map Pj.v) k) = true) := ⟨J, fun k => by rw [← hn]; exact hrise k⟩
  have hev : (evA (ps.map Pj.v)).length ≤ 100000 := by
    unfold evA
    rw [List.length_append]
    have b1 := evL_le (f := evG) (fun j i => by unfold evG; split <;> simp) (ps.map Pj.v) _ (Nat.le_refl _)
    have b2 := evL_le (f := evT) (fun j i => by unfold evT; split <;> simp) (ps.map Pj.v) _ (Nat.le_refl _)
    rw [List.length_map] at b1 b2 ⊢
    omega
  have HLE : Hid ((evA (ps.map Pj.v)).length ≤ 100000) := hev
  obtain ⟨AV, hAV⟩ : ∃ AV, asksE (apartB (ps.map Pj.v) (ps.map Pj.v).length) 176 = AV := ⟨_, rfl⟩
  have HAV : Hid (asksE (apartB (ps.map Pj.v) (ps.map Pj.v).length) 176 = AV) := hAV
  rw [hAV]
  obtain ⟨vs, hvs⟩ : ∃ vs, ps.map Pj.v = vs := ⟨_, rfl⟩
  rw [hvs] at HTO HEV HJ HAV HLE
  obtain ⟨S, hS⟩ : ∃ S, slxOf ps = S := ⟨_, rfl⟩
  rw [hS] at HTO HSX
  obtain ⟨N, hN⟩ : ∃ N, ps.length = N := ⟨_, rfl⟩
  rw [hN] at HTO ⊢
  clear hN hS hvs hAV hev J hrise hJ hl hsl hn
  unfold stL
  have cM := HMA.out
  unfold cfV at cM
  obtain ⟨W, hW⟩ : ∃ W, w.alloc (.cells #[.int .i64 c.nodes, .int .i64 c.queue, .int .i64 c.limit, .int .i64 c.age, .int .i64 c.fair, .int .i64 c.size, .int .i64 c.period, .int .i64 c.half, .int .i64 now, .slice ao na ca, .slice jo N cj, .int .i64 hd] 27) = W := ⟨_, rfl⟩
  have HBW : Hid (Below w.heap.size w W) := by show Below w.heap.size w W; rw [← hW]; exact (Below.refl _ w).alloc (Nat.le_refl _) _
  have k0 : W.cell? ⟨w.heap.size, 0, none⟩ = some (.int .i64 c.nodes) := by rw [← hW]; exact cells_at (heap_alloc_new w _) rfl
  have k1 : W.cell? ⟨w.heap.size, 1, none⟩ = some (.int .i64 c.queue) := by rw [← hW]; exact cells_at (heap_alloc_new w _) rfl
  have k2 : W.cell? ⟨w.heap.size, 2, none⟩ = some (.int .i64 c.limit) := by rw [← hW]; exact cells_at (heap_alloc_new w _) rfl
  have k3 : W.cell? ⟨w.heap.size, 3, none⟩ = some (.int .i64 c.age) := by rw [← hW]; exact cells_at (heap_alloc_new w _) rfl
  have k4 : W.cell? ⟨w.heap.size, 4, none⟩ = some (.int .i64 c.fair) := by rw [← hW]; exact cells_at (heap_alloc_new w _) rfl
  have k5 : W.cell? ⟨w.heap.size, 5, none⟩ = some (.int .i64 c.size) := by rw [← hW]; exact cells_at (heap_alloc_new w _) rfl
  have k6 : W.cell? ⟨w.heap.size, 6, none⟩ = some (.int .i64 c.period) := by rw [← hW]; exact cells_at (heap_alloc_new w _) rfl
  have k7 : W.cell? ⟨w.heap.size, 7, none⟩ = some (.int .i64 c.half) := by rw [← hW]; exact cells_at (heap_alloc_new w _) rfl
  have k8 : W.cell? ⟨w.heap.size, 8, none⟩ = some (.int .i64 now) := by rw [← hW]; exact cells_at (heap_alloc_new w _) rfl
  have k9 : W.cell? ⟨w.heap.size, 9, none⟩ = some (.slice ao na ca) := by rw [← hW]; exact cells_at (heap_alloc_new w _) rfl
  have k10 : W.cell? ⟨w.heap.size, 10, none⟩ = some (.slice jo N cj) := by rw [← hW]; exact cells_at (heap_alloc_new w _) rfl
  have k11 : W.cell? ⟨w.heap.size, 11, none⟩ = some (.int .i64 hd) := by rw [← hW]; exact cells_at (heap_alloc_new w _) rfl
  go_enter Tryz.func17, Tryz.ntmps17
  go_upto_region 2 with (go_at_call 34; refine (cM _).mono ?_; rintro e Y1 ⟨mb, rfl, hs1, hb1, hmb⟩)
  try rw [hW]
  have p10 : Y1.cell? ⟨w.heap.size, 10, none⟩ = some (.slice jo N cj) := by first | exact cellB hb1 k10 | (rw [hW] at hb1; exact cellB hb1 k10)
  have HB1 : Hid (Below w.heap.size w Y1 ∧ w.heap.size ≤ mb ∧ mb < Y1.heap.size) := by
    have hb1' : Below W.heap.size W Y1 := by first | exact hb1 | (rw [hW] at hb1; exact hb1)
    have hmb' : W.heap.size ≤ mb := by first | exact hmb | (rw [hW] at hmb; exact hmb)
    exact ⟨HBW.out.trans (hb1'.mono HBW.out.size), Nat.le_trans HBW.out.size hmb', hs1.lt⟩
  have HS1 : Hid (Nd.SetIn Y1 mb n (2 ^ n - 1)) := hs1
  clear hb1 hs1 hmb cM hW k0 k1 k2 k3 k4 k5 k6 k7 k8 k9 k10 k11
  have cT := HTO.out Y1 HB1.out.1
  go_upto_region 3 with (go_at_call 35; refine cT.mono ?_; rintro e Y2 ⟨v, C, rfl, hperm, hsrt, hown, hb2⟩; obtain ⟨go, cap, rfl, hcap, hnil, hsome⟩ := own_val hown)
  have HPC : Hid (C.Perm (evA vs) ∧ SrtE C ∧ C.length ≤ 100000) := ⟨hperm, hsrt, by rw [hperm.length_eq]; exact HLE.out⟩
  have HSR := (own_src hown).2
  have HCELL : Hid (∀ (k : Nat) (e : Ev), C[k]? = some e → ∃ b, go = some ⟨b, 0, none⟩ ∧ Y1.heap.size ≤ b ∧ Y2.cell? ⟨b, k * 3, none⟩ = some (.int .i64 e.tm) ∧ Y2.cell? ⟨b, k * 3 + 1, none⟩ = some (.bool e.tk) ∧ Y2.cell? ⟨b, k * 3 + 2, none⟩ = some (.slice (S.so e.jx) (S.sl e.jx) (S.sc e.jx))) := by
    intro k e hk
    have hlen := (List.getElem?_eq_some_iff.1 hk).1
    cases hgo : go with
    | none => have := (hnil hgo).1; omega
    | some ad =>
      obtain ⟨b, rfl, hge, _⟩ := hsome ad hgo
      obtain ⟨e0, e1, e2⟩ := flatE_at S C k e hk
      have f0 := HSR _ hgo _ _ e0
      have f1 := HSR _ hgo _ _ e1
      have f2 := HSR _ hgo _ _ e2
      rw [Addr.add_lit, Nat.zero_add] at f0 f1 f2
      exact ⟨b, rfl, hge, f0, f1, f2⟩
  have HB2 : Hid (Below w.heap.size w Y2 ∧ Y1.heap.size ≤ Y2.heap.size) := ⟨HB1.out.1.trans (hb2.mono HB1.out.1.size), hb2.size⟩
  have HS2 : Hid (Nd.SetIn Y2 mb n (2 ^ n - 1)) := HS1.out.below hb2
  obtain ⟨L, hL⟩ : ∃ L, C.length = L := ⟨_, rfl⟩
  rw [hL] at hcap HPC ⊢
  have HL : Hid (C.length = L) := hL
  have hL1 : L ≤ 100000 := HPC.out.2.2
  have hL2 : (L : Int) ≤ 100000 := by omega
  clear hperm hsrt hown hb2 hnil hsome HSR hL cT p10
  go_loopg [12] L (fun gk z wr => ∃ (k F : Nat), k + gk = L ∧ z = .int .i64 (k : Int) ∧ Nd.SetIn wr mb n F ∧ Sw vs C n k F ∧ Chg (fun i => i = mb) Y2 wr)
  case atStart => exact ⟨0, 2 ^ n - 1, by omega, rfl, HS2.out, Sw.start, Chg.refl _ _⟩
  case round =>
    obtain ⟨k, F, hk, rfl, hset, hsw, hchg⟩ := hrel
    have HK : Hid (k + gk = L) := hk
    have HSW : Hid (Sw vs C n k F ∧ Nd.SetIn wr mb n F ∧ Chg (fun i => i = mb) Y2 wr) := ⟨hsw, hset, hchg⟩
    have HBR : Hid (Below w.heap.size w wr) := HB2.out.1.trans ((chg_bel hchg HB2.out.1.size HB1.out.2.1))
    by_cases hlt : k < L
    · have hlt' : (k : Int) < (L : Int) := by omega
      obtain ⟨ev, hev⟩ : ∃ ev, C[k]? = some ev := ⟨_, List.getElem?_eq_getElem (by rw [HL.out]; exact hlt)⟩
      obtain ⟨b, rfl, hge, y0, y1, y2⟩ := HCELL.out k ev hev
      have hbm : b ≠ mb := by have := HB1.out.2.2; omega
      obtain ⟨p, hp, hsN⟩ := HEV.out ev (HPC.out.1.mem_iff.1 (List.mem_of_getElem? hev))
      obtain ⟨sx1, sx2, sx3⟩ := HSX.out ev.jx p hp
      rw [sx1, sx2, sx3] at y2
      have z0 := hchg.cell y0 hbm
      have z1 := hchg.cell y1 hbm
      have z2 := hchg.cell y2 hbm
      have HEVK : Hid (C[k]? = some ev ∧ setN vs ev.jx = p.v.set ∧ riseB (n : Int) (-1) p.v.set = true) := ⟨hev, hsN, by rw [← hsN]; exact HJ.out.2 _⟩
      have HPS : Hid (∀ x, Below w.heap.size w x → IntsAt x p.sa p.v.set ∧ p.v.set.length ≤ 140737488355328 ∧ ∀ ad, p.sa = some ad → 0 < p.v.set.length → ad.block < w.heap.size) := fun x hx => HSE.out x hx ev.jx p hp
      clear y0 y1 y2 hp hsN sx1 sx2 sx3 hev hset hsw hchg
      obtain ⟨⟨ac, nd, lm, sb, st, sr, en, xs⟩, sa, sc⟩ := p
      dsimp only at z2 HEVK HPS
      obtain ⟨X, hX⟩ : ∃ X, wr.alloc (.cells #[.int .i64 ev.tm, .bool ev.tk, .slice sa xs.length sc] 63) = X := ⟨_, rfl⟩
      have hbX : Below wr.heap.size wr X := by rw [← hX]; exact (Below.refl _ wr).alloc (Nat.le_refl _) _
      have n1 : X.cell? ⟨wr.heap.size, 1, none⟩ = some (.bool ev.tk) := by rw [← hX]; exact cells_at (heap_alloc_new wr _) rfl
      have n2 : X.cell? ⟨wr.heap.size, 2, none⟩ = some (.slice sa xs.length sc) := by rw [← hX]; exact cells_at (heap_alloc_new wr _) rfl
      have HBX : Hid (Below w.heap.size w X ∧ Nd.SetIn X mb n F) := ⟨HBR.out.trans (hbX.mono HBR.out.size), HSW.out.2.1.below hbX⟩
      have HCX : Hid (Chg (fun i => i = mb) Y2 X) := HSW.out.2.2.trans (Chg.of_below hbX _) (fun _ _ e => e)
      obtain ⟨hi1, hi2, hi3⟩ := HPS.out X HBX.out.1
      have hlow : ∀ ad, sa = some ad → 0 < xs.length → ad.block < mb := fun ad e1 e2 => Nat.lt_of_lt_of_le (hi3 ad e1 e2) HB1.out.2.1
      have HCL : Hid (∀ q, Calls Tryz.prog 36 #[.pointer (some ⟨mb, 0, none⟩), .slice sa xs.length q] X fun e x' => e = .returned (.int .i64 (Nd.turnE n F (Nd.nthI xs) xs.length true)) ∧ Nd.SetIn x' mb n (Nd.turnF n F (Nd.nthI xs) xs.length true) ∧ Chg (fun i => i = mb) X x') := fun q => claim_ints HBX.out.2 hi1 hlow hi2
      have HGV : Hid (∀ q, Calls Tryz.prog 37 #[.pointer (some ⟨mb, 0, none⟩), .slice sa xs.length q] X fun e x' => e = .returned (.int .i64 (Nd.turnE n F (Nd.nthI xs) xs.length false)) ∧ Nd.SetIn x' mb n (Nd.turnF n F (Nd.nthI xs) xs.length false) ∧ Chg (fun i => i = mb) X x') := fun q => give_ints HBX.out.2 hi1 hlow hi2
      clear hi1 hi2 hi3 hlow hbX
      obtain ⟨tm, tk, jx⟩ := ev
      dsimp only at z0 z1 n1 HEVK hX
      have HWK : Hid (wrap64 ((k : Int) + 1) = ((k + 1 : Nat) : Int)) := by show wrap64 ((k : Int) + 1) = ((k + 1 : Nat) : Int); unfold wrap64; omega
      go_upto_region 5 with fail
      try rw [hX]
      clear hX z0 z1 z2
      cases tk with
      | true =>
        have cC := HCL.out sc
        by_cases hall : ∀ x ∈ xs, F.testBit x.toNat = true
        · obtain ⟨q1, q2⟩ := Nd.claim_ok HEVK.out.2.2 hall
          have HNX : Hid (Sw vs C n (k + 1) (Nd.turnF n F (Nd.nthI xs) xs.length true)) := Sw.take HJ.out.1 HPC.out.1 HPC.out.2.1 HSW.out.1 HEVK.out.1 rfl (HJ.out.2 _) (by rw [HEVK.out.2.1]; exact hall) (fun m => by rw [q2 m, HEVK.out.2.1])
          rw [q1] at cC
          have t : (false == true) = false := rfl
          clear q1 q2 hall
          go_wp2_with (first | (go_at_call 36; refine cC.mono ?_; rintro e Z1 ⟨rfl, hs3, hc3⟩) | (go_at_call 27; refine (cQ _ _ _).mono ?_; rintro e w1 ⟨rfl, hw1⟩; obtain rfl := hw1.symm; (first | rw [t] | skip); first | rw [asksE_yes] | rw [asksE_no]))
          have HS3 : Hid (Nd.SetIn Z1 mb n (Nd.turnF n F (Nd.nthI xs) xs.length true) ∧ Chg (fun i => i = mb) Y2 Z1) := ⟨hs3, HCX.out.trans hc3 (fun _ _ e => e)⟩
          clear hs3 hc3 cC
          go_roundg (L - (k + 1))
          case measure => have := HK.out; omega
          case rel => exact ⟨k + 1, _, by omega, by first | rw [HWK.out] | simp, HS3.out.1, HNX.out, HS3.out.2⟩
        · obtain ⟨x, hx, hxf⟩ : ∃ x, x ∈ xs ∧ F.testBit x.toNat = false := by
            apply Classical.byContradiction
            intro hno
            refine hall (fun x hx => ?_)
            cases hb : F.testBit x.toNat with
            | true => rfl
            | false => exact absurd ⟨x, hx, hb⟩ hno
          have hap := Sw.no HJ.out.1 HPC.out.1 HPC.out.2.1 HSW.out.1 HEVK.out.1 rfl (HJ.out.2 _) (x := x) (by rw [HEVK.out.2.1]; exact hx) hxf
          have HAA : Hid (AV = .panicked (thrown 176)) := by show AV = _; rw [← HAV.out, hap]; rfl
          have hne := Nd.claim_no (n := n) (F := F) (xs := xs) (.inr ⟨x, hx, hxf⟩)
          obtain ⟨E, hE⟩ : ∃ E, Nd.turnE n F (Nd.nthI xs) xs.length true = E := ⟨_, rfl⟩
          rw [hE] at hne cC
          have t : (E == 0) = false := beq_eq_false_iff_ne.2 hne
          clear hE hne hap hall hx hxf
          go_wp2_with (first | (go_at_call 36; refine cC.mono ?_; rintro e Z1 ⟨rfl, hs3, hc3⟩) | (go_at_call 27; refine (cQ _ _ _).mono ?_; rintro e w1 ⟨rfl, hw1⟩; obtain rfl := hw1.symm; (first | rw [t] | skip); first | rw [asksE_yes] | rw [asksE_no]))
          (try simp only [Exit.inBlock, Exit.then])
          exact ⟨rfl, HAA.out.symm, HBX.out.1.trans (chg_bel hc3 HBX.out.1.size HB1.out.2.1)⟩
      | false =>
        have cC := HGV.out sc
        have HNX : Hid (Sw vs C n (k + 1) (Nd.turnF n F (Nd.nthI xs) xs.length false)) := Sw.give HJ.out.1 HPC.out.1 HPC.out.2.1 HSW.out.1 HEVK.out.1 rfl (HJ.out.2 _) (fun m => by
          have h0 := Sw.taken HJ.out.1 HPC.out.1 HPC.out.2.1 HSW.out.1 HEVK.out.1 rfl (HJ.out.2 _)
          dsimp only at h0 ⊢
          rw [HEVK.out.2.1] at h0 ⊢
          exact Nd.give_ok HEVK.out.2.2 h0 m)
        go_wp2_with (go_at_call 37; refine cC.mono ?_; rintro e Z1 ⟨rfl, hs3, hc3⟩)
        have HS3 : Hid (Nd.SetIn Z1 mb n (Nd.turnF n F (Nd.nthI xs) xs.length false) ∧ Chg (fun i => i = mb) Y2 Z1) := ⟨hs3, HCX.out.trans hc3 (fun _ _ e => e)⟩
        clear hs3 hc3 cC
        go_roundg (L - (k + 1))
        case measure => have := HK.out; omega
        case rel => exact ⟨k + 1, _, by omega, by first | rw [HWK.out] | simp, HS3.out.1, HNX.out, HS3.out.2⟩
    · obtain rfl : k = L := by omega
      have hap := Sw.done HJ.out.1 HPC.out.1 HPC.out.2.1 (by rw [HL.out]; exact HSW.out.1)
      have HAA : Hid (AV = .returned (.tuple #[])) := by show AV = _; rw [← HAV.out, hap]; rfl
      clear hap hset hsw hchg
      go_wp2
      go_end0
      exact ⟨HAA.out.symm, HBR.out⟩
end Go.Proofs.YtbcinapnnlfnbaaGreat
