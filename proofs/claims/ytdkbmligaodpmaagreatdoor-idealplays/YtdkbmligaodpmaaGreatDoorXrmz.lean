/-
 LAYER 16: the reference (backfillref16): Charge.
 LAYER 16: the reference (backfillref16): part.
 LAYER 16: the reference (backfillref16): Fade.
-/
import Derived.Test.YtdkbmligaodpmaaGreatDoorXhcz
import Derived.Test.YtdkbmligaodpmaaGreatDoorXraz
import Derived.Test.YtdkbmligaodpmaaGreatDoorXiez
namespace Go.Proofs.YtdkbmligaodpmaaGreatDoor
open Go.RowKit Wd Tr Cg

theorem hi_up (n : Int) : hiW (n * 18446744073709551616) = n ∧ loW (n * 18446744073709551616) = 0 := by
 unfold hiW loW
 omega
set_option maxRecDepth 20000 in
set_option maxHeartbeats 2000000 in
theorem richarge_any {c : Cf} (r : Rng c) {B : Nat} {w : World} {d : Nat} {v1 v2 : Value} {L : List Bd} (h : RIdl c B w d v1 v2 L) (a n : Int) :
  Calls Tryz.prog 14 #[.pointer (some ⟨d, 0, none⟩), .int .i64 a, .int .i64 n] w fun e w' => e = .returned (.int .i64 (chgE c.nodes L a n)) ∧ RIdl c B w' d v1 v2 (chgL c.nodes L a n) ∧ Chg (RK d v1 v2) w w' := by
 obtain ⟨ao1, c1, e1⟩ := h.sh1
 have c8 := h.two.c8.1
 have c0 := h.two.c0
 by_cases h0 : a < 0
 ·obtain ⟨e1, e2⟩ := chg_no (N := c.nodes) (L := L) (a := a) (n := n) (fun x => by have := (okA_iff.1 x.1).1; omega)
  rw [e1, e2]
  have HL : Hid _ := h
  clear h
  go_enter Tryz.func14, Tryz.ntmps14
  go_wp2
  go_ret
  exact ⟨rfl, HL.out, Chg.refl _ _⟩
 by_cases h1 : (L.length : Int) ≤ a
 ·obtain ⟨e2, e3⟩ := chg_no (N := c.nodes) (L := L) (a := a) (n := n) (fun x => by have := (okA_iff.1 x.1).2; omega)
  rw [e2, e3]
  have HL : Hid _ := h
  subst e1
  clear h
  generalize L.length = q at *
  go_enter Tryz.func14, Tryz.ntmps14
  go_wp2
  go_ret
  exact ⟨rfl, HL.out, Chg.refl _ _⟩
 by_cases h2 : n < 0
 ·obtain ⟨e2, e3⟩ := chg_no (N := c.nodes) (L := L) (a := a) (n := n) (by omega)
  rw [e2, e3]
  have HL : Hid _ := h
  subst e1
  clear h
  generalize L.length = q at *
  go_enter Tryz.func14, Tryz.ntmps14
  go_wp2
  go_ret
  exact ⟨rfl, HL.out, Chg.refl _ _⟩
 by_cases h3 : c.nodes < n
 ·obtain ⟨e2, e3⟩ := chg_no (N := c.nodes) (L := L) (a := a) (n := n) (by omega)
  rw [e2, e3]
  have HL : Hid _ := h
  subst e1
  clear h
  generalize L.length = q at *
  go_enter Tryz.func14, Tryz.ntmps14
  go_wp2
  go_ret
  exact ⟨rfl, HL.out, Chg.refl _ _⟩
 obtain ⟨k, hk⟩ : ∃ k : Nat, a = k := ⟨a.toNat, by omega⟩
 subst hk
 have hkl : k < L.length := by omega
 obtain ⟨b, hb⟩ : ∃ b, L[k]? = some b := ⟨_, List.getElem?_eq_getElem hkl⟩
 obtain ⟨e2, e3⟩ := chg_yes (N := c.nodes) (L := L) (k := k) (b := b) (n := n) hb (by omega) (by omega)
 rw [e2, e3]
 have hbo := h.ok b (List.mem_of_getElem? hb)
 have hn1 := r.n1
 have wn : IntKind.u64.wrap n = n := by rw [IntKind.wrap_u64]; omega
 obtain ⟨m1, m2⟩ := hi_up n
 have hM : Num (n * 18446744073709551616) := ⟨by omega, by unfold top; omega⟩
 have cA1 := raddn b.lo (n * 18446744073709551616) hbo.lon hM
 have cA2 := raddn b.hi (n * 18446744073709551616) hbo.hin hM
 rw [m1, m2] at cA1 cA2
 have HCH : Hid (∀ x y, x = Wd.addV b.lo (n * 18446744073709551616) → y = Wd.addV b.hi (n * 18446744073709551616) → (⟨x, y⟩ : Bd) = chB b n) := fun x y hx hy => by rw [hx, hy]; rfl
 have HOK : Hid ((∀ x ∈ L, x.Ok) ∧ (chB b n).Ok ∧ L.length ≤ 1000000) := ⟨h.ok, ch_ok hbo (by omega), h.few⟩
 generalize hX : Wd.addV b.lo (n * 18446744073709551616) = X at *
 generalize hY : Wd.addV b.hi (n * 18446744073709551616) = Y at *
 generalize addB b.lo (n * 18446744073709551616) = BX at *
 generalize addB b.hi (n * 18446744073709551616) = BY at *
 have h2 := h.two
 have hk1 : (L.map Bd.lo)[k]? = some b.lo := by rw [List.getElem?_map, hb]; rfl
 have hk2 : (L.map Bd.hi)[k]? = some b.hi := by rw [List.getElem?_map, hb]; rfl
 obtain ⟨g1, p1, ev1, x1, x2⟩ := h2.at1 hk1
 obtain ⟨g2, p2, ev2, y1, y2⟩ := h2.at2 hk2
 rw [List.length_map] at ev1 ev2
 have c9 := h2.c9.1
 have HL1 : Hid ((L.map Bd.lo).length = L.length ∧ (L.map Bd.hi).length = L.length ∧ (L.map Bd.lo)[k]? = some b.lo ∧ (L.map Bd.hi)[k]? = some b.hi) := ⟨List.length_map _, List.length_map _, hk1, hk2⟩
 have HXY : Hid (chB b n = ⟨X, Y⟩) := (HCH.out X Y rfl rfl).symm
 subst ev1
 subst ev2
 have HR : Hid (R2 c B w d (.slice (some ⟨g1, 0, none⟩) L.length p1) (.slice (some ⟨g2, 0, none⟩) L.length p2) (L.map Bd.lo) (L.map Bd.hi)) := h2
 have hx1 := x1.1
 have hx2 := x2.1
 have hy1 := y1.1
 have hy2 := y2.1
 have hkl' : (k : Int) < L.length := by omega
 have hh2 : 0 ≤ n := by omega
 have hh3 : ¬ c.nodes < n := by omega
 have hdl := h2.lt d (.inl rfl)
 have hgl1 := h2.lt g1 (.inr (.inl rfl))
 have hgl2 := h2.lt g2 (.inr (.inr rfl))
 clear e1 e2 e3 hbo hM m1 m2 HCH h h2 hk1 hk2 x1 x2 y1 y2 hb
 generalize hq : L.length = q at *
 have HQ : Hid (L.length = q) := hq
 clear hq
 generalize b.lo = bl at *
 generalize b.hi = bh at *
 go_enter Tryz.func14, Tryz.ntmps14
 go_upto_region 4 with fail
 have b0 : Below w.heap.size w (w.alloc (.cells #[.int .u64 n, .int .u64 0] 68)) := (Below.refl _ w).alloc (Nat.le_refl _) _
 obtain ⟨t0, t1, _, _⟩ := Bx.new w (.int .u64 n) (.int .u64 0) 68
 obtain ⟨V, hV⟩ : ∃ V, w.alloc (.cells #[.int .u64 n, .int .u64 0] 68) = V := ⟨_, rfl⟩
 rw [hV] at b0 t0 t1
 rw [hV]
 have HV : Hid (Hc5 V ⟨d, 8, none⟩ ⟨g1, k * 2, none⟩ ⟨g1, k * 2 + 1, none⟩ ⟨w.heap.size, 0, none⟩ ⟨w.heap.size, 1, none⟩ (.slice (some ⟨g1, 0, none⟩) q p1) (.int .u64 (hiW bl)) (.int .u64 (loW bl)) (.int .u64 n) (.int .u64 0) V) := ⟨cellB b0 c8, cellB b0 hx1, cellB b0 hx2, t0, t1, Below.refl _ _, Nat.le_refl _⟩
 have HS : Hid (Hc5 V ⟨d, 8, none⟩ ⟨g1, k * 2, none⟩ ⟨g1, k * 2 + 1, none⟩ ⟨w.heap.size, 0, none⟩ ⟨w.heap.size, 1, none⟩ (.slice (some ⟨g1, 0, none⟩) q p1) (.int .u64 (hiW bl)) (.int .u64 (loW bl)) (.int .u64 n) (.int .u64 0) V.drew) := Hc5.keep HV.out (drew_belowI V)
 have HB0 : Hid (Below w.heap.size w V) := b0
 clear hV b0 t0 t1
 go_cut [8] (fun p wq => ∃ g : Nat, p = .pointer (some ⟨g, 0, none⟩) ∧ wq.cell? ⟨g, 0, none⟩ = some (.int .u64 (hiW X)) ∧ wq.cell? ⟨g, 1, none⟩ = some (.int .u64 (loW X)) ∧ V.heap.size ≤ g ∧ Below V.heap.size V wq)
 case first =>
  go_region_held3 (fun x => x.cell? ⟨d, 8, none⟩ = some (.slice (some ⟨g1, 0, none⟩) q p1) ∧ x.cell? ⟨g1, k * 2, none⟩ = some (.int .u64 (hiW bl)) ∧ x.cell? ⟨g1, k * 2 + 1, none⟩ = some (.int .u64 (loW bl)) ∧ x.cell? ⟨w.heap.size, 0, none⟩ = some (.int .u64 n) ∧ x.cell? ⟨w.heap.size, 1, none⟩ = some (.int .u64 0) ∧ Below V.heap.size V x ∧ V.heap.size ≤ x.heap.size)
   (first | exact HS.out | exact HX.out | exact Hc5.far HX.out HV.out | exact Hc5.far HX.out HS.out | exact Hc5.far HX.out HX.out | exact Hc5.keep HX.out ((Below.refl _ _).alloc (Nat.le_refl _) _) | assumption | exact Hc5.keep (by assumption) (by assumption) | exact Hc5.keep (by assumption) ((Below.refl _ _).alloc (Nat.le_refl _) _) | exact Hc5.keep HS.out ((Below.refl _ _).alloc (Nat.le_refl _) _))
   (first
   | (go_at_call 28; refine (cA1 _).mono ?_; rintro e x ⟨rfl, hx⟩; have HX : Hid (Hc5 V ⟨d, 8, none⟩ ⟨g1, k * 2, none⟩ ⟨g1, k * 2 + 1, none⟩ ⟨w.heap.size, 0, none⟩ ⟨w.heap.size, 1, none⟩ (.slice (some ⟨g1, 0, none⟩) q p1) (.int .u64 (hiW bl)) (.int .u64 (loW bl)) (.int .u64 n) (.int .u64 0) x) := Hc5.keep (by first | exact HS.out | assumption) hx; obtain ⟨hc1, hf1⟩ := bkeep hx))
  all_goals
   rename_i h6x
   have h6 : Hc5 V ⟨d, 8, none⟩ ⟨g1, k * 2, none⟩ ⟨g1, k * 2 + 1, none⟩ ⟨w.heap.size, 0, none⟩ ⟨w.heap.size, 1, none⟩ (.slice (some ⟨g1, 0, none⟩) q p1) (.int .u64 (hiW bl)) (.int .u64 (loW bl)) (.int .u64 n) (.int .u64 0) _ := h6x
   have H6 : Hid _ := h6.bel
   have z1 := HV.out.bel.size
   have z2 := HS.out.bel.size
   have z3 := HX.out.bel.size
   clear h6x h6 HS HX HV
   go_wp2
   go_meet
   exact ⟨_, rfl, by simp [go_sem, *], by simp [go_sem, *], by first | assumption | omega | (simp; omega), H6.out⟩
 case rest =>
 obtain ⟨ga, rfl, ga0, ga1, hga, hBa⟩ := hcut
 have HGA : Hid (wc.cell? ⟨ga, 0, none⟩ = some (.int .u64 (hiW X)) ∧ wc.cell? ⟨ga, 1, none⟩ = some (.int .u64 (loW X)) ∧ V.heap.size ≤ ga ∧ Below V.heap.size V wc) := ⟨ga0, ga1, hga, hBa⟩
 obtain ⟨U, hU⟩ : ∃ U, wc = U := ⟨_, rfl⟩
 rw [hU] at HGA
 rw [hU]
 have HBU : Hid (Below w.heap.size w U) := HB0.out.trans (HGA.out.2.2.2.mono HB0.out.size)
 have tt := HV.out
 have HW : Hid (Hc5 U ⟨d, 9, none⟩ ⟨g2, k * 2, none⟩ ⟨g2, k * 2 + 1, none⟩ ⟨w.heap.size, 0, none⟩ ⟨w.heap.size, 1, none⟩ (.slice (some ⟨g2, 0, none⟩) q p2) (.int .u64 (hiW bh)) (.int .u64 (loW bh)) (.int .u64 n) (.int .u64 0) U) := ⟨cellB HBU.out c9, cellB HBU.out hy1, cellB HBU.out hy2, cellB HGA.out.2.2.2 tt.2.2.2.1, cellB HGA.out.2.2.2 tt.2.2.2.2.1, Below.refl _ _, Nat.le_refl _⟩
 have HT : Hid (Hc5 U ⟨d, 9, none⟩ ⟨g2, k * 2, none⟩ ⟨g2, k * 2 + 1, none⟩ ⟨w.heap.size, 0, none⟩ ⟨w.heap.size, 1, none⟩ (.slice (some ⟨g2, 0, none⟩) q p2) (.int .u64 (hiW bh)) (.int .u64 (loW bh)) (.int .u64 n) (.int .u64 0) U.drew) := Hc5.keep HW.out (drew_belowI U)
 clear hU ga0 ga1 hga hBa HS tt cA1
 go_upto_region 5 with fail
 go_cut [10] (fun p wq => ∃ g : Nat, p = .pointer (some ⟨g, 0, none⟩) ∧ wq.cell? ⟨g, 0, none⟩ = some (.int .u64 (hiW Y)) ∧ wq.cell? ⟨g, 1, none⟩ = some (.int .u64 (loW Y)) ∧ U.heap.size ≤ g ∧ Below U.heap.size U wq)
 case first =>
  go_region_held3 (fun x => x.cell? ⟨d, 9, none⟩ = some (.slice (some ⟨g2, 0, none⟩) q p2) ∧ x.cell? ⟨g2, k * 2, none⟩ = some (.int .u64 (hiW bh)) ∧ x.cell? ⟨g2, k * 2 + 1, none⟩ = some (.int .u64 (loW bh)) ∧ x.cell? ⟨w.heap.size, 0, none⟩ = some (.int .u64 n) ∧ x.cell? ⟨w.heap.size, 1, none⟩ = some (.int .u64 0) ∧ Below U.heap.size U x ∧ U.heap.size ≤ x.heap.size)
   (first | exact HT.out | exact HX.out | exact Hc5.far HX.out HW.out | exact Hc5.far HX.out HT.out | exact Hc5.far HX.out HX.out | exact Hc5.keep HX.out ((Below.refl _ _).alloc (Nat.le_refl _) _) | assumption | exact Hc5.keep (by assumption) (by assumption) | exact Hc5.keep (by assumption) ((Below.refl _ _).alloc (Nat.le_refl _) _) | exact Hc5.keep HT.out ((Below.refl _ _).alloc (Nat.le_refl _) _))
   (first
   | (go_at_call 28; refine (cA2 _).mono ?_; rintro e x ⟨rfl, hx⟩; have HX : Hid (Hc5 U ⟨d, 9, none⟩ ⟨g2, k * 2, none⟩ ⟨g2, k * 2 + 1, none⟩ ⟨w.heap.size, 0, none⟩ ⟨w.heap.size, 1, none⟩ (.slice (some ⟨g2, 0, none⟩) q p2) (.int .u64 (hiW bh)) (.int .u64 (loW bh)) (.int .u64 n) (.int .u64 0) x) := Hc5.keep (by first | exact HT.out | assumption) hx; obtain ⟨hc1, hf1⟩ := bkeep hx))
  all_goals
   rename_i h6x
   have h6 : Hc5 U ⟨d, 9, none⟩ ⟨g2, k * 2, none⟩ ⟨g2, k * 2 + 1, none⟩ ⟨w.heap.size, 0, none⟩ ⟨w.heap.size, 1, none⟩ (.slice (some ⟨g2, 0, none⟩) q p2) (.int .u64 (hiW bh)) (.int .u64 (loW bh)) (.int .u64 n) (.int .u64 0) _ := h6x
   have H6 : Hid _ := h6.bel
   have z1 := HW.out.bel.size
   have z2 := HT.out.bel.size
   have z3 := HX.out.bel.size
   clear h6x h6 HT HX HW
   go_wp2
   go_meet
   exact ⟨_, rfl, by simp [go_sem, *], by simp [go_sem, *], by first | assumption | omega | (simp; omega), H6.out⟩
 case rest =>
 obtain ⟨gb, rfl, gb0, gb1, hgb, hBb⟩ := hcut
 have hBx : Below w.heap.size w wc := HBU.out.trans (hBb.mono HBU.out.size)
 have HR1 : Hid _ := HR.out.below hBx
 have HBX : Hid (Below w.heap.size w wc) := hBx
 have xa0 := cellB hBb HGA.out.1
 have xa1 := cellB hBb HGA.out.2.1
 have HSZ : Hid (w.heap.size ≤ ga ∧ w.heap.size ≤ gb) := by
  have z1 := HB0.out.size
  have z2 := HBU.out.size
  have z3 := HGA.out.2.2.1
  exact (show w.heap.size ≤ ga ∧ w.heap.size ≤ gb by omega)
 obtain ⟨U, hU⟩ : ∃ U, wc = U := ⟨_, rfl⟩
 rw [hU] at HR1 HBX gb0 gb1 xa0 xa1
 rw [hU]
 clear hU HT HW HV HGA HBU HB0 hgb hBb hBx HR c8 c9 hx1 hx2 hy1 hy2 cA2
 have c8 := HR1.out.c8.1
 obtain ⟨g', p', ev1, x1, x2⟩ := HR1.out.at1 HL1.out.2.2.1
 rw [HL1.out.1] at ev1
 cases ev1
 obtain ⟨hx1, fx1⟩ := x1
 obtain ⟨hx2, fx2⟩ := x2
 have HRW : Hid (∀ U', Below U.heap.size U U' → R2 c B ((U'.setCell ⟨g1, k * 2, none⟩ (.int .u64 (hiW X))).setCell ⟨g1, k * 2 + 1, none⟩ (.int .u64 (loW X))) d (.slice (some ⟨g1, 0, none⟩) q p1) (.slice (some ⟨g2, 0, none⟩) q p2) ((L.map Bd.lo).set k X) (L.map Bd.hi) ∧
   Chg (RK d (.slice (some ⟨g1, 0, none⟩) q p1) (.slice (some ⟨g2, 0, none⟩) q p2)) w ((U'.setCell ⟨g1, k * 2, none⟩ (.int .u64 (hiW X))).setCell ⟨g1, k * 2 + 1, none⟩ (.int .u64 (loW X))) ∧
   ((U'.setCell ⟨g1, k * 2, none⟩ (.int .u64 (hiW X))).setCell ⟨g1, k * 2 + 1, none⟩ (.int .u64 (loW X))).cell? ⟨gb, 0, none⟩ = some (.int .u64 (hiW Y)) ∧ ((U'.setCell ⟨g1, k * 2, none⟩ (.int .u64 (hiW X))).setCell ⟨g1, k * 2 + 1, none⟩ (.int .u64 (loW X))).cell? ⟨gb, 1, none⟩ = some (.int .u64 (loW Y))) := fun U' hU' => by
  have hh := HR1.out.below hU'
  have hb' := HBX.out.trans (hU'.mono HBX.out.size)
  rw [← HL1.out.1] at hh
  have h7 := hh.wr1 HL1.out.2.2.1 X
  rw [HL1.out.1] at h7
  refine ⟨h7, (Chg.of_below hb' _).trans (two_chg U' g1 (k * 2) (k * 2 + 1) (.int .u64 (hiW X)) (.int .u64 (loW X))) (fun i _ e => by have e' : i = g1 := e; subst e'; exact .inr (.inl rfl)), (two_chg U' g1 (k * 2) (k * 2 + 1) (.int .u64 (hiW X)) (.int .u64 (loW X))).cell (cellB hU' gb0) (fun e => ?_), (two_chg U' g1 (k * 2) (k * 2 + 1) (.int .u64 (hiW X)) (.int .u64 (loW X))).cell (cellB hU' gb1) (fun e => ?_)⟩
  ·have e' : gb = g1 := e
   have := HSZ.out
   omega
  ·have e' : gb = g1 := e
   have := HSZ.out
   omega
 clear HR1 gb0 gb1
 go_upto_region 6 with fail
 go_cut [69] (fun p wq => R2 c B wq d (.slice (some ⟨g1, 0, none⟩) q p1) (.slice (some ⟨g2, 0, none⟩) q p2) ((L.map Bd.lo).set k X) (L.map Bd.hi) ∧ Chg (RK d (.slice (some ⟨g1, 0, none⟩) q p1) (.slice (some ⟨g2, 0, none⟩) q p2)) w wq ∧ wq.cell? ⟨gb, 0, none⟩ = some (.int .u64 (hiW Y)) ∧ wq.cell? ⟨gb, 1, none⟩ = some (.int .u64 (loW Y)))
 case first =>
  go_region_with (fail)
  all_goals
   go_wp2
   go_meet
   exact HRW.out _ (by first | exact drew_belowI U | exact bel_draw U _ | exact Below.refl _ _)
 case rest =>
 obtain ⟨hr, hC, gb0, gb1⟩ := hcut
 clear HRW c8 hx1 hx2 fx1 fx2 xa0 xa1
 have HR2 : Hid _ := hr
 have HC2 : Hid _ := hC
 obtain ⟨U2, hU2⟩ : ∃ U2, wc = U2 := ⟨_, rfl⟩
 rw [hU2] at HR2 HC2 gb0 gb1
 rw [hU2]
 clear hU2 hr hC
 have c9 := HR2.out.c9.1
 obtain ⟨g', p', ev2, y1, y2⟩ := HR2.out.at2 HL1.out.2.2.2
 rw [HL1.out.2.1] at ev2
 cases ev2
 obtain ⟨hy1, fy1⟩ := y1
 obtain ⟨hy2, fy2⟩ := y2
 have HRZ : Hid (∀ U', Below U2.heap.size U2 U' → RIdl c B ((U'.setCell ⟨g2, k * 2, none⟩ (.int .u64 (hiW Y))).setCell ⟨g2, k * 2 + 1, none⟩ (.int .u64 (loW Y))) d (.slice (some ⟨g1, 0, none⟩) q p1) (.slice (some ⟨g2, 0, none⟩) q p2) (L.set k (chB b n)) ∧
   Chg (RK d (.slice (some ⟨g1, 0, none⟩) q p1) (.slice (some ⟨g2, 0, none⟩) q p2)) w ((U'.setCell ⟨g2, k * 2, none⟩ (.int .u64 (hiW Y))).setCell ⟨g2, k * 2 + 1, none⟩ (.int .u64 (loW Y)))) := fun U' hU' => by
  have hh := HR2.out.below hU'
  rw [← HL1.out.2.1] at hh
  have h7 := hh.wr2 HL1.out.2.2.2 Y
  rw [HL1.out.2.1] at h7
  refine ⟨h7.one (by rw [HXY.out, List.map_set]) (by rw [HXY.out, List.map_set]) (fun x hx => ?_) (by rw [List.length_set, HQ.out]; exact HOK.out.2.2), (HC2.out.trans (Chg.of_below hU' (fun _ => False)) (fun _ _ e => e.elim)).trans (two_chg U' g2 (k * 2) (k * 2 + 1) (.int .u64 (hiW Y)) (.int .u64 (loW Y))) (fun i _ e => by have e' : i = g2 := e; subst e'; exact .inr (.inr rfl))⟩
  rcases List.mem_or_eq_of_mem_set hx with y | rfl
  ·exact HOK.out.1 x y
  ·exact HOK.out.2.1
 clear HR2 HC2
 go_upto_region 7 with fail
 go_region_with (fail)
 all_goals
  go_wp2
  go_ret
  have h9 := HRZ.out U2 (Below.refl _ _)
  exact ⟨rfl, h9.1.below (drew_belowI _), h9.2.drew⟩
end Go.Proofs.YtdkbmligaodpmaaGreatDoor
namespace Go.Proofs.YtdkbmligaodpmaaGreatDoor
open Go.RowKit Wd Tr

theorem back63 {u : Int} (hu : Num u) : hiW (u / 9223372036854775808 * 9223372036854775808) = hiW u ∧ (loW (u / 9223372036854775808 * 9223372036854775808) = loW u ↔ u % 9223372036854775808 = 0) ∧ shlV (u / 9223372036854775808) 63 = u / 9223372036854775808 * 9223372036854775808 := by
 have h0 := hu.1
 have h1 := hu.2
 unfold top at h1
 refine ⟨by unfold hiW; omega, by unfold loW; omega, ?_⟩
 unfold shlV
 rw [if_neg (by omega)]
 show u / 9223372036854775808 * 9223372036854775808 % _ = _
 omega
theorem bx_off {W : World} {g h : Nat} {a b : Value} (k : Bx W g a b) (hn : g ≠ h) (x y : Value) : Bx ((W.setCell ⟨h, 0, none⟩ x).setCell ⟨h, 1, none⟩ y) g a b := by
 obtain ⟨k0, k1, k2, k3⟩ := k
 exact ⟨by simp [go_sem, *], by simp [go_sem, *], by simp [go_sem, *], by simp [go_sem, *]⟩
set_option maxRecDepth 20000 in
set_option maxHeartbeats 2000000 in
theorem rpt_dn (n f : Int) (hn : Num n) (f0 : 0 ≤ f) (f1 : f ≤ 9223372036854775808) (w : World) :
  Calls Tryz.prog 46 #[nuV n, .int .u64 f, .bool false] w fun e w' => e = .returned (nuV (n * f / 9223372036854775808)) ∧ Below w.heap.size w w' := by
 obtain ⟨wf, nh, nl, es, n2, nd, nc, ed, ec⟩ := part_words hn f0 f1
 have c1 := rmuln (hiW n) f (hi_word hn) wf
 have c2 := rmuln (loW n) f (lo_word n) wf
 have c3 := rshl_num (hiW n * f) 1 nh (by omega)
 rw [es] at c3
 have c4 := rshr_num (loW n * f) 63 nl (by omega)
 have e4 : shrV (loW n * f) 63 = loW n * f / 9223372036854775808 := by unfold shrV; rw [if_neg (by omega)]; rfl
 rw [e4] at c4
 have c8 := raddn (2 * (hiW n * f)) (loW n * f / 9223372036854775808) n2 nd
 rw [ed] at c8
 clear wf nh nl es n2 nd nc ed ec e4 hn f0 f1
 generalize loW n * f / 9223372036854775808 = Y at *
 generalize n * f / 9223372036854775808 = Z at *
 generalize 2 * (hiW n * f) = X at *
 generalize hiW n * f = A at *
 generalize loW n * f = L at *
 have ax := (Bx.new w (.int .u64 (hiW n)) (.int .u64 (loW n)) 68).alloc #[.int .u64 0, .int .u64 0] 68
 have rx := Bx.new (w.alloc (.cells #[.int .u64 (hiW n), .int .u64 (loW n)] 68)) (.int .u64 0) (.int .u64 0) 68
 have b0 : Below w.heap.size w ((w.alloc (.cells #[.int .u64 (hiW n), .int .u64 (loW n)] 68)).alloc (.cells #[.int .u64 0, .int .u64 0] 68)) := ((Below.refl _ w).alloc (Nat.le_refl _) _).alloc (by simp) _
 simp only [World.size_alloc] at rx
 have hr : w.heap.size ≤ w.heap.size + 1 := by omega
 go_enter Tryz.func46, Tryz.ntmps46
 obtain ⟨ax0, ax1, _, _⟩ := id ax
 go_wp2_with fail
 refine (c1 _).mono ?_
 rintro e w1 ⟨rfl, hb⟩
 clear ax0 ax1
 replace ax := (ax.below hb).alloc #[.int .u64 (hiW A), .int .u64 (loW A)] 68
 replace rx := (rx.below hb).alloc #[.int .u64 (hiW A), .int .u64 (loW A)] 68
 have hx := Bx.new w1 (.int .u64 (hiW A)) (.int .u64 (loW A)) 68
 have B1 := b0.trans (hb.mono b0.size)
 have hg1 := B1.size
 replace B1 := B1.alloc (o := .cells #[.int .u64 (hiW A), .int .u64 (loW A)] 68) hg1
 clear hb b0 c1
 go_upto_region 2 with fail
 generalize w1.alloc (.cells #[.int .u64 (hiW A), .int .u64 (loW A)] 68) = v1 at *
 generalize w1.heap.size = g7 at *
 obtain ⟨ax0, ax1, _, _⟩ := id ax
 go_wp2_with fail
 refine (c2 _).mono ?_
 rintro e w2 ⟨rfl, hb⟩
 clear ax0 ax1
 clear ax
 replace rx := (rx.below hb).alloc #[.int .u64 (hiW L), .int .u64 (loW L)] 68
 replace hx := (hx.below hb).alloc #[.int .u64 (hiW L), .int .u64 (loW L)] 68
 have lx := Bx.new w2 (.int .u64 (hiW L)) (.int .u64 (loW L)) 68
 have B2 := B1.trans (hb.mono B1.size)
 have hg2 := B2.size
 replace B2 := B2.alloc (o := .cells #[.int .u64 (hiW L), .int .u64 (loW L)] 68) hg2
 clear hb B1 c2
 go_upto_region 3 with fail
 generalize w2.alloc (.cells #[.int .u64 (hiW L), .int .u64 (loW L)] 68) = v2 at *
 generalize w2.heap.size = g8 at *
 obtain ⟨hx0, hx1, _, _⟩ := id hx
 go_wp2_with fail
 refine (c3 _).mono ?_
 rintro e w3 ⟨rfl, hb⟩
 clear hx0 hx1
 clear hx
 replace rx := (rx.below hb).alloc #[.int .u64 (hiW X), .int .u64 (loW X)] 68
 replace lx := (lx.below hb).alloc #[.int .u64 (hiW X), .int .u64 (loW X)] 68
 have xx := Bx.new w3 (.int .u64 (hiW X)) (.int .u64 (loW X)) 68
 have B3 := B2.trans (hb.mono B2.size)
 have hg3 := B3.size
 replace B3 := B3.alloc (o := .cells #[.int .u64 (hiW X), .int .u64 (loW X)] 68) hg3
 clear hb B2 c3
 go_upto_region 4 with fail
 generalize w3.alloc (.cells #[.int .u64 (hiW X), .int .u64 (loW X)] 68) = v3 at *
 generalize w3.heap.size = g9 at *
 obtain ⟨lx0, lx1, _, _⟩ := id lx
 go_wp2_with fail
 refine (c4 _).mono ?_
 rintro e w4 ⟨rfl, hb⟩
 clear lx0 lx1
 clear lx
 replace rx := (rx.below hb).alloc #[.int .u64 (hiW Y), .int .u64 (loW Y)] 68
 replace xx := (xx.below hb).alloc #[.int .u64 (hiW Y), .int .u64 (loW Y)] 68
 have yx := Bx.new w4 (.int .u64 (hiW Y)) (.int .u64 (loW Y)) 68
 have B4 := B3.trans (hb.mono B3.size)
 have hg4 := B4.size
 replace B4 := B4.alloc (o := .cells #[.int .u64 (hiW Y), .int .u64 (loW Y)] 68) hg4
 clear hb B3 c4
 go_upto_region 5 with fail
 generalize w4.alloc (.cells #[.int .u64 (hiW Y), .int .u64 (loW Y)] 68) = v4 at *
 generalize w4.heap.size = g10 at *
 go_cut [31] (fun b wq => b = .bool false ∧ Bx wq (w.heap.size + 1) (.int .u64 0) (.int .u64 0) ∧ Bx wq g9 (.int .u64 (hiW X)) (.int .u64 (loW X)) ∧ Bx wq g10 (.int .u64 (hiW Y)) (.int .u64 (loW Y)) ∧ Below w.heap.size w wq)
 case first =>
  have HB : Hid (Bx v4 (w.heap.size + 1) (.int .u64 0) (.int .u64 0) ∧ Bx v4 g9 (.int .u64 (hiW X)) (.int .u64 (loW X)) ∧ Bx v4 g10 (.int .u64 (hiW Y)) (.int .u64 (loW Y)) ∧ Below w.heap.size w v4) := ⟨rx, xx, yx, B4⟩
  clear rx xx yx B4 c8
  go_quiet (fail)
  go_wp2
  go_meet
  have hd := bel_draw v4
  exact ⟨rfl, HB.out.1.below (bel_draw v4 _), HB.out.2.1.below (bel_draw v4 _), HB.out.2.2.1.below (bel_draw v4 _), HB.out.2.2.2.trans ((bel_draw v4 _).mono HB.out.2.2.2.size)⟩
 case rest =>
  obtain ⟨rfl, r5, x5, y5, B5⟩ := hcut
  clear rx xx yx B4
  obtain ⟨xa, xb, _, _⟩ := x5
  obtain ⟨ya, yb, _, _⟩ := y5
  go_wp2_with fail
  refine (c8 _).mono ?_
  rintro e w7 ⟨rfl, hb⟩
  have r7 := (r5.below hb).alloc #[.int .u64 (hiW Z), .int .u64 (loW Z)] 68
  have s7 := Bx.new w7 (.int .u64 (hiW Z)) (.int .u64 (loW Z)) 68
  have B7 := B5.trans (hb.mono B5.size)
  replace B7 := B7.alloc (o := .cells #[.int .u64 (hiW Z), .int .u64 (loW Z)] 68) B7.size
  clear hb c8 xa xb ya yb r5 B5
  go_upto_region 8 with fail
  generalize w7.alloc (.cells #[.int .u64 (hiW Z), .int .u64 (loW Z)] 68) = w8 at *
  generalize w7.heap.size = g11 at *
  obtain ⟨r0, r1, r2, r3⟩ := r7
  obtain ⟨s0, s1, _, _⟩ := s7
  go_wp2
  exact bodyPost_ret (v := nuV Z) (by simp [results, Tryz.results46, go_sem, nuV, *]) rfl ⟨rfl, (B7.setCell hr _).setCell hr _⟩
set_option maxRecDepth 20000 in
set_option maxHeartbeats 2000000 in
theorem rpt_up0 (n f : Int) (hn : Num n) (f0 : 0 ≤ f) (f1 : f ≤ 9223372036854775808) (h0 : loW n * f % 9223372036854775808 = 0) (w : World) :
  Calls Tryz.prog 46 #[nuV n, .int .u64 f, .bool true] w fun e w' => e = .returned (nuV (cl (n * f) 9223372036854775808)) ∧ Below w.heap.size w w' := by
 obtain ⟨wf, nh, nl, es, n2, nd, nc, ed, ec⟩ := part_words hn f0 f1
 have c1 := rmuln (hiW n) f (hi_word hn) wf
 have c2 := rmuln (loW n) f (lo_word n) wf
 have c3 := rshl_num (hiW n * f) 1 nh (by omega)
 rw [es] at c3
 have c4 := rshr_num (loW n * f) 63 nl (by omega)
 have e4 : shrV (loW n * f) 63 = loW n * f / 9223372036854775808 := by unfold shrV; rw [if_neg (by omega)]; rfl
 rw [e4] at c4
 have c5 := rshl_num (loW n * f / 9223372036854775808) 63 nd (by omega)
 obtain ⟨p1, p2, p3⟩ := back63 nl
 rw [p3, p1] at c5
 have hcl := cl_rem (x := loW n * f) (b := 9223372036854775808) (by omega)
 rw [if_pos h0] at hcl
 rw [p2.2 h0] at c5
 rw [hcl] at ec nc
 have c8 := raddn (2 * (hiW n * f)) (loW n * f / 9223372036854775808) n2 nd
 rw [ec] at c8
 clear wf nh nl es n2 nd nc ed ec e4 hn f0 f1 p1 p2 p3 hcl h0
 generalize loW n * f / 9223372036854775808 = Y at *
 generalize cl (n * f) 9223372036854775808 = Z at *
 generalize 2 * (hiW n * f) = X at *
 generalize hiW n * f = A at *
 generalize loW n * f = L at *
 have ax := (Bx.new w (.int .u64 (hiW n)) (.int .u64 (loW n)) 68).alloc #[.int .u64 0, .int .u64 0] 68
 have rx := Bx.new (w.alloc (.cells #[.int .u64 (hiW n), .int .u64 (loW n)] 68)) (.int .u64 0) (.int .u64 0) 68
 have b0 : Below w.heap.size w ((w.alloc (.cells #[.int .u64 (hiW n), .int .u64 (loW n)] 68)).alloc (.cells #[.int .u64 0, .int .u64 0] 68)) := ((Below.refl _ w).alloc (Nat.le_refl _) _).alloc (by simp) _
 simp only [World.size_alloc] at rx
 have hr : w.heap.size ≤ w.heap.size + 1 := by omega
 go_enter Tryz.func46, Tryz.ntmps46
 obtain ⟨ax0, ax1, _, _⟩ := id ax
 go_wp2_with fail
 refine (c1 _).mono ?_
 rintro e w1 ⟨rfl, hb⟩
 clear ax0 ax1
 replace ax := (ax.below hb).alloc #[.int .u64 (hiW A), .int .u64 (loW A)] 68
 replace rx := (rx.below hb).alloc #[.int .u64 (hiW A), .int .u64 (loW A)] 68
 have hx := Bx.new w1 (.int .u64 (hiW A)) (.int .u64 (loW A)) 68
 have B1 := b0.trans (hb.mono b0.size)
 have hg1 := B1.size
 replace B1 := B1.alloc (o := .cells #[.int .u64 (hiW A), .int .u64 (loW A)] 68) hg1
 clear hb b0 c1
 go_upto_region 2 with fail
 generalize w1.alloc (.cells #[.int .u64 (hiW A), .int .u64 (loW A)] 68) = v1 at *
 generalize w1.heap.size = g7 at *
 obtain ⟨ax0, ax1, _, _⟩ := id ax
 go_wp2_with fail
 refine (c2 _).mono ?_
 rintro e w2 ⟨rfl, hb⟩
 clear ax0 ax1
 clear ax
 replace rx := (rx.below hb).alloc #[.int .u64 (hiW L), .int .u64 (loW L)] 68
 replace hx := (hx.below hb).alloc #[.int .u64 (hiW L), .int .u64 (loW L)] 68
 have lx := Bx.new w2 (.int .u64 (hiW L)) (.int .u64 (loW L)) 68
 have B2 := B1.trans (hb.mono B1.size)
 have hg2 := B2.size
 replace B2 := B2.alloc (o := .cells #[.int .u64 (hiW L), .int .u64 (loW L)] 68) hg2
 clear hb B1 c2
 go_upto_region 3 with fail
 generalize w2.alloc (.cells #[.int .u64 (hiW L), .int .u64 (loW L)] 68) = v2 at *
 generalize w2.heap.size = g8 at *
 obtain ⟨hx0, hx1, _, _⟩ := id hx
 go_wp2_with fail
 refine (c3 _).mono ?_
 rintro e w3 ⟨rfl, hb⟩
 clear hx0 hx1
 clear hx
 replace rx := (rx.below hb).alloc #[.int .u64 (hiW X), .int .u64 (loW X)] 68
 replace lx := (lx.below hb).alloc #[.int .u64 (hiW X), .int .u64 (loW X)] 68
 have xx := Bx.new w3 (.int .u64 (hiW X)) (.int .u64 (loW X)) 68
 have B3 := B2.trans (hb.mono B2.size)
 have hg3 := B3.size
 replace B3 := B3.alloc (o := .cells #[.int .u64 (hiW X), .int .u64 (loW X)] 68) hg3
 clear hb B2 c3
 go_upto_region 4 with fail
 generalize w3.alloc (.cells #[.int .u64 (hiW X), .int .u64 (loW X)] 68) = v3 at *
 generalize w3.heap.size = g9 at *
 obtain ⟨lx0, lx1, _, _⟩ := id lx
 go_wp2_with fail
 refine (c4 _).mono ?_
 rintro e w4 ⟨rfl, hb⟩
 clear lx0 lx1
 replace rx := (rx.below hb).alloc #[.int .u64 (hiW Y), .int .u64 (loW Y)] 68
 replace lx := (lx.below hb).alloc #[.int .u64 (hiW Y), .int .u64 (loW Y)] 68
 replace xx := (xx.below hb).alloc #[.int .u64 (hiW Y), .int .u64 (loW Y)] 68
 have yx := Bx.new w4 (.int .u64 (hiW Y)) (.int .u64 (loW Y)) 68
 have B4 := B3.trans (hb.mono B3.size)
 have hg4 := B4.size
 replace B4 := B4.alloc (o := .cells #[.int .u64 (hiW Y), .int .u64 (loW Y)] 68) hg4
 clear hb B3 c4
 go_upto_region 5 with fail
 generalize w4.alloc (.cells #[.int .u64 (hiW Y), .int .u64 (loW Y)] 68) = v4 at *
 generalize w4.heap.size = g10 at *
 go_cut [31] (fun b wq => b = .bool false ∧ Bx wq (w.heap.size + 1) (.int .u64 0) (.int .u64 0) ∧ Bx wq g9 (.int .u64 (hiW X)) (.int .u64 (loW X)) ∧ Bx wq g10 (.int .u64 (hiW Y)) (.int .u64 (loW Y)) ∧ Below w.heap.size w wq)
 case first =>
  have HB : Hid (Bx v4 (w.heap.size + 1) (.int .u64 0) (.int .u64 0) ∧ Bx v4 g9 (.int .u64 (hiW X)) (.int .u64 (loW X)) ∧ Bx v4 g10 (.int .u64 (hiW Y)) (.int .u64 (loW Y)) ∧ Below w.heap.size w v4) := ⟨rx, xx, yx, B4⟩
  obtain ⟨q0, q1, _, _⟩ := yx
  obtain ⟨u0, u1, _, _⟩ := lx
  clear rx xx B4 c8
  go_region_with (first
   | (go_at_call 29; refine (c5 _).mono ?_; rintro e x ⟨rfl, hx⟩; have u0x := keepC hx u0; have u1x := keepC hx u1; have HX : Hid (Below v4.drew.heap.size v4.drew x) := hx))
  all_goals
   have hd : Below v4.heap.size v4 x := (drew_belowI v4).trans (HX.out.mono (by simp))
   replace HB : Hid (Bx x (w.heap.size + 1) (.int .u64 0) (.int .u64 0) ∧ Bx x g9 (.int .u64 (hiW X)) (.int .u64 (loW X)) ∧ Bx x g10 (.int .u64 (hiW Y)) (.int .u64 (loW Y)) ∧ Below w.heap.size w x) := ⟨HB.out.1.below hd, HB.out.2.1.below hd, HB.out.2.2.1.below hd, HB.out.2.2.2.trans (hd.mono HB.out.2.2.2.size)⟩
   clear HX hd q0 q1 c5
   go_wp2
   go_meet
   exact ⟨by simp [*], HB.out⟩
 case rest =>
  obtain ⟨rfl, r5, x5, y5, B5⟩ := hcut
  clear rx xx yx B4 lx c5
  obtain ⟨xa, xb, _, _⟩ := x5
  obtain ⟨ya, yb, _, _⟩ := y5
  go_wp2_with fail
  refine (c8 _).mono ?_
  rintro e w7 ⟨rfl, hb⟩
  have r7 := (r5.below hb).alloc #[.int .u64 (hiW Z), .int .u64 (loW Z)] 68
  have s7 := Bx.new w7 (.int .u64 (hiW Z)) (.int .u64 (loW Z)) 68
  have B7 := B5.trans (hb.mono B5.size)
  replace B7 := B7.alloc (o := .cells #[.int .u64 (hiW Z), .int .u64 (loW Z)] 68) B7.size
  clear hb c8 xa xb ya yb r5 B5
  go_upto_region 8 with fail
  generalize w7.alloc (.cells #[.int .u64 (hiW Z), .int .u64 (loW Z)] 68) = w8 at *
  generalize w7.heap.size = g11 at *
  obtain ⟨r0, r1, r2, r3⟩ := r7
  obtain ⟨s0, s1, _, _⟩ := s7
  go_wp2
  exact bodyPost_ret (v := nuV Z) (by simp [results, Tryz.results46, go_sem, nuV, *]) rfl ⟨rfl, (B7.setCell hr _).setCell hr _⟩
set_option maxRecDepth 20000 in
set_option maxHeartbeats 2000000 in
theorem rpt_up1 (n f : Int) (hn : Num n) (f0 : 0 ≤ f) (f1 : f ≤ 9223372036854775808) (h0 : loW n * f % 9223372036854775808 ≠ 0) (w : World) :
  Calls Tryz.prog 46 #[nuV n, .int .u64 f, .bool true] w fun e w' => e = .returned (nuV (cl (n * f) 9223372036854775808)) ∧ Below w.heap.size w w' := by
 obtain ⟨wf, nh, nl, es, n2, nd, nc, ed, ec⟩ := part_words hn f0 f1
 have c1 := rmuln (hiW n) f (hi_word hn) wf
 have c2 := rmuln (loW n) f (lo_word n) wf
 have c3 := rshl_num (hiW n * f) 1 nh (by omega)
 rw [es] at c3
 have c4 := rshr_num (loW n * f) 63 nl (by omega)
 have e4 : shrV (loW n * f) 63 = loW n * f / 9223372036854775808 := by unfold shrV; rw [if_neg (by omega)]; rfl
 rw [e4] at c4
 have c5 := rshl_num (loW n * f / 9223372036854775808) 63 nd (by omega)
 obtain ⟨p1, p2, p3⟩ := back63 nl
 rw [p3, p1] at c5
 have hcl := cl_rem (x := loW n * f) (b := 9223372036854775808) (by omega)
 rw [if_neg h0] at hcl
 rw [hcl] at ec nc
 have hne : ¬ loW (loW n * f / 9223372036854775808 * 9223372036854775808) = loW (loW n * f) := fun e => h0 (p2.1 e)
 have ea : Wd.addV (loW n * f / 9223372036854775808) 1 = loW n * f / 9223372036854775808 + 1 := by unfold Wd.addV; rw [if_pos nc.2]
 have c6 := rof_num 1 ⟨by omega, by omega⟩
 have c7 := raddn (loW n * f / 9223372036854775808) 1 nd ⟨by omega, by unfold top; omega⟩
 rw [ea] at c7
 have c8 := raddn (2 * (hiW n * f)) ((loW n * f / 9223372036854775808 + 1)) n2 nc
 rw [ec] at c8
 clear wf nh nl es n2 nd nc ed ec e4 hn f0 f1 p1 p2 p3 hcl h0 ea
 generalize loW (loW n * f / 9223372036854775808 * 9223372036854775808) = LX at *
 generalize loW n * f / 9223372036854775808 + 1 = Y1 at *
 generalize loW n * f / 9223372036854775808 = Y at *
 generalize cl (n * f) 9223372036854775808 = Z at *
 generalize 2 * (hiW n * f) = X at *
 generalize hiW n * f = A at *
 generalize loW n * f = L at *
 have ax := (Bx.new w (.int .u64 (hiW n)) (.int .u64 (loW n)) 68).alloc #[.int .u64 0, .int .u64 0] 68
 have rx := Bx.new (w.alloc (.cells #[.int .u64 (hiW n), .int .u64 (loW n)] 68)) (.int .u64 0) (.int .u64 0) 68
 have b0 : Below w.heap.size w ((w.alloc (.cells #[.int .u64 (hiW n), .int .u64 (loW n)] 68)).alloc (.cells #[.int .u64 0, .int .u64 0] 68)) := ((Below.refl _ w).alloc (Nat.le_refl _) _).alloc (by simp) _
 simp only [World.size_alloc] at rx
 have hr : w.heap.size ≤ w.heap.size + 1 := by omega
 go_enter Tryz.func46, Tryz.ntmps46
 obtain ⟨ax0, ax1, _, _⟩ := id ax
 go_wp2_with fail
 refine (c1 _).mono ?_
 rintro e w1 ⟨rfl, hb⟩
 clear ax0 ax1
 replace ax := (ax.below hb).alloc #[.int .u64 (hiW A), .int .u64 (loW A)] 68
 replace rx := (rx.below hb).alloc #[.int .u64 (hiW A), .int .u64 (loW A)] 68
 have hx := Bx.new w1 (.int .u64 (hiW A)) (.int .u64 (loW A)) 68
 have B1 := b0.trans (hb.mono b0.size)
 have hg1 := B1.size
 replace B1 := B1.alloc (o := .cells #[.int .u64 (hiW A), .int .u64 (loW A)] 68) hg1
 clear hb b0 c1
 go_upto_region 2 with fail
 generalize w1.alloc (.cells #[.int .u64 (hiW A), .int .u64 (loW A)] 68) = v1 at *
 generalize w1.heap.size = g7 at *
 obtain ⟨ax0, ax1, _, _⟩ := id ax
 go_wp2_with fail
 refine (c2 _).mono ?_
 rintro e w2 ⟨rfl, hb⟩
 clear ax0 ax1
 clear ax
 replace rx := (rx.below hb).alloc #[.int .u64 (hiW L), .int .u64 (loW L)] 68
 replace hx := (hx.below hb).alloc #[.int .u64 (hiW L), .int .u64 (loW L)] 68
 have lx := Bx.new w2 (.int .u64 (hiW L)) (.int .u64 (loW L)) 68
 have B2 := B1.trans (hb.mono B1.size)
 have hg2 := B2.size
 replace B2 := B2.alloc (o := .cells #[.int .u64 (hiW L), .int .u64 (loW L)] 68) hg2
 clear hb B1 c2
 go_upto_region 3 with fail
 generalize w2.alloc (.cells #[.int .u64 (hiW L), .int .u64 (loW L)] 68) = v2 at *
 generalize w2.heap.size = g8 at *
 obtain ⟨hx0, hx1, _, _⟩ := id hx
 go_wp2_with fail
 refine (c3 _).mono ?_
 rintro e w3 ⟨rfl, hb⟩
 clear hx0 hx1
 clear hx
 replace rx := (rx.below hb).alloc #[.int .u64 (hiW X), .int .u64 (loW X)] 68
 replace lx := (lx.below hb).alloc #[.int .u64 (hiW X), .int .u64 (loW X)] 68
 have xx := Bx.new w3 (.int .u64 (hiW X)) (.int .u64 (loW X)) 68
 have B3 := B2.trans (hb.mono B2.size)
 have hg3 := B3.size
 replace B3 := B3.alloc (o := .cells #[.int .u64 (hiW X), .int .u64 (loW X)] 68) hg3
 clear hb B2 c3
 go_upto_region 4 with fail
 generalize w3.alloc (.cells #[.int .u64 (hiW X), .int .u64 (loW X)] 68) = v3 at *
 generalize w3.heap.size = g9 at *
 obtain ⟨lx0, lx1, _, _⟩ := id lx
 go_wp2_with fail
 refine (c4 _).mono ?_
 rintro e w4 ⟨rfl, hb⟩
 have hk1 : w.heap.size + 1 ≠ w4.heap.size := by have h1 := rx.lt; have h2 := hb.size; omega
 have hk2 : g9 ≠ w4.heap.size := by have h1 := xx.lt; have h2 := hb.size; omega
 clear lx0 lx1
 replace rx := (rx.below hb).alloc #[.int .u64 (hiW Y), .int .u64 (loW Y)] 68
 replace lx := (lx.below hb).alloc #[.int .u64 (hiW Y), .int .u64 (loW Y)] 68
 replace xx := (xx.below hb).alloc #[.int .u64 (hiW Y), .int .u64 (loW Y)] 68
 have yx := Bx.new w4 (.int .u64 (hiW Y)) (.int .u64 (loW Y)) 68
 have B4 := B3.trans (hb.mono B3.size)
 have hg4 := B4.size
 replace B4 := B4.alloc (o := .cells #[.int .u64 (hiW Y), .int .u64 (loW Y)] 68) hg4
 clear hb B3 c4
 go_upto_region 5 with fail
 generalize w4.alloc (.cells #[.int .u64 (hiW Y), .int .u64 (loW Y)] 68) = v4 at *
 generalize w4.heap.size = g10 at *
 go_cut [31] (fun b wq => b = .bool true ∧ Bx wq (w.heap.size + 1) (.int .u64 0) (.int .u64 0) ∧ Bx wq g9 (.int .u64 (hiW X)) (.int .u64 (loW X)) ∧ Bx wq g10 (.int .u64 (hiW Y)) (.int .u64 (loW Y)) ∧ Below w.heap.size w wq)
 case first =>
  have HB : Hid (Bx v4 (w.heap.size + 1) (.int .u64 0) (.int .u64 0) ∧ Bx v4 g9 (.int .u64 (hiW X)) (.int .u64 (loW X)) ∧ Bx v4 g10 (.int .u64 (hiW Y)) (.int .u64 (loW Y)) ∧ Below w.heap.size w v4) := ⟨rx, xx, yx, B4⟩
  obtain ⟨q0, q1, _, _⟩ := yx
  obtain ⟨u0, u1, _, _⟩ := lx
  clear rx xx B4 c8 c6 c7
  go_region_with (first
   | (go_at_call 29; refine (c5 _).mono ?_; rintro e x ⟨rfl, hx⟩; have u0x := keepC hx u0; have u1x := keepC hx u1; have HX : Hid (Below v4.drew.heap.size v4.drew x) := hx))
  all_goals
   have hd : Below v4.heap.size v4 x := (drew_belowI v4).trans (HX.out.mono (by simp))
   replace HB : Hid (Bx x (w.heap.size + 1) (.int .u64 0) (.int .u64 0) ∧ Bx x g9 (.int .u64 (hiW X)) (.int .u64 (loW X)) ∧ Bx x g10 (.int .u64 (hiW Y)) (.int .u64 (loW Y)) ∧ Below w.heap.size w x) := ⟨HB.out.1.below hd, HB.out.2.1.below hd, HB.out.2.2.1.below hd, HB.out.2.2.2.trans (hd.mono HB.out.2.2.2.size)⟩
   clear HX hd q0 q1 c5
   go_wp2
   go_meet
   exact ⟨by simp [*], HB.out⟩
 case rest =>
  obtain ⟨rfl, r5, x5, y5, B5⟩ := hcut
  clear rx xx yx B4 lx c5
  go_upto_region 6 with fail
  go_cut [10] (fun b wq => b = .pointer (some ⟨g10, 0, none⟩) ∧ Bx wq (w.heap.size + 1) (.int .u64 0) (.int .u64 0) ∧ Bx wq g9 (.int .u64 (hiW X)) (.int .u64 (loW X)) ∧ Bx wq g10 (.int .u64 (hiW Y1)) (.int .u64 (loW Y1)) ∧ Below w.heap.size w wq)
  case first =>
   have HB : Hid (Bx wc (w.heap.size + 1) (.int .u64 0) (.int .u64 0) ∧ Bx wc g9 (.int .u64 (hiW X)) (.int .u64 (loW X)) ∧ Below w.heap.size w wc) := ⟨r5, x5, B5⟩
   have n1 : w.heap.size + 1 ≠ g10 := hk1
   have n2 : g9 ≠ g10 := hk2
   have HN : Hid (w.heap.size + 1 ≠ g10 ∧ g9 ≠ g10) := ⟨n1, n2⟩
   obtain ⟨q0, q1, q2, q3⟩ := y5
   clear r5 x5 B5 c8 n1 n2 hk1 hk2
   go_region_with (first
    | (go_at_call 30; refine (c6 _).mono ?_; rintro e x ⟨rfl, hx⟩; have x0 := keepC hx q0; have x1 := keepC hx q1; have y0 := keepF hx q0 q2; have y1 := keepF hx q1 q3; have HX : Hid (Below wc.drew.heap.size wc.drew x) := hx)
    | (go_at_call 28; refine (c7 _).mono ?_; rintro e y ⟨rfl, hy⟩; have u0 := keepC hy x0; have u1 := keepC hy x1; have v0 := keepF hy x0 y0; have v1 := keepF hy x1 y1; have HY : Hid (Below x.heap.size x y) := hy))
   all_goals
    have hd : Below wc.heap.size wc y := ((drew_belowI wc).trans (HX.out.mono (by simp))).trans (HY.out.mono (by have := HX.out.size; simp at this; omega))
    replace HB : Hid (Bx y (w.heap.size + 1) (.int .u64 0) (.int .u64 0) ∧ Bx y g9 (.int .u64 (hiW X)) (.int .u64 (loW X)) ∧ Below w.heap.size w y) := ⟨HB.out.1.below hd, HB.out.2.1.below hd, HB.out.2.2.trans (hd.mono HB.out.2.2.size)⟩
    clear HX HY hd c6 c7
    go_wp2
    go_meet
    exact ⟨rfl, bx_off HB.out.1 HN.out.1 _ _, bx_off HB.out.2.1 HN.out.2 _ _, set_two ⟨u0, u1, v0, v1⟩ _ _, (HB.out.2.2.setCell hg4 _).setCell hg4 _⟩
  case rest =>
   obtain ⟨rfl, r6, x6, y6, B6⟩ := hcut
   clear r5 x5 y5 B5 c6 c7
   obtain ⟨xa, xb, _, _⟩ := x6
   obtain ⟨ya, yb, _, _⟩ := y6
   go_wp2_with fail
   refine (c8 _).mono ?_
   rintro e w7 ⟨rfl, hb⟩
   have r7 := (r6.below hb).alloc #[.int .u64 (hiW Z), .int .u64 (loW Z)] 68
   have s7 := Bx.new w7 (.int .u64 (hiW Z)) (.int .u64 (loW Z)) 68
   have B7 := B6.trans (hb.mono B6.size)
   replace B7 := B7.alloc (o := .cells #[.int .u64 (hiW Z), .int .u64 (loW Z)] 68) B7.size
   clear hb c8 xa xb ya yb r6 B6
   go_upto_region 8 with fail
   generalize w7.alloc (.cells #[.int .u64 (hiW Z), .int .u64 (loW Z)] 68) = w8 at *
   generalize w7.heap.size = g11 at *
   obtain ⟨r0, r1, r2, r3⟩ := r7
   obtain ⟨s0, s1, _, _⟩ := s7
   go_wp2
   exact bodyPost_ret (v := nuV Z) (by simp [results, Tryz.results46, go_sem, nuV, *]) rfl ⟨rfl, (B7.setCell hr _).setCell hr _⟩
theorem rpt_up (n f : Int) (hn : Num n) (f0 : 0 ≤ f) (f1 : f ≤ 9223372036854775808) (w : World) :
  Calls Tryz.prog 46 #[nuV n, .int .u64 f, .bool true] w fun e w' => e = .returned (nuV (cl (n * f) 9223372036854775808)) ∧ Below w.heap.size w w' := by
 by_cases h0 : loW n * f % 9223372036854775808 = 0
 ·exact rpt_up0 n f hn f0 f1 h0 w
 ·exact rpt_up1 n f hn f0 f1 h0 w
end Go.Proofs.YtdkbmligaodpmaaGreatDoor
namespace Go.Proofs.YtdkbmligaodpmaaGreatDoor
open Go.RowKit Wd Tr Cg Ld

set_option maxRecDepth 20000 in
set_option maxHeartbeats 3000000 in
theorem rifade_any {c : Cf} (r : Rng c) {B : Nat} {w : World} {d : Nat} {v1 v2 : Value} {L : List Bd} (h : RIdl c B w d v1 v2 L) :
  Calls Tryz.prog 16 #[.pointer (some ⟨d, 0, none⟩)] w fun e w' => e = .returned (.tuple #[]) ∧ RIdl c B w' d v1 v2 (L.map (fdB (frs c) (snd c))) ∧ Chg (RK d v1 v2) w w' := by
 obtain ⟨q, hq⟩ : ∃ q, L.length = q := ⟨_, rfl⟩
 obtain ⟨f0, f1, s0, s1, fs⟩ := frs_box c
 have HOK : Hid ((∀ b ∈ L, b.Ok) ∧ L.length ≤ 1000000 ∧ L.length = q) := ⟨h.ok, h.few, hq⟩
 have p0 := r.p0; have p1 := r.p1; have q0 := r.h0; have q1 := r.h1
 have he := e_box r
 have cE := rexp_any p0 p1 q0 q1
 have e1 : c.period * 4294967296 / c.half = ((eZ c).toNat : Nat) := by show eZ c = _; omega
 rw [e1] at cE
 have cB := rbounds_any (eZ c).toNat (by omega)
 have HFS : Hid (((halfN (eZ c).toNat : Nat) : Int) = frs c ∧ ((uppN (eZ c).toNat : Nat) : Int) = snd c) := ⟨rfl, rfl⟩
 rw [HFS.out.1, HFS.out.2] at cB
 have HPD : Hid (∀ (u : Int), Num u → ∀ w, Calls Tryz.prog 46 #[nuV u, .int .u64 (frs c), .bool false] w fun e w' => e = .returned (nuV (u * frs c / 9223372036854775808)) ∧ Below w.heap.size w w') := fun u hu w => rpt_dn u (frs c) hu f0 f1 w
 have HPU : Hid (∀ (u : Int), Num u → ∀ w, Calls Tryz.prog 46 #[nuV u, .int .u64 (snd c), .bool true] w fun e w' => e = .returned (nuV (cl (u * snd c) 9223372036854775808)) ∧ Below w.heap.size w w') := fun u hu w => rpt_up u (snd c) hu s0 s1 w
 have HFD : Hid (∀ b : Bd, b.Ok → (fdB (frs c) (snd c) b).Ok) := fun b hb => fd_ok hb f0 fs s1
 obtain ⟨ao1, a1, hv1⟩ := h.sh1
 obtain ⟨ao2, a2, hv2⟩ := h.sh2
 rw [hq] at hv1 hv2
 rw [← fdJ_all, hq]
 rw [← fdJ_zero (frs c) (snd c) L] at h
 subst hv1
 subst hv2
 have c6 := h.two.c6
 have c7 := h.two.c7
 have c8 := h.two.c8.1
 have HH : Hid _ := h
 have HV : Hid (Hc2 w ⟨d, 6, none⟩ ⟨d, 7, none⟩ (.int .i64 c.period) (.int .i64 c.half) w) := ⟨c6, c7, Below.refl _ _, Nat.le_refl _⟩
 have HS : Hid (Hc2 w ⟨d, 6, none⟩ ⟨d, 7, none⟩ (.int .i64 c.period) (.int .i64 c.half) w.drew) := Hc2.keep HV.out (drew_belowI w)
 generalize hf : frs c = f at *
 generalize hs : snd c = s at *
 generalize (eZ c).toNat = E at *
 clear f0 f1 s0 s1 fs p0 p1 q0 q1 he e1 HFS hf hs hq h c6 c7 c8
 go_enter Tryz.func16, Tryz.ntmps16
 go_upto_region 0 with fail
 go_cut [2, 3] (fun x y wq => x = .int .u64 f ∧ y = .int .u64 s ∧ Below w.heap.size w wq)
 case first =>
  go_region_held3 (fun x => x.cell? ⟨d, 6, none⟩ = some (.int .i64 c.period) ∧ x.cell? ⟨d, 7, none⟩ = some (.int .i64 c.half) ∧ Below w.heap.size w x ∧ w.heap.size ≤ x.heap.size)
   (first | exact HS.out | exact HX.out | assumption | exact Hc2.keep (by assumption) (by assumption))
   (first
   | (go_at_call 45; refine (cE _).mono ?_; rintro e x ⟨rfl, rfl⟩)
   | (go_at_call 44; refine (cB _).mono ?_; rintro e x ⟨rfl, hx⟩; have HX : Hid (Hc2 w ⟨d, 6, none⟩ ⟨d, 7, none⟩ (.int .i64 c.period) (.int .i64 c.half) x) := Hc2.keep HS.out hx))
  all_goals
   have hb := HX.out.bel
   clear HX HS HV
   go_wp2
   go_meet
   exact ⟨rfl, rfl, hb⟩
 case rest =>
 obtain ⟨rfl, rfl, hB⟩ := hcut
 have HH1 : Hid _ := HH.out.below hB
 have HC1 : Hid (Chg (RK d (.slice ao1 q a1) (.slice ao2 q a2)) w wc) := Chg.of_below hB _
 obtain ⟨U0, hU0⟩ : ∃ U0, wc = U0 := ⟨_, rfl⟩
 rw [hU0] at HH1 HC1
 rw [hU0]
 clear hU0 hB HS HV cE cB HH
 go_wp2
 go_loopg [4] q (fun gk pj wr => ∃ j : Nat, j + gk = q ∧ pj = .int .i64 j ∧ RIdl c B wr d (.slice ao1 q a1) (.slice ao2 q a2) (fdJ f s L j) ∧ Chg (RK d (.slice ao1 q a1) (.slice ao2 q a2)) w wr)
 case atStart => exact ⟨0, by omega, rfl, HH1.out, HC1.out⟩
 case round =>
  clear HH1 HC1
  obtain ⟨j, hj, rfl, hL, hC⟩ := hrel
  have c8 := hL.two.c8.1
  have hq6 : q ≤ 1000000 := by have := HOK.out.2.1; have := HOK.out.2.2; omega
  by_cases hlt : j < q
  ·have hlt' : (j : Int) < q := by omega
   obtain ⟨u, hu⟩ : ∃ u, L[j]? = some u := ⟨_, List.getElem?_eq_getElem (by rw [HOK.out.2.2]; exact hlt)⟩
   have hok := HOK.out.1 u (List.mem_of_getElem? hu)
   have hju := fdJ_at (f := f) (s := s) hu
   have HSET : Hid ((fdJ f s L j).set j (fdB f s u) = fdJ f s L (j + 1)) := fdJ_set (f := f) (s := s) hu
   have hlen : (fdJ f s L j).length = q := (fdJ_len f s L j).trans HOK.out.2.2
   have hk1 : ((fdJ f s L j).map Bd.lo)[j]? = some u.lo := by rw [List.getElem?_map, hju]; rfl
   have hk2 : ((fdJ f s L j).map Bd.hi)[j]? = some u.hi := by rw [List.getElem?_map, hju]; rfl
   have HLK : Hid (((fdJ f s L j).map Bd.lo).length = q ∧ ((fdJ f s L j).map Bd.hi).length = q ∧ ((fdJ f s L j).map Bd.lo)[j]? = some u.lo ∧ ((fdJ f s L j).map Bd.hi)[j]? = some u.hi) := ⟨by rw [List.length_map]; exact hlen, by rw [List.length_map]; exact hlen, hk1, hk2⟩
   have cP1 := HPD.out u.lo hok.lon
   have cP2 := HPU.out u.hi hok.hin
   have HOK2 : Hid ((∀ b ∈ fdJ f s L j, b.Ok) ∧ (fdB f s u).Ok) := ⟨hL.ok, HFD.out u hok⟩
   have HXY : Hid (fdB f s u = ⟨u.lo * f / 9223372036854775808, cl (u.hi * s) 9223372036854775808⟩) := show fdB f s u = _ from rfl
   generalize hX : u.lo * f / 9223372036854775808 = X at *
   generalize hY : cl (u.hi * s) 9223372036854775808 = Y at *
   have h2 := hL.two
   obtain ⟨g1, p1, ev1, x1, x2⟩ := h2.at1 hk1
   obtain ⟨g2, p2, ev2, y1, y2⟩ := h2.at2 hk2
   rw [HLK.out.1] at ev1
   rw [HLK.out.2.1] at ev2
   cases ev1
   cases ev2
   have HR : Hid _ := h2
   have HC : Hid _ := hC
   obtain ⟨hx1, fx1⟩ := x1
   obtain ⟨hx2, fx2⟩ := x2
   have HRW : Hid (∀ U', Below wr.heap.size wr U' → R2 c B ((U'.setCell ⟨g1, j * 2, none⟩ (.int .u64 (hiW X))).setCell ⟨g1, j * 2 + 1, none⟩ (.int .u64 (loW X))) d (.slice (some ⟨g1, 0, none⟩) q a1) (.slice (some ⟨g2, 0, none⟩) q a2) (((fdJ f s L j).map Bd.lo).set j X) ((fdJ f s L j).map Bd.hi) ∧
     Chg (RK d (.slice (some ⟨g1, 0, none⟩) q a1) (.slice (some ⟨g2, 0, none⟩) q a2)) w ((U'.setCell ⟨g1, j * 2, none⟩ (.int .u64 (hiW X))).setCell ⟨g1, j * 2 + 1, none⟩ (.int .u64 (loW X)))) := fun U' hU' => by
    have hh := HR.out.below hU'
    rw [← HLK.out.1] at hh
    have h7 := hh.wr1 HLK.out.2.2.1 X
    rw [HLK.out.1] at h7
    exact ⟨h7, (HC.out.trans (Chg.of_below hU' (fun _ => False)) (fun _ _ e => e.elim)).trans (two_chg U' g1 (j * 2) (j * 2 + 1) (.int .u64 (hiW X)) (.int .u64 (loW X))) (fun i _ e => by have e' : i = g1 := e; subst e'; exact .inr (.inl rfl))⟩
   clear hL hC h2 y1 y2 hok hju hk1 hk2 hu hlen HPD HPU HR HC
   go_upto_region 4 with fail
   go_cut [43] (fun p wq => R2 c B wq d (.slice (some ⟨g1, 0, none⟩) q a1) (.slice (some ⟨g2, 0, none⟩) q a2) (((fdJ f s L j).map Bd.lo).set j X) ((fdJ f s L j).map Bd.hi) ∧ Chg (RK d (.slice (some ⟨g1, 0, none⟩) q a1) (.slice (some ⟨g2, 0, none⟩) q a2)) w wq)
   case first =>
    go_region_with (first
     | (go_at_call 46; refine (cP1 _).mono ?_; rintro e w2 ⟨rfl, b2⟩; have y0 := cellB b2 c8; have y1 := cellB b2 hx1; have y2 := cellB b2 hx2; have y3 := keepF b2 hx1 fx1; have y4 := keepF b2 hx2 fx2; have HW2 : Hid _ := HRW.out w2 ((drew_belowI wr).trans b2); clear b2))
    all_goals
     clear c8 hx1 hx2 fx1 fx2
     go_wp2
     go_meet
     exact HW2.out
   case rest =>
   obtain ⟨hr, hC⟩ := hcut
   clear HRW c8 hx1 hx2 fx1 fx2 cP1
   have HR2 : Hid _ := hr
   have HC2 : Hid _ := hC
   obtain ⟨U2, hU2⟩ : ∃ U2, wc = U2 := ⟨_, rfl⟩
   rw [hU2] at HR2 HC2
   rw [hU2]
   clear hU2 hr hC
   have c9 := HR2.out.c9.1
   obtain ⟨g', p', ev2, y1, y2⟩ := HR2.out.at2 HLK.out.2.2.2
   rw [HLK.out.2.1] at ev2
   cases ev2
   obtain ⟨hy1, fy1⟩ := y1
   obtain ⟨hy2, fy2⟩ := y2
   have HRZ : Hid (∀ U', Below U2.heap.size U2 U' → RIdl c B ((U'.setCell ⟨g2, j * 2, none⟩ (.int .u64 (hiW Y))).setCell ⟨g2, j * 2 + 1, none⟩ (.int .u64 (loW Y))) d (.slice (some ⟨g1, 0, none⟩) q a1) (.slice (some ⟨g2, 0, none⟩) q a2) (fdJ f s L (j + 1)) ∧
     Chg (RK d (.slice (some ⟨g1, 0, none⟩) q a1) (.slice (some ⟨g2, 0, none⟩) q a2)) w ((U'.setCell ⟨g2, j * 2, none⟩ (.int .u64 (hiW Y))).setCell ⟨g2, j * 2 + 1, none⟩ (.int .u64 (loW Y)))) := fun U' hU' => by
    have hh := HR2.out.below hU'
    rw [← HLK.out.2.1] at hh
    have h7 := hh.wr2 HLK.out.2.2.2 Y
    rw [HLK.out.2.1] at h7
    rw [← HSET.out]
    refine ⟨h7.one (by rw [HXY.out, List.map_set]) (by rw [HXY.out, List.map_set]) (fun x hx => ?_) (by rw [List.length_set, fdJ_len]; exact HOK.out.2.1), (HC2.out.trans (Chg.of_below hU' (fun _ => False)) (fun _ _ e => e.elim)).trans (two_chg U' g2 (j * 2) (j * 2 + 1) (.int .u64 (hiW Y)) (.int .u64 (loW Y))) (fun i _ e => by have e' : i = g2 := e; subst e'; exact .inr (.inr rfl))⟩
    rcases List.mem_or_eq_of_mem_set hx with y | rfl
    ·exact HOK2.out.1 x y
    ·exact HOK2.out.2
   clear HR2 HC2
   go_upto_region 5 with fail
   go_region_with (first
    | (go_at_call 46; refine (cP2 _).mono ?_; rintro e w2 ⟨rfl, b2⟩; have y0 := cellB b2 c9; have y1 := cellB b2 hy1; have y2 := cellB b2 hy2; have y3 := keepF b2 hy1 fy1; have y4 := keepF b2 hy2 fy2; have HW2 : Hid _ := HRZ.out w2 ((drew_belowI U2).trans b2); clear b2))
   all_goals
    clear c9 hy1 hy2 fy1 fy2
    go_wp2
    go_roundg (q - (j + 1))
    case measure => omega
    case rel => exact ⟨j + 1, by omega, rfl, HW2.out.1, HW2.out.2⟩
  ·obtain rfl : j = q := by omega
   have HL : Hid _ := hL
   have HC : Hid _ := hC
   clear hL hC
   go_wp2
   go_end0
   exact ⟨rfl, HL.out, HC.out⟩
end Go.Proofs.YtdkbmligaodpmaaGreatDoor
