/-
  THE STATEMENT LedgerApart: the walk.
-/
import Derived.Test.YtegpamoglifojaaDoorLwB
namespace Go.Proofs.YtegpamoglifojaaDoor
open Go.RowKit Wd Ld Cg Lg

/-- Two acts, where they came in. -/
def TwoAx (g p1 p2 : Nat) (x y : Ax) (w : World) : Prop := w.cell? ⟨g, p1, none⟩ = some (.int .i64 x.kd) ∧ w.cell? ⟨g, p1 + 1, none⟩ = some (.int .i64 x.wh) ∧ w.cell? ⟨g, p1 + 2, none⟩ = some (.int .i64 x.ac) ∧ w.cell? ⟨g, p1 + 3, none⟩ = some (.int .i64 x.nd) ∧
  w.cell? ⟨g, p2, none⟩ = some (.int .i64 y.kd) ∧ w.cell? ⟨g, p2 + 1, none⟩ = some (.int .i64 y.wh) ∧ w.cell? ⟨g, p2 + 2, none⟩ = some (.int .i64 y.ac) ∧ w.cell? ⟨g, p2 + 3, none⟩ = some (.int .i64 y.nd)
theorem TwoAx.of {g p1 p2 : Nat} {x y : Ax} {w : World} (h1 : AxAt w g p1 x) (h2 : AxAt w g p2 y) : TwoAx g p1 p2 x y w := ⟨h1.kd, h1.wh, h1.ac, h1.nd, h2.kd, h2.wh, h2.ac, h2.nd⟩
theorem TwoAx.alloc {g p1 p2 : Nat} {x y : Ax} {w : World} (h : TwoAx g p1 p2 x y w) (ob : Obj) : TwoAx g p1 p2 x y (w.alloc ob) := by
  obtain ⟨a, b, c, d, e, f, i, j⟩ := h
  exact ⟨allocC _ a, allocC _ b, allocC _ c, allocC _ d, allocC _ e, allocC _ f, allocC _ i, allocC _ j⟩
theorem TwoAx.set {g p1 p2 : Nat} {x y : Ax} {w : World} (h : TwoAx g p1 p2 x y w) {p : Addr} (hp : p.block ≠ g) (v : Value) : TwoAx g p1 p2 x y (w.setCell p v) := by
  obtain ⟨a, b, c, d, e, f, i, j⟩ := h
  have k : ∀ {q : Nat} {u : Value}, w.cell? ⟨g, q, none⟩ = some u → (w.setCell p v).cell? ⟨g, q, none⟩ = some u := fun {q u} hu => by rw [World.cell?_setCell_far _ _ _ _ hp]; exact hu
  exact ⟨k a, k b, k c, k d, k e, k f, k i, k j⟩
theorem two_allocs (w : World) (x y : Ax) : AxB w.heap.size x ((w.alloc (.cells #[.int .i64 x.kd, .int .i64 x.wh, .int .i64 x.ac, .int .i64 x.nd] 40)).alloc (.cells #[.int .i64 y.kd, .int .i64 y.wh, .int .i64 y.ac, .int .i64 y.nd] 40)).drew ∧
    AxB (w.heap.size + 1) y ((w.alloc (.cells #[.int .i64 x.kd, .int .i64 x.wh, .int .i64 x.ac, .int .i64 x.nd] 40)).alloc (.cells #[.int .i64 y.kd, .int .i64 y.wh, .int .i64 y.ac, .int .i64 y.nd] 40)).drew ∧
    Below w.heap.size w ((w.alloc (.cells #[.int .i64 x.kd, .int .i64 x.wh, .int .i64 x.ac, .int .i64 x.nd] 40)).alloc (.cells #[.int .i64 y.kd, .int .i64 y.wh, .int .i64 y.ac, .int .i64 y.nd] 40)).drew := by
  refine ⟨?_, ?_, ?_⟩
  · exact (Below.heap_alloc _ _ _ (by simp)).trans (heap_alloc_new _ _)
  · have h := heap_alloc_new (w.alloc (.cells #[.int .i64 x.kd, .int .i64 x.wh, .int .i64 x.ac, .int .i64 x.nd] 40)) (.cells #[.int .i64 y.kd, .int .i64 y.wh, .int .i64 y.ac, .int .i64 y.nd] 40)
    rw [World.size_alloc] at h
    exact h
  · exact (((Below.refl _ w).alloc (Nat.le_refl _) _).alloc (by simp) _).drew
set_option maxRecDepth 20000 in
set_option maxHeartbeats 4000000 in
theorem apart_any {w : World} (hT : Tab w) {ao : Option Addr} {xs : List Ax} {cp : Nat} (hA : AxsAt w ao xs) (hl : xs.length * 32 ≤ 140737488351232) (c : Cf) :
    Calls Tryd.prog 7 #[cfV c, .slice ao xs.length cp] w fun e w' => e = .returned (.bool true) ∧ Below w.heap.size w w' := by
  have ck := pcheck_any c
  by_cases hc : chkZ c = 0
  · rw [hc] at ck
    have r := chk_rng hc
    have hnew := fun (w : World) (g : Nat) hT => new_led (w := w) hc (ao := some ⟨g, 0, none⟩) (l := [0, 0, 0]) (cp := 3) hT
    obtain ⟨n0, n1⟩ := And.intro r.n0 r.n1
    have hfw := fac_word c
    generalize facZ c = F at hnew hfw
    unfold cfV at *
    have hS := St.new w c
    go_enter Tryd.func7, Tryd.ntmps7
    go_wp2_with fail
    refine (shown_any _ (Tab.below hS.bel hT)).mono ?_
    rintro e w1 ⟨rfl, b1⟩
    replace hS := keepW hS b1
    clear b1
    obtain ⟨s0, s1, s2, s3, s4, s5, s6, s7, _, _⟩ := id hS
    go_wp2_with fail
    refine (ck _).mono ?_
    rintro e w2 ⟨rfl, b2⟩
    replace hS := keepW hS b2
    clear b2 s0 s1 s2 s3 s4 s5 s6 s7
    have bz : Below w2.heap.size w2 (w2.alloc (.cells #[.int .u64 0, .int .u64 0, .int .u64 0] 28)) := (Below.refl _ w2).alloc (Nat.le_refl _) _
    have hZ := zero3 w2
    have hS2 := keepW hS bz
    obtain ⟨s0, s1, s2, s3, s4, s5, s6, s7, _, _⟩ := id hS2
    have hzs : w2.heap.size < (w2.alloc (.cells #[.int .u64 0, .int .u64 0, .int .u64 0] 28)).heap.size := by simp
    obtain ⟨w3, hw3⟩ : ∃ w3, w2.alloc (.cells #[.int .u64 0, .int .u64 0, .int .u64 0] 28) = w3 := ⟨_, rfl⟩
    rw [hw3] at hZ hS2 hzs
    have HW3 : Hid _ := hw3
    clear bz hS hw3
    have hn1 := hnew w3 _ (Tab.below hS2.bel hT) hZ wds3 (fun h => by cases h) (by simp)
    go_wp2_with fail
    rw [HW3.out]
    refine hn1.mono ?_
    rintro e w4 ⟨da, va, rfl, LA, b4⟩
    clear hn1 HW3 s0 s1 s2 s3 s4 s5 s6 s7
    have hS4 := keepW hS2 b4
    obtain ⟨s0, s1, s2, s3, s4, s5, s6, s7, _, _⟩ := id hS4
    have hn2 := hnew w4 _ (Tab.below hS4.bel hT) (hZ.below b4) wds3 (fun h => by cases h) (by simp)
    go_wp2_with fail
    refine hn2.mono ?_
    rintro e w5 ⟨db, vb, rfl, LB, b5⟩
    clear hn2 s0 s1 s2 s3 s4 s5 s6 s7
    have hS5 := keepW hS4 b5
    obtain ⟨s0, s1, s2, s3, s4, s5, s6, s7, _, _⟩ := id hS5
    have hn3 := hnew w5 _ (Tab.below hS5.bel hT) ((hZ.below b4).below b5) wds3 (fun h => by cases h) (by simp)
    go_wp2_with fail
    refine hn3.mono ?_
    rintro e w6 ⟨dd, vd, rfl, LD, b6⟩
    clear hn3 s0 s1 s2 s3 s4 s5 s6 s7 hnew hZ
    have z4 := b4.size
    have z5 := b5.size
    have z6 := b6.size
    have ab : Hid (Apt da va db vb) := LA.apt LB (Nat.le_refl _)
    have ad : Hid (Apt da va dd vd) := (LA.below b5).apt LD (Nat.le_refl _)
    have bd : Hid (Apt db vb dd vd) := LB.apt LD (Nat.le_refl _)
    have LA6 := (LA.below b5).below b6
    have LB6 := (LB.below b6).base z4
    have LD6 := LD.base (Nat.le_trans z4 z5)
    have B6 : Below w3.heap.size w3 w6 := (b4.trans (b5.mono z4)).trans (b6.mono (Nat.le_trans z4 z5))
    have bw3 : Hid (Below w.heap.size w w3) := hS2.bel
    have hN : w3.cell? ⟨w.heap.size, 0, none⟩ = some (.int .i64 c.nodes) := (id hS2).1
    have z3 := bw3.out.size
    clear LA LB LD b4 b5 b6 hS2 hS4 hS5 ck r
    obtain ⟨P, hP⟩ : ∃ P, xs.map (px c.nodes) = P := ⟨_, rfl⟩
    have hP0 := px_all n0 xs
    rw [hP] at hP0
    rw [tri_zero (s := fun k => tot k (P.take 0)) (fun k => by simp [tot])] at LA6
    rw [tri_zero (s := fun k => tot k (P.reverse.take 0)) (fun k => by simp [tot])] at LB6
    rw [tri_zero (s := oneS P 0) (fun k => by simp [oneS, tot])] at LD6
    obtain ⟨q, hq⟩ : ∃ q, xs.length = q := ⟨_, rfl⟩
    rw [hq] at hl ⊢
    have HQ : Hid (xs.length = q) := hq
    have HP : Hid (xs.map (px c.nodes) = P) := hP
    have HP0 : Hid (∀ p, p ∈ P → 0 ≤ p.2) := hP0
    have hcb : w.heap.size < w3.heap.size := World.block_lt_of_cell? _ _ hN
    have HA6 : Hid (Ap3 c.nodes F w3 w.heap.size da va db vb dd vd (tri fun k => tot k (P.take 0)) (tri fun k => tot k (P.reverse.take 0)) (tri (oneS P 0)) w6) := ⟨LA6, LB6, LD6, B6, (B6.cell hcb).trans hN⟩
    have HFW : Hid (Word F) := hfw
    clear hq hP hP0 LA6 LB6 LD6 B6 hN hfw
    obtain ⟨g, o, hg, hcell⟩ := hA
    rw [HQ.out] at hg
    have HCL : Hid (∀ (k : Nat) (x : Ax), xs[k]? = some x → AxAt w g (o + k * 4) x) := hcell
    clear hcell
    go_wp2_with fail
    go_loopg [51] q (fun gk pj wr => ∃ i : Nat, i + gk = q ∧ pj = .int .i64 i ∧ Ap3 c.nodes F w3 w.heap.size da va db vb dd vd (tri fun k => tot k (P.take i)) (tri fun k => tot k (P.reverse.take i)) (tri (oneS P i)) wr)
    case atStart => exact ⟨0, by omega, rfl, HA6.out⟩
    case round =>
      clear HA6
      obtain ⟨i, hi, rfl, hR⟩ := hrel
      have hB := hR.bel
      by_cases hlt : i < q
      · have hlt' : (i : Int) < q := by omega
        obtain ⟨x, hx⟩ : ∃ x, xs[i]? = some x := ⟨_, List.getElem?_eq_getElem (by rw [HQ.out]; exact hlt)⟩
        obtain ⟨q1, hq1⟩ : ∃ q1 : Nat, q = q1 + 1 := ⟨q - 1, by omega⟩
        obtain ⟨m, hm⟩ : ∃ m : Nat, q1 = i + m := ⟨q1 - i, by omega⟩
        obtain ⟨y, hy⟩ : ∃ y, xs[m]? = some y := ⟨_, List.getElem?_eq_getElem (by rw [HQ.out]; omega)⟩
        have e1 : IntKind.i64.wrap ((q : Int) - 1) = (q1 : Int) := by rw [IntKind.wrap_i64]; omega
        have e2 : IntKind.i64.wrap ((q1 : Int) - i) = (m : Int) := by rw [IntKind.wrap_i64]; omega
        have m0 : (0 : Int) ≤ (m : Int) := by omega
        have m1 : (m : Int) < q := by omega
        have i0 : (0 : Int) ≤ (i : Int) := by omega
        obtain rfl := hg (by omega)
        have bwr : Below w.heap.size w wr := bw3.out.trans (hB.mono z3)
        have axx := (HCL.out i x hx).below bwr
        have axy := (HCL.out m y hy).below bwr
        go_upto_region 14 with fail
        have hgl : g < wr.heap.size := World.block_lt_of_cell? _ _ axx.kd
        have S0 : Hid (TwoAx g (o + i * 4) (o + m * 4) x y wr.drew) := TwoAx.of (axx.below (drew_below wr)) (axy.below (drew_below wr))
        have HR : Hid (Ap3 c.nodes F w3 w.heap.size da va db vb dd vd (tri fun k => tot k (P.take i)) (tri fun k => tot k (P.reverse.take i)) (tri (oneS P i)) wr) := hR
        have HX : Hid _ := hx
        have HY : Hid _ := hy
        have HQ1 : Hid (q = i + m + 1) := show q = i + m + 1 by omega
        clear hR hB hx hy axx axy bwr hq1 hm
        go_cut [13, 14] (fun p p' wc => ∃ b1 b2 : Nat, p = .pointer (some ⟨b1, 0, none⟩) ∧ p' = .pointer (some ⟨b2, 0, none⟩) ∧ AxB b1 x wc ∧ AxB b2 y wc ∧ wr.heap.size ≤ b1 ∧ wr.heap.size ≤ b2 ∧ Below wr.heap.size wr wc)
        case first =>
          go_region_held3 (fun w' => w'.cell? ⟨g, o + i * 4, none⟩ = some (.int .i64 x.kd) ∧ w'.cell? ⟨g, o + i * 4 + 1, none⟩ = some (.int .i64 x.wh) ∧ w'.cell? ⟨g, o + i * 4 + 2, none⟩ = some (.int .i64 x.ac) ∧ w'.cell? ⟨g, o + i * 4 + 3, none⟩ = some (.int .i64 x.nd) ∧ w'.cell? ⟨g, o + m * 4, none⟩ = some (.int .i64 y.kd) ∧ w'.cell? ⟨g, o + m * 4 + 1, none⟩ = some (.int .i64 y.wh) ∧ w'.cell? ⟨g, o + m * 4 + 2, none⟩ = some (.int .i64 y.ac) ∧ w'.cell? ⟨g, o + m * 4 + 3, none⟩ = some (.int .i64 y.nd))
            (first | exact S0.out | (repeat (first | assumption | exact S0.out | refine TwoAx.set ?_ (by simp; omega) _ | refine TwoAx.alloc ?_ _))) (fail)
          all_goals
            go_wp2
            go_meet
            first
            | exact ⟨_, _, rfl, rfl, (two_allocs wr x y).1, (two_allocs wr x y).2.1, Nat.le_refl _, Nat.le_succ _, (two_allocs wr x y).2.2⟩
            | exact ⟨_, _, rfl, rfl, (two_allocs wr y x).2.1, (two_allocs wr y x).1, Nat.le_succ _, Nat.le_refl _, (two_allocs wr y x).2.2⟩
        case rest =>
          obtain ⟨b1, b2, rfl, rfl, X1, Y2, l1, l2, bc⟩ := hcut
          clear S0 e1 e2
          have hRc := HR.out.below bc
          have hpx : P[i]? = some (px c.nodes x) := by rw [← HP.out, List.getElem?_map, HX.out]; rfl
          have hpy : P.reverse[i]? = some (px c.nodes y) := by
            have hlen : P.length = q := by rw [← HP.out, List.length_map, HQ.out]
            rw [List.getElem?_reverse (by omega), show P.length - 1 - i = m by have := HQ1.out; omega, ← HP.out, List.getElem?_map, HY.out]
            rfl
          obtain ⟨px1, px2, px3, px4⟩ := px_in n0 x
          obtain ⟨py1, py2, py3, py4⟩ := px_in n0 y
          have hsa := step_tri HP0.out hpx px1 px3 px4
          have hsb := step_tri (P := P.reverse) (fun p hp => HP0.out p (List.mem_reverse.1 hp)) hpy py1 py3 py4
          rw [px2] at hsa
          rw [py2] at hsb
          have hs1 : (px c.nodes x).1 = 1 → chgL (tri (oneS P i)) c.nodes 1 (px c.nodes x).2 = tri (oneS P (i + 1)) := fun h => step_one HP0.out hpx h px3 px4
          have hs0 : ¬ (px c.nodes x).1 = 1 → tri (oneS P i) = tri (oneS P (i + 1)) := fun h => same_one hpx h
          have hxe : (px c.nodes x).2 = amgV x.nd (c.nodes + 1) := rfl
          have hye : (px c.nodes y).2 = amgV y.nd (c.nodes + 1) := rfl
          rw [hxe] at hsa hs1
          rw [hye] at hsb
          have hk1 : (px c.nodes x).1 = 1 ↔ amgV x.ac 3 = 1 := by omega
          rw [hk1] at hs1 hs0
          have HS1 : Hid _ := hs1
          have HS0 : Hid _ := hs0
          have HSB : Hid _ := hsb
          have hRd := hRc.below (drew_below wc)
          have hca := charge_led hRd.a (by omega) (amgV x.ac 3) (amgV x.nd (c.nodes + 1))
          rw [hsa] at hca
          have HRD : Hid (Ap3 c.nodes F w3 w.heap.size da va db vb dd vd (tri fun k => tot k (P.take i)) (tri fun k => tot k (P.reverse.take i)) (tri (oneS P i)) wc.drew) := hRd
          have X1d : Hid (AxB b1 x wc.drew) := X1.below (drew_below wc)
          have Y2d : Hid (AxB b2 y wc.drew) := Y2.below (drew_below wc)
          have hN1 : IntKind.i64.wrap (c.nodes + 1) = c.nodes + 1 := by rw [IntKind.wrap_i64]; omega
          clear hRc hRd hsa hsb hs1 hs0 hpx hpy px1 px2 px3 px4 py1 py2 py3 py4 hxe hye hk1 X1 Y2
          go_wp2_with fail
          go_region_held3 (fun w' => w'.cell? ⟨b1, 2, none⟩ = some (.int .i64 x.ac) ∧ w'.cell? ⟨b1, 3, none⟩ = some (.int .i64 x.nd) ∧ w'.cell? ⟨w.heap.size, 0, none⟩ = some (.int .i64 c.nodes))
            (first | exact ⟨X1d.out.c2, X1d.out.c3, HRD.out.n⟩ | exact ⟨X7.c2, X7.c3, R7.n⟩)
            (first
            | (go_at_call_of 12 (Value.int IntKind.i64 x.ac); refine (among_any x.ac 3 _ (by omega) (by omega)).mono ?_; rintro e wq ⟨rfl, rfl⟩)
            | (go_at_call_of 12 (Value.int IntKind.i64 x.nd); refine (among_any x.nd (c.nodes + 1) _ (by omega) (by omega)).mono ?_; rintro e wq ⟨rfl, rfl⟩)
            | (go_at_call 25; refine hca.mono ?_; rintro e w7 ⟨rfl, L7, c7⟩; have R7 := Ap3.stepA HRD.out hcb ab.out ad.out L7 c7; have X7 := AxB.led X1d.out HR.out.a l1 c7; have Y7 := AxB.led Y2d.out HR.out.a l2 c7))
          all_goals
            have hRd := R7.below (drew_below w7)
            have hcb2 := charge_led hRd.b (by omega) (amgV y.ac 3) (amgV y.nd (c.nodes + 1))
            rw [HSB.out] at hcb2
            have HRE : Hid (Ap3 c.nodes F w3 w.heap.size da va db vb dd vd (tri fun k => tot k (P.take (i + 1))) (tri fun k => tot k (P.reverse.take i)) (tri (oneS P i)) w7.drew) := hRd
            have X7d : Hid (AxB b1 x w7.drew) := X7.below (drew_below w7)
            have Y7d : Hid (AxB b2 y w7.drew) := Y7.below (drew_below w7)
            clear hRd R7 X7 Y7 L7 c7 hca HRD X1d Y2d
            go_wp2_with fail
            go_region_held3 (fun w' => w'.cell? ⟨b2, 2, none⟩ = some (.int .i64 y.ac) ∧ w'.cell? ⟨b2, 3, none⟩ = some (.int .i64 y.nd) ∧ w'.cell? ⟨w.heap.size, 0, none⟩ = some (.int .i64 c.nodes))
              (first | exact ⟨Y7d.out.c2, Y7d.out.c3, HRE.out.n⟩ | exact ⟨Y8.c2, Y8.c3, R8.n⟩)
              (first
              | (go_at_call_of 12 (Value.int IntKind.i64 y.ac); refine (among_any y.ac 3 _ (by omega) (by omega)).mono ?_; rintro e wq ⟨rfl, rfl⟩)
              | (go_at_call_of 12 (Value.int IntKind.i64 y.nd); refine (among_any y.nd (c.nodes + 1) _ (by omega) (by omega)).mono ?_; rintro e wq ⟨rfl, rfl⟩)
              | (go_at_call 25; refine hcb2.mono ?_; rintro e w8 ⟨rfl, L8, c8⟩; have R8 := Ap3.stepB HRE.out hcb ab.out bd.out L8 c8; have X8 := AxB.led X7d.out HR.out.b l1 c8; have Y8 := AxB.led Y7d.out HR.out.b l2 c8))
            all_goals
              have R8H : Hid (Ap3 c.nodes F w3 w.heap.size da va db vb dd vd (tri fun k => tot k (P.take (i + 1))) (tri fun k => tot k (P.reverse.take (i + 1))) (tri (oneS P i)) w8) := R8
              have x2 := X8.c2
              have x3 := X8.c3
              have nn := R8.n
              clear R8 Y8 L8 c8 hcb2 HRE X7d Y7d
              by_cases hk : amgV x.ac 3 = 1
              · have hcd := charge_led R8H.out.d (by omega) 1 (amgV x.nd (c.nodes + 1))
                rw [HS1.out hk] at hcd
                have ham := fun w => among_any x.ac 3 w (by omega) (by omega)
                rw [hk] at ham
                clear hk
                go_wp2_with (first
                  | (go_at_call_of 12 (Value.int IntKind.i64 x.ac); refine (ham _).mono ?_; rintro e wq ⟨rfl, rfl⟩)
                  | (go_at_call_of 12 (Value.int IntKind.i64 x.nd); refine (among_any x.nd (c.nodes + 1) _ (by omega) (by omega)).mono ?_; rintro e wq ⟨rfl, rfl⟩)
                  | (go_at_call 25; refine hcd.mono ?_; rintro e w9 ⟨rfl, L9, c9⟩; have R9 : Hid (Ap3 c.nodes F w3 w.heap.size da va db vb dd vd (tri fun k => tot k (P.take (i + 1))) (tri fun k => tot k (P.reverse.take (i + 1))) (tri (oneS P (i + 1))) w9) := Ap3.stepD R8H.out hcb ad.out bd.out L9 c9; clear L9 c9))
                go_roundg (q - (i + 1))
                case measure => omega
                case rel => exact ⟨i + 1, by omega, rfl, R9.out⟩
              · have hR9 := R8H.out
                rw [HS0.out hk] at hR9
                have R9 : Hid (Ap3 c.nodes F w3 w.heap.size da va db vb dd vd (tri fun k => tot k (P.take (i + 1))) (tri fun k => tot k (P.reverse.take (i + 1))) (tri (oneS P (i + 1))) w8) := hR9
                have hk' : (amgV x.ac 3 == 1) = false := by simpa using hk
                clear hR9
                go_wp2_with (first
                  | (go_at_call_of 12 (Value.int IntKind.i64 x.ac); refine (among_any x.ac 3 _ (by omega) (by omega)).mono ?_; rintro e wq ⟨rfl, rfl⟩))
                go_roundg (q - (i + 1))
                case measure => omega
                case rel => exact ⟨i + 1, by omega, rfl, R9.out⟩
      · obtain rfl : i = q := by omega
        have hlen : P.length = i := by rw [← HP.out, List.length_map, HQ.out]
        have ea : P.take i = P := List.take_of_length_le (by omega)
        have eb : P.reverse.take i = P.reverse := List.take_of_length_le (by rw [List.length_reverse]; omega)
        have er : (fun k => tot k P.reverse) = fun k => tot k P := funext fun k => tot_rev k P
        have hRR := hR
        rw [ea, eb, er] at hRR
        have HPN : Hid (∀ k, 0 ≤ tot k P) := fun k => tot_nonneg k P HP0.out
        have HR : Hid (Ap3 c.nodes F w3 w.heap.size da va db vb dd vd (tri fun k => tot k P) (tri fun k => tot k P) (tri (oneS P i)) wr) := hRR
        have HO1 : Hid (oneS P i 1 = tot 1 P) := show oneS P i 1 = tot 1 P by unfold oneS; rw [if_pos rfl, ea]
        have HO0 : Hid (oneS P i 0 = 0) := show oneS P i 0 = 0 by unfold oneS; rw [if_neg (by omega)]
        clear hR hRR hB ea eb er hlen
        have hfa := fade_led HR.out.a HFW.out
        go_wp2_with fail
        refine hfa.mono ?_
        rintro e w7 ⟨rfl, L7, c7⟩
        have R7 : Hid (Ap3 c.nodes F w3 w.heap.size da va db vb dd vd (fadeL F (tri fun k => tot k P)) (tri fun k => tot k P) (tri (oneS P i)) w7) := Ap3.stepA HR.out hcb ab.out ad.out L7 c7
        clear L7 c7 hfa HR
        have hfa := fade_led R7.out.b HFW.out
        go_wp2_with fail
        refine hfa.mono ?_
        rintro e w8 ⟨rfl, L8, c8⟩
        have R8 : Hid (Ap3 c.nodes F w3 w.heap.size da va db vb dd vd (fadeL F (tri fun k => tot k P)) (fadeL F (tri fun k => tot k P)) (tri (oneS P i)) w8) := Ap3.stepB R7.out hcb ab.out bd.out L8 c8
        clear L8 c8 hfa R7
        have hfa := fade_led R8.out.d HFW.out
        go_wp2_with fail
        refine hfa.mono ?_
        rintro e w9 ⟨rfl, L9, c9⟩
        have R9 : Hid (Ap3 c.nodes F w3 w.heap.size da va db vb dd vd (fadeL F (tri fun k => tot k P)) (fadeL F (tri fun k => tot k P)) (fadeL F (tri (oneS P i))) w9) := Ap3.stepD R8.out hcb ad.out bd.out L9 c9
        clear L9 c9 hfa R8
        have e1 := own_fade (s := oneS P i) (F := F) (k := 1) (by omega)
        have e0 := own_fade (s := oneS P i) (F := F) (k := 0) (by omega)
        have ea := own_fade (s := fun k => tot k P) (F := F) (k := 1) (by omega)
        rw [HO1.out] at e1
        rw [HO0.out, Int.zero_mul, show narV 0 = 0 by decide, show partV 0 F = 0 by unfold partV; rw [Int.zero_mul]; decide] at e0
        simp only [Int.natCast_one, Int.natCast_zero] at e1 e0 ea
        generalize partV (narV (tot 1 P * 4294967296)) F = U at e1 ea
        generalize fadeL F (tri (oneS P i)) = lD at e1 e0 R9
        have h3 : (fadeL F (tri fun k => tot k P)).length = 3 := by simp [fadeL, tri]
        generalize fadeL F (tri fun k => tot k P) = lA at ea R9 h3
        have R9d : Hid (Ap3 c.nodes F w3 w.heap.size da va db vb dd vd lA lA lD w9.drew) := R9.out.below (drew_below w9)
        clear R9 HO1 HO0
        go_wp2_with fail
        go_region_held3 (fun w' => w'.cell? ⟨w.heap.size, 0, none⟩ = some (.int .i64 c.nodes)) (first | exact R9d.out.n | exact R10.out.n | exact R11.out.n | exact R12.out.n)
          (first
          | (go_at_call_of 23 (Value.pointer (some ⟨da, 0, none⟩)); refine (list_any R9d.out.a).mono ?_; rintro e w10 ⟨v10, rfl, r10, b10⟩; obtain ⟨ao10, c10, e10, A10, _⟩ := WdsAt.of_row r10; subst e10; have R10 : Hid (Ap3 c.nodes F w3 w.heap.size da va db vb dd vd lA lA lD w10) := R9d.out.below b10)
          | (go_at_call_of 23 (Value.pointer (some ⟨db, 0, none⟩)); refine (list_any R10.out.b).mono ?_; rintro e w11 ⟨v11, rfl, r11, b11⟩; obtain ⟨ao11, c11, e11, A11, _⟩ := WdsAt.of_row r11; subst e11; have R11 : Hid (Ap3 c.nodes F w3 w.heap.size da va db vb dd vd lA lA lD w11) := R10.out.below b11; have hu := usages_any (c := c10) (c' := c11) (A10.below b11) A11 (by omega); rw [h3] at hu)
          | (go_at_call 11; refine hu.mono ?_; rintro e w12 ⟨rfl, b12⟩; have R12 : Hid (Ap3 c.nodes F w3 w.heap.size da va db vb dd vd lA lA lD w12) := R11.out.below b12)
          | (go_at_call_of 26 (Value.pointer (some ⟨dd, 0, none⟩)); refine (own_any R12.out.d _).mono ?_; rintro e wq ⟨rfl, hwq⟩; rw [hwq]; clear hwq)
          | (go_at_call_of 26 (Value.pointer (some ⟨da, 0, none⟩)); refine (own_any R12.out.a _).mono ?_; rintro e wq ⟨rfl, hwq⟩; rw [hwq]; clear hwq))
        all_goals
          go_wp2
          go_ret
          exact ⟨by simp [*], bw3.out.trans (R12.out.bel.mono z3)⟩
  · have hn : (chkZ c != 0) = true := by simp [hc]
    generalize chkZ c = q at ck hn hc
    unfold cfV at *
    have hS := St.new w c
    go_enter Tryd.func7, Tryd.ntmps7
    go_wp2_with fail
    refine (shown_any _ (Tab.below hS.bel hT)).mono ?_
    rintro e w1 ⟨rfl, b1⟩
    replace hS := keepW hS b1
    clear b1
    obtain ⟨s0, s1, s2, s3, s4, s5, s6, s7, _, _⟩ := id hS
    go_wp2_with fail
    refine (ck _).mono ?_
    rintro e w2 ⟨rfl, b2⟩
    replace hS := keepW hS b2
    clear b2 s0 s1 s2 s3 s4 s5 s6 s7
    go_wp2
    go_ret
    exact ⟨rfl, hS.bel⟩
end Go.Proofs.YtegpamoglifojaaDoor
