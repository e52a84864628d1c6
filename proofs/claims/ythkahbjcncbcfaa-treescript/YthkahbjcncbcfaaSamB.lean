/-
  same, walked.
-/
import Derived.Test.YthkahbjcncbcfaaSamA
namespace Go.Proofs.Ythkahbjcncbcfaa
open Go.RowKit Tr

theorem one_al' (W : World) (o : Obj) : Below W.heap.size W (W.alloc o) := (Below.refl _ W).alloc (Nat.le_refl _) o
theorem cell_far {W W' : World} {v : Value} {b : Nat} {u : Value} (h : W.cell? ⟨b, 0, none⟩ = some u) (hg : W.grownBy W' v.ownBlock) (hn : v.ownBlock ≠ some b) : W'.cell? ⟨b, 0, none⟩ = some u :=
  (World.cell?_of_block (hg.block b (World.block_lt_of_cell? W _ h) (fun e => hn e.symm))).trans h
theorem far_of {v8 v9 : Value} {g8' n8 cap8 m' A B C : Nat} (hat : (Value.slice (some ⟨g8', 0, none⟩) n8 cap8).ownBlock = v8.ownBlock ∨ (Value.slice (some ⟨g8', 0, none⟩) n8 cap8).ownBlock = some m') (h98 : ∀ z, v9.ownBlock = some z → v8.ownBlock ≠ some z) (h9 : ∀ z, v9.ownBlock = some z → A ≤ z ∧ z < B) (hB : B ≤ C) (hm : m' = C + 1) : v9.ownBlock ≠ some g8' := by
  intro e
  rcases hat with h | h
  · exact h98 g8' e h.symm
  · have : g8' = m' := by simpa [Value.ownBlock] using h
    have := h9 g8' e
    omega

set_option maxHeartbeats 8000000 in
set_option maxRecDepth 20000 in
theorem same_any {S : Nat → Prop} {W : World} {t d : Nat} {l : List Ac} (hT : Tree S W t l (kidB l)) (hR : RefT W d l) (hw : Wf l) :
    Calls Try.prog 15 #[.pointer (some ⟨t, 0, none⟩), .pointer (some ⟨d, 0, none⟩)] W fun e w' => e = .returned (.bool true) ∧ Below W.heap.size W w' := by
  have hlen := hw.len
  have hpos := hw.pos
  have hl48 : l.length * 48 ≤ 140737488355328 := by omega
  have hls := tlist hT hw
  obtain ⟨i0, hi0, hz0, hz1, hz2⟩ := info_parts Try.inf39
  obtain ⟨i1, hi1, hy0, hy1, hy2⟩ := info_parts Try.inf3
  have TT : Hid (Tree S W t l (kidB l)) := hT
  have RR : Hid (RefT W d l) := hR
  clear hT hR
  go_enter Try.func15, Try.ntmps15
  go_wp2_with fail
  refine hls.mono ?_
  rintro e w1 ⟨v5, rfl, r5, b1⟩
  have hln := tlen (Tree.below TT.out b1)
  have hrl := len_any (RefT.below RR.out b1)
  rcases r5.2 with ⟨_, h0⟩ | ⟨g, cap, cur, rfl, hg0, hg, _⟩
  · omega
  obtain ⟨ao5, c5, hv5, ha5, _⟩ := acs_row r5
  cases hv5
  have hgl := (Array.getElem?_eq_some_iff.1 hg).1
  clear hg hls
  go_wp2_with fail
  refine hln.mono ?_
  rintro e w2 ⟨rfl, rfl⟩
  go_wp2_with fail
  refine hrl.mono ?_
  rintro e w2 ⟨rfl, b2⟩
  have b12 := b1.trans (b2.mono b1.size)
  have hli := rlist_any (RefT.below RR.out b12) hl48
  clear hln hrl
  go_wp2_with fail
  refine hli.mono ?_
  rintro e w3 ⟨v3, rfl, r3, b3⟩
  obtain ⟨ao3, c3, rfl, ha3, _⟩ := acs_row r3
  have b23 := b2.trans (b3.mono b2.size)
  have hac := accounts_yes (c1 := cap) (c2 := c3) (ha5.below b23) ha3 hl48
  clear hli r3 ha3
  go_wp2_with fail
  refine hac.mono ?_
  rintro e w4 ⟨rfl, b4⟩
  have b14 := b23.trans (b4.mono b23.size)
  have HR4 : Hid (RowE w4 W.heap.size 39 5 (.slice (some ⟨g, 0, none⟩) l.length cap) l.length) := ⟨_, row_kept r5 b14⟩
  have HB4 : Hid _ := b1.trans (b14.mono b1.size)
  obtain ⟨Q, hQ⟩ : ∃ Q, l.length = Q := ⟨_, rfl⟩
  have HQ : Hid (l.length = Q) := hQ
  rw [hQ] at hlen hpos HR4
  rw [hQ]
  clear hac r5 ha5 b12 b23 b14 b2 b3 b4 hQ
  go_wp2_with fail
  go_loopg [32] Q (fun gk p wr => ∃ i : Nat, i + gk = Q ∧ p = .int .i64 i ∧ RowE wr W.heap.size 39 5 (.slice (some ⟨g, 0, none⟩) Q cap) Q ∧ Below W.heap.size W wr)
  case atStart => exact ⟨0, by omega, rfl, HR4.out, HB4.out⟩
  case round =>
    obtain ⟨i, hi, rfl, hrw, hb⟩ := hrel
    by_cases hlt : i < Q
    · have hlt' : (i : Int) < Q := by omega
      obtain ⟨hBg, ⟨x0, x1, x2, x3, x4, c0, c1, c2, c3, c4⟩, hfr⟩ := hrw.five hlt
      have HR5 : Hid _ := ((((hrw.set (i * 5) (.string ⟨#[120]⟩)).set (i * 5 + 1) (.int .i64 0)).set (i * 5 + 2) (.int .i64 0)).set (i * 5 + 3) (.bool false)).set (i * 5 + 4) (.int .u64 0)
      have HB5 : Hid _ := ((((hb.setCell (p := ⟨g, i * 5, none⟩) hBg (.string ⟨#[120]⟩)).setCell (p := ⟨g, i * 5 + 1, none⟩) hBg (.int .i64 0)).setCell (p := ⟨g, i * 5 + 2, none⟩) hBg (.int .i64 0)).setCell (p := ⟨g, i * 5 + 3, none⟩) hBg (.bool false)).setCell (p := ⟨g, i * 5 + 4, none⟩) hBg (.int .u64 0)
      clear hrw hb
      go_wp2
      go_roundg (Q - (i + 1))
      case measure => omega
      case rel => exact ⟨i + 1, by omega, rfl, HR5.out, HB5.out⟩
    · obtain rfl : i = Q := by omega
      have HR5 : Hid (RowE wr W.heap.size 39 5 (.slice (some ⟨g, 0, none⟩) i cap) i) := hrw
      have HB5 : Hid _ := hb
      clear hrw hb HR4 HB4
      go_wp2_with fail
      go_loopg [5, 40] 3 (fun gk p5 p w' => ∃ (j : Nat) (v : Value) (vs : List Value), j + gk = 3 ∧ p = .int .i64 j ∧ v = p5 ∧ w'.ownsRow W.heap.size 39 5 v (i + j) vs ∧ Below W.heap.size W w')
      case atStart =>
        obtain ⟨vs, hvs⟩ := HR5.out
        exact ⟨0, _, vs, by omega, rfl, rfl, hvs, HB5.out⟩
      case round =>
        obtain ⟨j, v, vs, hj, rfl, hv, hrw, hb⟩ := hrel
        subst hv
        by_cases hj3 : j < 3
        · have hj3' : (j : Int) < 3 := by omega
          have hbs := hb.size
          have HB6 : Hid _ := hb
          clear hb
          go_wp2_with (at_builtin; refine wpList_append_own_at _ rfl (.tmp 42) (.tmp 44) 36 rfl W.heap.size 39 i0 _ 5 48 Try.underlying36 hi0 hz0 hz1 hz2 rfl (by decide) v (i + j) vs rfl (hrw.alloc _) ⟨wr.heap.size, 0, none⟩ 1 1 [.string ⟨#[121]⟩, .int .i64 0, .int .i64 0, .bool false, .int .u64 0] rfl rfl (new_cells _ _ _) (fun u hu => by simp at hu; rcases hu with rfl | rfl | rfl | rfl | rfl <;> rfl) ?_ ?_ ?_ ?_; exact (Nat.le_trans (m := 35184372088832) (by omega) (by decide)); omega; (simp; omega); intro v' w5 hown hgr _ _)
          go_roundg (3 - (j + 1))
          case measure => omega
          case rel => exact ⟨j + 1, v', _, by omega, rfl, rfl, hown, (HB6.out.alloc hbs _).grown hgr (by simp; omega) (fun k e => (hrw.lt k e).1)⟩
        · obtain rfl : j = 3 := by omega
          have HB6 : Hid (Below W.heap.size W wr) := hb
          clear hb hrw HR5 HB5
          go_wp2_with fail
          go_loopg [7] (i + 2) (fun gk p w' => ∃ (j : Nat) (n : Int), j + gk = i + 2 ∧ n = (j : Int) - 1 ∧ p = .int .i64 n ∧ Below W.heap.size W w')
          case atStart => exact ⟨0, -1, by omega, by omega, rfl, HB6.out⟩
          case round =>
            obtain ⟨k, n, hk, hn, rfl, hb⟩ := hrel
            have hrl := len_any (RefT.below RR.out hb)
            rw [HQ.out] at hrl
            have HB7 : Hid (Below W.heap.size W wr) := hb
            have HN : Hid (n = (k : Int) - 1) := hn
            have hn1 : -1 ≤ n := by omega
            clear hb HB6 hn
            by_cases hni : n ≤ (i : Int)
            · go_wp2_with fail
              refine hrl.mono ?_
              rintro e wa ⟨rfl, ba⟩
              have HBa : Hid (Below W.heap.size W wa) := HB7.out.trans (ba.mono HB7.out.size)
              have hK := tkids (Tree.below TT.out HBa.out) hw n
              clear hrl ba HB7
              go_wp2_with fail
              refine hK.mono ?_
              rintro e wb ⟨v8, rfl, r8, b8⟩
              have HBb : Hid (Below W.heap.size W wb) := HBa.out.trans (b8.mono HBa.out.size)
              have hBl := tbelow (Tree.below TT.out HBb.out) hw n
              clear hK
              go_wp2_with fail
              refine hBl.mono ?_
              rintro e wc ⟨v9, rfl, r9, b9⟩
              have HBc : Hid (Below W.heap.size W wc) := HBb.out.trans (b9.mono HBb.out.size)
              have hG := tget (Tree.below TT.out HBc.out) hw n
              obtain ⟨gx, gb, hgx⟩ := getA_shape l n
              rw [hgx] at hG
              simp only [acV] at hG
              have h8lt : ∀ j, v8.ownBlock = some j → wa.heap.size ≤ j ∧ j < wb.heap.size := fun j hj => r8.lt j hj
              have h9lt : ∀ j, v9.ownBlock = some j → wb.heap.size ≤ j ∧ j < wc.heap.size := fun j hj => r9.lt j hj
              have i8 := row_ints (row_kept r8 b9)
              have i9 := row_ints r9
              have M8 : Hid (RowM wc wa.heap.size v8 (kidsZ l n).length (-9) 0) := ⟨_, row_kept r8 b9, fun h => by omega⟩
              have M9 : Hid (RowM wc wb.heap.size v9 (belowZ l n).length (-8) 0) := ⟨_, r9, fun h => by omega⟩
              have h88 : (kidsZ l n).length ≤ 64 := by
                unfold kidsZ
                split
                · exact len64 (lt_nodup (kids_sorted l _)) (fun j hj => Nat.lt_of_lt_of_le (kid_pos hw hj).2.1 hw.len)
                · simp
              have h99 : (belowZ l n).length ≤ 64 := by
                unfold belowZ
                split
                · exact len64 (lt_nodup (below_sorted l _)) (fun j hj => Nat.lt_of_lt_of_le ((mem_below hw).1 hj).1 hw.len)
                · simp
              obtain ⟨ao8, c8, g8, rfl, hao8⟩ := shape0 r8
              obtain ⟨ao9, c9, g9, rfl, hao9⟩ := shape0 r9
              have I8 : Hid _ := i8
              have I9 : Hid _ := i9
              have H8 : Hid _ := h8lt
              have H9 : Hid _ := h9lt
              have hWA := HBa.out.size
              have sab := b8.size
              have sbc := b9.size
              clear hBl r8 r9 b8 b9 i8 i9 h8lt h9lt HBa HBb
              go_wp2_with fail
              refine hG.mono ?_
              rintro e wd ⟨rfl, bd⟩
              obtain ⟨we, hwe⟩ : ∃ we, wd.alloc (.cells #[.string gx.nm, .int .i64 gx.pa, .int .i64 gx.sh, .bool gx.cl, .int .u64 gx.us] 39) = we := ⟨_, rfl⟩
              have be : Below wd.heap.size wd we := by rw [← hwe]; exact (Below.refl _ wd).alloc (Nat.le_refl _) _
              have ye : we.heap[wd.heap.size]? = some (.cells #[.string gx.nm, .int .i64 gx.pa, .int .i64 gx.sh, .bool gx.cl, .int .u64 gx.us] 39 (0, 0)) := by rw [← hwe]; exact heap_alloc_new wd _
              have bce := bd.trans (be.mono bd.size)
              have HBe : Hid (Below W.heap.size W we) := HBc.out.trans (bce.mono HBc.out.size)
              have hg2 := rget_any (RefT.below RR.out HBe.out) hl48 n
              rw [hgx] at hg2
              simp only [acV] at hg2
              have HWE : Hid _ := hwe
              clear hG hwe be
              go_wp2_with fail
              rw [HWE.out]
              refine hg2.mono ?_
              rintro e wf ⟨rfl, bf⟩
              obtain ⟨wg, hwg⟩ : ∃ wg, wf.alloc (.cells #[.string gx.nm, .int .i64 gx.pa, .int .i64 gx.sh, .bool gx.cl, .int .u64 gx.us] 39) = wg := ⟨_, rfl⟩
              have bg : Below wf.heap.size wf wg := by rw [← hwg]; exact (Below.refl _ wf).alloc (Nat.le_refl _) _
              have yg : wg.heap[wf.heap.size]? = some (.cells #[.string gx.nm, .int .i64 gx.pa, .int .i64 gx.sh, .bool gx.cl, .int .u64 gx.us] 39 (0, 0)) := by rw [← hwg]; exact heap_alloc_new wf _
              have beg := bf.trans (bg.mono bf.size)
              have yeg := (beg.block _ (Array.getElem?_eq_some_iff.1 ye).1).trans ye
              have bcg := bce.trans (beg.mono bce.size)
              have HBg : Hid (Below W.heap.size W wg) := HBc.out.trans (bcg.mono HBc.out.size)
              have hrk := rkids_any (RefT.below RR.out HBg.out) hl48 n
              have HWG : Hid _ := hwg
              clear hg2 hwg bg ye bce beg bf bd HBe HWE
              go_wp2_with fail
              rw [HWG.out]
              refine hrk.mono ?_
              rintro e wh ⟨vh, rfl, rh, bh⟩
              have hnu := numbers_yes (IntsAt.below I8.out (bcg.trans (bh.mono bcg.size))) (row_ints rh) (by omega)
              obtain ⟨aoh, ch, rfl⟩ := sl_shape rh
              clear hrk rh
              go_wp2_with fail
              refine hnu.mono ?_
              rintro e wi ⟨rfl, bi⟩
              have bgi := bh.trans (bi.mono bh.size)
              have bci := bcg.trans (bgi.mono bcg.size)
              have HBi : Hid (Below W.heap.size W wi) := HBc.out.trans (bci.mono HBc.out.size)
              have hrb := rbelow_any (RefT.below RR.out HBi.out) hl48 hw.paok hw.deps n
              clear hnu bh bi
              go_wp2_with fail
              refine hrb.mono ?_
              rintro e wj ⟨vj, rfl, rj, bj⟩
              have hnu := numbers_yes (IntsAt.below I9.out (bci.trans (bj.mono bci.size))) (row_ints rj) (by omega)
              obtain ⟨aoj, cj, rfl⟩ := sl_shape rj
              clear hrb rj
              go_wp2_with fail
              refine hnu.mono ?_
              rintro e wk ⟨rfl, bk⟩
              have bik := bj.trans (bk.mono bj.size)
              have bgk := bgi.trans (bik.mono bgi.size)
              have bck := bcg.trans (bgk.mono bcg.size)
              have HBk : Hid (Below W.heap.size W wk) := HBc.out.trans (bck.mono HBc.out.size)
              have hd1 := tdepth (Tree.below TT.out HBk.out) hw n
              have hd2 := rdepth_any (RefT.below RR.out HBk.out) hl48 hw.paok n
              obtain ⟨dz, hdz⟩ : ∃ dz, depZ l n = dz := ⟨_, rfl⟩
              rw [hdz] at hd1 hd2
              clear hnu bj bk bik bgi bci HBi hdz
              go_wp2_with fail
              refine hd1.mono ?_
              rintro e wx ⟨rfl, rfl⟩
              go_wp2_with fail
              refine hd2.mono ?_
              rintro e wm ⟨rfl, bm⟩
              have bgm := bgk.trans (bm.mono bgk.size)
              have bcm := bcg.trans (bgm.mono bcg.size)
              have HBm : Hid (Below W.heap.size W wm) := HBc.out.trans (bcm.mono HBc.out.size)
              obtain ⟨⟨q0, q1, q2, q3, q4⟩, _⟩ := cells5 ((bgm.block _ (Array.getElem?_eq_some_iff.1 yeg).1).trans yeg)
              obtain ⟨⟨p0, p1, p2, p3, p4⟩, _⟩ := cells5 ((bgm.block _ (Array.getElem?_eq_some_iff.1 yg).1).trans yg)
              have M8' : Hid (RowM wm wa.heap.size (.slice ao8 (kidsZ l n).length c8) (kidsZ l n).length (-9) 0) := RowM.below M8.out bcm
              have M9' : Hid (RowM wm wb.heap.size (.slice ao9 (belowZ l n).length c9) (belowZ l n).length (-8) 0) := RowM.below M9.out bcm
              obtain ⟨n8, hn8⟩ : ∃ n8, (kidsZ l n).length = n8 := ⟨_, rfl⟩
              obtain ⟨n9, hn9⟩ : ∃ n9, (belowZ l n).length = n9 := ⟨_, rfl⟩
              rw [hn8] at h88 hao8 M8' H8
              rw [hn9] at h99 hao9 M9' H9
              rw [hn8, hn9]
              have hsm : wc.heap.size ≤ wm.heap.size := bcm.size
              clear hd1 hd2 M8 M9 I8 I9 yg yeg bm bgm bcm bgk bck bcg HBk HBg HWG hn8 hn9 hgx HBc
              go_wp2_with fail
              go_loopg [106] n8 (fun gk p w' => ∃ j : Nat, j + gk = n8 ∧ p = .int .i64 j ∧ RowM w' wa.heap.size (.slice ao8 n8 c8) n8 (-9) j ∧ RowM w' wb.heap.size (.slice ao9 n9 c9) n9 (-8) 0 ∧ Below W.heap.size W w' ∧ wc.heap.size ≤ w'.heap.size)
              case atStart => exact ⟨0, by omega, rfl, M8'.out, M9'.out, HBm.out, hsm⟩
              case round =>
                obtain ⟨j, hj, rfl, m8, m9, hb, hsz⟩ := hrel
                by_cases hlt : j < n8
                · have hlt' : (j : Int) < n8 := by omega
                  obtain rfl := hao8 (by omega)
                  obtain ⟨k1, ⟨x, k2⟩, k3⟩ := m8.cell hlt
                  have hg8 := H8.out g8 rfl
                  have m8s := m8.set hlt
                  have m9s : RowM (wr.setCell ⟨g8, j, none⟩ (.int .i64 (-9))) wb.heap.size (.slice ao9 n9 c9) n9 (-8) 0 := m9.kept (fun y hy => Below.heap_setCell _ _ _ _ (fun e => by have := H9.out y hy; simp at e; omega))
                  have hbs := hb.setCell (p := ⟨g8, j, none⟩) (show W.heap.size ≤ g8 by omega) (.int .i64 (-9))
                  have A1 : Hid _ := m8s
                  have A2 : Hid _ := m9s
                  have A3 : Hid _ := hbs
                  have hsz2 : wc.heap.size ≤ (wr.setCell ⟨g8, j, none⟩ (.int .i64 (-9))).heap.size := by rw [World.size_setCell]; exact hsz
                  have A4 : Hid _ := hsz2
                  clear m8 m9 hb m8s m9s hbs hsz2
                  go_wp2
                  go_roundg (n8 - (j + 1))
                  case measure => omega
                  case rel => exact ⟨j + 1, by omega, rfl, A1.out, A2.out, A3.out, A4.out⟩
                · obtain rfl : j = n8 := by omega
                  have A1 : Hid (RowM wr wa.heap.size (.slice ao8 j c8) j (-9) j) := m8
                  have A2 : Hid (RowM wr wb.heap.size (.slice ao9 n9 c9) n9 (-8) 0) := m9
                  have A3 : Hid _ := hb
                  have hsz2 := hsz
                  clear m8 m9 hb hsz M8' M9' HBm hsm
                  go_wp2_with fail
                  go_loopg [115] n9 (fun gk p w' => ∃ y : Nat, y + gk = n9 ∧ p = .int .i64 y ∧ RowM w' wa.heap.size (.slice ao8 j c8) j (-9) j ∧ RowM w' wb.heap.size (.slice ao9 n9 c9) n9 (-8) y ∧ Below W.heap.size W w' ∧ wc.heap.size ≤ w'.heap.size)
                  case atStart => exact ⟨0, by omega, rfl, A1.out, A2.out, A3.out, hsz2⟩
                  case round =>
                    obtain ⟨y, hy, rfl, m8, m9, hb, hsz⟩ := hrel
                    by_cases hlt2 : y < n9
                    · have hlt2' : (y : Int) < n9 := by omega
                      obtain rfl := hao9 (by omega)
                      obtain ⟨k1, ⟨x, k2⟩, k3⟩ := m9.cell hlt2
                      have hg9 := H9.out g9 rfl
                      have m9s := m9.set hlt2
                      have m8s : RowM (wr.setCell ⟨g9, y, none⟩ (.int .i64 (-8))) wa.heap.size (.slice ao8 j c8) j (-9) j := m8.kept (fun z hz => Below.heap_setCell _ _ _ _ (fun e => by have := H8.out z hz; simp at e; omega))
                      have hbs := hb.setCell (p := ⟨g9, y, none⟩) (show W.heap.size ≤ g9 by omega) (.int .i64 (-8))
                      have D1 : Hid _ := m8s
                      have D2 : Hid _ := m9s
                      have D3 : Hid _ := hbs
                      have hsz3 : wc.heap.size ≤ (wr.setCell ⟨g9, y, none⟩ (.int .i64 (-8))).heap.size := by rw [World.size_setCell]; exact hsz
                      have D4 : Hid _ := hsz3
                      clear m8 m9 hb m8s m9s hbs hsz3
                      go_wp2
                      go_roundg (n9 - (y + 1))
                      case measure => omega
                      case rel => exact ⟨y + 1, by omega, rfl, D1.out, D2.out, D3.out, D4.out⟩
                    · obtain rfl : y = n9 := by omega
                      obtain ⟨vs8, o8, z8⟩ := m8
                      obtain ⟨vs9, o9, z9⟩ := m9
                      have HBx : Hid (Below W.heap.size W wr) := hb
                      have Z8 : Hid _ := z8
                      have Z9 : Hid _ := z9
                      have hbs := hb.size
                      have h98 : ∀ z, (Value.slice ao9 y c9).ownBlock = some z → (Value.slice ao8 j c8).ownBlock ≠ some z := fun z hz hz' => by
                        have e1 := H9.out z hz
                        have e2 := H8.out z hz'
                        omega
                      have H98 : Hid _ := h98
                      clear hb z8 z9 A1 A2 A3 h98
                      go_upto_region 33 with (first
                        | (at_builtin; refine wpList_append_own_at _ rfl (.tmp 122) (.tmp 123) 50 rfl wa.heap.size 3 i1 _ 1 8 Try.underlying50 hi1 hy0 hy1 hy2 rfl (by decide) (.slice ao8 j c8) j vs8 rfl (o8.alloc _) ⟨wr.heap.size, 0, none⟩ 2 2 [.int .i64 (-9), .int .i64 (-9)] rfl rfl (two_new _ _ _ _) (fun u hu => by simp at hu; subst hu; rfl) ?_ ?_ ?_ ?_; exact (Nat.le_trans (m := 35184372088832) (by omega) (by decide)); omega; (simp; omega); intro v8' w5 r8' hg5 _ hat5; have o9' := row_of (w' := w5) (o9.alloc (.cells #[.int .i64 (-9), .int .i64 (-9)] 3)) (fun z hz => hg5.block z (((o9.alloc (.cells #[.int .i64 (-9), .int .i64 (-9)] 3)).lt z hz).2) (fun e => H98.out z hz e.symm)); obtain ⟨g8', cap8, rfl, e8⟩ := RowM.app r8' o8.1 (fun h => Z8.out h h); have hs5 := hg5.size)
                        | (at_builtin; refine wpList_append_own_at _ rfl (.tmp 125) (.tmp 126) 50 rfl wb.heap.size 3 i1 _ 1 8 Try.underlying50 hi1 hy0 hy1 hy2 rfl (by decide) (.slice ao9 y c9) y vs9 rfl (o9'.alloc _) ⟨w5.heap.size, 0, none⟩ 2 2 [.int .i64 (-8), .int .i64 (-8)] rfl rfl (two_new _ _ _ _) (fun u hu => by simp at hu; subst hu; rfl) ?_ ?_ ?_ ?_; exact (Nat.le_trans (m := 35184372088832) (by omega) (by decide)); omega; (simp at hs5 ⊢; omega); intro v9' w6 r9' hg6 _ hat6; obtain ⟨g9', cap9, rfl, e9⟩ := RowM.app r9' o9.1 (fun h => Z9.out h h)))
                      have e8' : w6.cell? ⟨g8', 0, none⟩ = some (.int .i64 (-9)) := cell_far (cellB (one_al' _ _) e8) hg6 (far_of hat5 H98.out H9.out hsz (World.size_alloc _ _))
                      have b5 := (HBx.out.alloc hbs (.cells #[.int .i64 (-9), .int .i64 (-9)] 3)).grown hg5 (by simp; omega) (fun z e => by have := H8.out z e; omega)
                      have b6 := (b5.alloc b5.size (.cells #[.int .i64 (-8), .int .i64 (-8)] 3)).grown hg6 (by have := b5.size; simp; omega) (fun z e => by have := H9.out z e; omega)
                      have B6 : Hid _ := b6
                      have hkk : k < i + 2 := by have := HN.out; omega
                      clear b5 b6 e8 hat5 hat6 o8 o9 o9' r8' r9' hg5 hg6
                      go_wp2
                      go_roundg (i + 2 - (k + 1))
                      case measure => omega
                      case rel => exact ⟨k + 1, n + 1, by omega, by have := HN.out; omega, rfl, B6.out⟩
            · have hni' : ¬ n ≤ (i : Int) := hni
              go_wp2_with fail
              refine hrl.mono ?_
              rintro e wa ⟨rfl, ba⟩
              have hfin := HB7.out.trans (ba.mono HB7.out.size)
              go_wp2
              go_ret
              exact ⟨rfl, hfin⟩
end Go.Proofs.Ythkahbjcncbcfaa
