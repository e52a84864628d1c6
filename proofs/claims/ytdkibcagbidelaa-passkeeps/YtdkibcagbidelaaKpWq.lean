/-
  THE STATEMENT PassKeeps: the walk.
-/
import Derived.Test.YtdkibcagbidelaaXka
import Derived.Test.YtdkibcagbidelaaKpDq
import Derived.Test.YtdkibcagbidelaaXrc
namespace Go.Proofs.Ytdkibcagbidelaa
open Go.RowKit Pr

set_option maxRecDepth 20000 in
set_option maxHeartbeats 16000000 in
theorem keeps_walk {w : World} {wo ao tad : Option Addr} {ws : List Wt} {rs : List Rn} {tl : List Tn} {cw cr tc : Nat} (hW : WantsAt w wo ws) (hA : RunsAt w ao rs) (hnw : ws.length * 24 ≤ 140737488351232) (hn : rs.length * 16 ≤ 140737488351232) (hj : ∀ x ∈ ws, JobOk x) (hwn : wo = none → ws.length = 0 ∧ cw = 0) (han : ao = none → rs.length = 0 ∧ cr = 0)
    (hT : TurnsAt w tad tl) (hTo : ∀ t ∈ tl, TnOk w t) (htl : tl.length * 88 ≤ 140737488351232) (now free ho : Int) :
    Calls Try.prog 5 #[.agg #[.int .i64 now, .int .i64 free, .slice wo ws.length cw, .int .i64 ho, .slice ao rs.length cr], .slice tad tl.length tc] w fun e w' => e = .returned (.bool true) ∧ Below w.heap.size w w' := by
  obtain ⟨za, hza⟩ : ∃ za, w.heap.size = za := ⟨_, rfl⟩
  obtain ⟨W1, hW1⟩ : ∃ W1, w.alloc (.cells #[.int .i64 now, .int .i64 free, .slice wo ws.length cw, .int .i64 ho, .slice ao rs.length cr] 25) = W1 := ⟨_, rfl⟩
  have b1 : Below w.heap.size w W1 := by rw [← hW1]; exact (Below.refl _ w).alloc (Nat.le_refl _) _
  have HKA : Hid (W1.heap[za]? = some (.cells #[.int .i64 now, .int .i64 free, .slice wo ws.length cw, .int .i64 ho, .slice ao rs.length cr] 25 (0, 0))) := show _ = _ by rw [← hW1, ← hza]; exact heap_alloc_new w _
  have HB1 : Hid (Below w.heap.size w W1) := b1
  have CC : Hid (∀ W, Below w.heap.size w W → Calls Try.prog 17 #[.int .i64 now, .int .i64 free, .slice wo ws.length cw, .int .i64 ho, .slice ao rs.length cr] W fun e w' => e = .returned (chkE (chkB now free ws ho rs)) ∧ Below W.heap.size W w') := fun W b => rchk_any (hW.below b) (hA.below b) (by omega) (by omega) now free ho
  have HW : Hid (WantsAt w wo ws) := hW
  have HA : Hid (RunsAt w ao rs) := hA
  have HT : Hid (TurnsAt w tad tl) := hT
  have HTO : Hid (∀ t ∈ tl, TnOk w t) := hTo
  have HJ : Hid (∀ x ∈ ws, JobOk x) := hj
  clear b1 hW hA hT hTo hj
  go_enter Try.func5, Try.ntmps5
  go_upto_region 3 with (go_at_call 8; refine (shown_any _).mono ?_; rintro e w2 ⟨rfl, b2⟩)
  have B2 : Below w.heap.size w w2 := HB1.out.trans (b2.mono HB1.out.size)
  have ka := bk b2 HKA.out
  have c0 := cells_at ka (k := 0) rfl
  have c1 := cells_at ka (k := 1) rfl
  have c2 := cells_at ka (k := 2) rfl
  have c3 := cells_at ka (k := 3) rfl
  have c4 := cells_at ka (k := 4) rfl
  have C1 := CC.out w2 B2
  have HKA2 : Hid (w2.heap[za]? = some (.cells #[.int .i64 now, .int .i64 free, .slice wo ws.length cw, .int .i64 ho, .slice ao rs.length cr] 25 (0, 0))) := ka
  have HB2 : Hid (Below w.heap.size w w2) := B2
  clear ka B2 b2 HB1 HKA hW1 CC hza
  cases hc : chkB now free ws ho rs with
  | false =>
    rw [hc, show chkE false = .int .i64 150 from rfl] at C1
    go_wp2_with (go_at_call 17; refine C1.mono ?_; rintro e w3 ⟨rfl, b3⟩)
    go_ret
    exact ⟨rfl, HB2.out.trans (b3.mono HB2.out.size)⟩
  | true =>
    rw [hc, show chkE true = .int .i64 0 from rfl] at C1
    have ck := chk_iff.1 hc
    obtain ⟨⟨f0, f1⟩, hok⟩ := right_parts.1 ck.rt
    have HCK : Hid (Chk now free ws ho rs) := ck
    have HOK : Hid (rs.all okR = true) := hok
    go_upto_region 5 with (go_at_call 17; refine C1.mono ?_; rintro e w3 ⟨rfl, b3⟩)
    have HKA3 : Hid (w3.heap[za]? = some (.cells #[.int .i64 now, .int .i64 free, .slice wo ws.length cw, .int .i64 ho, .slice ao rs.length cr] 25 (0, 0))) := bk b3 HKA2.out
    have HB3 : Hid (Below w.heap.size w w3) := HB2.out.trans (b3.mono HB2.out.size)
    clear c0 c1 c2 c3 c4 C1 b3 HKA2 HB2 hc ck hok
    have c1 := cells_at HKA3.out (k := 1) rfl
    have c4 := cells_at HKA3.out (k := 4) rfl
    obtain ⟨q, hq⟩ : ∃ q, rs.length = q := ⟨_, rfl⟩
    have HQ : Hid (rs.length = q) := hq
    rw [hq] at c4 hn
    have HSB : Hid (∀ j, 0 ≤ sumN (rs.take j) ∧ sumN (rs.take j) ≤ 256 * q) := fun j => by
      have := sumN_bound (l := rs.take j) (take_all HOK.out j)
      have h3 : (rs.take j).length ≤ q := by rw [← HQ.out, List.length_take]; omega
      have : (256 : Int) * (rs.take j).length ≤ 256 * q := by omega
      omega
    clear hq
    go_upto_block 0 with fail
    go_cut [5, 6] (fun p5 _ wd => p5 = .int .i64 (free + sumN rs) ∧ wd = w3)
    case first =>
      as_aux_lemma =>
        obtain ⟨ga, oa, hga, hac⟩ := HA.out.below HB3.out
        go_wp2
        go_loopg [5, 6] q (fun gk p5 p6 wr => ∃ j : Nat, j + gk = q ∧ p5 = .int .i64 (free + sumN (rs.take j)) ∧ p6 = .int .i64 j ∧ w3 = wr)
        case atStart => exact ⟨0, by omega, by simp [sumN], rfl, rfl⟩
        case round =>
          obtain ⟨j, hjg, rfl, rfl, rfl⟩ := hrel
          by_cases hlt : j < q
          · obtain ⟨r, hr⟩ : ∃ r, rs[j]? = some r := ⟨_, List.getElem?_eq_getElem (by have := HQ.out; omega)⟩
            have eg := hga (by have := HQ.out; omega)
            rw [eg] at c4
            obtain ⟨d0, d1⟩ := hac j r hr
            have h5 := HSB.out j
            have h6 := HSB.out (j + 1)
            have h7 := sumN_take hr
            rw [h7] at h6
            have H7 : Hid (sumN (rs.take (j + 1)) = sumN (rs.take j) + r.nd) := h7
            clear hr h7 hga hac eg
            generalize sumN (rs.take j) = S at *
            go_wp2
            go_roundg (q - (j + 1))
            case measure => omega
            case rel => exact ⟨j + 1, by omega, by rw [H7.out]; congr 1; omega, rfl, rfl⟩
          · have htk : rs.take j = rs := List.take_of_length_le (by have := HQ.out; omega)
            rw [htk]
            clear hga hac
            go_wp2
            go_meet
            exact ⟨rfl, rfl⟩
    case rest =>
      as_aux_lemma =>
        obtain ⟨rfl, h9⟩ := hcut
        obtain rfl := h9.symm
        clear h9
        obtain ⟨all, hall⟩ : ∃ all, free + sumN rs = all := ⟨_, rfl⟩
        rw [hall]
        have HALL : Hid (free + sumN rs = all) := hall
        clear hall HSB
        by_cases hal : 256 < all
        · go_wp2
          go_ret
          exact ⟨rfl, HB3.out⟩
        · have hal' : all ≤ 256 := by omega
          have HK0 : Hid (Kp now free all ws ho rs) := ⟨HCK.out, HALL.out, hal'⟩
          have c0 := cells_at HKA3.out (k := 0) rfl
          have c3 := cells_at HKA3.out (k := 3) rfl
          obtain ⟨B, hBB⟩ : ∃ B, w3.heap.size = B := ⟨_, rfl⟩
          obtain ⟨W4, hW4⟩ : ∃ W4, w3.alloc (.cells #[.int .i64 now, .int .i64 free, .slice none 0 0, .int .i64 ho, .slice none 0 0] 53) = W4 := ⟨_, rfl⟩
          have b4 : Below w3.heap.size w3 W4 := by rw [← hW4]; exact (Below.refl _ w3).alloc (Nat.le_refl _) _
          have hbl : W4.heap[B]? = some (.cells #[.int .i64 now, .int .i64 free, .slice none 0 0, .int .i64 ho, .slice none 0 0] 53 (0, 0)) := by rw [← hW4, ← hBB]; exact heap_alloc_new w3 _
          have HBL : Hid (W4.heap[B]? = some (.cells #[.int .i64 now, .int .i64 free, .slice none 0 0, .int .i64 ho, .slice none 0 0] 53 (0, 0))) := hbl
          have HB4 : Hid (Below B w3 W4) := by rw [hBB] at b4; exact b4
          have HKA4 : Hid (W4.heap[za]? = some (.cells #[.int .i64 now, .int .i64 free, .slice wo ws.length cw, .int .i64 ho, .slice ao rs.length cr] 25 (0, 0))) := bk b4 HKA3.out
          have hB3 : B ≤ w3.heap.size := by omega
          have hzaB : za < B := by have := lt_of_blk HKA3.out; omega
          have hwB : w.heap.size ≤ B := by have := HB3.out.size; omega
          have HB04 : Hid (Below w.heap.size w W4) := HB3.out.trans (b4.mono HB3.out.size)
          go_upto_region 13 with fail
          clear c0 c1 c3 c4 hW4 hBB b4 hbl
          have m2 := cells_at HBL.out (k := 2) rfl
          have a2 := cells_at HKA4.out (k := 2) rfl
          have hBW : B < W4.heap.size := lt_of_blk HBL.out
          obtain ⟨j0, hj0, hw0, hw1, hw2⟩ := info_parts Try.inf40
          obtain ⟨i0, hi0, hz0, hz1, hz2⟩ := info_parts Try.inf45
          obtain ⟨hu1, hu2⟩ := ck_room hnw
          obtain ⟨hv1, hv2⟩ := ck_roomR (n := rs.length) (by rw [HQ.out]; exact hn)
          have HCW : Hid (∀ y, Below w.heap.size w y → ∀ ad, wo = some ad → ∀ j u, (flatW ws)[j]? = some u → y.cell? (ad.add j) = some u) := fun y b ad had j u hu => by
            obtain ⟨g9, o9, h9, k9⟩ := HW.out.below b
            have hjl := (List.getElem?_eq_some_iff.1 hu).1
            rw [flatW_len] at hjl
            have e9 := h9 (by omega)
            rw [had] at e9
            obtain rfl := Option.some.inj e9
            exact flatW_cell k9 j u hu
          have HCR : Hid (∀ y, Below w.heap.size w y → ∀ ad, ao = some ad → ∀ j u, (flatR rs)[j]? = some u → y.cell? (ad.add j) = some u) := fun y b ad had j u hu => by
            obtain ⟨g9, o9, h9, k9⟩ := HA.out.below b
            have hjl := (List.getElem?_eq_some_iff.1 hu).1
            rw [flatR_len] at hjl
            have e9 := h9 (by omega)
            rw [had] at e9
            obtain rfl := Option.some.inj e9
            exact flatR_cell k9 j u hu
          have HFW : Hid ((flatW ws).length = ws.length * 3) := flatW_len ws
          have HFR : Hid ((flatR rs).length = rs.length * 2) := flatR_len rs
          go_cut [] (fun wd => ∃ vw, Sg B B vw (.slice none 0 0) now free ho ws [] wd ∧ Below B w3 wd)
          case first =>
            as_aux_lemma =>
              refine wp_region_last (S := (fun x' : World => x'.cell? ⟨B, 2, none⟩ = some (.slice none 0 0) ∧ x'.cell? ⟨za, 2, none⟩ = some (.slice wo ws.length cw))) (L := 10) (by kernel_rfl) ?_
              have HS0 : (fun x' : World => x'.cell? ⟨B, 2, none⟩ = some (.slice none 0 0) ∧ x'.cell? ⟨za, 2, none⟩ = some (.slice wo ws.length cw)) W4.drew := ⟨m2, a2⟩
              refine last_take (i := 0) (v := ?v0a) rfl (by kernel_rfl) (by kernel_rfl) (by kernel_rfl) (by kernel_rfl) rfl (fun _ _ _ h => h) (by rfl) HS0 ?hy0a ?rest0a
              case hy0a =>
                intro xx hSx
                obtain ⟨s1, s2⟩ := hSx
                go_simp
                try (with_reducible rfl)
              simp only [Act.put, List.setIfInBounds_toArray, List.set_cons_zero, List.set_cons_succ]
              refine last_take (i := 1) (v := ?v1a) rfl (by kernel_rfl) (by kernel_rfl) (by kernel_rfl) (by kernel_rfl) rfl (fun _ _ _ h => h) (by rfl) HS0 ?hy1a ?rest1a
              case hy1a =>
                intro xx hSx
                obtain ⟨s1, s2⟩ := hSx
                go_simp
                try (with_reducible rfl)
              simp only [Act.put, List.setIfInBounds_toArray, List.set_cons_zero, List.set_cons_succ]
              refine last_take (i := 2) (v := ?v2a) rfl (by kernel_rfl) (by kernel_rfl) (by kernel_rfl) (by kernel_rfl) rfl (fun _ _ _ h => h) (by rfl) HS0 ?hy2a ?rest2a
              case hy2a =>
                intro xx hSx
                obtain ⟨s1, s2⟩ := hSx
                go_simp
                try (with_reducible rfl)
              simp only [Act.put, List.setIfInBounds_toArray, List.set_cons_zero, List.set_cons_succ]
              refine last_take (i := 3) (v := ?v3a) rfl (by kernel_rfl) (by kernel_rfl) (by kernel_rfl) (by kernel_rfl) rfl (fun _ _ _ h => h) (by rfl) HS0 ?hy3a ?rest3a
              case hy3a =>
                intro xx hSx
                obtain ⟨s1, s2⟩ := hSx
                go_simp
                try (with_reducible rfl)
              simp only [Act.put, List.setIfInBounds_toArray, List.set_cons_zero, List.set_cons_succ]
              refine last_take (i := 4) (v := ?v4a) rfl (by kernel_rfl) (by kernel_rfl) (by kernel_rfl) (by kernel_rfl) rfl (fun _ _ _ h => h) (by rfl) HS0 ?hy4a ?rest4a
              case hy4a =>
                intro xx hSx
                obtain ⟨s1, s2⟩ := hSx
                go_simp
                try (with_reducible rfl)
              simp only [Act.put, List.setIfInBounds_toArray, List.set_cons_zero, List.set_cons_succ]
              refine last_take (i := 5) (v := ?v5a) rfl (by kernel_rfl) (by kernel_rfl) (by kernel_rfl) (by kernel_rfl) rfl (fun _ _ _ h => h) (by rfl) HS0 ?hy5a ?rest5a
              case hy5a =>
                intro xx hSx
                obtain ⟨s1, s2⟩ := hSx
                go_simp
                try (with_reducible rfl)
              simp only [Act.put, List.setIfInBounds_toArray, List.set_cons_zero, List.set_cons_succ]
              refine last_take (i := 6) (v := ?v6a) rfl (by kernel_rfl) (by kernel_rfl) (by kernel_rfl) (by kernel_rfl) rfl (fun _ _ _ h => h) (by rfl) HS0 ?hy6a ?rest6a
              case hy6a =>
                intro xx hSx
                obtain ⟨s1, s2⟩ := hSx
                go_simp
                try (with_reducible rfl)
              simp only [Act.put, List.setIfInBounds_toArray, List.set_cons_zero, List.set_cons_succ]
              refine last_one (i := 7) (by kernel_rfl) rfl ?_
              intro K2 hK2
              refine step_append_any (by rfl) _ _ _ (by rfl) B 40 j0 _ 3 24 Try.underlying22 hj0 hw0 hw1 hw2 rfl (by omega) (.slice none 0 0) 0 [] (by rfl) (World.ownsRow_nil _ _ _ _) wo ws.length cw (flatW ws) (by rfl) hwn HFW.out (HCW.out _ HB04.out.drew) (flatW_one _) hu1 hu2 (Nat.le_of_lt hBW) ?_
              intro v3 w1 hr3 hg3
              rw [Nat.zero_add, List.nil_append] at hr3
              have hk3 : ∀ i, i < W4.heap.size → w1.heap[i]? = W4.heap[i]? := fun i hi => hg3.block i hi (fun e => by cases e)
              have HS2 : (fun x' : World => x'.cell? ⟨B, 2, none⟩ = some (.slice none 0 0) ∧ x'.cell? ⟨za, 2, none⟩ = some (.slice wo ws.length cw)) w1 := ⟨(World.cell?_of_block (hk3 B hBW)).trans m2, (World.cell?_of_block (hk3 za (lt_of_blk HKA4.out))).trans a2⟩
              have hb1 := (hk3 B hBW).trans HBL.out
              obtain ⟨la, lc, rfl⟩ := own_form hr3
              have Y : Hid (Sg B B (.slice la ws.length lc) (.slice none 0 0) now free ho ws [] (w1.setCell ⟨B, 2, none⟩ (.slice la ws.length lc)) ∧ Below B w3 (w1.setCell ⟨B, 2, none⟩ (.slice la ws.length lc))) := by
                refine ⟨⟨st_new hb1 rfl, row_keep hr3 (fun k e => Below.heap_setCell _ _ _ _ ?_), World.ownsRow_nil _ _ _ _, Nat.le_refl _⟩, ?_⟩
                · obtain ⟨_, cs, hk⟩ := row_tag hr3 e
                  exact tag_ne hk hb1 (by decide)
                · exact ((HB4.out.drew).grown hg3 (Nat.le_of_lt hBW) (fun k e => by cases e)).setCell (p := ⟨B, 2, none⟩) (Nat.le_refl _) _
              have hfz := frozen_at hb1 (k := 2)
              refine hK2.out _ _ (fun _ => HS2) (fun _ => ?_)
              clear hK2 K2 hr3 hg3 HS0 hk3 hb1
              refine last_one (i := 8) (by kernel_rfl) rfl ?_
              intro K9 hK9
              go_simp
              refine hK9.out _ _ (fun _ => HS2) (fun _ => ?_)
              clear hK9 K9
              refine last_one (i := 9) (by kernel_rfl) rfl ?_
              intro K9 hK9
              go_simp
              refine hK9.out _ _ (fun _ => HS2) (fun _ => ?_)
              clear hK9 K9
              refine last_one (i := 10) (by kernel_rfl) rfl ?_
              intro K3 hK3
              go_simp
              refine hK3.out _ _ (fun h => absurd rfl h) (fun _ => ?_)
              clear hK3 K3
              refine last_done (by kernel_rfl) ?_ _
              go_wp2
              go_meet
              exact ⟨_, Y.out⟩
          case rest =>
            as_aux_lemma =>
              obtain ⟨vw, hsg, hbe⟩ := hcut
              have HSG5 : Hid (Sg B B vw (.slice none 0 0) now free ho ws [] wc) := hsg
              have HBE5 : Hid (Below B w3 wc) := hbe
              have ka5 : wc.heap[za]? = some (.cells #[.int .i64 now, .int .i64 free, .slice wo ws.length cw, .int .i64 ho, .slice ao rs.length cr] 25 (0, 0)) := (hbe.block za hzaB).trans HKA3.out
              have m4 := cells_at hsg.blk (k := 4) rfl
              have a4 := cells_at ka5 (k := 4) rfl
              have hB5 : B ≤ wc.heap.size := Nat.le_trans hB3 hbe.size
              have HB05 : Hid (Below w.heap.size w wc) := HB3.out.trans (hbe.mono hwB)
              clear hsg hbe HBL HB4 HKA4 m2 a2 HB04 hBW
              go_upto_region 14 with fail
              go_cut [] (fun wd => ∃ vw' vr, Sg B B vw' vr now free ho ws rs wd ∧ Below B w3 wd)
              case first =>
                as_aux_lemma =>
                  refine wp_region_last (S := (fun x' : World => x'.cell? ⟨B, 4, none⟩ = some (.slice none 0 0) ∧ x'.cell? ⟨za, 4, none⟩ = some (.slice ao rs.length cr))) (L := 10) (by kernel_rfl) ?_
                  have HS0 : (fun x' : World => x'.cell? ⟨B, 4, none⟩ = some (.slice none 0 0) ∧ x'.cell? ⟨za, 4, none⟩ = some (.slice ao rs.length cr)) wc.drew := ⟨m4, a4⟩
                  refine last_take (i := 0) (v := ?v0b) rfl (by kernel_rfl) (by kernel_rfl) (by kernel_rfl) (by kernel_rfl) rfl (fun _ _ _ h => h) (by rfl) HS0 ?hy0b ?rest0b
                  case hy0b =>
                    intro xx hSx
                    obtain ⟨s1, s2⟩ := hSx
                    go_simp
                    try (with_reducible rfl)
                  simp only [Act.put, List.setIfInBounds_toArray, List.set_cons_zero, List.set_cons_succ]
                  refine last_take (i := 1) (v := ?v1b) rfl (by kernel_rfl) (by kernel_rfl) (by kernel_rfl) (by kernel_rfl) rfl (fun _ _ _ h => h) (by rfl) HS0 ?hy1b ?rest1b
                  case hy1b =>
                    intro xx hSx
                    obtain ⟨s1, s2⟩ := hSx
                    go_simp
                    try (with_reducible rfl)
                  simp only [Act.put, List.setIfInBounds_toArray, List.set_cons_zero, List.set_cons_succ]
                  refine last_take (i := 2) (v := ?v2b) rfl (by kernel_rfl) (by kernel_rfl) (by kernel_rfl) (by kernel_rfl) rfl (fun _ _ _ h => h) (by rfl) HS0 ?hy2b ?rest2b
                  case hy2b =>
                    intro xx hSx
                    obtain ⟨s1, s2⟩ := hSx
                    go_simp
                    try (with_reducible rfl)
                  simp only [Act.put, List.setIfInBounds_toArray, List.set_cons_zero, List.set_cons_succ]
                  refine last_take (i := 3) (v := ?v3b) rfl (by kernel_rfl) (by kernel_rfl) (by kernel_rfl) (by kernel_rfl) rfl (fun _ _ _ h => h) (by rfl) HS0 ?hy3b ?rest3b
                  case hy3b =>
                    intro xx hSx
                    obtain ⟨s1, s2⟩ := hSx
                    go_simp
                    try (with_reducible rfl)
                  simp only [Act.put, List.setIfInBounds_toArray, List.set_cons_zero, List.set_cons_succ]
                  refine last_take (i := 4) (v := ?v4b) rfl (by kernel_rfl) (by kernel_rfl) (by kernel_rfl) (by kernel_rfl) rfl (fun _ _ _ h => h) (by rfl) HS0 ?hy4b ?rest4b
                  case hy4b =>
                    intro xx hSx
                    obtain ⟨s1, s2⟩ := hSx
                    go_simp
                    try (with_reducible rfl)
                  simp only [Act.put, List.setIfInBounds_toArray, List.set_cons_zero, List.set_cons_succ]
                  refine last_take (i := 5) (v := ?v5b) rfl (by kernel_rfl) (by kernel_rfl) (by kernel_rfl) (by kernel_rfl) rfl (fun _ _ _ h => h) (by rfl) HS0 ?hy5b ?rest5b
                  case hy5b =>
                    intro xx hSx
                    obtain ⟨s1, s2⟩ := hSx
                    go_simp
                    try (with_reducible rfl)
                  simp only [Act.put, List.setIfInBounds_toArray, List.set_cons_zero, List.set_cons_succ]
                  refine last_take (i := 6) (v := ?v6b) rfl (by kernel_rfl) (by kernel_rfl) (by kernel_rfl) (by kernel_rfl) rfl (fun _ _ _ h => h) (by rfl) HS0 ?hy6b ?rest6b
                  case hy6b =>
                    intro xx hSx
                    obtain ⟨s1, s2⟩ := hSx
                    go_simp
                    try (with_reducible rfl)
                  simp only [Act.put, List.setIfInBounds_toArray, List.set_cons_zero, List.set_cons_succ]
                  refine last_one (i := 7) (by kernel_rfl) rfl ?_
                  intro K2 hK2
                  refine step_append_any (by rfl) _ _ _ (by rfl) B 45 i0 _ 2 16 Try.underlying23 hi0 hz0 hz1 hz2 rfl (by omega) (.slice none 0 0) 0 [] (by rfl) (World.ownsRow_nil _ _ _ _) ao rs.length cr (flatR rs) (by rfl) han HFR.out (HCR.out _ HB05.out.drew) (flatR_one _) hv1 hv2 hB5 ?_
                  intro v3 w1 hr3 hg3
                  rw [Nat.zero_add, List.nil_append] at hr3
                  have hk3 : ∀ i, i < wc.heap.size → w1.heap[i]? = wc.heap[i]? := fun i hi => hg3.block i hi (fun e => by cases e)
                  have HS2 : (fun x' : World => x'.cell? ⟨B, 4, none⟩ = some (.slice none 0 0) ∧ x'.cell? ⟨za, 4, none⟩ = some (.slice ao rs.length cr)) w1 := ⟨(World.cell?_of_block (hk3 B (lt_of_blk HSG5.out.blk))).trans m4, (World.cell?_of_block (hk3 za (lt_of_blk ka5))).trans a4⟩
                  have hb1 := (hk3 B (lt_of_blk HSG5.out.blk)).trans HSG5.out.blk
                  obtain ⟨la, lc, rfl⟩ := own_form hr3
                  have Y : Hid (Sg B B vw (.slice la rs.length lc) now free ho ws rs (w1.setCell ⟨B, 4, none⟩ (.slice la rs.length lc)) ∧ Below B w3 (w1.setCell ⟨B, 4, none⟩ (.slice la rs.length lc))) := by
                    refine ⟨⟨st_new hb1 rfl, row_keep HSG5.out.rw_ (fun k e => ?_), row_keep hr3 (fun k e => Below.heap_setCell _ _ _ _ ?_), Nat.le_refl _⟩, ?_⟩
                    · obtain ⟨_, cs, hk⟩ := row_tag HSG5.out.rw_ e
                      exact (Below.heap_setCell _ _ _ _ (tag_ne hk HSG5.out.blk (by decide))).trans (hk3 k (lt_of_blk hk))
                    · obtain ⟨_, cs, hk⟩ := row_tag hr3 e
                      exact tag_ne hk hb1 (by decide)
                    · exact ((HBE5.out.drew).grown hg3 hB5 (fun k e => by cases e)).setCell (p := ⟨B, 4, none⟩) (Nat.le_refl _) _
                  have hfz := frozen_at hb1 (k := 4)
                  refine hK2.out _ _ (fun _ => HS2) (fun _ => ?_)
                  clear hK2 K2 hr3 hg3 HS0 hk3 hb1
                  refine last_one (i := 8) (by kernel_rfl) rfl ?_
                  intro K9 hK9
                  go_simp
                  refine hK9.out _ _ (fun _ => HS2) (fun _ => ?_)
                  clear hK9 K9
                  refine last_one (i := 9) (by kernel_rfl) rfl ?_
                  intro K9 hK9
                  go_simp
                  refine hK9.out _ _ (fun _ => HS2) (fun _ => ?_)
                  clear hK9 K9
                  refine last_one (i := 10) (by kernel_rfl) rfl ?_
                  intro K3 hK3
                  go_simp
                  refine hK3.out _ _ (fun h => absurd rfl h) (fun _ => ?_)
                  clear hK3 K3
                  refine last_done (by kernel_rfl) ?_ _
                  go_wp2
                  go_meet
                  exact ⟨_, _, Y.out⟩
              case rest =>
                as_aux_lemma =>
                  obtain ⟨vw6, vr6, hsg, hbe⟩ := hcut
                  have HSG6 : Hid (Sg B B vw6 vr6 now free ho ws rs wc) := hsg
                  have HBE6 : Hid (Below B w3 wc) := hbe
                  obtain ⟨n0, hn0⟩ : ∃ n0, ws.length = n0 := ⟨_, rfl⟩
                  have HN0 : Hid (ws.length = n0) := hn0
                  obtain ⟨N, hN⟩ : ∃ N, min (tl.length + 1) 400 = N := ⟨_, rfl⟩
                  have hN1 : N ≤ tl.length + 1 := by omega
                  have hN2 : N ≤ 400 := by omega
                  have hN3 : N = tl.length + 1 ∨ N = 400 := by omega
                  have hn24 : n0 * 24 ≤ 140737488351232 := by rw [← hn0]; exact hnw
                  clear hsg hbe hn0 hN m4 a4 ka5 HSG5 HBE5 HB05 hu1 hu2 hv1 hv2 HCW HCR HFW HFR hj0 hw0 hw1 hw2 hi0 hz0 hz1 hz2 i0 j0 hnw hn hB5
                  go_wp2
                  go_loopg [8, 9, 10] N (fun gk p8 p9 p10 wr => ∃ (i : Nat) (til sh nw fr hd : Int) (wl : List Wt) (rl : List Rn) (vw vr : Value), i + gk = N ∧ p8 = .int .i64 til ∧ p9 = .int .i64 sh ∧ p10 = .int .i64 i ∧ Sg B B vw vr nw fr hd wl rl wr ∧ Kp nw fr all wl hd rl ∧ Gr nw fr wl hd rl til sh ∧ til ≤ 4398046511104 ∧ wl.length ≤ n0 + 20 * i ∧ (∀ x ∈ wl, x.job ≤ 9223372036854775807) ∧ Below B w3 wr)
                  case atStart => exact ⟨0, -1, 0, now, free, ho, ws, rs, _, _, by omega, rfl, rfl, rfl, HSG6.out, HK0.out, .inl rfl, by omega, by have := HN0.out; omega, fun x hx => (HJ.out x hx).2, HBE6.out⟩
                  case round =>
                    obtain ⟨i, til, sh, nw, fr, hd, wl, rl, vw, vr, hig, rfl, rfl, rfl, hsg, hk, hg, htil, hlen, hjb, hbe⟩ := hrel
                    clear HSG6 HBE6
                    by_cases hlt : i < N
                    · have hl1 : (i : Int) ≤ (tl.length : Int) := by omega
                      have hl2 : (i : Int) < 400 := by omega
                      obtain ⟨wa, wcp, rfl, hWA⟩ := hsg.len
                      obtain ⟨ra, rcp, rfl, hRA⟩ := row_runs hsg.rr
                      have hkl := hk.len
                      have haft := pass_aft hk hg
                      have hshb := pass_shb hk
                      have hpl := pass_len hk
                      have hcb : chkB nw fr wl hd rl = true := chk_iff.2 hk.ck
                      obtain ⟨PV, hPV⟩ : ∃ PV, passV nw fr wl hd rl = PV := ⟨_, rfl⟩
                      have CX : Hid (∀ x, Below wr.heap.size wr x → Calls Try.prog 13 #[.int .i64 nw, .int .i64 fr, .slice wa wl.length wcp, .int .i64 hd, .slice ra rl.length rcp] x fun e w' => ∃ v, e = .returned (.tuple #[.agg #[v, .int .i64 PV.ho, .int .i64 PV.sh, .int .i64 PV.ex], .int .i64 0]) ∧ w'.ownsRow x.heap.size 3 1 v PV.st.length (intsV PV.st) ∧ Below x.heap.size x w') := fun x hx => by
                        have := pass_any (c := rcp) (cw := wcp) (hRA.below hx) (by omega) (hWA.below hx) (by omega) (fun y hy => ⟨by have := (hk.ck.wt y hy).1; omega, hjb y hy⟩) nw fr hd
                        unfold passR passE planV at this
                        rw [hcb, if_pos rfl, if_pos rfl, hPV] at this
                        exact this
                      rw [hPV] at haft hshb hpl
                      have HSG : Hid (Sg B B (.slice wa wl.length wcp) (.slice ra rl.length rcp) nw fr hd wl rl wr) := hsg
                      have HAF : Hid (Aft nw fr all wl hd rl til sh PV) := haft
                      have HSH : Hid (0 ≤ PV.ho → PV.sh ≤ 4398046511104) := hshb
                      have HKP : Hid (Kp nw fr all wl hd rl) := hk
                      have HJB : Hid (∀ x ∈ wl, x.job ≤ 9223372036854775807) := hjb
                      have HBE : Hid (Below B w3 wr) := hbe
                      have HC : Hid (∀ x, Below wr.heap.size wr x → x.cell? ⟨B, 0, none⟩ = some (.int .i64 nw) ∧ x.cell? ⟨B, 1, none⟩ = some (.int .i64 fr) ∧ x.cell? ⟨B, 2, none⟩ = some (.slice wa wl.length wcp) ∧ x.cell? ⟨B, 3, none⟩ = some (.int .i64 hd) ∧ x.cell? ⟨B, 4, none⟩ = some (.slice ra rl.length rcp)) := fun x hx => ⟨cells_at (bk hx HSG.out.blk) rfl, cells_at (bk hx HSG.out.blk) rfl, cells_at (bk hx HSG.out.blk) rfl, cells_at (bk hx HSG.out.blk) rfl, cells_at (bk hx HSG.out.blk) rfl⟩
                      have HC1 : Hid (wr.drew.cell? ⟨B, 0, none⟩ = some (.int .i64 nw) ∧ wr.drew.cell? ⟨B, 1, none⟩ = some (.int .i64 fr) ∧ wr.drew.cell? ⟨B, 2, none⟩ = some (.slice wa wl.length wcp) ∧ wr.drew.cell? ⟨B, 3, none⟩ = some (.int .i64 hd) ∧ wr.drew.cell? ⟨B, 4, none⟩ = some (.slice ra rl.length rcp)) := HC.out wr.drew ((Below.refl _ wr).drew)
                      have m3 := cells_at hsg.blk (k := 3) rfl
                      have n0' := hk.ck.n0
                      have n1' := hk.ck.n1
                      have hhd : hd = -1 ∨ 0 ≤ hd := by
                        rcases hk.ck.hd with e | ⟨x, hx, e⟩
                        · exact .inl e
                        · exact .inr (by have := (hk.ck.wt x hx).1; omega)
                      clear hsg hk hg hjb hbe haft hshb hPV hcb hWA hRA
                      go_upto_region 21 with fail
                      clear m3
                      go_cut [12, 13] (fun p12 p13 x => ∃ zq sa sc, p12 = .pointer (some ⟨zq, 0, none⟩) ∧ p13 = .int .i64 0 ∧ x.heap[zq]? = some (.cells #[.slice sa PV.st.length sc, .int .i64 PV.ho, .int .i64 PV.sh, .int .i64 PV.ex] 30 (0, 0)) ∧ x.ownsRow wr.heap.size 3 1 (.slice sa PV.st.length sc) PV.st.length (intsV PV.st) ∧ Below wr.heap.size wr x)
                      case first =>
                        as_aux_lemma =>
                          go_region_held3 (fun x => x.cell? ⟨B, 0, none⟩ = some (.int .i64 nw) ∧ x.cell? ⟨B, 1, none⟩ = some (.int .i64 fr) ∧ x.cell? ⟨B, 2, none⟩ = some (.slice wa wl.length wcp) ∧ x.cell? ⟨B, 3, none⟩ = some (.int .i64 hd) ∧ x.cell? ⟨B, 4, none⟩ = some (.slice ra rl.length rcp))
                            (first | exact HC1.out | exact HC.out _ (by assumption) | exact HC.out _ BY.out | exact HC.out _ (((Below.refl _ wr).drew).alloc (Nat.le_refl _) _) | exact HC.out _ (BY.out.alloc BY.out.size _) | exact HC.out _ (below4 BY.out (Nat.le_refl _)))
                            (first | (go_at_call 13; refine (CX.out _ (by first | exact ((Below.refl _ wr).drew) | exact ((Below.refl _ wr).drew).alloc (Nat.le_refl _) _)).mono ?_; rintro e y ⟨v, rfl, hrv, hy⟩; obtain ⟨sa, sc, rfl, _⟩ := ints_row hrv; have HRV : Hid (y.ownsRow wr.heap.size 3 1 (.slice sa PV.st.length sc) PV.st.length (intsV PV.st)) := own_base hrv (by simp); have BY : Hid (Below wr.heap.size wr y) := (by first | exact ((Below.refl _ wr).drew).trans hy | exact (((Below.refl _ wr).drew).alloc (Nat.le_refl _) _).trans (hy.mono (by simp))); first | (have zb : y.heap[wr.heap.size]? = some (.cells #[.slice none 0 0, .int .i64 0, .int .i64 0, .int .i64 0] 30 (0, 0)) := (hy.block _ (by simp)).trans (heap_alloc_new wr _); have z0 := cells_at zb (k := 0) rfl; have z1 := cells_at zb (k := 1) rfl; have z2 := cells_at zb (k := 2) rfl; have z3 := cells_at zb (k := 3) rfl; have z4 := frozen_at zb (k := 0); have z5 := frozen_at zb (k := 1); have z6 := frozen_at zb (k := 2); have z7 := frozen_at zb (k := 3); have HZB : Hid (y.heap[wr.heap.size]? = some (.cells #[.slice none 0 0, .int .i64 0, .int .i64 0, .int .i64 0] 30 (0, 0))) := zb; clear zb) | skip))
                          all_goals
                            go_wp2
                            go_meet
                            first
                            | exact ⟨wr.heap.size, sa, sc, rfl, rfl, set4 HZB.out, row_set4k HZB.out HRV.out, below4 BY.out (Nat.le_refl _)⟩
                            | exact ⟨y.heap.size, sa, sc, rfl, rfl, heap_alloc_new y _, HRV.out.alloc _, BY.out.alloc BY.out.size _⟩
                            | exact ⟨y.heap.size, sa, sc, rfl, rfl, set4 (heap_alloc_new y _), row_set4k (heap_alloc_new y _) (HRV.out.alloc _), below4 (BY.out.alloc BY.out.size _) BY.out.size⟩
                      case rest =>
                        as_aux_lemma =>
                          obtain ⟨zq, sa, sc, rfl, rfl, hzq, hrs, hb7⟩ := hcut
                          obtain ⟨U, hU⟩ : ∃ U, U = wc := ⟨_, rfl⟩
                          subst hU
                          have HZQ : Hid (U.heap[zq]? = some (.cells #[.slice sa PV.st.length sc, .int .i64 PV.ho, .int .i64 PV.sh, .int .i64 PV.ex] 30 (0, 0))) := hzq
                          have HRS : Hid (U.ownsRow wr.heap.size 3 1 (.slice sa PV.st.length sc) PV.st.length (intsV PV.st)) := hrs
                          have HB7 : Hid (Below wr.heap.size wr U) := hb7
                          have HSG7 : Hid (Sg B B (.slice wa wl.length wcp) (.slice ra rl.length rcp) nw fr hd wl rl U) := HSG.out.below hb7
                          have m0 := cells_at HSG7.out.blk (k := 0) rfl
                          have p0 := cells_at hzq (k := 0) rfl
                          have p1 := cells_at hzq (k := 1) rfl
                          have p2 := cells_at hzq (k := 2) rfl
                          have p3 := cells_at hzq (k := 3) rfl
                          clear hzq hrs hb7 HC HC1 CX HSG
                          obtain ⟨b1, hb1⟩ : ∃ b1, decide (0 ≤ hd ∧ PV.ho = hd) = b1 := ⟨_, rfl⟩
                          have HB1 : Hid (decide (0 ≤ hd ∧ PV.ho = hd) = b1) := hb1
                          clear hb1
                          go_upto_region 24 with fail
                          go_cut [123] (fun p wd => p = .bool b1 ∧ wd = U)
                          case first =>
                            as_aux_lemma =>
                              by_cases h0 : 0 ≤ hd
                              · by_cases he : PV.ho = hd
                                · have e1 : Hid (b1 = true) := by rw [← HB1.out]; exact decide_eq_true ⟨h0, he⟩
                                  rw [he] at p1
                                  clear he
                                  go_wp2
                                  go_meet
                                  exact ⟨by first | (rw [e1.out]; done) | (rw [e1.out]; simp), rfl⟩
                                · have e1 : Hid (b1 = false) := by rw [← HB1.out]; exact decide_eq_false (fun h => he h.2)
                                  have he' : (PV.ho == hd) = false := beq_false_of_ne he
                                  go_wp2
                                  go_meet
                                  exact ⟨by first | (rw [e1.out]; done) | (rw [e1.out]; simp [he]), rfl⟩
                              · have e1 : Hid (b1 = false) := by rw [← HB1.out]; exact decide_eq_false (fun h => h0 h.1)
                                go_wp2
                                go_meet
                                exact ⟨by first | (rw [e1.out]; done) | (rw [e1.out]; simp), rfl⟩
                          case rest =>
                          obtain ⟨rfl, h9⟩ := hcut
                          obtain rfl := h9.symm
                          clear h9
                          go_upto_if 123 with fail
                          go_cut [] (fun wd => wd = U ∧ True)
                          case first =>
                            as_aux_lemma =>
                              by_cases h0 : 0 ≤ hd
                              · by_cases he : PV.ho = hd
                                · have e1 : b1 = true := by rw [← HB1.out]; exact decide_eq_true ⟨h0, he⟩
                                  subst e1
                                  by_cases ht : 0 ≤ til
                                  · obtain ⟨a1, a2⟩ := HAF.out.held h0 he ht
                                    clear he
                                    go_wp2
                                    go_meet
                                    exact ⟨rfl, trivial⟩
                                  · clear he
                                    go_wp2
                                    go_meet
                                    exact ⟨rfl, trivial⟩
                                · obtain ⟨tt, htt⟩ := HAF.out.first h0 he
                                  have e1 : b1 = false := by rw [← HB1.out]; exact decide_eq_false (fun h => he h.2)
                                  subst e1
                                  obtain ⟨gs, cs, es, _, _⟩ := HRS.out.form (by rw [htt]; simp)
                                  injection es with es1 es2 es3
                                  subst es1
                                  have q0 := (row_cell0 HRS.out (k := 0) (v := .int .i64 hd) (by rw [htt]; rfl))
                                  obtain ⟨nn, hnn⟩ : ∃ nn, PV.st.length = nn := ⟨_, rfl⟩
                                  have hnn0 : 0 < nn := by rw [← hnn, htt]; simp
                                  have hnn1 : ¬ (nn : Int) = 0 := by omega
                                  rw [hnn] at p0
                                  clear es2 es3 hnn htt
                                  go_wp2
                                  go_meet
                                  exact ⟨rfl, trivial⟩
                              · have e1 : b1 = false := by rw [← HB1.out]; exact decide_eq_false (fun h => h0 h.1)
                                subst e1
                                go_wp2
                                go_meet
                                exact ⟨rfl, trivial⟩
                          case rest =>
                            as_aux_lemma =>
                              obtain ⟨h9, -⟩ := hcut
                              obtain rfl := h9.symm
                              clear h9
                              obtain ⟨b2, hb2⟩ : ∃ b2, decide (PV.ho ≠ hd ∨ til < 0) = b2 := ⟨_, rfl⟩
                              have HB2 : Hid (decide (PV.ho ≠ hd ∨ til < 0) = b2) := hb2
                              clear hb2
                              go_upto_region 29 with fail
                              go_cut [163] (fun p wd => p = .bool b2 ∧ wd = U)
                              case first =>
                                as_aux_lemma =>
                                  by_cases he : PV.ho = hd
                                  · rw [he] at p1
                                    by_cases ht : til < 0
                                    · have e1 : Hid (b2 = true) := by rw [← HB2.out]; exact decide_eq_true (.inr ht)
                                      clear he
                                      go_wp2
                                      go_meet
                                      exact ⟨by first | (rw [e1.out]; done) | (rw [e1.out]; simp), rfl⟩
                                    · have e1 : Hid (b2 = false) := by rw [← HB2.out]; exact decide_eq_false (fun h => h.elim (fun h => h he) ht)
                                      clear he
                                      go_wp2
                                      go_meet
                                      exact ⟨by first | (rw [e1.out]; done) | (rw [e1.out]; simp), rfl⟩
                                  · have e1 : Hid (b2 = true) := by rw [← HB2.out]; exact decide_eq_true (.inl he)
                                    have he' : (PV.ho == hd) = false := beq_false_of_ne he
                                    go_wp2
                                    go_meet
                                    exact ⟨by first | (rw [e1.out]; done) | (rw [e1.out]; simp [he]), rfl⟩
                              case rest =>
                              obtain ⟨rfl, h9⟩ := hcut
                              obtain rfl := h9.symm
                              clear h9
                              go_upto_if 163 with fail
                              go_cut [8] (fun p wd => p = .int .i64 (til1 hd til PV) ∧ wd = U)
                              case first =>
                                as_aux_lemma =>
                                  cases b2 with
                                  | true =>
                                    have e1 : Hid (til1 hd til PV = PV.sh) := by show til1 hd til PV = PV.sh; unfold til1; rw [if_pos (of_decide_eq_true HB2.out)]
                                    go_wp2
                                    go_meet
                                    exact ⟨by rw [e1.out], rfl⟩
                                  | false =>
                                    have e1 : Hid (til1 hd til PV = til) := by show til1 hd til PV = til; unfold til1; rw [if_neg (of_decide_eq_false HB2.out)]
                                    go_wp2
                                    go_meet
                                    exact ⟨by rw [e1.out], rfl⟩
                              case rest =>
                                as_aux_lemma =>
                                  obtain ⟨rfl, h9⟩ := hcut
                                  obtain rfl := h9.symm
                                  clear h9
                                  go_upto_if 170 with fail
                                  go_cut [8] (fun p wd => p = .int .i64 (til2 hd til PV) ∧ ∃ m, wd = U.drewN m)
                                  case first =>
                                    as_aux_lemma =>
                                      by_cases hn : PV.ho < 0
                                      · have e2 : Hid (til2 hd til PV = -1) := by show til2 hd til PV = -1; unfold til2; rw [if_pos hn]
                                        go_wp2
                                        go_meet
                                        exact ⟨by rw [e2.out], 0, rfl⟩
                                      · have e2 : Hid (til2 hd til PV = til1 hd til PV) := by show til2 hd til PV = til1 hd til PV; unfold til2; rw [if_neg hn]
                                        have hlat := HAF.out.later (by omega)
                                        go_upto_region 34 with fail
                                        go_quiet (fail)
                                        all_goals
                                          go_wp2
                                          go_meet
                                          exact ⟨by rw [e2.out], _, rfl⟩
                                  case rest =>
                                    as_aux_lemma =>
                                      obtain ⟨rfl, m, h9⟩ := hcut
                                      obtain ⟨X, hX⟩ : ∃ X, X = wc := ⟨_, rfl⟩
                                      subst hX
                                      have HBX : Hid (Below wr.heap.size wr X) := by show Below wr.heap.size wr X; rw [h9]; exact below_drewN HB7.out m
                                      have HSG8 : Hid (Sg B B (.slice wa wl.length wcp) (.slice ra rl.length rcp) nw fr hd wl rl X) := by show Sg B B (.slice wa wl.length wcp) (.slice ra rl.length rcp) nw fr hd wl rl X; rw [h9]; exact HSG7.out.below (drew_below U m)
                                      have HRS8 : Hid (X.ownsRow wr.heap.size 3 1 (.slice sa PV.st.length sc) PV.st.length (intsV PV.st)) := by show X.ownsRow wr.heap.size 3 1 (.slice sa PV.st.length sc) PV.st.length (intsV PV.st); rw [h9]; exact HRS.out
                                      have HZQ8 : Hid (X.heap[zq]? = some (.cells #[.slice sa PV.st.length sc, .int .i64 PV.ho, .int .i64 PV.sh, .int .i64 PV.ex] 30 (0, 0))) := by show X.heap[zq]? = _; rw [h9]; exact HZQ.out
                                      clear h9 m0 p0 p1 p2 p3 HSG7 HRS HZQ HB7
                                      have p0 := cells_at HZQ8.out (k := 0) rfl
                                      have p1 := cells_at HZQ8.out (k := 1) rfl
                                      have p2 := cells_at HZQ8.out (k := 2) rfl
                                      have p3 := cells_at HZQ8.out (k := 3) rfl
                                      have hBX : B ≤ X.heap.size := Nat.le_trans hB3 (Nat.le_trans HBE.out.size HBX.out.size)
                                      have CT := takes_any HSG8.out hBX HRS8.out hpl n0' n1' (by have := (right_parts.1 HKP.out.ck.rt).1.2; omega) HAF.out.le HAF.out.pos hkl (by omega) PV.ho PV.sh PV.ex
                                      have K8 := HAF.out.kp
                                      have G8 : Gr nw (fr - sumW (inL PV.st wl)) (outL PV.st wl) PV.ho (rl ++ (inL PV.st wl).map (rOf nw)) (til2 hd til PV) PV.sh := HAF.out.gr
                                      have hlo : (outL PV.st wl).length ≤ wl.length := List.length_filter_le _ _
                                      have hjo8 : ∀ x ∈ outL PV.st wl, x.job ≤ 9223372036854775807 := fun x hx => HJB.out x (List.mem_filter.1 hx).1
                                      obtain ⟨fr1, hfr1⟩ : ∃ fr1, fr - sumW (inL PV.st wl) = fr1 := ⟨_, rfl⟩
                                      obtain ⟨wl1, hwl1⟩ : ∃ wl1, outL PV.st wl = wl1 := ⟨_, rfl⟩
                                      obtain ⟨rl1, hrl1⟩ : ∃ rl1, rl ++ (inL PV.st wl).map (rOf nw) = rl1 := ⟨_, rfl⟩
                                      obtain ⟨T2, hT2⟩ : ∃ T2, til2 hd til PV = T2 := ⟨_, rfl⟩
                                      have hT2b : T2 ≤ 4398046511104 := by
                                        rw [← hT2]
                                        unfold til2 til1
                                        split
                                        · omega
                                        · rename_i hnn
                                          have := HSH.out (by omega)
                                          split <;> omega
                                      rw [hfr1, hwl1, hrl1] at CT K8 G8
                                      rw [hT2] at G8 ⊢
                                      rw [hwl1] at hlo hjo8
                                      have hT2c : T2 = -1 ∨ (0 ≤ T2 ∧ nw ≤ T2) := by
                                        rcases G8 with e | ⟨_, g1, g2, _⟩
                                        · exact .inl e
                                        · exact .inr ⟨g1, g2⟩
                                      have HK8 : Hid (Kp nw fr1 all wl1 PV.ho rl1) := K8
                                      have HG8 : Hid (Gr nw fr1 wl1 PV.ho rl1 T2 PV.sh) := G8
                                      have HJ8 : Hid (∀ x ∈ wl1, x.job ≤ 9223372036854775807) := hjo8
                                      have HT2 : Hid (T2 = -1 ∨ (0 ≤ T2 ∧ nw ≤ T2)) := hT2c
                                      clear K8 G8 hfr1 hwl1 hrl1 hT2 hjo8 hT2c HAF HSH HKP HJB
                                      go_upto_region 37 with (go_at_call 18; refine CT.mono ?_; rintro e w8 ⟨rfl, ⟨vw8, vr8, hs8⟩, hb8⟩)
                                      have HS8 : Hid (Sg B B vw8 vr8 nw fr1 PV.ho wl1 rl1 w8) := hs8
                                      have HB8 : Hid (Below B w3 w8) := HBE.out.trans ((HBX.out.mono (Nat.le_trans hB3 HBE.out.size)).trans hb8)
                                      have m0 := cells_at hs8.blk (k := 0) rfl
                                      clear CT hs8 hb8 p0 p1 p2 p3 HZQ8 HRS8 HSG8 HBX hBX HBE
                                      by_cases hE : i = tl.length
                                      · subst hE
                                        go_wp2
                                        go_ret
                                        exact ⟨rfl, HB3.out.trans (HB8.out.mono hwB)⟩
                                      · have hE' : ((i : Int) == (tl.length : Int)) = false := beq_false_of_ne (by omega)
                                        have hE'' : ¬ (i : Int) = (tl.length : Int) := by omega
                                        by_cases h40 : 1099511627776 < nw
                                        · go_wp2
                                          go_ret
                                          exact ⟨rfl, HB3.out.trans (HB8.out.mono hwB)⟩
                                        · have hil : i < tl.length := by omega
                                          obtain ⟨t, ht⟩ : ∃ t, tl[i]? = some t := ⟨_, List.getElem?_eq_getElem hil⟩
                                          obtain ⟨g, o, hg, hcl⟩ := TnsAt HT.out ht
                                          have hB08 : Below w.heap.size w w8 := HB3.out.trans (HB8.out.mono hwB)
                                          obtain ⟨t0, t1, t2, t3, t4⟩ := hcl w8 hB08
                                          have HOT : Hid (∀ W', Below B w8 W' → TnOk W' t) := fun W' b => (HTO.out t (List.mem_of_getElem? ht)).below (hB08.trans (b.mono hwB))
                                          have HCL : Hid (∀ W, Below w.heap.size w W → W.cell? ⟨g, o + i * 5, none⟩ = some (.int .i64 t.tk)) := fun W b => (hcl W b).1
                                          have CB := befalls_any (t := t) HS8.out (Nat.le_trans hB3 HB8.out.size) HOT.out HK8.out HJ8.out (by omega)
                                          subst hg
                                          clear hcl ht hE' hE''
                                          go_upto_region 40 with (go_at_call 19; refine CB.mono ?_; rintro e w9 ⟨rfl, ⟨vw9, vr9, fr9, wl9, rl9, hs9, hev9, hbf9⟩, hb9⟩)
                                          have HB9 : Hid (Below B w3 w9) := HB8.out.trans hb9
                                          have HS9 : Hid (Sg B B vw9 vr9 nw fr9 PV.ho wl9 rl9 w9) := hs9
                                          have HEV : Hid (Ev fr1 rl1 fr9 rl9) := hev9
                                          have HBF : Hid (Bf all PV.ho 20 wl1 wl9) := hbf9
                                          have hB09 : Below w.heap.size w w9 := HB3.out.trans (HB9.out.mono hwB)
                                          have u0 := HCL.out w9 hB09
                                          clear m0 t0 t1 t2 t3 t4 CB HOT HCL hs9 hev9 hbf9 hb9 hB08 hB09 HS8 HB8
                                          have m0 := cells_at HS9.out.blk (k := 0) rfl
                                          have f0 := frozen_at HS9.out.blk (k := 0)
                                          go_upto_if 205 with fail
                                          go_cut [14] (fun p wd => ∃ tk : Int, p = .int .i64 tk ∧ 1 ≤ tk ∧ wd = w9)
                                          case first =>
                                            as_aux_lemma =>
                                              by_cases hk1 : t.tk < 1
                                              · go_wp2
                                                go_meet
                                                exact ⟨1, rfl, by omega, rfl⟩
                                              · go_wp2
                                                go_meet
                                                exact ⟨t.tk, rfl, by omega, rfl⟩
                                          case rest =>
                                            as_aux_lemma =>
                                              obtain ⟨tk, rfl, hk1, h9⟩ := hcut
                                              obtain rfl := h9.symm
                                              clear h9 u0
                                              go_upto_if 207 with fail
                                              go_cut [14] (fun p wd => ∃ tk : Int, p = .int .i64 tk ∧ 1 ≤ tk ∧ tk ≤ 2097152 ∧ wd = w9)
                                              case first =>
                                                as_aux_lemma =>
                                                  by_cases hk2 : 2097152 < tk
                                                  · go_wp2
                                                    go_meet
                                                    exact ⟨2097152, rfl, by omega, by omega, rfl⟩
                                                  · go_wp2
                                                    go_meet
                                                    exact ⟨tk, rfl, by omega, by omega, rfl⟩
                                              case rest =>
                                                as_aux_lemma =>
                                                  clear hk1
                                                  obtain ⟨tk2, rfl, hk2, hk3, h9⟩ := hcut
                                                  obtain rfl := h9.symm
                                                  clear h9
                                                  obtain ⟨b3, hb3⟩ : ∃ b3, decide (0 ≤ T2 ∧ T2 < nw + tk2) = b3 := ⟨_, rfl⟩
                                                  have HB3' : Hid (decide (0 ≤ T2 ∧ T2 < nw + tk2) = b3) := hb3
                                                  clear hb3
                                                  have h40' : nw ≤ 1099511627776 := by omega
                                                  go_upto_region 45 with fail
                                                  go_cut [219] (fun p wd => p = .bool b3 ∧ wd = w9)
                                                  case first =>
                                                    as_aux_lemma =>
                                                      by_cases hp : 0 ≤ T2
                                                      · by_cases hq : T2 < nw + tk2
                                                        · have e1 : Hid (b3 = true) := by rw [← HB3'.out]; exact decide_eq_true ⟨hp, hq⟩
                                                          go_wp2
                                                          go_meet
                                                          exact ⟨by first | (rw [e1.out]; done) | (rw [e1.out]; simp), rfl⟩
                                                        · have e1 : Hid (b3 = false) := by rw [← HB3'.out]; exact decide_eq_false (fun h => hq h.2)
                                                          go_wp2
                                                          go_meet
                                                          exact ⟨by first | (rw [e1.out]; done) | (rw [e1.out]; simp), rfl⟩
                                                      · have e1 : Hid (b3 = false) := by rw [← HB3'.out]; exact decide_eq_false (fun h => hp h.1)
                                                        go_wp2
                                                        go_meet
                                                        exact ⟨by first | (rw [e1.out]; done) | (rw [e1.out]; simp), rfl⟩
                                                  case rest =>
                                                    as_aux_lemma =>
                                                      obtain ⟨rfl, h9⟩ := hcut
                                                      obtain rfl := h9.symm
                                                      clear h9
                                                      go_upto_if 219 with fail
                                                      go_cut [14] (fun p wd => ∃ tk : Int, p = .int .i64 tk ∧ 0 ≤ tk ∧ tk ≤ 2097152 ∧ (T2 = -1 ∨ nw + tk ≤ T2) ∧ wd = w9)
                                                      case first =>
                                                        as_aux_lemma =>
                                                          have hT2c := HT2.out
                                                          cases b3 with
                                                          | true =>
                                                            obtain ⟨e1, e2⟩ := of_decide_eq_true HB3'.out
                                                            clear hT2c
                                                            go_wp2
                                                            go_meet
                                                            have := HT2.out
                                                            exact ⟨T2 - nw, by first | rfl | (congr 1), by omega, by omega, by omega, rfl⟩
                                                          | false =>
                                                            have e1 := of_decide_eq_false HB3'.out
                                                            clear hT2c
                                                            go_wp2
                                                            go_meet
                                                            have := HT2.out
                                                            exact ⟨tk2, rfl, by omega, by omega, by omega, rfl⟩
                                                      case rest =>
                                                        as_aux_lemma =>
                                                          clear hk2 hk3
                                                          obtain ⟨tk3, rfl, hk2, hk3, hk4, h9⟩ := hcut
                                                          obtain rfl := h9.symm
                                                          clear h9
                                                          have hT3 : nw + tk3 ≤ 2199023255552 := by omega
                                                          have HS10 : Hid (Sg B B vw9 vr9 (nw + tk3) fr9 PV.ho wl9 rl9 (w9.setCell ⟨B, 0, none⟩ (.int .i64 (nw + tk3)))) := St.start HS9.out (nw + tk3)
                                                          have HB10 : Hid (Below B w3 (w9.setCell ⟨B, 0, none⟩ (.int .i64 (nw + tk3)))) := HB9.out.setCell (p := ⟨B, 0, none⟩) (Nat.le_refl _) _
                                                          obtain ⟨k1, k2, k3, k4⟩ := Ev.ok HEV.out HK8.out
                                                          have HNP : Hid (Kp (nw + tk3) (fr9 + (sumN rl9 - sumN (endL (nw + tk3) (-1) 0 rl9))) all wl9 PV.ho (endL (nw + tk3) (-1) 0 rl9) ∧ Gr (nw + tk3) (fr9 + (sumN rl9 - sumN (endL (nw + tk3) (-1) 0 rl9))) wl9 PV.ho (endL (nw + tk3) (-1) 0 rl9) T2 PV.sh) :=
                                                            next_pass HK8.out HG8.out (HEV.out.trans (Ev.ends (nw + tk3) (-1) fr9 rl9)) HBF.out (by omega) hT3 hk4 (fun r hr => endL_in hr)
                                                          obtain ⟨W10, hW10⟩ : ∃ W10, w9.setCell ⟨B, 0, none⟩ (.int .i64 (nw + tk3)) = W10 := ⟨_, rfl⟩
                                                          rw [hW10] at HS10 HB10
                                                          have hB10 : B ≤ W10.heap.size := Nat.le_trans hB3 HB10.out.size
                                                          have CE := ends_any HS10.out hB10 k1 k2 k3 k4 (-1)
                                                          have hln9 : wl9.length ≤ n0 + 20 * (i + 1) := by have := HBF.out.ln; omega
                                                          have HJ9 : Hid (∀ x ∈ wl9, x.job ≤ 9223372036854775807) := HBF.out.jb
                                                          clear k1 k2 k3 k4 hk4
                                                          go_upto_region 48 with fail
                                                          try rw [hW10]
                                                          clear hW10 m0 f0
                                                          go_wp2_with (go_at_call 20; refine CE.mono ?_; rintro e w11 ⟨rfl, ⟨vr11, hs11⟩, hc11⟩)
                                                          go_roundg (N - (i + 1))
                                                          case measure => omega
                                                          case rel => exact ⟨i + 1, T2, PV.sh, _, _, PV.ho, wl9, _, _, _, by omega, rfl, rfl, rfl, hs11, HNP.out.1, HNP.out.2, hT2b, hln9, HJ9.out, HB10.out.trans (chg_below hc11 (fun k e => by show B ≤ k; omega) hB10)⟩
                    · clear hsg hk hg hjb
                      have HBE : Hid (Below B w3 wr) := hbe
                      by_cases hl1 : (i : Int) ≤ (tl.length : Int)
                      · have hl2 : ¬ (i : Int) < 400 := by omega
                        go_wp2
                        go_ret
                        exact ⟨rfl, HB3.out.trans (HBE.out.mono hwB)⟩
                      · go_wp2
                        go_ret
                        exact ⟨rfl, HB3.out.trans (HBE.out.mono hwB)⟩
end Go.Proofs.Ytdkibcagbidelaa
