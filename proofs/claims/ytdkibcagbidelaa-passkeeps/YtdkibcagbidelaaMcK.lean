/-
  LAYER 15: package pass: newMachine.
-/
import Derived.Test.YtdkibcagbidelaaMcJ
import Derived.Test.YtdkibcagbidelaaMcI
import Derived.Test.YtdkibcagbidelaaApW
namespace Go.Proofs.Ytdkibcagbidelaa
open Go.RowKit Pr

set_option maxRecDepth 20000 in
set_option maxHeartbeats 1000000 in
theorem machine_any {w : World} {ao wo : Option Addr} {rs : List Rn} {ws : List Wt} {c cw : Nat} (hA : RunsAt w ao rs) (hn : rs.length * 16 ≤ 140737488355328) (hW : WantsAt w wo ws) (hnw : ws.length * 24 ≤ 140737490000000) (now free ho : Int) :
    Calls Try.prog 29 #[.int .i64 now, .int .i64 free, .slice wo ws.length cw, .int .i64 ho, .slice ao rs.length c] w fun e w' => ∃ m r vr ao' c', e = .returned (.pointer (some ⟨m, 0, none⟩)) ∧
      Mc w.heap.size m r vr ao' c' (.slice none 0 0) now ⟨free, rs, []⟩ (holdL ho noW ws) (othV ho ws) w' ∧ Below w.heap.size w w' ∧ (othV ho ws).length ≤ c' ∧ c' ≤ maxLen := by
  obtain ⟨W0, hW0⟩ : ∃ W0, w.alloc (.cells #[.int .i64 free] 90) = W0 := ⟨_, rfl⟩
  have b0 : Below w.heap.size w W0 := by rw [← hW0]; exact (Below.refl _ w).alloc (Nat.le_refl _) _
  have hz0 : W0.heap.size = w.heap.size + 1 := by rw [← hW0]; simp
  have hr0 : W0.heap[w.heap.size]? = some (.cells #[.int .i64 free] 90 (0, 0)) := by rw [← hW0]; exact heap_alloc_new w _
  have hcl := clone_any (c := c) (hA.below b0) hn
  obtain ⟨q, hq⟩ : ∃ q, ws.length = q := ⟨_, rfl⟩
  have HQ : Hid _ := hq
  rw [hq] at hnw ⊢
  have HW : Hid _ := hW
  have HR0 : Hid _ := hr0
  clear hq hA hW hr0
  go_enter Try.func29, Try.ntmps29
  go_wp2_with fail
  refine hcl.mono ?_
  rintro e w1 ⟨v, rfl, hrow, b1⟩
  obtain ⟨ra, rc, rfl, _⟩ := row_runs hrow
  obtain ⟨m, hm⟩ : ∃ m, w1.heap.size = m := ⟨_, rfl⟩
  obtain ⟨W2, hW2⟩ : ∃ W2, w1.alloc (.cells #[.int .i64 now, .pointer (some ⟨w.heap.size, 0, none⟩), .slice ra rs.length rc, .slice none 0 0, .int .i64 (-1), .int .i64 0, .int .i64 0, .slice none 0 0] 77) = W2 := ⟨_, rfl⟩
  have b2 : Below w1.heap.size w1 W2 := by rw [← hW2]; exact (Below.refl _ w1).alloc (Nat.le_refl _) _
  have hzz := b1.size
  have hM0 : Mn w.heap.size m w.heap.size (.slice ra rs.length rc) (.slice none 0 0) now free rs noW [] W2 := by
    refine ⟨?_, (b2.block _ (by omega)).trans ((b1.block _ (by omega)).trans HR0.out), ?_, World.ownsRow_nil _ _ _ _, by omega, Nat.le_refl _⟩
    · rw [← hW2, ← hm]; exact heap_alloc_new w1 _
    · exact own_base (row_keep hrow (fun k e => b2.block k (by obtain ⟨_, cs, hk⟩ := row_tag hrow e; exact lt_of_blk hk))) (by omega)
  have B2 : Below w.heap.size w W2 := b0.trans ((b1.mono (by omega)).trans (b2.mono (by omega)))
  have HM0 : Hid _ := hM0
  have HB2 : Hid _ := B2
  have hmw : w.heap.size ≤ m := by omega
  clear hM0 B2 b0 b1 b2 hrow hcl HR0 hzz
  go_wp2_with fail
  go_loopg [25] q (fun gk p wr => ∃ (j : Nat) (vw : Value), j + gk = q ∧ p = .int .i64 j ∧ Mn w.heap.size m w.heap.size (.slice ra rs.length rc) vw now free rs (holdL ho noW (ws.take j)) (othV ho (ws.take j)) wr ∧ Below w.heap.size w wr)
  case atStart => exact ⟨0, .slice none 0 0, by omega, rfl, HM0.out, HB2.out⟩
  case round =>
    clear HM0 HB2 hW2 hm hz0 hW0
    obtain ⟨j, vw, hj, rfl, hM, hB⟩ := hrel
    by_cases hlt : j < q
    · obtain ⟨x, hr⟩ : ∃ x, ws[j]? = some x := ⟨_, List.getElem?_eq_getElem (by have := HQ.out; omega)⟩
      obtain ⟨g, o, hga, hcl⟩ := HW.out
      obtain rfl := hga (by have := HQ.out; omega)
      obtain ⟨x0, x1, x2⟩ := hcl j x hr
      replace x0 := (hB.cell (World.block_lt_of_cell? _ _ x0)).trans x0
      replace x1 := (hB.cell (World.block_lt_of_cell? _ _ x1)).trans x1
      replace x2 := (hB.cell (World.block_lt_of_cell? _ _ x2)).trans x2
      have hsn : ws.take (j + 1) = ws.take j ++ [x] := by rw [List.take_add_one, hr]; rfl
      have hol : (othV ho (ws.take j)).length ≤ j := by
        have e1 := List.length_filter_le (fun w : Wt => decide (w.job ≠ ho)) (ws.take j)
        have e2 := List.length_take_le j ws
        unfold othV
        omega
      obtain ⟨zb, hzb⟩ : ∃ zb, wr.heap.size = zb := ⟨_, rfl⟩
      obtain ⟨W1, hW1⟩ : ∃ W1, wr.alloc (.cells #[.int .i64 x.job, .int .i64 x.nd, .int .i64 x.lm] 40) = W1 := ⟨_, rfl⟩
      have b1 : Below wr.heap.size wr W1 := by rw [← hW1]; exact (Below.refl _ wr).alloc (Nat.le_refl _) _
      have hbx : W1.heap[zb]? = some (.cells #[.int .i64 x.job, .int .i64 x.nd, .int .i64 x.lm] 40 (0, 0)) := by rw [← hW1, ← hzb]; exact heap_alloc_new wr _
      have hM1 := hM.below b1
      have hwz : ∀ k, vw.ownBlock = some k → k < zb := fun k e => by obtain ⟨_, cs, hk⟩ := row_tag hM.wait e; have := lt_of_blk hk; omega
      have hmz := lt_of_blk hM1.blk
      have hzz : zb < W1.heap.size := lt_of_blk hbx
      have e0 : W1.cell? ⟨zb, 0, none⟩ = some (.int .i64 x.job) := cells_at hbx rfl
      have e1 : W1.cell? ⟨zb, 1, none⟩ = some (.int .i64 x.nd) := cells_at hbx rfl
      have e2 : W1.cell? ⟨zb, 2, none⟩ = some (.int .i64 x.lm) := cells_at hbx rfl
      have m3 : W1.cell? ⟨m, 3, none⟩ = some vw := cells_at hM1.blk rfl
      have m4 := cells_at hM1.blk (k := 4) rfl
      have m5 := cells_at hM1.blk (k := 5) rfl
      have m6 := cells_at hM1.blk (k := 6) rfl
      have f4 := frozen_at hM1.blk (k := 4)
      have f5 := frozen_at hM1.blk (k := 5)
      have f6 := frozen_at hM1.blk (k := 6)
      have hB1 : Below w.heap.size w W1 := hB.trans (b1.mono hB.size)
      have HM1 : Hid _ := hM1
      have HB1 : Hid _ := hB1
      have HBX : Hid _ := hbx
      have HSN : Hid _ := hsn
      clear hM hB hM1 hB1 hbx hcl hga hr hsn b1
      by_cases hx : x.job = ho
      · have HO : Hid (othV ho (ws.take j ++ [x]) = othV ho (ws.take j)) := (oth_snoc ho _ x).trans (if_pos hx)
        have HH : Hid (holdL ho noW (ws.take j ++ [x]) = x) := (hold_snoc ho _ noW x).trans (if_pos hx)
        generalize othV ho (ws.take j) = L at *
        generalize holdL ho noW (ws.take j) = hh at *
        obtain ⟨xj, hxj⟩ : ∃ xj, x.job = xj := ⟨_, rfl⟩
        have HXJ : Hid _ := hxj
        rw [hxj] at hx x0 e0 hW1
        subst hx
        clear hxj HBX
        go_wp2
        go_roundg (q - (j + 1))
        case measure => omega
        case rel =>
          have hh2 := HM1.out.hold x
          rw [HXJ.out] at hh2
          refine ⟨j + 1, vw, by omega, rfl, ?_, ((HB1.out.setCell (by simp; omega) _).setCell (by simp; omega) _).setCell (by simp; omega) _⟩
          rw [HSN.out, HO.out, HH.out]
          exact hh2
      · have HO : Hid (othV ho (ws.take j ++ [x]) = othV ho (ws.take j) ++ [x]) := (oth_snoc ho _ x).trans (if_neg hx)
        have HH : Hid (holdL ho noW (ws.take j ++ [x]) = holdL ho noW (ws.take j)) := (hold_snoc ho _ noW x).trans (if_neg hx)
        generalize othV ho (ws.take j) = L at *
        generalize holdL ho noW (ws.take j) = hh at *
        obtain ⟨i0, hi0, hy0, hy1, hy2⟩ := info_parts Try.inf40
        have wrow : W1.ownsRow w.heap.size 40 3 vw L.length (flatW L) := HM1.out.wait
        have ag1 : vw.ownBlock ≠ some m := fun e => by obtain ⟨_, cs, hk⟩ := row_tag wrow e; exact tag_ne hk HM1.out.blk (by decide) rfl
        have ag2 : vw.ownBlock ≠ some zb := fun e => by have := hwz zb e; omega
        have hBs := HB1.out.size
        clear m4 m5 m6 f4 f5 f6
        go_upto_region 7 with fail
        refine wp_region_last (S := fun x' => x'.cell? ⟨zb, 0, none⟩ = some (.int .i64 x.job) ∧ x'.cell? ⟨zb, 1, none⟩ = some (.int .i64 x.nd) ∧ x'.cell? ⟨zb, 2, none⟩ = some (.int .i64 x.lm) ∧ x'.cell? ⟨m, 3, none⟩ = some vw) (L := 10) (by kernel_rfl) ?_
        have HS0 : (fun x' : World => x'.cell? ⟨zb, 0, none⟩ = some (.int .i64 x.job) ∧ x'.cell? ⟨zb, 1, none⟩ = some (.int .i64 x.nd) ∧ x'.cell? ⟨zb, 2, none⟩ = some (.int .i64 x.lm) ∧ x'.cell? ⟨m, 3, none⟩ = some vw) W1.drew := ⟨e0, e1, e2, m3⟩
        refine last_take (i := 0) (v := ?v0) rfl (by kernel_rfl) (by kernel_rfl) (by kernel_rfl) (by kernel_rfl) rfl (fun _ _ _ h => h) (by rfl) HS0 ?hy0 ?rest0
        case hy0 =>
          intro xx hSx
          obtain ⟨s1, s2, s3, s4⟩ := hSx
          go_simp
          try (with_reducible rfl)
        simp only [Act.put, List.setIfInBounds_toArray, List.set_cons_zero, List.set_cons_succ]
        refine last_take (i := 1) (v := ?v1) rfl (by kernel_rfl) (by kernel_rfl) (by kernel_rfl) (by kernel_rfl) rfl (fun _ _ _ h => h) (by rfl) HS0 ?hy1 ?rest1
        case hy1 =>
          intro xx hSx
          obtain ⟨s1, s2, s3, s4⟩ := hSx
          go_simp
          try (with_reducible rfl)
        simp only [Act.put, List.setIfInBounds_toArray, List.set_cons_zero, List.set_cons_succ]
        refine last_take (i := 2) (v := ?v2) rfl (by kernel_rfl) (by kernel_rfl) (by kernel_rfl) (by kernel_rfl) rfl (fun _ _ _ h => h) (by rfl) HS0 ?hy2 ?rest2
        case hy2 =>
          intro xx hSx
          obtain ⟨s1, s2, s3, s4⟩ := hSx
          go_simp
          try (with_reducible rfl)
        simp only [Act.put, List.setIfInBounds_toArray, List.set_cons_zero, List.set_cons_succ]
        refine last_take (i := 3) (v := ?v3) rfl (by kernel_rfl) (by kernel_rfl) (by kernel_rfl) (by kernel_rfl) rfl (fun _ _ _ h => h) (by rfl) HS0 ?hy3 ?rest3
        case hy3 =>
          intro xx hSx
          obtain ⟨s1, s2, s3, s4⟩ := hSx
          go_simp
          try (with_reducible rfl)
        simp only [Act.put, List.setIfInBounds_toArray, List.set_cons_zero, List.set_cons_succ]
        refine last_take (i := 4) (v := ?v4) rfl (by kernel_rfl) (by kernel_rfl) (by kernel_rfl) (by kernel_rfl) rfl (fun _ _ _ h => h) (by rfl) HS0 ?hy4 ?rest4
        case hy4 =>
          intro xx hSx
          obtain ⟨s1, s2, s3, s4⟩ := hSx
          go_simp
          try (with_reducible rfl)
        simp only [Act.put, List.setIfInBounds_toArray, List.set_cons_zero, List.set_cons_succ]
        refine last_take (i := 5) (v := ?v5) rfl (by kernel_rfl) (by kernel_rfl) (by kernel_rfl) (by kernel_rfl) rfl (fun _ _ _ h => h) (by rfl) HS0 ?hy5 ?rest5
        case hy5 =>
          intro xx hSx
          obtain ⟨s1, s2, s3, s4⟩ := hSx
          go_simp
          try (with_reducible rfl)
        simp only [Act.put, List.setIfInBounds_toArray, List.set_cons_zero, List.set_cons_succ]
        refine last_one (i := 6) (by kernel_rfl) rfl ?_
        intro K1 hK1
        go_simp
        have HS1 : (fun x' : World => x'.cell? ⟨zb, 0, none⟩ = some (.int .i64 x.job) ∧ x'.cell? ⟨zb, 1, none⟩ = some (.int .i64 x.nd) ∧ x'.cell? ⟨zb, 2, none⟩ = some (.int .i64 x.lm) ∧ x'.cell? ⟨m, 3, none⟩ = some vw) (W1.drew.alloc (.cells #[.int .i64 x.job, .int .i64 x.nd, .int .i64 x.lm] 40)) := ⟨cell_al e0 _, cell_al e1 _, cell_al e2 _, cell_al m3 _⟩
        refine hK1.out _ _ (fun _ => HS1) (fun _ => ?_)
        clear hK1 K1
        refine last_one (i := 7) (by kernel_rfl) rfl ?_
        intro K2 hK2
        refine step_append_wide (by rfl) _ _ _ (by rfl) w.heap.size 40 i0 _ 3 24 Try.underlying22 hi0 hy0 hy1 hy2 rfl (by omega) vw L.length (flatW L) (by rfl) (World.ownsRow.alloc (w := W1.drew) wrow _) ⟨W1.heap.size, 0, none⟩ 1 1 [.int .i64 x.job, .int .i64 x.nd, .int .i64 x.lm] (by rfl) (by rfl) (World.news_of_block (cs := #[.int .i64 x.job, .int .i64 x.nd, .int .i64 x.lm]) (t := 40) (fr := (0, 0)) (heap_alloc_new W1.drew _)) (by simp [Value.oneCell']) (by omega) (Nat.le_trans (m := 35184372088832) (by omega) (by decide)) (by omega) (by simp; omega) ?_
        intro gg cap w5 hown1 hgrow
        obtain ⟨z1, z3, z4⟩ := HM1.out.more hown1 hgrow
        have HS2 : (fun x' : World => x'.cell? ⟨zb, 0, none⟩ = some (.int .i64 x.job) ∧ x'.cell? ⟨zb, 1, none⟩ = some (.int .i64 x.nd) ∧ x'.cell? ⟨zb, 2, none⟩ = some (.int .i64 x.lm) ∧ x'.cell? ⟨m, 3, none⟩ = some vw) w5 := ⟨(hgrow.cell_far _ (by simp; omega) (Ne.symm ag2)).trans HS1.1, (hgrow.cell_far _ (by simp; omega) (Ne.symm ag2)).trans HS1.2.1, (hgrow.cell_far _ (by simp; omega) (Ne.symm ag2)).trans HS1.2.2.1, z3⟩
        have hB5 : Below w.heap.size w w5 := ((Below.drew HB1.out).alloc hBs _).grown hgrow (by simp; omega) (fun k e => by obtain ⟨hk, _⟩ := row_tag wrow e; exact hk)
        have Z1 : Hid _ := z1
        have ZB : Hid _ := hB5
        refine hK2.out _ _ (fun _ => HS2) (fun _ => ?_)
        clear hK2 K2 z1 hown1 hgrow HS1 HS0 hB5
        refine last_one (i := 8) (by kernel_rfl) rfl ?_
        intro K9 hK9
        go_simp
        refine hK9.out _ _ (fun _ => HS2) (fun _ => ?_)
        clear hK9 K9
        refine last_one (i := 9) (by kernel_rfl) rfl ?_
        intro K9 hK9
        go_simp
        refine hK9.out _ _ (fun _ => HS2) (fun _ => ?_)
        clear hK9 K9
        refine last_one (i := 10) (by kernel_rfl) rfl ?_
        intro K3 hK3
        go_simp
        refine hK3.out _ _ (fun h => absurd rfl h) (fun _ => ?_)
        clear hK3 K3
        refine last_done (by kernel_rfl) ?_ _
        clear HS2 z3 z4 e0 e1 e2 m3 wrow hW1
        go_wp2
        go_roundg (q - (j + 1))
        case measure => omega
        case rel =>
          refine ⟨j + 1, .slice (some ⟨gg, 0, none⟩) (L.length + 1) cap, by omega, rfl, ?_, ZB.out.setCell (by simp; omega) _⟩
          rw [HSN.out, HO.out, HH.out]
          exact Z1.out
    · obtain rfl : j = q := by omega
      rw [List.take_of_length_le (by have := HQ.out; omega)] at hM
      obtain ⟨ra2, rc2, rfl, hwa, hc1, hc2⟩ := row_wait hM.wait
      have hfin : Mc w.heap.size m w.heap.size (.slice ra rs.length rc) ra2 rc2 (.slice none 0 0) now ⟨free, rs, []⟩ (holdL ho noW ws) (othV ho ws) wr :=
        ⟨hM.blk, hM.room, hM.runs, World.ownsRow_nil _ _ _ _, hwa, hM.lo⟩
      have HF : Hid _ := hfin
      have HB : Hid _ := hB
      clear hM hwa hfin hB HW
      go_wp2
      go_ret
      exact ⟨_, _, _, _, _, rfl, HF.out, HB.out, hc1, hc2⟩
end Go.Proofs.Ytdkibcagbidelaa
