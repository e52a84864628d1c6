/-
  THE STATEMENT PassKeeps: what befalls between two passes.
-/
import Derived.Test.YtdkibcagbidelaaXka
namespace Go.Proofs.Ytdkibcagbidelaa
open Go.RowKit Pr

theorem cm_room {n m : Nat} (h : (n + 20) * 24 ≤ 140737490000000) (hm : m + 1 ≤ n + 20) : m + 1 ≤ maxLen ∧ (m + 1 + (m + 1) / 4 + 192) * 24 ≤ 281474976710656 :=
  tk_room h hm
theorem app_step {V2 wr w1 : World} {sb j gg cap : Nat} {a0 a1 a3 a4 v : Value} {xs ys : List Value} {o : Obj} (hblk : wr.heap[sb]? = some (.cells #[a0, a1, v, a3, a4] 53 (0, 0))) (hrow : wr.ownsRow V2.heap.size 40 3 v j xs) (hch : Chg (fun i => i = sb) V2 wr)
    (hown : w1.ownsRow V2.heap.size 40 3 (.slice (some ⟨gg, 0, none⟩) (j + 1) cap) (j + 1) ys) (hg : ((wr.alloc o).drew).grownBy w1 v.ownBlock) (hs : sb < V2.heap.size) :
    (w1.setCell ⟨sb, 2, none⟩ (.slice (some ⟨gg, 0, none⟩) (j + 1) cap)).heap[sb]? = some (.cells #[a0, a1, .slice (some ⟨gg, 0, none⟩) (j + 1) cap, a3, a4] 53 (0, 0)) ∧ (w1.setCell ⟨sb, 2, none⟩ (.slice (some ⟨gg, 0, none⟩) (j + 1) cap)).ownsRow V2.heap.size 40 3 (.slice (some ⟨gg, 0, none⟩) (j + 1) cap) (j + 1) ys ∧
    Chg (fun i => i = sb) V2 (w1.setCell ⟨sb, 2, none⟩ (.slice (some ⟨gg, 0, none⟩) (j + 1) cap)) ∧ (∀ i, i < V2.heap.size → w1.heap[i]? = wr.heap[i]?) ∧ w1.cell? ⟨sb, 2, none⟩ = some v ∧ w1.frozen? ⟨sb, 2, none⟩ = false := by
  have hz := hch.size
  have low : ∀ i, i < V2.heap.size → w1.heap[i]? = wr.heap[i]? := fun i hi => by
    have e1 : (wr.alloc o).drew.heap[i]? = wr.heap[i]? := Below.heap_alloc _ _ _ (by omega)
    exact (hg.block i (by show i < (wr.alloc o).heap.size; simp; omega) (fun e => by have := (row_tag hrow e.symm).1; omega)).trans e1
  have bm := (low sb hs).trans hblk
  refine ⟨st_new bm rfl, row_keep hown (fun k e => Below.heap_setCell _ _ _ _ ?_), ?_, low, cells_at bm rfl, frozen_at bm⟩
  · obtain ⟨_, cs, hk⟩ := row_tag hown e
    exact tag_ne hk bm (by decide)
  · have hc1 : Chg (fun i => i = sb) V2 w1 := ⟨hg.os.trans hch.os, hg.tape.trans hch.tape, hg.output.trans hch.output, Nat.le_trans hz (Nat.le_trans (by show wr.heap.size ≤ (wr.alloc o).heap.size; simp) hg.size), fun k hk hn => (low k hk).trans (hch.block k hk hn)⟩
    exact hc1.setCell _ _ (.inl rfl)
set_option maxRecDepth 20000 in
set_option maxHeartbeats 16000000 in
theorem befalls_any {B sb : Nat} {vw vr : Value} {now free ho all : Int} {ws : List Wt} {rs : List Rn} {w : World} {t : Tn} (h : Sg B sb vw vr now free ho ws rs w) (hB : B ≤ w.heap.size) (hT : ∀ W', Below B w W' → TnOk W' t) (hk : Kp now free all ws ho rs) (hjb : ∀ x ∈ ws, x.job ≤ 9223372036854775807) (hnw : (ws.length + 20) * 24 ≤ 140737490000000) :
    Calls Try.prog 19 #[.pointer (some ⟨sb, 0, none⟩), .agg #[.int .i64 t.tk, .slice t.eo t.el.length t.ec, .slice t.co t.cl.length t.cc, .slice t.go t.gl.length t.gc, .int .i64 t.rd], .int .i64 all] w fun e w' => e = .returned (.tuple #[]) ∧ (∃ vw' vr' free' ws' rs', Sg B sb vw' vr' now free' ho ws' rs' w' ∧ Ev free rs free' rs' ∧ Bf all ho 20 ws ws') ∧ Below B w w' := by
  have hTw := hT w (Below.refl _ _)
  have hen := hTw.en
  have hcn := hTw.cn
  have hgn := hTw.gn
  have hjo := hTw.j
  have hrd := hTw.r
  clear hTw
  obtain ⟨zt, hzt⟩ : ∃ zt, w.heap.size = zt := ⟨_, rfl⟩
  obtain ⟨W1, hW1⟩ : ∃ W1, w.alloc (.cells #[.int .i64 t.tk, .slice t.eo t.el.length t.ec, .slice t.co t.cl.length t.cc, .slice t.go t.gl.length t.gc, .int .i64 t.rd] 57) = W1 := ⟨_, rfl⟩
  have b1 : Below w.heap.size w W1 := by rw [← hW1]; exact (Below.refl _ w).alloc (Nat.le_refl _) _
  have HZ1 : Hid (W1.heap[zt]? = some (.cells #[.int .i64 t.tk, .slice t.eo t.el.length t.ec, .slice t.co t.cl.length t.cc, .slice t.go t.gl.length t.gc, .int .i64 t.rd] 57 (0, 0))) := show _ = _ by rw [← hW1, ← hzt]; exact heap_alloc_new w _
  have HS1 : Hid (Sg B sb vw vr now free ho ws rs W1) := h.below b1
  have HB1 : Hid (Below B w W1) := b1.mono hB
  have HT : Hid (∀ W', Below B w W' → TnOk W' t) := hT
  have HK : Hid (Kp now free all ws ho rs) := hk
  have HJB : Hid (∀ x ∈ ws, x.job ≤ 9223372036854775807) := hjb
  have HJO : Hid (∀ x ∈ t.cl, JobOk x) := hjo
  clear b1 h hT hk hjb hjo
  go_enter Try.func19, Try.ntmps19
  go_upto_region 1 with fail
  clear hW1 hzt
  obtain ⟨N, hN⟩ : ∃ N, min t.el.length 20 = N := ⟨_, rfl⟩
  have hN1 : N ≤ t.el.length := by omega
  have hN2 : N ≤ 20 := by omega
  have hN3 : N = t.el.length ∨ N = 20 := by omega
  clear hN
  go_upto_block 0 with fail
  go_cut [6] (fun _ wd => ∃ (vr' : Value) (free' : Int) (rs' : List Rn), Sg B sb vw vr' now free' ho ws rs' wd ∧ Ev free rs free' rs' ∧ Below B w wd ∧ wd.heap[zt]? = some (.cells #[.int .i64 t.tk, .slice t.eo t.el.length t.ec, .slice t.co t.cl.length t.cc, .slice t.go t.gl.length t.gc, .int .i64 t.rd] 57 (0, 0)))
  case first =>
    go_wp2
    go_loopg [6] N (fun gk p6 wr => ∃ (j : Nat) (vr' : Value) (free' : Int) (rs' : List Rn), j + gk = N ∧ p6 = .int .i64 j ∧ Sg B sb vw vr' now free' ho ws rs' wr ∧ Ev free rs free' rs' ∧ Below B w wr ∧ wr.heap[zt]? = some (.cells #[.int .i64 t.tk, .slice t.eo t.el.length t.ec, .slice t.co t.cl.length t.cc, .slice t.go t.gl.length t.gc, .int .i64 t.rd] 57 (0, 0)))
    case atStart => exact ⟨0, vr, free, rs, by omega, rfl, HS1.out, Ev.refl _ _, HB1.out, HZ1.out⟩
    case round =>
      obtain ⟨j, vr', free', rs', hjg, rfl, hsg, hev, hbe, hzt⟩ := hrel
      clear HS1 HB1 HZ1
      have d1 := cells_at hzt (k := 1) rfl
      by_cases hlt : j < N
      · have hl1 : j < t.el.length := by omega
        have hl2 : (j : Int) < 20 := by omega
        obtain ⟨v, hv⟩ : ∃ v, t.el[j]? = some v := ⟨_, List.getElem?_eq_getElem hl1⟩
        obtain ⟨g, o, hg, hcl⟩ := (HT.out wr hbe).e
        have eg := hg (by omega)
        have c0 := hcl j v hv
        obtain ⟨k1, k2, k3, k4⟩ := Ev.ok hev HK.out
        have CE := ends_any hsg (Nat.le_trans hB hbe.size) k1 k2 k3 k4 v
        have HEV : Hid (Ev free rs free' rs') := hev
        have HBE : Hid (Below B w wr) := hbe
        have HZT : Hid (wr.heap[zt]? = some (.cells #[.int .i64 t.tk, .slice t.eo t.el.length t.ec, .slice t.co t.cl.length t.cc, .slice t.go t.gl.length t.gc, .int .i64 t.rd] 57 (0, 0))) := hzt
        have hlo := hsg.lo
        have hst : sb ≠ zt := tag_ne hsg.blk hzt (by decide)
        have hBr : B ≤ wr.heap.size := Nat.le_trans hB hbe.size
        rw [eg] at d1
        clear hsg hev hbe hzt hg hcl hv k1 k2 k3 k4 eg
        go_wp2_with (go_at_call 20; refine CE.mono ?_; rintro e w5 ⟨rfl, ⟨vr5, hs5⟩, hc5⟩)
        go_roundg (N - (j + 1))
        case measure => omega
        case rel => exact ⟨j + 1, vr5, _, _, by omega, rfl, hs5, HEV.out.trans (Ev.ends now v free' rs'), HBE.out.trans (chg_below hc5 (fun k e => by show B ≤ k; omega) hBr), (hc5.block zt (lt_of_blk HZT.out) (fun e => hst e.symm)).trans HZT.out⟩
      · have HSG : Hid (Sg B sb vw vr' now free' ho ws rs' wr) := hsg
        have HEV : Hid (Ev free rs free' rs') := hev
        have HBE : Hid (Below B w wr) := hbe
        have HZT : Hid (wr.heap[zt]? = some (.cells #[.int .i64 t.tk, .slice t.eo t.el.length t.ec, .slice t.co t.cl.length t.cc, .slice t.go t.gl.length t.gc, .int .i64 t.rd] 57 (0, 0))) := hzt
        clear hsg hev hbe hzt
        by_cases hl1 : j < t.el.length
        · have hl2 : ¬ (j : Int) < 20 := by omega
          go_wp2
          go_meet
          exact ⟨vr', free', rs', HSG.out, HEV.out, HBE.out, HZT.out⟩
        · go_wp2
          go_meet
          exact ⟨vr', free', rs', HSG.out, HEV.out, HBE.out, HZT.out⟩
  case rest =>
    clear HS1 HB1 HZ1 hN1 hN2 hN3
    obtain ⟨vr2, free2, rs2, hsg, hev, hbe, hzt⟩ := hcut
    obtain ⟨wa, wcap, rfl, _⟩ := hsg.len
    obtain ⟨q, hq⟩ : ∃ q, ws.length = q := ⟨_, rfl⟩
    have HQ : Hid (ws.length = q) := hq
    rw [hq] at hnw
    have HSG : Hid (Sg B sb (.slice wa ws.length wcap) vr2 now free2 ho ws rs2 wc) := hsg
    have HEV : Hid (Ev free rs free2 rs2) := hev
    have HBE : Hid (Below B w wc) := hbe
    have HZT : Hid (wc.heap[zt]? = some (.cells #[.int .i64 t.tk, .slice t.eo t.el.length t.ec, .slice t.co t.cl.length t.cc, .slice t.go t.gl.length t.gc, .int .i64 t.rd] 57 (0, 0))) := hzt
    have hBc : B ≤ wc.heap.size := Nat.le_trans hB hbe.size
    obtain ⟨V, hV⟩ : ∃ V, V = wc := ⟨_, rfl⟩
    subst hV
    clear hsg hev hbe hzt hq
    obtain ⟨zm, hzm⟩ : ∃ zm, V.heap.size = zm := ⟨_, rfl⟩
    obtain ⟨W3, hW3⟩ : ∃ W3, V.alloc (.cells #[] 40) = W3 := ⟨_, rfl⟩
    have HB3 : Hid (Below V.heap.size V W3) := show Below _ _ _ by rw [← hW3]; exact (Below.refl _ V).alloc (Nat.le_refl _) _
    have HR3 : Hid (W3.ownsRow V.heap.size 40 3 (.slice (some ⟨zm, 0, none⟩) 0 0) 0 []) := show W3.ownsRow V.heap.size 40 3 (.slice (some ⟨zm, 0, none⟩) 0 0) 0 [] by rw [← hW3, ← hzm]; exact made0 V 40 3
    obtain ⟨j0, hj0, hw0, hw1, hw2⟩ := info_parts Try.inf40
    have HTV : Hid (∀ W', Below V.heap.size V W' → TnOk W' t) := fun W' b => HT.out W' (HBE.out.trans (b.mono hBc))
    go_upto_region 6 with fail
    clear hW3 hzm
    go_upto_block 2 with fail
    go_cut [7, 8] (fun p7 _ wd => ∃ v, v = p7 ∧ wd.ownsRow V.heap.size 40 3 v (stay ho t.gl ws).length (flatW (stay ho t.gl ws)) ∧ Below V.heap.size V wd)
    case first =>
      go_wp2
      go_loopg [7, 8] q (fun gk p7 p8 wr => ∃ (j : Nat) (v : Value), j + gk = q ∧ v = p7 ∧ p8 = .int .i64 j ∧ wr.ownsRow V.heap.size 40 3 v (stay ho t.gl (ws.take j)).length (flatW (stay ho t.gl (ws.take j))) ∧ Below V.heap.size V wr)
      case atStart => exact ⟨0, _, by omega, rfl, rfl, HR3.out, HB3.out⟩
      case round =>
        obtain ⟨j, v, hjg, rfl, rfl, hrow, hbe⟩ := hrel
        clear HR3 HB3
        have hsg := HSG.out.below hbe
        have m2 := cells_at hsg.blk (k := 2) rfl
        have m3 := cells_at hsg.blk (k := 3) rfl
        have d3 := cells_at (bk hbe HZT.out) (k := 3) rfl
        rw [HQ.out] at m2
        have HRW : Hid (wr.ownsRow V.heap.size 40 3 v (stay ho t.gl (ws.take j)).length (flatW (stay ho t.gl (ws.take j)))) := hrow
        have HBR : Hid (Below V.heap.size V wr) := hbe
        by_cases hlt : j < q
        · obtain ⟨x, hx⟩ : ∃ x, ws[j]? = some x := ⟨_, List.getElem?_eq_getElem (by have := HQ.out; omega)⟩
          obtain ⟨_, _, e9, g, o, hg, hcl⟩ := hsg.len
          injection e9 with e9 e92 e93
          have eg := hg (by have := HQ.out; omega)
          rw [← e9] at eg
          rw [eg] at m2
          obtain ⟨c0, c1, c2⟩ := hcl j x hx
          have HA : Hid (∀ m, Calls Try.prog 15 #[.slice t.go t.gl.length t.gc, .int .i64 x.job] (wr.drewN m) fun e w' => e = .returned (.bool (t.gl.contains x.job)) ∧ w' = wr.drewN m) := fun m => has_any (w := wr.drewN m) (HTV.out wr hbe).g (by omega) x.job
          have HTK := stay_take (ho := ho) (gl := t.gl) hx
          obtain ⟨L, hL⟩ : ∃ L, stay ho t.gl (ws.take j) = L := ⟨_, rfl⟩
          have hLj : L.length ≤ j := by
            rw [← hL]
            have h4 := List.length_filter_le (fun x : Wt => decide (x.job = ho) || !t.gl.contains x.job) (ws.take j)
            rw [List.length_take] at h4
            show ((ws.take j).filter fun x : Wt => decide (x.job = ho) || !t.gl.contains x.job).length ≤ j
            omega
          rw [hL] at HTK HRW
          have HTK : Hid (stay ho t.gl (ws.take (j + 1)) = L ++ (if (decide (x.job = ho) || !t.gl.contains x.job) = true then [x] else [])) := HTK
          have hVr : V.heap.size ≤ wr.heap.size := hbe.size
          obtain ⟨hu1, hu2⟩ := cm_room (m := L.length) hnw (by omega)
          obtain ⟨cb, hcb⟩ : ∃ cb, t.gl.contains x.job = cb := ⟨_, rfl⟩
          rw [hcb] at HA HTK
          clear hrow hbe hsg hg hcl hx e9 e92 e93 eg hL hcb
          by_cases ha : x.job = ho
          · have HT1 : Hid (stay ho t.gl (ws.take (j + 1)) = L ++ [x]) := by have := HTK.out; rw [if_pos (by simp [ha])] at this; exact this
            rw [← ha] at m3
            clear HTK ha
            go_upto_region 9 with fail
            go_quiet ((go_at_call 15; exact Calls.quiet_of_same (HA.out _)))
            all_goals
              have m2' : (wr.drewN nq).cell? ⟨sb, 2, none⟩ = some (.slice (some ⟨g, o, none⟩) q wcap) := m2
              have c0' : (wr.drewN nq).cell? ⟨g, o + j * 3, none⟩ = some (.int .i64 x.job) := c0
              have c1' : (wr.drewN nq).cell? ⟨g, o + j * 3 + 1, none⟩ = some (.int .i64 x.nd) := c1
              have c2' : (wr.drewN nq).cell? ⟨g, o + j * 3 + 2, none⟩ = some (.int .i64 x.lm) := c2
              have HR1 : Hid ((wr.drewN nq).ownsRow V.heap.size 40 3 v L.length (flatW L)) := HRW.out
              have HB1 : Hid (Below V.heap.size V (wr.drewN nq)) := below_drewN HBR.out _
              obtain ⟨V1, hV1⟩ : ∃ V1, wr.drewN nq = V1 := ⟨_, rfl⟩
              rw [hV1] at m2' c0' c1' c2' HR1 HB1 ⊢
              have hV1s : V.heap.size ≤ V1.heap.size := HB1.out.size
              clear hV1 m2 m3 c0 c1 c2 d3 HRW HBR HA
              go_wp2_with (at_builtin; refine wpList_append_own_wide _ rfl (.tmp 73) (.tmp 81) 22 rfl V.heap.size 40 j0 _ 3 24 Try.underlying22 hj0 hw0 hw1 hw2 rfl (by decide) v L.length (flatW L) rfl (HR1.out.alloc _) ⟨V1.heap.size, 0, none⟩ 1 1 [.int .i64 x.job, .int .i64 x.nd, .int .i64 x.lm] rfl rfl (World.news_of_block (cs := #[.int .i64 x.job, .int .i64 x.nd, .int .i64 x.lm]) (t := 40) (fr := (0, 0)) (heap_alloc_new V1 _)) (by simp [Value.oneCell']) hu1 hu2 (by simp; omega) ?_; intro v2 w5 hown hgr _)
              go_roundg (q - (j + 1))
              case measure => omega
              case rel => exact ⟨j + 1, v2, by omega, rfl, rfl, by rw [HT1.out, List.length_append, flatW_app]; exact hown, (HB1.out.alloc HB1.out.size _).grown hgr (by simp; omega) (fun k e => (row_tag HR1.out e).1)⟩
          · have ha' : (x.job == ho) = false := beq_false_of_ne ha
            cases cb with
            | false =>
              have HT1 : Hid (stay ho t.gl (ws.take (j + 1)) = L ++ [x]) := by have := HTK.out; rw [if_pos (by simp)] at this; exact this
              clear HTK
              go_upto_region 9 with fail
              go_quiet ((go_at_call 15; exact Calls.quiet_of_same (HA.out _)))
              all_goals
                have m2' : (wr.drewN nq).cell? ⟨sb, 2, none⟩ = some (.slice (some ⟨g, o, none⟩) q wcap) := m2
                have c0' : (wr.drewN nq).cell? ⟨g, o + j * 3, none⟩ = some (.int .i64 x.job) := c0
                have c1' : (wr.drewN nq).cell? ⟨g, o + j * 3 + 1, none⟩ = some (.int .i64 x.nd) := c1
                have c2' : (wr.drewN nq).cell? ⟨g, o + j * 3 + 2, none⟩ = some (.int .i64 x.lm) := c2
                have HR1 : Hid ((wr.drewN nq).ownsRow V.heap.size 40 3 v L.length (flatW L)) := HRW.out
                have HB1 : Hid (Below V.heap.size V (wr.drewN nq)) := below_drewN HBR.out _
                obtain ⟨V1, hV1⟩ : ∃ V1, wr.drewN nq = V1 := ⟨_, rfl⟩
                rw [hV1] at m2' c0' c1' c2' HR1 HB1 ⊢
                have hV1s : V.heap.size ≤ V1.heap.size := HB1.out.size
                clear hV1 m2 m3 c0 c1 c2 d3 HRW HBR HA
                go_wp2_with (at_builtin; refine wpList_append_own_wide _ rfl (.tmp 73) (.tmp 81) 22 rfl V.heap.size 40 j0 _ 3 24 Try.underlying22 hj0 hw0 hw1 hw2 rfl (by decide) v L.length (flatW L) rfl (HR1.out.alloc _) ⟨V1.heap.size, 0, none⟩ 1 1 [.int .i64 x.job, .int .i64 x.nd, .int .i64 x.lm] rfl rfl (World.news_of_block (cs := #[.int .i64 x.job, .int .i64 x.nd, .int .i64 x.lm]) (t := 40) (fr := (0, 0)) (heap_alloc_new V1 _)) (by simp [Value.oneCell']) hu1 hu2 (by simp; omega) ?_; intro v2 w5 hown hgr _)
                go_roundg (q - (j + 1))
                case measure => omega
                case rel => exact ⟨j + 1, v2, by omega, rfl, rfl, by rw [HT1.out, List.length_append, flatW_app]; exact hown, (HB1.out.alloc HB1.out.size _).grown hgr (by simp; omega) (fun k e => (row_tag HR1.out e).1)⟩
            | true =>
              have HT1 : Hid (stay ho t.gl (ws.take (j + 1)) = L) := by have := HTK.out; rw [if_neg (by simp [ha]), List.append_nil] at this; exact this
              clear HTK
              go_upto_region 9 with fail
              go_quiet ((go_at_call 15; exact Calls.quiet_of_same (HA.out _)))
              all_goals
                go_wp2
                go_roundg (q - (j + 1))
                case measure => omega
                case rel => exact ⟨j + 1, v, by omega, rfl, rfl, by rw [HT1.out]; exact HRW.out, below_drewN HBR.out _⟩
        · obtain rfl : j = q := by omega
          have htk : ws.take j = ws := List.take_of_length_le (by have := HQ.out; omega)
          rw [htk] at HRW
          clear hrow hbe hsg htk
          go_wp2
          go_meet
          exact ⟨v, rfl, HRW.out, HBR.out⟩
    case rest =>
      clear HR3 HB3
      obtain ⟨v2, rfl, hrow2, hbe2⟩ := hcut
      have HBF : Hid (Bf all ho 0 ws (stay ho t.gl ws)) := stay_bf t.gl HK.out HJB.out
      obtain ⟨R0, hR0⟩ : ∃ R0, stay ho t.gl ws = R0 := ⟨_, rfl⟩
      rw [hR0] at hrow2 HBF
      have HRW2 : Hid (wc.ownsRow V.heap.size 40 3 v2 R0.length (flatW R0)) := hrow2
      have HBE2 : Hid (Below V.heap.size V wc) := hbe2
      clear hrow2 hbe2 hR0
      obtain ⟨N, hN⟩ : ∃ N, min t.cl.length 20 = N := ⟨_, rfl⟩
      have hN1 : N ≤ t.cl.length := by omega
      have hN2 : N ≤ 20 := by omega
      have hN3 : N = t.cl.length ∨ N = 20 := by omega
      clear hN
      go_upto_block 4 with fail
      go_cut [7, 9] (fun p7 _ wd => ∃ (v : Value) (R : List Wt), v = p7 ∧ wd.ownsRow V.heap.size 40 3 v R.length (flatW R) ∧ Below V.heap.size V wd ∧ Bf all ho 20 ws R)
      case first =>
        go_wp2
        go_loopg [7, 9] N (fun gk p7 p9 wr => ∃ (j : Nat) (v : Value) (R : List Wt), j + gk = N ∧ v = p7 ∧ p9 = .int .i64 j ∧ wr.ownsRow V.heap.size 40 3 v R.length (flatW R) ∧ Below V.heap.size V wr ∧ Bf all ho j ws R)
        case atStart => exact ⟨0, v2, R0, by omega, rfl, rfl, HRW2.out, HBE2.out, HBF.out⟩
        case round =>
          obtain ⟨j, v, R, hjg, rfl, rfl, hrow, hbe, hbf⟩ := hrel
          clear HRW2 HBE2 HBF
          have HRW : Hid (wr.ownsRow V.heap.size 40 3 v R.length (flatW R)) := hrow
          have HBR : Hid (Below V.heap.size V wr) := hbe
          have HBF : Hid (Bf all ho j ws R) := hbf
          have d2 := cells_at (bk hbe HZT.out) (k := 2) rfl
          by_cases hlt : j < N
          · have hl1 : j < t.cl.length := by omega
            have hl2 : (j : Int) < 20 := by omega
            obtain ⟨x, hx⟩ : ∃ x, t.cl[j]? = some x := ⟨_, List.getElem?_eq_getElem hl1⟩
            have HXM : Hid (x.job ≤ 9223372036854775807) := (HJO.out x (List.mem_of_getElem? hx)).2
            obtain ⟨g, o, hg, hcl⟩ := (HTV.out wr hbe).c
            have eg := hg (by omega)
            obtain ⟨c0, c1, c2⟩ := hcl j x hx
            rw [eg] at d2
            have hRl : R.length + 1 ≤ q + 20 := by have := hbf.ln; have := HQ.out; omega
            obtain ⟨hu1, hu2⟩ := cm_room hnw hRl
            obtain ⟨zx, hzx⟩ : ∃ zx, wr.heap.size = zx := ⟨_, rfl⟩
            obtain ⟨W4, hW4⟩ : ∃ W4, wr.alloc (.cells #[.int .i64 x.job, .int .i64 x.nd, .int .i64 x.lm] 40) = W4 := ⟨_, rfl⟩
            have b4 : Below wr.heap.size wr W4 := by rw [← hW4]; exact (Below.refl _ wr).alloc (Nat.le_refl _) _
            have kx : W4.heap[zx]? = some (.cells #[.int .i64 x.job, .int .i64 x.nd, .int .i64 x.lm] 40 (0, 0)) := by rw [← hW4, ← hzx]; exact heap_alloc_new wr _
            have k0 := cells_at kx (k := 0) rfl
            obtain ⟨va, vc, rfl, hwa, _, _⟩ := row_wait (rowB b4 hrow)
            have hwa4 : WantsAt W4 va R := hwa.wants
            have HKX : Hid (W4.heap[zx]? = some (.cells #[.int .i64 x.job, .int .i64 x.nd, .int .i64 x.lm] 40 (0, 0))) := kx
            have HB4 : Hid (Below wr.heap.size wr W4) := b4
            cases hfw : findW R x.job with
            | some y =>
              have CW := want_yes (c := vc) hwa4 (by omega) hfw
              clear hrow hbe hbf hg hcl hx eg hwa hwa4 b4 kx hfw
              go_upto_region 16 with (go_at_call 14; refine CW.mono ?_; rintro e w5 ⟨rfl, b5⟩)
              have HB5 : Hid (Below V.heap.size V w5) := HBR.out.trans ((HB4.out.trans (b5.mono HB4.out.size)).mono HBR.out.size)
              have HR5 : Hid (w5.ownsRow V.heap.size 40 3 (.slice va R.length vc) R.length (flatW R)) := rowB b5 (rowB HB4.out HRW.out)
              clear c0 c1 c2 d2 hW4 hzx k0 b5 CW
              go_wp2
              go_roundg (N - (j + 1))
              case measure => omega
              case rel => exact ⟨j + 1, _, R, by omega, rfl, rfl, HR5.out.alloc _, HB5.out.alloc HB5.out.size _, Bf.more HBF.out (by omega)⟩
            | none =>
              have CW := want_no (c := vc) hwa4 (by omega) hfw
              have HFW : Hid (findW R x.job = none) := hfw
              clear hrow hbe hbf hg hcl hx eg hwa hwa4 b4 kx hfw
              go_upto_region 16 with (go_at_call 14; refine CW.mono ?_; rintro e w5 ⟨rfl, b5⟩)
              obtain ⟨W6, hW6⟩ : ∃ W6, w5.alloc (.cells #[.int .i64 0, .int .i64 0, .int .i64 0] 40) = W6 := ⟨_, rfl⟩
              have b6 : Below w5.heap.size w5 W6 := by rw [← hW6]; exact (Below.refl _ w5).alloc (Nat.le_refl _) _
              try rw [hW6]
              have kx6 := bk b6 (bk b5 HKX.out)
              have B5 : Below V.heap.size V w5 := HBR.out.trans ((HB4.out.trans (b5.mono HB4.out.size)).mono HBR.out.size)
              have HB6 : Hid (Below V.heap.size V W6) := B5.trans (b6.mono B5.size)
              have HR6 : Hid (W6.ownsRow V.heap.size 40 3 (.slice va R.length vc) R.length (flatW R)) := rowB b6 (rowB b5 (rowB HB4.out HRW.out))
              have hV6 : V.heap.size ≤ W6.heap.size := HB6.out.size
              clear c0 c1 c2 d2 hW4 hzx k0 b5 CW b6 hW6 B5
              have k0 := cells_at kx6 (k := 0) rfl
              have k1 := cells_at kx6 (k := 1) rfl
              have k2 := cells_at kx6 (k := 2) rfl
              clear kx6
              by_cases hok : 0 ≤ x.job ∧ 1 ≤ x.nd ∧ x.nd ≤ 256 ∧ x.nd ≤ all ∧ 1 ≤ x.lm ∧ x.lm ≤ 1048576
              · obtain ⟨o1, o2, o3, o4, o5, o6⟩ := hok
                have HB9 : Hid (Bf all ho (j + 1) ws (R ++ [x])) := Bf.come HBF.out HFW.out HXM.out ⟨o1, o2, o3, o4, o5, o6⟩
                go_wp2_with (at_builtin; refine wpList_append_own_wide _ rfl (.tmp 139) (.tmp 141) 22 rfl V.heap.size 40 j0 _ 3 24 Try.underlying22 hj0 hw0 hw1 hw2 rfl (by decide) _ R.length (flatW R) rfl (HR6.out.alloc _) ⟨W6.heap.size, 0, none⟩ 1 1 [.int .i64 x.job, .int .i64 x.nd, .int .i64 x.lm] rfl rfl (World.news_of_block (cs := #[.int .i64 x.job, .int .i64 x.nd, .int .i64 x.lm]) (t := 40) (fr := (0, 0)) (heap_alloc_new W6 _)) (by simp [Value.oneCell']) hu1 hu2 (by simp; omega) ?_; intro v9 w9 hown hgr _)
                go_roundg (N - (j + 1))
                case measure => omega
                case rel => exact ⟨j + 1, v9, R ++ [x], by omega, rfl, rfl, by rw [List.length_append, flatW_app]; exact hown, (HB6.out.alloc HB6.out.size _).grown hgr (by simp; omega) (fun k e => (row_tag HR6.out e).1), HB9.out⟩
              · have hcs : x.job < 0 ∨ (¬ x.job < 0 ∧ x.nd < 1) ∨ (¬ x.job < 0 ∧ ¬ x.nd < 1 ∧ all < x.nd) ∨ (¬ x.job < 0 ∧ ¬ x.nd < 1 ∧ ¬ all < x.nd ∧ 256 < x.nd) ∨ (¬ x.job < 0 ∧ ¬ x.nd < 1 ∧ ¬ all < x.nd ∧ ¬ 256 < x.nd ∧ x.lm < 1) ∨ (¬ x.job < 0 ∧ ¬ x.nd < 1 ∧ ¬ all < x.nd ∧ ¬ 256 < x.nd ∧ ¬ x.lm < 1 ∧ 1048576 < x.lm) := by omega
                clear hok
                rcases hcs with h1 | ⟨h1, h2⟩ | ⟨h1, h2, h3⟩ | ⟨h1, h2, h3, h4⟩ | ⟨h1, h2, h3, h4, h5⟩ | ⟨h1, h2, h3, h4, h5, h6⟩
                all_goals
                  go_wp2
                  go_roundg (N - (j + 1))
                  case measure => omega
                  case rel => exact ⟨j + 1, _, R, by omega, rfl, rfl, HR6.out, HB6.out, Bf.more HBF.out (by omega)⟩
          · clear hrow hbe hbf
            by_cases hl1 : j < t.cl.length
            · have hl2 : ¬ (j : Int) < 20 := by omega
              go_wp2
              go_meet
              exact ⟨v, R, rfl, HRW.out, HBR.out, Bf.more HBF.out (by omega)⟩
            · go_wp2
              go_meet
              exact ⟨v, R, rfl, HRW.out, HBR.out, Bf.more HBF.out (by omega)⟩
      case rest =>
        clear HRW2 HBE2 HBF hN1 hN2 hN3
        obtain ⟨v3, R, rfl, hrow3, hbe3, hbf3⟩ := hcut
        obtain ⟨va, vc, rfl, _, _, _⟩ := row_wait hrow3
        obtain ⟨n, hn⟩ : ∃ n, R.length = n := ⟨_, rfl⟩
        have HN : Hid (R.length = n) := hn
        have hnq : n ≤ q + 20 := by have := hbf3.ln; have := HQ.out; omega
        have hn24 : n * 24 ≤ 140737490000000 := by omega
        have HBF3 : Hid (Bf all ho 20 ws R) := hbf3
        obtain ⟨V2, hV2⟩ : ∃ V2, V2 = wc := ⟨_, rfl⟩
        subst hV2
        have HRW3 : Hid (V2.ownsRow V.heap.size 40 3 (.slice va R.length vc) R.length (flatW R)) := hrow3
        have HBE3 : Hid (Below V.heap.size V V2) := hbe3
        have HSG3 : Hid (Sg B sb (.slice wa ws.length wcap) vr2 now free2 ho ws rs2 V2) := HSG.out.below hbe3
        have HZT3 : Hid (V2.heap[zt]? = some (.cells #[.int .i64 t.tk, .slice t.eo t.el.length t.ec, .slice t.co t.cl.length t.cc, .slice t.go t.gl.length t.gc, .int .i64 t.rd] 57 (0, 0))) := bk hbe3 HZT.out
        have HBB3 : Hid (Below B w V2) := HBE.out.trans (hbe3.mono hBc)
        rw [hn]
        clear hrow3 hbe3 hbf3 hn HSG HZT HBE HTV
        obtain ⟨zw, hzw⟩ : ∃ zw, V2.heap.size = zw := ⟨_, rfl⟩
        obtain ⟨W5, hW5⟩ : ∃ W5, V2.alloc (.cells #[] 40) = W5 := ⟨_, rfl⟩
        have b5 : Below V2.heap.size V2 W5 := by rw [← hW5]; exact (Below.refl _ V2).alloc (Nat.le_refl _) _
        have hr5 : W5.ownsRow V2.heap.size 40 3 (.slice (some ⟨zw, 0, none⟩) 0 0) 0 [] := by rw [← hW5, ← hzw]; exact made0 V2 40 3
        have hb5 := bk b5 HSG3.out.blk
        have m2 := cells_at hb5 (k := 2) rfl
        have f2 := frozen_at hb5 (k := 2)
        have HW6 : Hid ((W5.setCell ⟨sb, 2, none⟩ (.slice (some ⟨zw, 0, none⟩) 0 0)).heap[sb]? = some (.cells #[.int .i64 now, .int .i64 free2, .slice (some ⟨zw, 0, none⟩) 0 0, .int .i64 ho, vr2] 53 (0, 0)) ∧ (W5.setCell ⟨sb, 2, none⟩ (.slice (some ⟨zw, 0, none⟩) 0 0)).ownsRow V2.heap.size 40 3 (.slice (some ⟨zw, 0, none⟩) 0 0) 0 [] ∧ Chg (fun i => i = sb) V2 (W5.setCell ⟨sb, 2, none⟩ (.slice (some ⟨zw, 0, none⟩) 0 0))) := by
          refine ⟨st_new hb5 rfl, row_keep hr5 (fun k e => Below.heap_setCell _ _ _ _ ?_), (Chg.of_below b5 _).setCell _ _ (.inl rfl)⟩
          obtain ⟨_, cs, hk⟩ := row_tag hr5 e
          exact tag_ne hk hb5 (by decide)
        clear b5 hr5 hb5
        go_upto_region 19 with fail
        obtain ⟨W6, hW6⟩ : ∃ W6, W5.setCell ⟨sb, 2, none⟩ (.slice (some ⟨zw, 0, none⟩) 0 0) = W6 := ⟨_, rfl⟩
        rw [hW6] at HW6
        try rw [hW6]
        clear hW6 hW5 hzw m2 f2
        obtain ⟨r, hr1, hr2, hr3⟩ : ∃ r : Nat, (r < n ∨ n = 0) ∧ (0 < t.rd → 0 < n → Int.tmod t.rd n = (r : Int)) ∧ (¬ 0 < t.rd → r = 0) := by
          by_cases hp : 0 < t.rd ∧ 0 < n
          · refine ⟨(t.rd % n).toNat, .inl ?_, fun _ _ => ?_, fun h => absurd hp.1 h⟩
            · have h1 := Int.emod_lt_of_pos t.rd (show (0 : Int) < n by omega)
              have h2 := Int.emod_nonneg t.rd (show (n : Int) ≠ 0 by omega)
              omega
            · rw [Int.tmod_eq_emod_of_nonneg (by omega)]
              have h2 := Int.emod_nonneg t.rd (show (n : Int) ≠ 0 by omega)
              omega
          · refine ⟨0, by omega, fun h1 h2 => absurd ⟨h1, h2⟩ hp, fun _ => rfl⟩
        have HR2 : Hid (0 < t.rd → 0 < n → Int.tmod t.rd n = (r : Int)) := hr2
        have HR3 : Hid (t.rd ≤ 0 → r = 0) := fun h => hr3 (by omega)
        clear hr2 hr3
        have HLA : Hid (∀ j, j < n → (turnL r R)[j]? = R[(j + r) % n]?) := fun j hj => by
          have := turn_at (r := r) (R := R) (by rw [HN.out]; omega) (by rw [HN.out]; exact hj)
          rw [HN.out] at this
          exact this
        have HLL : Hid ((turnL r R).length = n) := (turn_perm r R).length_eq.symm.trans HN.out
        go_upto_region 20 with fail
        go_upto_block 6 with fail
        go_cut [14] (fun _ wd => ∃ (v : Value), wd.heap[sb]? = some (.cells #[.int .i64 now, .int .i64 free2, v, .int .i64 ho, vr2] 53 (0, 0)) ∧ wd.ownsRow V2.heap.size 40 3 v n (flatW (turnL r R)) ∧ Chg (fun i => i = sb) V2 wd)
        case first =>
          go_wp2
          go_loopg [14] n (fun gk p14 wr => ∃ (j : Nat) (v : Value), j + gk = n ∧ p14 = .int .i64 j ∧ wr.heap[sb]? = some (.cells #[.int .i64 now, .int .i64 free2, v, .int .i64 ho, vr2] 53 (0, 0)) ∧ wr.ownsRow V2.heap.size 40 3 v j (flatW ((turnL r R).take j)) ∧ Chg (fun i => i = sb) V2 wr)
          case atStart => exact ⟨0, _, by omega, rfl, HW6.out.1, HW6.out.2.1, HW6.out.2.2⟩
          case round =>
            obtain ⟨j, v, hjg, rfl, hblk, hrow, hch⟩ := hrel
            clear HW6
            have HBK : Hid (wr.heap[sb]? = some (.cells #[.int .i64 now, .int .i64 free2, v, .int .i64 ho, vr2] 53 (0, 0))) := hblk
            have HRW : Hid (wr.ownsRow V2.heap.size 40 3 v j (flatW ((turnL r R).take j))) := hrow
            have HCH : Hid (Chg (fun i => i = sb) V2 wr) := hch
            by_cases hlt : j < n
            · have hzt : wr.heap[zt]? = some (.cells #[.int .i64 t.tk, .slice t.eo t.el.length t.ec, .slice t.co t.cl.length t.cc, .slice t.go t.gl.length t.gc, .int .i64 t.rd] 57 (0, 0)) := (hch.block zt (lt_of_blk HZT3.out) (fun e => tag_ne HZT3.out HSG3.out.blk (by decide) e)).trans HZT3.out
              have d4 := cells_at hzt (k := 4) rfl
              obtain ⟨kk, hkk⟩ : ∃ kk, (j + r) % n = kk := ⟨_, rfl⟩
              have hkn : kk < n := by rw [← hkk]; exact Nat.mod_lt _ (by omega)
              obtain ⟨y, hy⟩ : ∃ y, R[kk]? = some y := ⟨_, List.getElem?_eq_getElem (by rw [HN.out]; exact hkn)⟩
              have HLY : Hid ((turnL r R)[j]? = some y) := by have := HLA.out j hlt; rw [hkk, hy] at this; exact this
              have hrn : r < n := by omega
              have hsum : Int.tmod ((j : Int) + (r : Int)) (n : Int) = (kk : Int) := by
                rw [Int.tmod_eq_emod_of_nonneg (by omega), ← hkk]
                first | rw [Int.natCast_emod, Int.natCast_add] | rw [Int.ofNat_emod, Int.natCast_add]
              have HKK : Hid (t.rd ≤ 0 → kk = j) := fun h => by rw [← hkk, HR3.out h, Nat.add_zero, Nat.mod_eq_of_lt hlt]
              have hn0 : ¬ (n : Int) = 0 := by omega
              clear hblk hrow hch hzt hkk
              go_upto_if 157 with fail
              go_cut [15] (fun p wd => p = .int .i64 kk ∧ wd = wr)
              case first =>
                by_cases hp : 0 < t.rd
                · have hmod := HR2.out hp (by omega)
                  go_wp2
                  go_meet
                  exact ⟨by first | rfl | simp [hmod, hsum], rfl⟩
                · have hkj := HKK.out (by omega)
                  subst hkj
                  go_wp2
                  go_meet
                  exact ⟨rfl, rfl⟩
              case rest =>
                obtain ⟨rfl, h9⟩ := hcut
                obtain rfl := h9.symm
                clear h9
                have hRr : wr.ownsRow V.heap.size 40 3 (.slice va R.length vc) R.length (flatW R) := row_keep HRW3.out (fun k e => by obtain ⟨_, cs, hk⟩ := row_tag HRW3.out e; exact HCH.out.block k (lt_of_blk hk) (tag_ne hk HSG3.out.blk (by decide)))
                rw [HN.out] at hRr
                obtain ⟨g, cg, eg, _, hgl⟩ := hRr.form (by omega)
                injection eg with eg1 eg2 eg3
                subst eg1
                obtain ⟨⟨c0, c1, c2⟩, _⟩ := row_cellW hRr hy
                have hgV : g < V2.heap.size := row_lt0 HRW3.out rfl
                have hsV : sb < V2.heap.size := lt_of_blk HSG3.out.blk
                have m2 := cells_at HBK.out (k := 2) rfl
                have rrow : wr.ownsRow V2.heap.size 40 3 v j (flatW ((turnL r R).take j)) := HRW.out
                obtain ⟨hu1, hu2⟩ := tk_room hn24 (m := j) (by omega)
                have hV2r : V2.heap.size ≤ wr.heap.size := HCH.out.size
                have HTK : Hid (flatW ((turnL r R).take (j + 1)) = flatW ((turnL r R).take j) ++ [.int .i64 y.job, .int .i64 y.nd, .int .i64 y.lm]) := by
                  show flatW ((turnL r R).take (j + 1)) = flatW ((turnL r R).take j) ++ [.int .i64 y.job, .int .i64 y.nd, .int .i64 y.lm]
                  rw [List.take_add_one, HLY.out, flatW_app]
                  rfl
                clear eg2 eg3 hRr hy d4 hsum
                go_upto_region 26 with fail
                refine wp_region_last (S := (fun x' : World => x'.cell? ⟨sb, 2, none⟩ = some v ∧ x'.cell? ⟨g, kk * 3, none⟩ = some (.int .i64 y.job) ∧ x'.cell? ⟨g, kk * 3 + 1, none⟩ = some (.int .i64 y.nd) ∧ x'.cell? ⟨g, kk * 3 + 2, none⟩ = some (.int .i64 y.lm))) (L := 13) (by kernel_rfl) ?_
                have HS0 : (fun x' : World => x'.cell? ⟨sb, 2, none⟩ = some v ∧ x'.cell? ⟨g, kk * 3, none⟩ = some (.int .i64 y.job) ∧ x'.cell? ⟨g, kk * 3 + 1, none⟩ = some (.int .i64 y.nd) ∧ x'.cell? ⟨g, kk * 3 + 2, none⟩ = some (.int .i64 y.lm)) wr.drew := ⟨m2, c0, c1, c2⟩
                refine last_take (i := 0) (v := ?v0a) rfl (by kernel_rfl) (by kernel_rfl) (by kernel_rfl) (by kernel_rfl) rfl (fun _ _ _ h => h) (by rfl) HS0 ?hy0a ?rest0a
                case hy0a =>
                  intro xx hSx
                  obtain ⟨s1, s2, s3, s4⟩ := hSx
                  go_simp
                  try (with_reducible rfl)
                simp only [Act.put, List.setIfInBounds_toArray, List.set_cons_zero, List.set_cons_succ]
                refine last_take (i := 1) (v := ?v1a) rfl (by kernel_rfl) (by kernel_rfl) (by kernel_rfl) (by kernel_rfl) rfl (fun _ _ _ h => h) (by rfl) HS0 ?hy1a ?rest1a
                case hy1a =>
                  intro xx hSx
                  obtain ⟨s1, s2, s3, s4⟩ := hSx
                  go_simp
                  try (with_reducible rfl)
                simp only [Act.put, List.setIfInBounds_toArray, List.set_cons_zero, List.set_cons_succ]
                refine last_take (i := 2) (v := ?v2a) rfl (by kernel_rfl) (by kernel_rfl) (by kernel_rfl) (by kernel_rfl) rfl (fun _ _ _ h => h) (by rfl) HS0 ?hy2a ?rest2a
                case hy2a =>
                  intro xx hSx
                  obtain ⟨s1, s2, s3, s4⟩ := hSx
                  go_simp
                  try (with_reducible rfl)
                simp only [Act.put, List.setIfInBounds_toArray, List.set_cons_zero, List.set_cons_succ]
                refine last_take (i := 3) (v := ?v3a) rfl (by kernel_rfl) (by kernel_rfl) (by kernel_rfl) (by kernel_rfl) rfl (fun _ _ _ h => h) (by rfl) HS0 ?hy3a ?rest3a
                case hy3a =>
                  intro xx hSx
                  obtain ⟨s1, s2, s3, s4⟩ := hSx
                  go_simp
                  try (with_reducible rfl)
                simp only [Act.put, List.setIfInBounds_toArray, List.set_cons_zero, List.set_cons_succ]
                refine last_take (i := 4) (v := ?v4a) rfl (by kernel_rfl) (by kernel_rfl) (by kernel_rfl) (by kernel_rfl) rfl (fun _ _ _ h => h) (by rfl) HS0 ?hy4a ?rest4a
                case hy4a =>
                  intro xx hSx
                  obtain ⟨s1, s2, s3, s4⟩ := hSx
                  go_simp
                  try (with_reducible rfl)
                simp only [Act.put, List.setIfInBounds_toArray, List.set_cons_zero, List.set_cons_succ]
                refine last_take (i := 5) (v := ?v5a) rfl (by kernel_rfl) (by kernel_rfl) (by kernel_rfl) (by kernel_rfl) rfl (fun _ _ _ h => h) (by rfl) HS0 ?hy5a ?rest5a
                case hy5a =>
                  intro xx hSx
                  obtain ⟨s1, s2, s3, s4⟩ := hSx
                  go_simp
                  try (with_reducible rfl)
                simp only [Act.put, List.setIfInBounds_toArray, List.set_cons_zero, List.set_cons_succ]
                refine last_take (i := 6) (v := ?v6a) rfl (by kernel_rfl) (by kernel_rfl) (by kernel_rfl) (by kernel_rfl) rfl (fun _ _ _ h => h) (by rfl) HS0 ?hy6a ?rest6a
                case hy6a =>
                  intro xx hSx
                  obtain ⟨s1, s2, s3, s4⟩ := hSx
                  go_simp
                  try (with_reducible rfl)
                simp only [Act.put, List.setIfInBounds_toArray, List.set_cons_zero, List.set_cons_succ]
                refine last_take (i := 7) (v := ?v7a) rfl (by kernel_rfl) (by kernel_rfl) (by kernel_rfl) (by kernel_rfl) rfl (fun _ _ _ h => h) (by rfl) HS0 ?hy7a ?rest7a
                case hy7a =>
                  intro xx hSx
                  obtain ⟨s1, s2, s3, s4⟩ := hSx
                  go_simp
                  try (with_reducible rfl)
                simp only [Act.put, List.setIfInBounds_toArray, List.set_cons_zero, List.set_cons_succ]
                refine last_take (i := 8) (v := ?v8a) rfl (by kernel_rfl) (by kernel_rfl) (by kernel_rfl) (by kernel_rfl) rfl (fun _ _ _ h => h) (by rfl) HS0 ?hy8a ?rest8a
                case hy8a =>
                  intro xx hSx
                  obtain ⟨s1, s2, s3, s4⟩ := hSx
                  go_simp
                  try (with_reducible rfl)
                simp only [Act.put, List.setIfInBounds_toArray, List.set_cons_zero, List.set_cons_succ]
                refine last_one (i := 9) (by kernel_rfl) rfl ?_
                intro K1 hK1
                go_simp
                have HS1 : (fun x' : World => x'.cell? ⟨sb, 2, none⟩ = some v ∧ x'.cell? ⟨g, kk * 3, none⟩ = some (.int .i64 y.job) ∧ x'.cell? ⟨g, kk * 3 + 1, none⟩ = some (.int .i64 y.nd) ∧ x'.cell? ⟨g, kk * 3 + 2, none⟩ = some (.int .i64 y.lm)) (wr.drew.alloc (.cells #[.int .i64 y.job, .int .i64 y.nd, .int .i64 y.lm] 40)) := ⟨cell_al m2 _, cell_al c0 _, cell_al c1 _, cell_al c2 _⟩
                refine hK1.out _ _ (fun _ => HS1) (fun _ => ?_)
                clear hK1 K1
                refine last_one (i := 10) (by kernel_rfl) rfl ?_
                intro K2 hK2
                refine step_append_wide (by rfl) _ _ _ (by rfl) V2.heap.size 40 j0 _ 3 24 Try.underlying22 hj0 hw0 hw1 hw2 rfl (by omega) v j (flatW ((turnL r R).take j)) (by rfl) (World.ownsRow.alloc (w := wr.drew) rrow _) ⟨wr.heap.size, 0, none⟩ 1 1 [.int .i64 y.job, .int .i64 y.nd, .int .i64 y.lm] (by rfl) (by rfl) (World.news_of_block (cs := #[.int .i64 y.job, .int .i64 y.nd, .int .i64 y.lm]) (t := 40) (fr := (0, 0)) (heap_alloc_new wr.drew _)) (by simp [Value.oneCell']) (by omega) hu1 hu2 (by simp; omega) ?_
                intro gg cap w1 hown1 hgrow
                obtain ⟨y1, y2, y3, y4, y5, y6⟩ := app_step HBK.out HRW.out HCH.out hown1 hgrow hsV
                have HS2 : (fun x' : World => x'.cell? ⟨sb, 2, none⟩ = some v ∧ x'.cell? ⟨g, kk * 3, none⟩ = some (.int .i64 y.job) ∧ x'.cell? ⟨g, kk * 3 + 1, none⟩ = some (.int .i64 y.nd) ∧ x'.cell? ⟨g, kk * 3 + 2, none⟩ = some (.int .i64 y.lm)) w1 := ⟨y5, (World.cell?_of_block (y4 g hgV)).trans c0, (World.cell?_of_block (y4 g hgV)).trans c1, (World.cell?_of_block (y4 g hgV)).trans c2⟩
                have Y : Hid (_ ∧ _ ∧ _) := And.intro y1 (And.intro y2 y3)
                refine hK2.out _ _ (fun _ => HS2) (fun _ => ?_)
                clear hK2 K2 hown1 hgrow HS1 HS0 y1 y2 y3 y4
                refine last_one (i := 11) (by kernel_rfl) rfl ?_
                intro K9 hK9
                go_simp
                refine hK9.out _ _ (fun _ => HS2) (fun _ => ?_)
                clear hK9 K9
                refine last_one (i := 12) (by kernel_rfl) rfl ?_
                intro K9 hK9
                go_simp
                refine hK9.out _ _ (fun _ => HS2) (fun _ => ?_)
                clear hK9 K9
                refine last_one (i := 13) (by kernel_rfl) rfl ?_
                intro K3 hK3
                go_simp
                refine hK3.out _ _ (fun h => absurd rfl h) (fun _ => ?_)
                clear hK3 K3
                refine last_done (by kernel_rfl) ?_ _
                go_wp2
                go_roundg (n - (j + 1))
                case measure => omega
                case rel => exact ⟨j + 1, _, by omega, rfl, Y.out.1, by rw [HTK.out]; exact Y.out.2.1, Y.out.2.2⟩
            · obtain rfl : j = n := by omega
              rw [List.take_of_length_le (by rw [HLL.out]; exact Nat.le_refl _)] at HRW
              clear hblk hrow hch
              go_wp2
              go_meet
              exact ⟨v, HBK.out, HRW.out, HCH.out⟩
        case rest =>
          clear HW6
          obtain ⟨v, hblk, hrow, hch⟩ := hcut
          have HFIN : Hid (∀ (L : List Wt) (W : World), R.Perm L → W.heap[sb]? = some (.cells #[.int .i64 now, .int .i64 free2, v, .int .i64 ho, vr2] 53 (0, 0)) → W.ownsRow V2.heap.size 40 3 v n (flatW L) → Chg (fun i => i = sb) V2 W → (∃ vw' vr' free' ws' rs', Sg B sb vw' vr' now free' ho ws' rs' W ∧ Ev free rs free' rs' ∧ Bf all ho 20 ws ws') ∧ Below B w W) := fun L W hp h1 h2 h3 => by
            have hBV : B ≤ V2.heap.size := Nat.le_trans hBc HBE3.out.size
            have hlo := HSG3.out.lo
            refine ⟨⟨v, vr2, free2, L, rs2, ⟨h1, ?_, ?_, hlo⟩, HEV.out, HBF3.out.perm hp⟩, HBB3.out.trans (chg_below h3 (fun k e => by show B ≤ k; omega) hBV)⟩
            · rw [← hp.length_eq, HN.out]
              exact own_base h2 hBV
            · exact row_keep HSG3.out.rr (fun k e => by obtain ⟨_, cs, hk⟩ := row_tag HSG3.out.rr e; exact h3.block k (lt_of_blk hk) (tag_ne hk HSG3.out.blk (by decide)))
          have hzt : wc.heap[zt]? = some (.cells #[.int .i64 t.tk, .slice t.eo t.el.length t.ec, .slice t.co t.cl.length t.cc, .slice t.go t.gl.length t.gc, .int .i64 t.rd] 57 (0, 0)) := (hch.block zt (lt_of_blk HZT3.out) (fun e => tag_ne HZT3.out HSG3.out.blk (by decide) e)).trans HZT3.out
          have d4 := cells_at hzt (k := 4) rfl
          have HB0 : Hid (wc.heap[sb]? = some (.cells #[.int .i64 now, .int .i64 free2, v, .int .i64 ho, vr2] 53 (0, 0))) := hblk
          have HR0 : Hid (wc.ownsRow V2.heap.size 40 3 v n (flatW (turnL r R))) := hrow
          have HC0 : Hid (Chg (fun i => i = sb) V2 wc) := hch
          have HP0 : Hid (R.Perm (turnL r R)) := turn_perm r R
          clear hblk hrow hch hzt
          by_cases hneg : t.rd < 0
          · obtain ⟨hf, hhf⟩ : ∃ hf, n / 2 = hf := ⟨_, rfl⟩
            have hdv : Int.tdiv (n : Int) 2 = (hf : Int) := by
              rw [Int.tdiv_eq_ediv_of_nonneg (by omega)]
              omega
            have hfn : 2 * hf ≤ n := by omega
            clear hhf
            go_wp2
            go_loopg [16] hf (fun gk p16 wr => ∃ (i : Nat) (L : List Wt), i + gk = hf ∧ p16 = .int .i64 i ∧ R.Perm L ∧ wr.heap[sb]? = some (.cells #[.int .i64 now, .int .i64 free2, v, .int .i64 ho, vr2] 53 (0, 0)) ∧ wr.ownsRow V2.heap.size 40 3 v n (flatW L) ∧ Chg (fun i => i = sb) V2 wr)
            case atStart => exact ⟨0, _, by omega, rfl, HP0.out, HB0.out, HR0.out, HC0.out⟩
            case round =>
              obtain ⟨i, L, hig, rfl, hp, hblk, hrow, hch⟩ := hrel
              clear HB0 HR0 HC0 HP0 d4
              have HPL : Hid (R.Perm L) := hp
              have HCH : Hid (Chg (fun i => i = sb) V2 wr) := hch
              by_cases hlt : i < hf
              · have hLn : L.length = n := hp.length_eq.symm.trans HN.out
                obtain ⟨k, hk⟩ : ∃ k, n - 1 - i = k := ⟨_, rfl⟩
                have hkn : k < n := by omega
                have hin : i < n := by omega
                have HWA : Hid (IntKind.i64.wrap ((n : Int) - 1) = (n : Int) - 1) := by show IntKind.i64.wrap ((n : Int) - 1) = (n : Int) - 1; rw [IntKind.wrap_i64]; omega
                have HWB : Hid (IntKind.i64.wrap ((n : Int) - 1 - (i : Int)) = (k : Int)) := by show IntKind.i64.wrap ((n : Int) - 1 - (i : Int)) = (k : Int); rw [IntKind.wrap_i64]; omega
                obtain ⟨x, hx⟩ : ∃ x, L[i]? = some x := ⟨_, List.getElem?_eq_getElem (by omega)⟩
                obtain ⟨y, hy⟩ : ∃ y, L[k]? = some y := ⟨_, List.getElem?_eq_getElem (by omega)⟩
                obtain ⟨g5, c5, rfl, hg5, _⟩ := hrow.form (by omega)
                have hsV : sb < V2.heap.size := lt_of_blk HSG3.out.blk
                have m2 := cells_at hblk (k := 2) rfl
                obtain ⟨⟨x0, x1, x2⟩, _⟩ := row_cellW hrow hx
                obtain ⟨zx, hzx⟩ : ∃ zx, wr.heap.size = zx := ⟨_, rfl⟩
                obtain ⟨W7, hW7⟩ : ∃ W7, wr.alloc (.cells #[.int .i64 x.job, .int .i64 x.nd, .int .i64 x.lm] 40) = W7 := ⟨_, rfl⟩
                have b7 : Below wr.heap.size wr W7 := by rw [← hW7]; exact (Below.refl _ wr).alloc (Nat.le_refl _) _
                have HKX : Hid (W7.heap[zx]? = some (.cells #[.int .i64 x.job, .int .i64 x.nd, .int .i64 x.lm] 40 (0, 0))) := show _ = _ by rw [← hW7, ← hzx]; exact heap_alloc_new wr _
                have HBK7 : Hid (W7.heap[sb]? = some (.cells #[.int .i64 now, .int .i64 free2, .slice (some ⟨g5, 0, none⟩) n c5, .int .i64 ho, vr2] 53 (0, 0))) := bk b7 hblk
                have HR7 : Hid (W7.ownsRow V2.heap.size 40 3 (.slice (some ⟨g5, 0, none⟩) n c5) n (flatW L)) := rowB b7 hrow
                have HC7 : Hid (Chg (fun i => i = sb) V2 W7) := hch.trans (Chg.of_below b7 _) (fun _ _ e => e)
                have hgx : g5 ≠ zx := by have := row_lt0 hrow rfl; omega
                have hgs : g5 ≠ sb := by omega
                have HNX : Hid (R.Perm ((L.set i y).set k x)) := hp.trans (swap_perm hx hy).symm
                have hkx : k ≠ i := by omega
                have HXK : Hid (∀ W : World, W.ownsRow V2.heap.size 40 3 (.slice (some ⟨g5, 0, none⟩) n c5) n (flatW (L.set i y)) → (W.cell? ⟨g5, k * 3, none⟩ = some (.int .i64 y.job) ∧ W.cell? ⟨g5, k * 3 + 1, none⟩ = some (.int .i64 y.nd) ∧ W.cell? ⟨g5, k * 3 + 2, none⟩ = some (.int .i64 y.lm)) ∧ ∀ k, W.frozen? ⟨g5, k, none⟩ = false) := fun W hW => row_cellW hW (by rw [List.getElem?_set_ne (by omega)]; exact hy)
                obtain ⟨⟨y0, y1, y2⟩, _⟩ := row_cellW HR7.out hy
                obtain ⟨⟨z0, z1, z2⟩, zf⟩ := row_cellW HR7.out hx
                have zf0 := zf (i * 3)
                have zf1 := zf (i * 3 + 1)
                have zf2 := zf (i * 3 + 2)
                have m27 := cells_at HBK7.out (k := 2) rfl
                clear hp hblk hrow hch hx hy hk b7 zf
                go_upto_region 32 with fail
                clear x0 x1 x2 m2 hW7 hzx
                go_cut [] (fun wd => wd.ownsRow V2.heap.size 40 3 (.slice (some ⟨g5, 0, none⟩) n c5) n (flatW (L.set i y)) ∧ wd.heap[sb]? = some (.cells #[.int .i64 now, .int .i64 free2, .slice (some ⟨g5, 0, none⟩) n c5, .int .i64 ho, vr2] 53 (0, 0)) ∧ wd.heap[zx]? = some (.cells #[.int .i64 x.job, .int .i64 x.nd, .int .i64 x.lm] 40 (0, 0)) ∧ Chg (fun i => i = sb) V2 wd)
                case first =>
                  refine wp_region_last (S := (fun x' : World => x'.cell? ⟨sb, 2, none⟩ = some (.slice (some ⟨g5, 0, none⟩) n c5) ∧ x'.cell? ⟨g5, k * 3, none⟩ = some (.int .i64 y.job) ∧ x'.cell? ⟨g5, k * 3 + 1, none⟩ = some (.int .i64 y.nd) ∧ x'.cell? ⟨g5, k * 3 + 2, none⟩ = some (.int .i64 y.lm))) (L := 16) (by kernel_rfl) ?_
                  have HS0 : (fun x' : World => x'.cell? ⟨sb, 2, none⟩ = some (.slice (some ⟨g5, 0, none⟩) n c5) ∧ x'.cell? ⟨g5, k * 3, none⟩ = some (.int .i64 y.job) ∧ x'.cell? ⟨g5, k * 3 + 1, none⟩ = some (.int .i64 y.nd) ∧ x'.cell? ⟨g5, k * 3 + 2, none⟩ = some (.int .i64 y.lm)) W7.drew := ⟨m27, y0, y1, y2⟩
                  have hwA := HWA.out
                  have hwB := HWB.out
                  refine last_take (i := 0) (v := ?v0b) rfl (by kernel_rfl) (by kernel_rfl) (by kernel_rfl) (by kernel_rfl) rfl (fun _ _ _ h => h) (by rfl) HS0 ?hy0b ?rest0b
                  case hy0b =>
                    intro xx hSx
                    obtain ⟨s1, s2, s3, s4⟩ := hSx
                    go_simp
                    try (with_reducible rfl)
                  simp only [Act.put, List.setIfInBounds_toArray, List.set_cons_zero, List.set_cons_succ]
                  refine last_take (i := 1) (v := ?v1b) rfl (by kernel_rfl) (by kernel_rfl) (by kernel_rfl) (by kernel_rfl) rfl (fun _ _ _ h => h) (by rfl) HS0 ?hy1b ?rest1b
                  case hy1b =>
                    intro xx hSx
                    obtain ⟨s1, s2, s3, s4⟩ := hSx
                    go_simp
                    try (with_reducible rfl)
                  simp only [Act.put, List.setIfInBounds_toArray, List.set_cons_zero, List.set_cons_succ]
                  refine last_take (i := 2) (v := ?v2b) rfl (by kernel_rfl) (by kernel_rfl) (by kernel_rfl) (by kernel_rfl) rfl (fun _ _ _ h => h) (by rfl) HS0 ?hy2b ?rest2b
                  case hy2b =>
                    intro xx hSx
                    obtain ⟨s1, s2, s3, s4⟩ := hSx
                    go_simp
                    try (with_reducible rfl)
                  simp only [Act.put, List.setIfInBounds_toArray, List.set_cons_zero, List.set_cons_succ]
                  refine last_take (i := 3) (v := ?v3b) rfl (by kernel_rfl) (by kernel_rfl) (by kernel_rfl) (by kernel_rfl) rfl (fun _ _ _ h => h) (by rfl) HS0 ?hy3b ?rest3b
                  case hy3b =>
                    intro xx hSx
                    obtain ⟨s1, s2, s3, s4⟩ := hSx
                    go_simp
                    try (with_reducible rfl)
                  simp only [Act.put, List.setIfInBounds_toArray, List.set_cons_zero, List.set_cons_succ]
                  refine last_take (i := 4) (v := ?v4b) rfl (by kernel_rfl) (by kernel_rfl) (by kernel_rfl) (by kernel_rfl) rfl (fun _ _ _ h => h) (by rfl) HS0 ?hy4b ?rest4b
                  case hy4b =>
                    intro xx hSx
                    obtain ⟨s1, s2, s3, s4⟩ := hSx
                    go_simp
                    try (with_reducible rfl)
                  simp only [Act.put, List.setIfInBounds_toArray, List.set_cons_zero, List.set_cons_succ]
                  refine last_take (i := 5) (v := ?v5b) rfl (by kernel_rfl) (by kernel_rfl) (by kernel_rfl) (by kernel_rfl) rfl (fun _ _ _ h => h) (by rfl) HS0 ?hy5b ?rest5b
                  case hy5b =>
                    intro xx hSx
                    obtain ⟨s1, s2, s3, s4⟩ := hSx
                    go_simp
                    try (with_reducible rfl)
                  simp only [Act.put, List.setIfInBounds_toArray, List.set_cons_zero, List.set_cons_succ]
                  refine last_take (i := 6) (v := ?v6b) rfl (by kernel_rfl) (by kernel_rfl) (by kernel_rfl) (by kernel_rfl) rfl (fun _ _ _ h => h) (by rfl) HS0 ?hy6b ?rest6b
                  case hy6b =>
                    intro xx hSx
                    obtain ⟨s1, s2, s3, s4⟩ := hSx
                    go_simp
                    try (with_reducible rfl)
                  simp only [Act.put, List.setIfInBounds_toArray, List.set_cons_zero, List.set_cons_succ]
                  refine last_take (i := 7) (v := ?v7b) rfl (by kernel_rfl) (by kernel_rfl) (by kernel_rfl) (by kernel_rfl) rfl (fun _ _ _ h => h) (by rfl) HS0 ?hy7b ?rest7b
                  case hy7b =>
                    intro xx hSx
                    obtain ⟨s1, s2, s3, s4⟩ := hSx
                    go_simp
                    try (with_reducible rfl)
                  simp only [Act.put, List.setIfInBounds_toArray, List.set_cons_zero, List.set_cons_succ]
                  refine last_take (i := 8) (v := ?v8b) rfl (by kernel_rfl) (by kernel_rfl) (by kernel_rfl) (by kernel_rfl) rfl (fun _ _ _ h => h) (by rfl) HS0 ?hy8b ?rest8b
                  case hy8b =>
                    intro xx hSx
                    obtain ⟨s1, s2, s3, s4⟩ := hSx
                    go_simp
                    try (with_reducible rfl)
                  simp only [Act.put, List.setIfInBounds_toArray, List.set_cons_zero, List.set_cons_succ]
                  refine last_take (i := 9) (v := ?v9b) rfl (by kernel_rfl) (by kernel_rfl) (by kernel_rfl) (by kernel_rfl) rfl (fun _ _ _ h => h) (by rfl) HS0 ?hy9b ?rest9b
                  case hy9b =>
                    intro xx hSx
                    obtain ⟨s1, s2, s3, s4⟩ := hSx
                    go_simp
                    try (with_reducible rfl)
                  simp only [Act.put, List.setIfInBounds_toArray, List.set_cons_zero, List.set_cons_succ]
                  refine last_take (i := 10) (v := ?v10b) rfl (by kernel_rfl) (by kernel_rfl) (by kernel_rfl) (by kernel_rfl) rfl (fun _ _ _ h => h) (by rfl) HS0 ?hy10b ?rest10b
                  case hy10b =>
                    intro xx hSx
                    obtain ⟨s1, s2, s3, s4⟩ := hSx
                    go_simp
                    try (with_reducible rfl)
                  simp only [Act.put, List.setIfInBounds_toArray, List.set_cons_zero, List.set_cons_succ]
                  refine last_take (i := 11) (v := ?v11b) rfl (by kernel_rfl) (by kernel_rfl) (by kernel_rfl) (by kernel_rfl) rfl (fun _ _ _ h => h) (by rfl) HS0 ?hy11b ?rest11b
                  case hy11b =>
                    intro xx hSx
                    obtain ⟨s1, s2, s3, s4⟩ := hSx
                    go_simp
                    try (with_reducible rfl)
                  simp only [Act.put, List.setIfInBounds_toArray, List.set_cons_zero, List.set_cons_succ]
                  refine last_take (i := 12) (v := ?v12b) rfl (by kernel_rfl) (by kernel_rfl) (by kernel_rfl) (by kernel_rfl) rfl (fun _ _ _ h => h) (by rfl) HS0 ?hy12b ?rest12b
                  case hy12b =>
                    intro xx hSx
                    obtain ⟨s1, s2, s3, s4⟩ := hSx
                    go_simp
                    try (with_reducible rfl)
                  simp only [Act.put, List.setIfInBounds_toArray, List.set_cons_zero, List.set_cons_succ]
                  refine last_take (i := 13) (v := ?v13b) rfl (by kernel_rfl) (by kernel_rfl) (by kernel_rfl) (by kernel_rfl) rfl (fun _ _ _ h => h) (by rfl) HS0 ?hy13b ?rest13b
                  case hy13b =>
                    intro xx hSx
                    obtain ⟨s1, s2, s3, s4⟩ := hSx
                    go_simp
                    try (with_reducible rfl)
                  simp only [Act.put, List.setIfInBounds_toArray, List.set_cons_zero, List.set_cons_succ]
                  refine last_take (i := 14) (v := ?v14b) rfl (by kernel_rfl) (by kernel_rfl) (by kernel_rfl) (by kernel_rfl) rfl (fun _ _ _ h => h) (by rfl) HS0 ?hy14b ?rest14b
                  case hy14b =>
                    intro xx hSx
                    obtain ⟨s1, s2, s3, s4⟩ := hSx
                    go_simp
                    try (with_reducible rfl)
                  simp only [Act.put, List.setIfInBounds_toArray, List.set_cons_zero, List.set_cons_succ]
                  clear hwA hwB
                  refine last_one (i := 15) (by kernel_rfl) rfl ?_
                  intro K9 hK9
                  go_simp
                  refine hK9.out _ _ (fun _ => HS0) (fun _ => ?_)
                  clear hK9 K9
                  refine last_one (i := 16) (by kernel_rfl) rfl ?_
                  intro K3 hK3
                  go_simp
                  refine hK3.out _ _ (fun h => absurd rfl h) (fun _ => ?_)
                  clear hK3 K3
                  refine last_done (by kernel_rfl) ?_ _
                  go_wp2
                  go_meet
                  have hne : ∀ b, b ≠ g5 → ((((W7.drew).setCell ⟨g5, i * 3, none⟩ (.int .i64 y.job)).setCell ⟨g5, i * 3 + 1, none⟩ (.int .i64 y.nd)).setCell ⟨g5, i * 3 + 2, none⟩ (.int .i64 y.lm)).heap[b]? = W7.heap[b]? := fun b hb => (Below.heap_setCell _ _ _ _ hb).trans ((Below.heap_setCell _ _ _ _ hb).trans (Below.heap_setCell _ _ _ _ hb))
                  exact ⟨row_setW (W := W7.drew) HR7.out, (hne sb (Ne.symm hgs)).trans HBK7.out, (hne zx (Ne.symm hgx)).trans HKX.out, ((HC7.out.drew.setCell _ _ (.inr hg5)).setCell _ _ (.inr hg5)).setCell _ _ (.inr hg5)⟩
                case rest =>
                  obtain ⟨hr8, hb8, hx8, hc8⟩ := hcut
                  have m28 := cells_at hb8 (k := 2) rfl
                  have x80 := cells_at hx8 (k := 0) rfl
                  have x81 := cells_at hx8 (k := 1) rfl
                  have x82 := cells_at hx8 (k := 2) rfl
                  obtain ⟨⟨w0, w1, w2⟩, wf⟩ := HXK.out wc hr8
                  have wf0 := wf (k * 3)
                  have wf1 := wf (k * 3 + 1)
                  have wf2 := wf (k * 3 + 2)
                  have HR8 : Hid (wc.ownsRow V2.heap.size 40 3 (.slice (some ⟨g5, 0, none⟩) n c5) n (flatW (L.set i y))) := hr8
                  have HB8 : Hid (wc.heap[sb]? = some (.cells #[.int .i64 now, .int .i64 free2, .slice (some ⟨g5, 0, none⟩) n c5, .int .i64 ho, vr2] 53 (0, 0))) := hb8
                  have HC8 : Hid (Chg (fun i => i = sb) V2 wc) := hc8
                  clear hr8 hb8 hx8 hc8 wf y0 y1 y2 z0 z1 z2 zf0 zf1 zf2 m27
                  go_upto_region 33 with fail
                  refine wp_region_last (S := (fun x' : World => x'.cell? ⟨sb, 2, none⟩ = some (.slice (some ⟨g5, 0, none⟩) n c5) ∧ x'.cell? ⟨zx, 0, none⟩ = some (.int .i64 x.job) ∧ x'.cell? ⟨zx, 1, none⟩ = some (.int .i64 x.nd) ∧ x'.cell? ⟨zx, 2, none⟩ = some (.int .i64 x.lm))) (L := 10) (by kernel_rfl) ?_
                  have HS0 : (fun x' : World => x'.cell? ⟨sb, 2, none⟩ = some (.slice (some ⟨g5, 0, none⟩) n c5) ∧ x'.cell? ⟨zx, 0, none⟩ = some (.int .i64 x.job) ∧ x'.cell? ⟨zx, 1, none⟩ = some (.int .i64 x.nd) ∧ x'.cell? ⟨zx, 2, none⟩ = some (.int .i64 x.lm)) wc.drew := ⟨m28, x80, x81, x82⟩
                  have hwA := HWA.out
                  have hwB := HWB.out
                  refine last_take (i := 0) (v := ?v0c) rfl (by kernel_rfl) (by kernel_rfl) (by kernel_rfl) (by kernel_rfl) rfl (fun _ _ _ h => h) (by rfl) HS0 ?hy0c ?rest0c
                  case hy0c =>
                    intro xx hSx
                    obtain ⟨s1, s2, s3, s4⟩ := hSx
                    go_simp
                    try (with_reducible rfl)
                  simp only [Act.put, List.setIfInBounds_toArray, List.set_cons_zero, List.set_cons_succ]
                  refine last_take (i := 1) (v := ?v1c) rfl (by kernel_rfl) (by kernel_rfl) (by kernel_rfl) (by kernel_rfl) rfl (fun _ _ _ h => h) (by rfl) HS0 ?hy1c ?rest1c
                  case hy1c =>
                    intro xx hSx
                    obtain ⟨s1, s2, s3, s4⟩ := hSx
                    go_simp
                    try (with_reducible rfl)
                  simp only [Act.put, List.setIfInBounds_toArray, List.set_cons_zero, List.set_cons_succ]
                  refine last_take (i := 2) (v := ?v2c) rfl (by kernel_rfl) (by kernel_rfl) (by kernel_rfl) (by kernel_rfl) rfl (fun _ _ _ h => h) (by rfl) HS0 ?hy2c ?rest2c
                  case hy2c =>
                    intro xx hSx
                    obtain ⟨s1, s2, s3, s4⟩ := hSx
                    go_simp
                    try (with_reducible rfl)
                  simp only [Act.put, List.setIfInBounds_toArray, List.set_cons_zero, List.set_cons_succ]
                  refine last_take (i := 3) (v := ?v3c) rfl (by kernel_rfl) (by kernel_rfl) (by kernel_rfl) (by kernel_rfl) rfl (fun _ _ _ h => h) (by rfl) HS0 ?hy3c ?rest3c
                  case hy3c =>
                    intro xx hSx
                    obtain ⟨s1, s2, s3, s4⟩ := hSx
                    go_simp
                    try (with_reducible rfl)
                  simp only [Act.put, List.setIfInBounds_toArray, List.set_cons_zero, List.set_cons_succ]
                  refine last_take (i := 4) (v := ?v4c) rfl (by kernel_rfl) (by kernel_rfl) (by kernel_rfl) (by kernel_rfl) rfl (fun _ _ _ h => h) (by rfl) HS0 ?hy4c ?rest4c
                  case hy4c =>
                    intro xx hSx
                    obtain ⟨s1, s2, s3, s4⟩ := hSx
                    go_simp
                    try (with_reducible rfl)
                  simp only [Act.put, List.setIfInBounds_toArray, List.set_cons_zero, List.set_cons_succ]
                  refine last_take (i := 5) (v := ?v5c) rfl (by kernel_rfl) (by kernel_rfl) (by kernel_rfl) (by kernel_rfl) rfl (fun _ _ _ h => h) (by rfl) HS0 ?hy5c ?rest5c
                  case hy5c =>
                    intro xx hSx
                    obtain ⟨s1, s2, s3, s4⟩ := hSx
                    go_simp
                    try (with_reducible rfl)
                  simp only [Act.put, List.setIfInBounds_toArray, List.set_cons_zero, List.set_cons_succ]
                  refine last_take (i := 6) (v := ?v6c) rfl (by kernel_rfl) (by kernel_rfl) (by kernel_rfl) (by kernel_rfl) rfl (fun _ _ _ h => h) (by rfl) HS0 ?hy6c ?rest6c
                  case hy6c =>
                    intro xx hSx
                    obtain ⟨s1, s2, s3, s4⟩ := hSx
                    go_simp
                    try (with_reducible rfl)
                  simp only [Act.put, List.setIfInBounds_toArray, List.set_cons_zero, List.set_cons_succ]
                  refine last_take (i := 7) (v := ?v7c) rfl (by kernel_rfl) (by kernel_rfl) (by kernel_rfl) (by kernel_rfl) rfl (fun _ _ _ h => h) (by rfl) HS0 ?hy7c ?rest7c
                  case hy7c =>
                    intro xx hSx
                    obtain ⟨s1, s2, s3, s4⟩ := hSx
                    go_simp
                    try (with_reducible rfl)
                  simp only [Act.put, List.setIfInBounds_toArray, List.set_cons_zero, List.set_cons_succ]
                  refine last_take (i := 8) (v := ?v8c) rfl (by kernel_rfl) (by kernel_rfl) (by kernel_rfl) (by kernel_rfl) rfl (fun _ _ _ h => h) (by rfl) HS0 ?hy8c ?rest8c
                  case hy8c =>
                    intro xx hSx
                    obtain ⟨s1, s2, s3, s4⟩ := hSx
                    go_simp
                    try (with_reducible rfl)
                  simp only [Act.put, List.setIfInBounds_toArray, List.set_cons_zero, List.set_cons_succ]
                  clear hwA hwB
                  refine last_one (i := 9) (by kernel_rfl) rfl ?_
                  intro K9 hK9
                  go_simp
                  refine hK9.out _ _ (fun _ => HS0) (fun _ => ?_)
                  clear hK9 K9
                  refine last_one (i := 10) (by kernel_rfl) rfl ?_
                  intro K3 hK3
                  go_simp
                  refine hK3.out _ _ (fun h => absurd rfl h) (fun _ => ?_)
                  clear hK3 K3
                  refine last_done (by kernel_rfl) ?_ _
                  go_wp2
                  go_roundg (hf - (i + 1))
                  case measure => omega
                  case rel =>
                    have hne : ∀ b, b ≠ g5 → ((((wc.drew).setCell ⟨g5, k * 3, none⟩ (.int .i64 x.job)).setCell ⟨g5, k * 3 + 1, none⟩ (.int .i64 x.nd)).setCell ⟨g5, k * 3 + 2, none⟩ (.int .i64 x.lm)).heap[b]? = wc.heap[b]? := fun b hb => (Below.heap_setCell _ _ _ _ hb).trans ((Below.heap_setCell _ _ _ _ hb).trans (Below.heap_setCell _ _ _ _ hb))
                    exact ⟨i + 1, (L.set i y).set k x, by omega, rfl, HNX.out, (hne sb (Ne.symm hgs)).trans HB8.out, row_setW (W := wc.drew) HR8.out, ((HC8.out.drew.setCell _ _ (.inr hg5)).setCell _ _ (.inr hg5)).setCell _ _ (.inr hg5)⟩
              · have HFF := HFIN.out L wr hp hblk hrow hch
                have m2 := cells_at hblk (k := 2) rfl
                clear hp hblk hrow hch
                go_wp2
                go_end0
                exact ⟨rfl, HFF⟩
          · have HFF := HFIN.out _ wc HP0.out HB0.out HR0.out HC0.out
            go_wp2
            go_end0
            exact ⟨rfl, HFF⟩
end Go.Proofs.Ytdkibcagbidelaa
