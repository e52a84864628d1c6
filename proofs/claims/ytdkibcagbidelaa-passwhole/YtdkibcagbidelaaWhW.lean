/-
  THE STATEMENT PassWhole: the walk.
-/
import Derived.Test.YtdkibcagbidelaaWhA
namespace Go.Proofs.Ytdkibcagbidelaa
open Go.RowKit Pr

theorem sumW_take {l : List Wt} {j : Nat} {r : Wt} (h : l[j]? = some r) : sumW (l.take (j + 1)) = sumW (l.take j) + r.nd := by
  rw [List.take_add_one, h, sumW_app]
  simp [sumW]
theorem sumW_ge0 {l : List Wt} (h : ∀ w ∈ l, 1 ≤ w.nd) : 0 ≤ sumW l := by
  induction l with
  | nil => simp [sumW]
  | cons a l ih =>
    have := ih (fun w hw => h w (List.mem_cons_of_mem _ hw))
    have := h a (List.mem_cons_self)
    simp only [sumW]
    omega
set_option maxRecDepth 20000 in
set_option maxHeartbeats 16000000 in
theorem whole_walk {w : World} {wo ao : Option Addr} {ws : List Wt} {rs : List Rn} {cw cr : Nat} (hW : WantsAt w wo ws) (hA : RunsAt w ao rs) (hnw : ws.length * 24 ≤ 140737488351232) (hn : rs.length * 16 ≤ 140737488351232) (hj : ∀ x ∈ ws, JobOk x) (hnil : ao = none → rs.length = 0 ∧ cr = 0) (now free ho : Int) :
    Calls Try.prog 4 #[.agg #[.int .i64 now, .int .i64 free, .slice wo ws.length cw, .int .i64 ho, .slice ao rs.length cr]] w fun e w' => e = .returned (.bool true) ∧ Below w.heap.size w w' := by
  obtain ⟨za, hza⟩ : ∃ za, w.heap.size = za := ⟨_, rfl⟩
  obtain ⟨W1, hW1⟩ : ∃ W1, w.alloc (.cells #[.int .i64 now, .int .i64 free, .slice wo ws.length cw, .int .i64 ho, .slice ao rs.length cr] 25) = W1 := ⟨_, rfl⟩
  have b1 : Below w.heap.size w W1 := by rw [← hW1]; exact (Below.refl _ w).alloc (Nat.le_refl _) _
  have ka : W1.heap[za]? = some (.cells #[.int .i64 now, .int .i64 free, .slice wo ws.length cw, .int .i64 ho, .slice ao rs.length cr] 25 (0, 0)) := by
    rw [← hW1, ← hza]
    exact heap_alloc_new w _
  have CP : Hid (∀ W, Below w.heap.size w W → Calls Try.prog 13 #[.int .i64 now, .int .i64 free, .slice wo ws.length cw, .int .i64 ho, .slice ao rs.length cr] W fun e w' =>
      ∃ v, e = .returned (.tuple #[planV v (passR now free ws ho rs), .int .i64 (passE now free ws ho rs)]) ∧ w'.ownsRow W.heap.size 3 1 v (passR now free ws ho rs).st.length (intsV (passR now free ws ho rs).st) ∧ Below W.heap.size W w') :=
    fun W b => pass_any (hA.below b) (by omega) (hW.below b) (by omega) hj now free ho
  have HKA : Hid _ := ka
  have HB1 : Hid _ := b1
  clear ka b1
  go_enter Try.func4, Try.ntmps4
  go_upto_region 3 with (go_at_call 8; refine (shown_any _).mono ?_; rintro e w2 ⟨rfl, b2⟩)
  have HZA : Hid (w.heap.size = za) := hza
  clear hza
  have B2 : Below w.heap.size w w2 := HB1.out.trans (b2.mono HB1.out.size)
  have ka := bk b2 HKA.out
  have c0 := cells_at ka (k := 0) rfl
  have c1 := cells_at ka (k := 1) rfl
  have c2 := cells_at ka (k := 2) rfl
  have c3 := cells_at ka (k := 3) rfl
  have c4 := cells_at ka (k := 4) rfl
  have C1 := CP.out w2 B2
  have HKA2 : Hid _ := ka
  have HB2 : Hid _ := B2
  clear ka B2 b2 HB1 HKA hW1 CP
  have hbe : Hid ((chkB now free ws ho rs = false ∧ passE now free ws ho rs = 150 ∧ passR now free ws ho rs = ⟨[], 0, 0, 0⟩) ∨ (chkB now free ws ho rs = true ∧ passE now free ws ho rs = 0 ∧ passR now free ws ho rs = passV now free ws ho rs)) := by
    unfold passE passR
    cases chkB now free ws ho rs
    · exact .inl ⟨rfl, rfl, rfl⟩
    · exact .inr ⟨rfl, rfl, rfl⟩
  unfold planV at C1
  generalize passE now free ws ho rs = PE at *
  generalize passR now free ws ho rs = PV at *
  obtain ⟨n, hnl⟩ : ∃ n, PV.st.length = n := ⟨_, rfl⟩
  rw [hnl] at C1
  have HNL : Hid (PV.st.length = n) := hnl
  clear hnl
  go_upto_region 4 with (go_at_call 13; refine C1.mono ?_; rintro e w3 ⟨v, rfl, hr, b3⟩; obtain ⟨sa, sc, rfl, hi3⟩ := ints_row (l := PV.st) (by rw [HNL.out]; exact hr))
  rw [HNL.out] at hr ⊢
  obtain ⟨zp, hzp⟩ : ∃ zp, w3.heap.size = zp := ⟨_, rfl⟩
  obtain ⟨W3, hW3⟩ : ∃ W3, w3.alloc (.cells #[.slice sa n sc, .int .i64 PV.ho, .int .i64 PV.sh, .int .i64 PV.ex] 30) = W3 := ⟨_, rfl⟩
  have bw3 : Below w3.heap.size w3 W3 := by rw [← hW3]; exact (Below.refl _ w3).alloc (Nat.le_refl _) _
  have b23 : Below w2.heap.size w2 W3 := b3.trans (bw3.mono b3.size)
  have HKP : Hid (W3.heap[zp]? = some (.cells #[.slice sa n sc, .int .i64 PV.ho, .int .i64 PV.sh, .int .i64 PV.ex] 30 (0, 0))) := show _ = _ by rw [← hW3, ← hzp]; exact heap_alloc_new w3 _
  have HI3 : Hid (IntsAt W3 sa PV.st) := hi3.below bw3
  have hcap : n ≤ sc := by
    rcases hr.2 with ⟨e9, h0⟩ | ⟨g9, cap9, cur9, e9, _, _, hc9, _⟩
    · injection e9 with ea eb ec
      omega
    · injection e9 with ea eb ec
      omega
  have HKA3 : Hid _ := bk b23 HKA2.out
  have HB3 : Hid (Below w.heap.size w W3) := HB2.out.trans (b23.mono HB2.out.size)
  have hzz : Hid (za ≠ zp ∧ w.heap.size ≤ zp) := by
    have h1 := lt_of_blk HKA2.out
    have h2 := b3.size
    have h3 := HB2.out.size
    have h4 := HZA.out
    exact ⟨by omega, by omega⟩
  try rw [hW3]
  try rw [hzp]
  have p0 := cells_at HKP.out (k := 0) rfl
  clear C1 hr b3 bw3 b23 hi3 HKA2 HB2 c0 c1 c2 c3 c4 hzp hW3
  rcases hbe.out with ⟨hc, rfl, rfl⟩ | ⟨hc, rfl, hpv⟩
  · have hn0 : n = 0 := HNL.out.symm
    subst hn0
    go_wp2
    go_ret
    exact ⟨by first | rfl | simp, HB3.out⟩
  · have hck := chk_iff.1 hc
    obtain ⟨st, Y, hwh⟩ := pass_whole hck
    rw [← hpv] at hwh
    have hlen : st.length = n := by rw [← HNL.out, hwh.sts, List.length_map]
    have hn256 : n ≤ 256 := by rw [← hlen]; exact hwh.len
    obtain ⟨⟨f0, f1⟩, hokr⟩ := right_parts.1 hck.rt
    have n0 := hck.n0
    have n1 := hck.n1
    have HWH : Hid (Whole now free ws ho rs PV st Y) := hwh
    have HCK : Hid (Chk now free ws ho rs) := hck
    have HLE : Hid (st.length = n) := hlen
    clear hwh hck hc hpv hlen hbe
    have d1 := cells_at HKA3.out (k := 1) rfl
    obtain ⟨zr, hzr⟩ : ∃ zr, W3.heap.size = zr := ⟨_, rfl⟩
    obtain ⟨W4, hW4⟩ : ∃ W4, W3.alloc (.cells #[] 45) = W4 := ⟨_, rfl⟩
    have b34 : Below W3.heap.size W3 W4 := by rw [← hW4]; exact (Below.refl _ W3).alloc (Nat.le_refl _) _
    have HR4 : Hid (W4.ownsRow W3.heap.size 45 2 (.slice (some ⟨zr, 0, none⟩) 0 0) 0 []) := show W4.ownsRow W3.heap.size 45 2 (.slice (some ⟨zr, 0, none⟩) 0 0) 0 [] by rw [← hW4, ← hzr]; exact made0 W3 45 2
    have d4 := cells_at (bk b34 HKA3.out) (k := 4) rfl
    have HB34 : Hid _ := b34
    have HCR : Hid (∀ ad, ao = some ad → ∀ j u, (flatR rs)[j]? = some u → W4.cell? (ad.add j) = some u) := fun ad had j u hu => by
      have hwa := hA.below (HB3.out.trans (b34.mono HB3.out.size))
      obtain ⟨g9, o9, h9, k9⟩ := hwa
      have hjl := (List.getElem?_eq_some_iff.1 hu).1
      rw [flatR_len] at hjl
      have e9 := h9 (by omega)
      rw [had] at e9
      obtain rfl := Option.some.inj e9
      exact flatR_cell k9 j u hu
    have HFR : Hid _ := flatR_len rs
    obtain ⟨i0, hi0, hz0, hz1, hz2⟩ := info_parts Try.inf45
    have HHN : Hid (rs.length * 16 ≤ 140737488351232) := hn
    clear b34
    go_upto_region 9 with (at_builtin; refine wpList_append_any rfl (.tmp 47) (.tmp 49) 23 rfl W3.heap.size 45 i0 _ 2 16 Try.underlying23 hi0 hz0 hz1 hz2 rfl (by decide) (.slice (some ⟨zr, 0, none⟩) 0 0) 0 [] rfl HR4.out ao rs.length cr (flatR rs) rfl hnil HFR.out HCR.out (flatR_one rs) ?_ ?_ ?_ ?_; exact (Nat.le_trans (m := 35184372088832) (by omega) (by decide)); omega; exact HB34.out.size; intro v5 w5 hr5 hg5)
    rw [Nat.zero_add, List.nil_append] at hr5
    have b35 : Below W3.heap.size W3 w5 := HB34.out.grown hg5 HB34.out.size (fun k e => by
      have : zr = k := by simpa [Value.ownBlock] using e
      omega)
    have HR5 : Hid (w5.ownsRow W3.heap.size 45 2 v5 rs.length (flatR rs)) := hr5
    have HB35 : Hid (Below W3.heap.size W3 w5) := b35
    clear hr5 b35 hg5 HR4 HB34 HCR HFR d4 d1 p0 hW4 hzr
    go_wp2
    go_loopg [5, 6, 7] n (fun gk p5 p6 p7 wr => ∃ (j : Nat) (v : Value), j + gk = n ∧ p5 = .int .i64 (free - sumW (st.take j)) ∧ p6 = v ∧ p7 = .int .i64 j ∧ wr.ownsRow W3.heap.size 45 2 v (rs.length + j) (flatR (rs ++ (st.take j).map (rOf now))) ∧ Below W3.heap.size W3 wr)
    case atStart =>
      refine ⟨0, v5, by omega, by simp [sumW], rfl, rfl, ?_, HB35.out⟩
      simpa using HR5.out
    case round =>
      obtain ⟨j, v, hjg, rfl, rfl, rfl, hrow, hbw⟩ := hrel
      have kp := bk hbw HKP.out
      have p0 := cells_at kp (k := 0) rfl
      clear kp
      by_cases hlt : j < n
      · obtain ⟨r, hr⟩ : ∃ r, st[j]? = some r := ⟨_, List.getElem?_eq_getElem (by have := HLE.out; omega)⟩
        have HRT : Hid (st[j]? = some r) := hr
        obtain ⟨hf, hfit, hneh, hcon⟩ := HWH.out.each j r hr
        obtain ⟨hr1, hr2, hr3, hr4⟩ := HWH.out.pos r (List.mem_of_getElem? hr)
        obtain ⟨ga, oa, hga, hgc⟩ := HI3.out
        have hsj : PV.st[j]? = some r.job := by rw [HWH.out.sts, List.getElem?_map, hr]; rfl
        obtain rfl := hga (by have := HNL.out; omega)
        have HGC : Hid (∀ k v, PV.st[k]? = some v → W3.cell? ⟨ga, oa + k, none⟩ = some (.int .i64 v)) := hgc
        have hcj := hgc j r.job hsj
        have B : Below w.heap.size w wr := HB3.out.trans (hbw.mono HB3.out.size)
        have HBW : Hid (Below W3.heap.size W3 wr) := hbw
        have HB4 : Hid (Below w.heap.size w wr) := B
        have HRW : Hid (wr.ownsRow W3.heap.size 45 2 _ (rs.length + j) (flatR (rs ++ (st.take j).map (rOf now)))) := hrow
        have cW : ∀ x, Below wr.heap.size wr x → Calls Try.prog 14 #[.slice wo ws.length cw, .int .i64 r.job] x fun e w' => e = .returned (.tuple #[.agg #[.int .i64 r.job, .int .i64 r.nd, .int .i64 r.lm], .bool true]) ∧ Below x.heap.size x w' := fun x hx => want_yes (hW.below (HB4.out.trans (hx.mono HB4.out.size))) (by omega) hf
        have HC : Hid (∀ x, Below wr.heap.size wr x → x.cell? ⟨za, 2, none⟩ = some (.slice wo ws.length cw) ∧ x.cell? ⟨zp, 0, none⟩ = some (.slice (some ⟨ga, oa, none⟩) n sc) ∧ x.cell? ⟨ga, oa + j, none⟩ = some (.int .i64 r.job)) := fun x hx => by
          have hx3 := HBW.out.trans (hx.mono HBW.out.size)
          exact ⟨cells_at (bk hx3 HKA3.out) (k := 2) rfl, cells_at (bk hx3 HKP.out) (k := 0) rfl, (hx3.cell (World.block_lt_of_cell? _ _ hcj)).trans hcj⟩
        have HC1 : Hid (wr.drew.cell? ⟨za, 2, none⟩ = some (.slice wo ws.length cw) ∧ wr.drew.cell? ⟨zp, 0, none⟩ = some (.slice (some ⟨ga, oa, none⟩) n sc) ∧ wr.drew.cell? ⟨ga, oa + j, none⟩ = some (.int .i64 r.job)) := HC.out wr.drew ((Below.refl _ wr).drew)
        have hsp := sumW_ge0 (l := st.take j) (fun x hx => (HWH.out.pos x (List.mem_of_mem_take hx)).1)
        generalize hfr : free - sumW (st.take j) = fr at *
        have hfub : fr ≤ 256 := by omega
        have HFR : Hid (free - sumW (st.take j) = fr) := hfr
        clear hr hf hsj hcj hrow hbw B hgc hga hfr hsp
        go_upto_region 12 with fail
        go_cut [8, 9] (fun v8 v9 x => ∃ rb, v8 = .pointer (some ⟨rb, 0, none⟩) ∧ v9 = .bool true ∧ x.heap[rb]? = some (.cells #[.int .i64 r.job, .int .i64 r.nd, .int .i64 r.lm] 40 (0, 0)) ∧ Below wr.heap.size wr x)
        case first =>
          as_aux_lemma =>
            go_region_held3 (fun x => x.cell? ⟨za, 2, none⟩ = some (.slice wo ws.length cw) ∧ x.cell? ⟨zp, 0, none⟩ = some (.slice (some ⟨ga, oa, none⟩) n sc) ∧ x.cell? ⟨ga, oa + j, none⟩ = some (.int .i64 r.job)) (first | exact HC1.out | exact HC.out _ (by assumption) | exact HC.out _ BY.out | exact HC.out _ (((Below.refl _ wr).drew).alloc (Nat.le_refl _) _) | exact HC.out _ (BY.out.alloc BY.out.size _) | exact HC.out _ (below3 BY.out (Nat.le_refl _))) (first
              | (go_at_call 14; refine (cW _ (by first | exact (Below.refl _ wr).drew | exact ((Below.refl _ wr).drew).alloc (Nat.le_refl _) _ | exact ((Below.refl _ wr).alloc (Nat.le_refl _) _).drew)).mono ?_; rintro e y ⟨rfl, hy⟩; have BY : Hid (Below wr.heap.size wr y) := (by first | exact ((Below.refl _ wr).drew).trans hy | exact (((Below.refl _ wr).drew).alloc (Nat.le_refl _) _).trans (hy.mono (by simp)) | exact (((Below.refl _ wr).alloc (Nat.le_refl _) _).drew).trans (hy.mono (by simp))); first | (have zb : y.heap[wr.heap.size]? = some (.cells #[.int .i64 0, .int .i64 0, .int .i64 0] 40 (0, 0)) := (hy.block _ (by simp)).trans (heap_alloc_new wr _); have z0 : y.cell? ⟨wr.heap.size, 0, none⟩ = some (.int .i64 0) := cells_at zb rfl; have z1 : y.cell? ⟨wr.heap.size, 1, none⟩ = some (.int .i64 0) := cells_at zb rfl; have z2 : y.cell? ⟨wr.heap.size, 2, none⟩ = some (.int .i64 0) := cells_at zb rfl; have z3 : y.frozen? ⟨wr.heap.size, 0, none⟩ = false := frozen_at zb; have z4 : y.frozen? ⟨wr.heap.size, 1, none⟩ = false := frozen_at zb; have z5 : y.frozen? ⟨wr.heap.size, 2, none⟩ = false := frozen_at zb; have HZB : Hid (y.heap[wr.heap.size]? = some (.cells #[.int .i64 0, .int .i64 0, .int .i64 0] 40 (0, 0))) := zb; clear zb) | skip))
            all_goals
              go_wp2
              go_meet
              first
              | exact ⟨wr.heap.size, rfl, rfl, set3 HZB.out, below3 BY.out (Nat.le_refl _)⟩
              | exact ⟨y.heap.size, rfl, rfl, heap_alloc_new y _, BY.out.alloc BY.out.size _⟩
              | exact ⟨y.heap.size, rfl, rfl, set3 (heap_alloc_new y _), below3 (BY.out.alloc BY.out.size _) BY.out.size⟩
        case rest =>
          obtain ⟨rb, rfl, rfl, hrb, hbx⟩ := hcut
          have HX : Hid (wc.heap[rb]? = some (.cells #[.int .i64 r.job, .int .i64 r.nd, .int .i64 r.lm] 40 (0, 0)) ∧ Below wr.heap.size wr wc) := ⟨hrb, hbx⟩
          have q0 := cells_at hrb (k := 0) rfl
          have q1 := cells_at hrb (k := 1) rfl
          have q2 := cells_at hrb (k := 2) rfl
          have hx3 := HBW.out.trans (hbx.mono HBW.out.size)
          have p0 := cells_at (bk hx3 HKP.out) (k := 0) rfl
          have p1 := cells_at (bk hx3 HKP.out) (k := 1) rfl
          have a0 := cells_at (bk hx3 HKA3.out) (k := 0) rfl
          have hia : IntsAt wc (some ⟨ga, oa, none⟩) (PV.st.take j) := ⟨ga, oa, fun _ => rfl, fun k v hv => by
            have hv2 : PV.st[k]? = some v := by
              rw [List.getElem?_take] at hv
              split at hv
              · exact hv
              · cases hv
            have := HGC.out k v hv2
            exact (hx3.cell (World.block_lt_of_cell? _ _ this)).trans this⟩
          have htl : (PV.st.take j).length = j := by rw [List.length_take, HNL.out]; omega
          have htc : (PV.st.take j).contains r.job = false := by rw [HWH.out.sts, ← List.map_take]; exact hcon
          have CH : Hid (∀ m, Calls Try.prog 15 #[.slice (some ⟨ga, oa, none⟩) j sc, .int .i64 r.job] (wc.drewN m) fun e w' => e = .returned (.bool false) ∧ w' = wc.drewN m) := fun m => by
            have := has_any (w := wc.drewN m) (c := sc) (l := PV.st.take j) hia (by rw [htl]; omega) r.job
            rw [htl, htc] at this
            exact this
          have hjs : j ≤ sc := by omega
          have hneh' : ¬ r.job = PV.ho := hneh
          have hg1 : decide (fr < r.nd) = false := decide_eq_false (by omega)
          have hg2 : (r.job == PV.ho) = false := beq_false_of_ne hneh
          have hg3 : ¬ fr < r.nd := by omega
          clear hrb hbx HC HC1 cW hx3 hia htl htc hcon
          go_upto_region 13 with fail
          go_quiet ((go_at_call 15; exact Calls.quiet_of_same (CH.out _)))
          all_goals
            have HRX : Hid ((wc.drewN nq).ownsRow W3.heap.size 45 2 _ (rs.length + j) (flatR (rs ++ (st.take j).map (rOf now)))) := rowB (below_drewN HX.out.2 nq) HRW.out
            have HXB : Hid (Below W3.heap.size W3 (wc.drewN nq)) := HBW.out.trans ((below_drewN HX.out.2 nq).mono HBW.out.size)
            have q1 : (wc.drewN nq).cell? ⟨rb, 1, none⟩ = some (.int .i64 r.nd) := q1
            have q2 : (wc.drewN nq).cell? ⟨rb, 2, none⟩ = some (.int .i64 r.lm) := q2
            have a0 : (wc.drewN nq).cell? ⟨za, 0, none⟩ = some (.int .i64 now) := a0
            generalize (wc.drewN nq) = X at *
            have hzw := HXB.out.size
            have hHHN := HHN.out
            clear HX HRW HBW HB4 CH p0 p1
            go_wp2_with (at_builtin; refine wpList_append_own_at _ rfl (.tmp 97) (.tmp 106) 23 rfl W3.heap.size 45 i0 _ 2 16 Try.underlying23 hi0 hz0 hz1 hz2 rfl (by decide) _ (rs.length + j) (flatR (rs ++ (st.take j).map (rOf now))) rfl (HRX.out.alloc _) ⟨X.heap.size, 0, none⟩ 1 1 [.int .i64 r.nd, .int .i64 (now + r.lm)] rfl rfl (World.news_of_block (cs := #[.int .i64 r.nd, .int .i64 (now + r.lm)]) (t := 45) (fr := (0, 0)) (heap_alloc_new X _)) (by simp [Value.oneCell']) (Nat.le_trans (m := 35184372088832) (by omega) (by decide)) (by omega) (by simp; omega) ?_; intro v' w7 hown hgr _ _)
            go_roundg (n - (j + 1))
            case measure => omega
            case rel =>
              refine ⟨j + 1, v', by omega, ?_, rfl, rfl, ?_, ?_⟩
              · rw [sumW_take HRT.out]
                have := HFR.out
                congr 1
                have e9 : wrap64 (fr - r.nd) = fr - r.nd := (by unfold wrap64; omega)
                omega
              · rw [List.take_add_one, HRT.out, List.map_append, ← List.append_assoc, flatR_app (rs ++ _)]
                exact hown
              · exact (HXB.out.alloc hzw _).grown hgr (by simp; omega) (fun k e => (row_tag HRX.out e).1)
      · obtain rfl : n = j := by omega
        have htk : st.take n = st := List.take_of_length_le (by have := HLE.out; omega)
        rw [htk] at hrow ⊢
        generalize hfr : free - sumW st = fr at *
        have HFR : Hid (free - sumW st = fr) := hfr
        have hfnn : 0 ≤ fr := by have := HWH.out.nn; omega
        have hl2 : (rs ++ st.map (rOf now)).length = rs.length + n := by rw [List.length_append, List.length_map, HLE.out]
        obtain ⟨ra, rc, hv, hRR⟩ := row_runs (l := rs ++ st.map (rOf now)) (by rw [hl2]; exact hrow)
        rw [hl2] at hv
        subst hv
        have HRR : Hid (RunsAt wr ra (rs ++ st.map (rOf now))) := hRR
        have HL2 : Hid ((rs ++ st.map (rOf now)).length = rs.length + n) := hl2
        have B : Below w.heap.size w wr := HB3.out.trans (hbw.mono HB3.out.size)
        have HB4 : Hid (Below w.heap.size w wr) := B
        have ka := bk hbw HKA3.out
        have HKA4 : Hid _ := ka
        have HKP4 : Hid _ := bk hbw HKP.out
        have a2 := cells_at ka (k := 2) rfl
        have a3 := cells_at ka (k := 3) rfl
        have HI4 : Hid (IntsAt wr sa PV.st) := HI3.out.below hbw
        have CW := want_any (c := cw) (hW.below B) (by omega) ho
        have HOL : Hid (∀ h0, findW ws ho = some h0 → (h0.nd ≤ free → ∃ t, PV.st = ho :: t) ∧ (free < h0.nd → PV.ho = ho)) := HWH.out.old
        clear hbw hrow hRR hl2 B ka htk hfr HKA3 HKP HI3 HB3 HR5 HB35
        go_upto_region 17 with fail
        go_cut [10, 11] (fun v10 v11 x => ∃ rb b, v10 = .pointer (some ⟨rb, 0, none⟩) ∧ v11 = .bool b ∧ b = (findW ws ho).isSome ∧ (∀ h0, findW ws ho = some h0 → x.cell? ⟨rb, 1, none⟩ = some (.int .i64 h0.nd)) ∧ Below wr.heap.size wr x)
        case first =>
          cases hfo : findW ws ho with
          | none =>
            rw [hfo] at CW
            unfold fwV at CW
            go_wp2_with (go_at_call 14; refine CW.mono ?_; rintro e y ⟨rfl, hy⟩)
            go_meet
            exact ⟨y.heap.size, _, rfl, rfl, (by rw [hfo]; rfl), (fun _ h => by rw [hfo] at h; cases h), hy.alloc hy.size _⟩
          | some h0 =>
            rw [hfo] at CW
            unfold fwV at CW
            go_wp2_with (go_at_call 14; refine CW.mono ?_; rintro e y ⟨rfl, hy⟩)
            go_meet
            exact ⟨y.heap.size, _, rfl, rfl, (by rw [hfo]; rfl), (fun _ h => by rw [hfo] at h; cases h; exact cells_at (heap_alloc_new y _) (k := 1) rfl), hy.alloc hy.size _⟩
        case rest =>
          obtain ⟨rb, bb, rfl, rfl, hbb, hrb, hbx⟩ := hcut
          have HBB : Hid (bb = (findW ws ho).isSome) := hbb
          have HBX : Hid (Below wr.heap.size wr wc) := hbx
          have k1 := cells_at (bk hbx HKP4.out) (k := 1) rfl
          have k0 := cells_at (bk hbx HKP4.out) (k := 0) rfl
          have b1 := cells_at (bk hbx HKA4.out) (k := 1) rfl
          have b3 := cells_at (bk hbx HKA4.out) (k := 3) rfl
          clear a2 a3 CW hbx hbb
          go_upto_region 18 with fail
          go_cut [155] (fun v155 x => v155 = .bool false ∧ Below wr.heap.size wr x)
          case first =>
            cases hfo : findW ws ho with
            | none =>
              obtain rfl : bb = false := by rw [HBB.out, hfo]; rfl
              clear hrb HBB
              as_aux_lemma =>
                go_quiet (fail)
                all_goals
                  go_wp2
                  go_meet
                  exact ⟨by first | rfl | simp, below_drewN HBX.out _⟩
            | some h0 =>
              have hb1 := hrb h0 hfo
              obtain rfl : bb = true := by rw [HBB.out, hfo]; rfl
              clear hrb HBB
              obtain ⟨t1, t2⟩ := HOL.out h0 hfo
              by_cases hle : h0.nd ≤ free
              · obtain ⟨t, ht⟩ := t1 hle
                have hnp : 0 < n := by rw [← HNL.out, ht]; simp
                obtain ⟨ga, oa, hga, hgc⟩ := HI4.out.below HBX.out
                obtain rfl := hga (by rw [ht]; simp)
                have s0 : wc.cell? ⟨ga, oa, none⟩ = some (.int .i64 ho) := hgc 0 ho (by rw [ht]; rfl)
                have hg1 : decide (free < h0.nd) = false := decide_eq_false (by omega)
                have hg2 : decide (h0.nd ≤ free) = true := decide_eq_true hle
                have hg3 : ((n : Int) == 0) = false := beq_false_of_ne (by omega)
                have hn0 : (n : Int) ≠ 0 := by omega
                clear ht hgc hga t1 t2
                as_aux_lemma =>
                  go_quiet (fail)
                  all_goals
                    go_wp2
                    go_meet
                    exact ⟨by first | rfl | simp, below_drewN HBX.out _⟩
              · have hph := t2 (by omega)
                rw [hph] at k1
                have hg1 : decide (free < h0.nd) = true := decide_eq_true (by omega)
                have hg2 : decide (h0.nd ≤ free) = false := decide_eq_false hle
                have hg4 : free < h0.nd := by omega
                clear t1 t2 hph
                as_aux_lemma =>
                  go_quiet (fail)
                  all_goals
                    go_wp2
                    go_meet
                    exact ⟨by first | rfl | simp, below_drewN HBX.out _⟩
          case rest =>
            obtain ⟨rfl, hbx⟩ := hcut
            have HBX2 : Hid (Below wr.heap.size wr wc) := hbx
            have ka := bk hbx HKA4.out
            have kp := bk hbx HKP4.out
            have a0 := cells_at ka (k := 0) rfl
            have a2 := cells_at ka (k := 2) rfl
            have p0 := cells_at kp (k := 0) rfl
            have p1 := cells_at kp (k := 1) rfl
            have p2 := cells_at kp (k := 2) rfl
            have p3 := cells_at kp (k := 3) rfl
            have HBW : Hid (Below w.heap.size w wc) := HB4.out.trans (hbx.mono HB4.out.size)
            clear hbx ka kp k0 k1 b1 b3 hrb HBX HOL
            by_cases hneg : PV.ho < 0
            · obtain ⟨g1, g2, g3, g4⟩ := HWH.out.over hneg
              rw [HLE.out] at g4
              rw [g1] at p1
              rw [g2] at p2
              rw [g3] at p3
              clear hneg g1 g2 g3
              subst g4
              go_wp2
              go_ret
              exact ⟨by first | rfl | simp, HBW.out⟩
            · obtain ⟨h, hfh, hfr, hsh, hYe⟩ := HWH.out.hold (by omega)
              rw [HFR.out] at hfr hsh
              have CW := want_yes (c := cw) (hW.below HBW.out) (by omega) hfh
              have hhb := HCK.out.wt h (List.mem_of_find?_eq_some hfh)
              have hok2 : (rs ++ st.map (rOf now)).length * 16 ≤ 140737488355328 := by have := HL2.out; have := HHN.out; omega
              have CS : Hid (∀ x, Below wr.heap.size wr x → Calls Try.prog 16 #[.int .i64 now, .int .i64 fr, .slice ra (rs.length + n) rc, .int .i64 h.nd] x fun e w' => e = .returned (.tuple #[.int .i64 PV.sh, .int .i64 Y, .bool true]) ∧ Below x.heap.size x w') := fun x hx => by
                have := shadow_any (c := rc) (HRR.out.below hx) hok2 now fr h.nd
                rw [hsh, HL2.out] at this
                refine this.mono ?_
                rintro e w' ⟨rfl, hb⟩
                refine ⟨?_, hb⟩
                show Ending.returned (.tuple #[.int .i64 PV.sh, .int .i64 (Y + h.nd - h.nd), .bool true]) = _
                rw [show Y + h.nd - h.nd = Y by omega]
              have HREST : Hid (∀ x ∈ ws, x.job ≠ PV.ho → PV.st.contains x.job = false → fr < x.nd ∨ (PV.sh < now + x.lm ∧ Y < x.nd)) := by
                have := HWH.out.rest (by omega)
                rw [HFR.out] at this
                exact this
              have hg0 : ¬ h.nd ≤ fr := by omega
              clear hfh hsh hok2
              go_upto_region 23 with (go_at_call 14; refine CW.mono ?_; rintro e w8 ⟨rfl, b8⟩)
              obtain ⟨zh, hzh⟩ : ∃ zh, w8.heap.size = zh := ⟨_, rfl⟩
              obtain ⟨W9, hW9⟩ : ∃ W9, w8.alloc (.cells #[.int .i64 h.job, .int .i64 h.nd, .int .i64 h.lm] 40) = W9 := ⟨_, rfl⟩
              have b9 : Below wc.heap.size wc W9 := by rw [← hW9]; exact b8.alloc b8.size _
              have kh : W9.heap[zh]? = some (.cells #[.int .i64 h.job, .int .i64 h.nd, .int .i64 h.lm] 40 (0, 0)) := by rw [← hW9, ← hzh]; exact heap_alloc_new w8 _
              have h1 := cells_at kh (k := 1) rfl
              try rw [hW9]
              try rw [hzh]
              have HB9 : Hid (Below wr.heap.size wr W9) := HBX2.out.trans (b9.mono HBX2.out.size)
              have a0 := cells_at (bk HB9.out HKA4.out) (k := 0) rfl
              clear b8 b9 kh hW9 hzh CW a2 p0 p1 p2 p3
              have C6 := CS.out W9 HB9.out
              go_upto_region 26 with (go_at_call 16; refine C6.mono ?_; rintro e w10 ⟨rfl, b10⟩)
              have HB10 : Hid (Below wr.heap.size wr w10) := HB9.out.trans (b10.mono HB9.out.size)
              have p2 := cells_at (bk HB10.out HKP4.out) (k := 2) rfl
              have p3 := cells_at (bk HB10.out HKP4.out) (k := 3) rfl
              have hg5 : ¬ PV.ex < Y := by omega
              clear b10 C6 h1 a0 HB9
              go_upto_region 28 with fail
              clear p2 p3
              obtain ⟨m, hm⟩ : ∃ m, ws.length = m := ⟨_, rfl⟩
              have HM : Hid (ws.length = m) := hm
              have hm24 : m * 24 ≤ 140737488351232 := by rw [← hm]; exact hnw
              clear hm
              go_wp2
              obtain ⟨V4, hV4⟩ : ∃ V4, V4 = wr := ⟨_, rfl⟩
              subst hV4
              go_loopg [16] m (fun gk p16 wq => ∃ (k : Nat), k + gk = m ∧ p16 = .int .i64 k ∧ Below V4.heap.size V4 wq)
              case atStart => exact ⟨0, by omega, rfl, HB10.out⟩
              case round =>
                obtain ⟨k, hkg, rfl, hbq⟩ := hrel
                have BQ : Below w.heap.size w wr := HB4.out.trans (hbq.mono HB4.out.size)
                have a2 := cells_at (bk hbq HKA4.out) (k := 2) rfl
                rw [HM.out] at a2
                by_cases hk : k < m
                · obtain ⟨x, hx⟩ : ∃ x, ws[k]? = some x := ⟨_, List.getElem?_eq_getElem (by have := HM.out; omega)⟩
                  obtain ⟨gw, ow, hgw, hwc⟩ := hW.below BQ
                  obtain rfl := hgw (by have := HM.out; omega)
                  obtain ⟨y0, y1, y2⟩ := hwc k x hx
                  have hxb := HCK.out.wt x (List.mem_of_getElem? hx)
                  have HRX := HREST.out x (List.mem_of_getElem? hx)
                  clear hwc hgw hx
                  go_upto_region 32 with fail
                  obtain ⟨zx, hzx⟩ : ∃ zx, wr.heap.size = zx := ⟨_, rfl⟩
                  obtain ⟨Wx, hWx⟩ : ∃ Wx, wr.alloc (.cells #[.int .i64 x.job, .int .i64 x.nd, .int .i64 x.lm] 40) = Wx := ⟨_, rfl⟩
                  have bx : Below wr.heap.size wr Wx := by rw [← hWx]; exact (Below.refl _ wr).alloc (Nat.le_refl _) _
                  have kx : Wx.heap[zx]? = some (.cells #[.int .i64 x.job, .int .i64 x.nd, .int .i64 x.lm] 40 (0, 0)) := by rw [← hWx, ← hzx]; exact heap_alloc_new wr _
                  have x0 := cells_at kx (k := 0) rfl
                  have x1 := cells_at kx (k := 1) rfl
                  have x2 := cells_at kx (k := 2) rfl
                  try rw [hWx]
                  try rw [hzx]
                  have bx4 : Below V4.heap.size V4 Wx := hbq.trans (bx.mono hbq.size)
                  have HBX9 : Hid (Below V4.heap.size V4 Wx) := bx4
                  have p0 := cells_at (bk bx4 HKP4.out) (k := 0) rfl
                  have p1 := cells_at (bk bx4 HKP4.out) (k := 1) rfl
                  have p2 := cells_at (bk bx4 HKP4.out) (k := 2) rfl
                  have a0 := cells_at (bk bx4 HKA4.out) (k := 0) rfl
                  have CHs := has_any (c := sc) (HI4.out.below bx4) (by rw [HNL.out]; omega) x.job
                  rw [HNL.out] at CHs
                  clear bx bx4 kx hWx hzx y0 y1 y2 a2 hbq BQ
                  by_cases e1 : x.job = PV.ho
                  · rw [e1] at x0
                    go_wp2
                    go_roundg (m - (k + 1))
                    case measure => omega
                    case rel => exact ⟨k + 1, by omega, rfl, HBX9.out⟩
                  · have e1' : (x.job == PV.ho) = false := beq_false_of_ne e1
                    cases e2 : PV.st.contains x.job with
                    | true =>
                      rw [e2] at CHs
                      go_wp2_with (go_at_call 15; refine CHs.mono ?_; rintro e w' ⟨rfl, rfl⟩)
                      go_roundg (m - (k + 1))
                      case measure => omega
                      case rel => exact ⟨k + 1, by omega, rfl, HBX9.out⟩
                    | false =>
                      rw [e2] at CHs
                      have HRX := HRX e1 e2
                      by_cases h6 : fr < x.nd
                      · clear HRX
                        go_wp2_with (go_at_call 15; refine CHs.mono ?_; rintro e w' ⟨rfl, rfl⟩)
                        go_roundg (m - (k + 1))
                        case measure => omega
                        case rel => exact ⟨k + 1, by omega, rfl, HBX9.out⟩
                      · have h7 : ¬ x.nd ≤ Y := by omega
                        have h8 : ¬ now + x.lm ≤ PV.sh := by omega
                        have h9 : decide (fr < x.nd) = false := decide_eq_false h6
                        clear HRX
                        go_wp2_with (go_at_call 15; refine CHs.mono ?_; rintro e w' ⟨rfl, rfl⟩)
                        go_roundg (m - (k + 1))
                        case measure => omega
                        case rel => exact ⟨k + 1, by omega, rfl, HBX9.out⟩
                · obtain rfl : m = k := by omega
                  have HBQ : Hid (Below w.heap.size w wr) := BQ
                  clear BQ
                  go_wp2
                  go_ret
                  exact ⟨by first | rfl | simp, HBQ.out⟩
end Go.Proofs.Ytdkibcagbidelaa
