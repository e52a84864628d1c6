/-
  ProfileLess, walked: the runs turned around.
-/
import Derived.Test.YtljkllhpghjbiaaShown
import Derived.Test.YtljkllhpghjbiaaPrL
import Derived.Test.YtljkllhpghjbiaaLwD
import Derived.Deep.CutBlock
import Derived.Deep.DeepCutAuto
namespace Go.Proofs.Ytljkllhpghjbiaa
open Go.RowKit Pr

/-- One of the lent runs ends earlier. -/
theorem early_runs {W : World} {g i : Nat} {cur : Array Value} {l : List Rn} {r : Rn} {e : Int} (hg : W.heap[g]? = some (.cells cur 42 (0, 0)))
    (hcur : ∀ j x, l[j]? = some x → cur[j * 2]? = some (.int .i64 x.nd) ∧ cur[j * 2 + 1]? = some (.int .i64 x.en)) (hi : l[i]? = some r) :
    RunsAt (W.setCell ⟨g, i * 2 + 1, none⟩ (.int .i64 e)) (some ⟨g, 0, none⟩) (l.set i ⟨r.nd, e⟩) := by
  have h1 := heap_setCell_same W g (i * 2 + 1) cur 42 (.int .i64 e) hg
  have hil : i < l.length := (List.getElem?_eq_some_iff.1 hi).1
  have hsz : i * 2 + 1 < cur.size := (Array.getElem?_eq_some_iff.1 (hcur i r hi).2).1
  refine ⟨g, 0, fun _ => rfl, fun k x hx => ?_⟩
  rw [Nat.zero_add]
  by_cases hk : k = i
  · subst hk
    rw [List.getElem?_set_self hil] at hx
    injection hx with hx
    subst hx
    refine ⟨cells_at h1 ?_, cells_at h1 ?_⟩
    · rw [Array.getElem?_setIfInBounds_ne (by omega)]; exact (hcur k r hi).1
    · rw [Array.getElem?_setIfInBounds_self_of_lt hsz]
  · rw [List.getElem?_set_ne (fun h => hk h.symm)] at hx
    refine ⟨cells_at h1 ?_, cells_at h1 ?_⟩
    · rw [Array.getElem?_setIfInBounds_ne (by omega)]; exact (hcur k x hx).1
    · rw [Array.getElem?_setIfInBounds_ne (by omega)]; exact (hcur k x hx).2
namespace Pr
theorem parts_at {l : List Rn} {i : Nat} {r : Rn} (h : l[i]? = some r) : l = l.take i ++ r :: l.drop (i + 1) := by
  obtain ⟨hi, rfl⟩ := List.getElem?_eq_some_iff.1 h
  rw [← List.drop_eq_getElem_cons hi, List.take_append_drop]
theorem parts_set {l : List Rn} {i : Nat} {r x : Rn} (h : l[i]? = some r) : l.set i x = l.take i ++ x :: l.drop (i + 1) := by
  rw [List.set_eq_take_append_cons_drop, if_pos (List.getElem?_eq_some_iff.1 h).1]
theorem all_parts {l : List Rn} {i : Nat} {r : Rn} (h : l[i]? = some r) (hok : l.all okR = true) : (l.take i).all okR = true ∧ okR r = true ∧ (l.drop (i + 1)).all okR = true := by
  rw [parts_at h, List.all_append, List.all_cons] at hok
  simpa using hok
theorem early_shadow {now free need T e : Int} {l : List Rn} {i : Nat} {r : Rn} (hr : right free l = true) (hn : 0 ≤ need) (hs : IsSh now free l need T) (h : l[i]? = some r) (he : e ≤ r.en) : ∃ s, shadowV now free (l.set i ⟨r.nd, e⟩) need = some s ∧ s.at_ ≤ T := by
  obtain ⟨hf, hok⟩ := right_parts.1 hr
  obtain ⟨p1, p2, p3⟩ := all_parts h hok
  have p2' := okR_le p2
  refine shadow_more (right_parts.2 ⟨hf, ?_⟩) hn hs (fun u => ?_)
  · rw [parts_set h, List.all_append, List.all_cons, p1, p3]
    simp [okR]
    omega
  · rw [at_su, at_su]
    have := su_early (a := l.take i) (b := l.drop (i + 1)) p2 he u
    rw [← parts_at h, ← parts_set (x := ⟨r.nd, e⟩) h] at this
    omega
theorem gone_shadow {now free need T : Int} {l : List Rn} {i : Nat} {r : Rn} (hr : right free l = true) (hn : 0 ≤ need) (hs : IsSh now free l need T) (h : l[i]? = some r) (hf : free + r.nd ≤ 256) : ∃ s, shadowV now (free + r.nd) (l.take i ++ l.drop (i + 1)) need = some s ∧ s.at_ ≤ T := by
  obtain ⟨⟨f0, f1⟩, hok⟩ := right_parts.1 hr
  obtain ⟨p1, p2, p3⟩ := all_parts h hok
  have p2' := okR_le p2
  refine shadow_more (right_parts.2 ⟨⟨by omega, hf⟩, ?_⟩) hn hs (fun u => ?_)
  · rw [List.all_append, p1, p3]; rfl
  · rw [at_su, at_su]
    have := su_gone (a := l.take i) (b := l.drop (i + 1)) p2 u
    rw [← parts_at h] at this
    omega
end Pr
theorem rev_at {l : List Rn} {j m : Nat} {r : Rn} (h : l[m]? = some r) (hm : j + 1 + m = l.length) : l.reverse[j]? = some r := by
  rw [List.getElem?_reverse (by omega), show l.length - 1 - j = m by omega]; exact h

set_option maxHeartbeats 8000000 in
set_option maxRecDepth 20000 in
theorem less_walk {w : World} {ao : Option Addr} {l : List Rn} {c : Nat} (hA : RunsAt w ao l) (hnil : ao = none → l = [] ∧ c = 0) (hlc : l.length ≤ c) (hn : l.length * 16 + 256 ≤ 140737488355328) (now free need which en k : Int) :
    Calls Try.prog 6 #[.int .i64 now, .int .i64 free, .slice ao l.length c, .int .i64 need, .int .i64 which, .int .i64 en, .int .i64 k] w fun e w' => e = .returned (.bool true) ∧ Below w.heap.size w w' := by
  go_enter Try.func6, Try.ntmps6
  go_wp2_with fail
  refine (shown_any _).mono ?_
  rintro e w1 ⟨rfl, b1⟩
  go_wp2_with fail
  refine (pshadow_any (hA.below b1) (by omega) now free need).mono ?_
  cases hs : shadowV now free l need with
  | none =>
    rintro e w2 ⟨rfl, b2⟩
    unfold shA
    go_wp2
    go_ret
    exact ⟨rfl, b1.trans (b2.mono b1.size)⟩
  | some s =>
    rintro e w2 ⟨rfl, b2⟩
    unfold shA
    have B2 := b1.trans (b2.mono b1.size)
    obtain ⟨hr, hnd⟩ := shadow_right hs
    obtain ⟨hsh, hfr⟩ := shadow_some hs
    obtain ⟨⟨f0, f1⟩, hok⟩ := right_parts.1 hr
    have hrev := shadow_rev now free need l
    rw [hs] at hrev
    have A2 := hA.below B2
    obtain ⟨g1, o1, hg1, hc1⟩ := A2
    obtain ⟨q, hq⟩ : ∃ q, l.length = q := ⟨_, rfl⟩
    obtain ⟨i0, hi0, hz0, hz1, hz2⟩ := info_parts Try.inf42
    have HREV : Hid _ := hrev
    have HSH : Hid (IsSh now free l need s.at_) := hsh
    have HR : Hid _ := hr
    have HOK : Hid _ := hok
    have HFR : Hid _ := hfr
    have HS0 : Hid (shadowV now free l need = some s) := hs
    have HA : Hid (RunsAt w ao l) := hA
    have HNIL : Hid (ao = none → l = [] ∧ c = 0) := hnil
    have own0 := own_empty w2
    clear hrev hsh hr hok hfr b1 b2 hs hA hnil
    rw [hq] at hg1 hlc hn ⊢
    go_wp2_with fail
    go_loopg [19, 20] q (fun gk p i wr => ∃ (j : Nat) (v : Value), j + gk = q ∧ p = v ∧ i = .int .i64 j ∧ wr.ownsRow w2.heap.size 42 2 v j (flatR (l.reverse.take j)) ∧ Below w2.heap.size w2 wr)
    case atStart => exact ⟨0, _, by omega, rfl, rfl, by simpa [flatR] using own0, (Below.refl _ w2).alloc (Nat.le_refl _) _⟩
    case round =>
      obtain ⟨j, v, hj, hp, rfl, hrow, hb⟩ := hrel
      subst hp
      by_cases hlt : j < q
      · obtain ⟨m, hm⟩ : ∃ m, j + 1 + m = q := ⟨q - (j + 1), by omega⟩
        obtain ⟨r, hr⟩ : ∃ r, l[m]? = some r := ⟨_, List.getElem?_eq_getElem (by omega)⟩
        obtain rfl := hg1 (by omega)
        obtain ⟨d1, d2⟩ := hc1 m r hr
        replace d1 := cellB hb d1
        replace d2 := cellB hb d2
        have hfl := flatR_take (rev_at (j := j) hr (by omega))
        have hm1 : (q : Int) - 1 - (j : Int) = m := by omega
        have hm2 : (m : Int) < q := by omega
        have HFL : Hid _ := hfl
        have hsz := hb.size
        clear hfl hc1 hg1 hr
        go_wp2_with (first
          | (at_builtin; refine wpList_append_own_at _ rfl (.tmp 48) (.tmp 56) 22 rfl w2.heap.size 42 i0 _ 2 16 Try.underlying22 hi0 hz0 hz1 hz2 rfl (by decide) _ j (flatR (l.reverse.take j)) rfl (hrow.alloc _) ⟨_, 0, none⟩ 1 1 [.int .i64 r.nd, .int .i64 r.en] rfl rfl (new_cells _ _ _) (fun u hu => by simp at hu; rcases hu with rfl | rfl <;> rfl) (Nat.le_trans (m := 35184372088832) (by omega) (by decide)) (by omega) (by simp; omega) ?_; intro v' w5 hown hgr _ _))
        go_roundg (q - (j + 1))
        case measure => omega
        case rel =>
          refine ⟨j + 1, v', by omega, rfl, rfl, ?_, belowR_gr (hb.alloc hsz _) (hrow.alloc _) (Nat.le_refl _) hgr⟩
          rw [HFL.out]
          exact hown
      · obtain rfl : j = q := by omega
        rw [List.take_of_length_le (by simp; omega)] at hrow
        obtain ⟨ao3, cap3, rfl, hA3⟩ := runs_row (l := l.reverse) (by rw [List.length_reverse, hq]; exact hrow)
        have hsd := pshadow_any (c := cap3) hA3 (by rw [List.length_reverse, hq]; omega) now free need
        rw [HREV.out] at hsd
        rw [List.length_reverse, hq] at hsd ⊢
        clear hrow
        go_wp2_with fail
        refine hsd.mono ?_
        rintro e w6 ⟨rfl, b6⟩
        unfold shA
        have B6 : Hid (Below w.heap.size w w6) := B2.trans ((hb.trans (b6.mono hb.size)).mono B2.size)
        clear hsd hA3 hc1 hg1 own0 hb b6 B2
        go_upto_region 15 with fail
        have A6 : Hid (RunsAt w6 ao l) := RunsAt.below HA.out B6.out
        obtain ⟨tw, htw⟩ : ∃ tw : Bool, tw = decide (0 ≤ which ∧ which < j) := ⟨_, rfl⟩
        go_cut [85] (fun t wc => t = .bool tw ∧ w6 = wc)
        case first =>
          by_cases h0 : 0 ≤ which
          · by_cases h1 : which < j
            · have e : tw = true := by simp [htw, h0, h1]
              clear htw
              subst e
              go_wp2
              go_meet
              exact ⟨rfl, rfl⟩
            · have e : tw = false := by simp [htw, h1]
              clear htw
              subst e
              go_wp2
              go_meet
              exact ⟨rfl, rfl⟩
          · have e : tw = false := by simp [htw, h0]
            clear htw
            subst e
            go_wp2
            go_meet
            exact ⟨rfl, rfl⟩
        case rest =>
          obtain ⟨rfl, rfl⟩ := hcut
          go_upto_if 85 with fail
          go_cut [21, 23, 24, 25] (fun _ _ _ _ wc => Below w.heap.size w wc)
          case first => as_aux_lemma =>
            by_cases hw : 0 ≤ which ∧ which < j
            · have e : tw = true := by simp [htw, hw]
              clear htw
              subst e
              obtain ⟨i, rfl⟩ : ∃ i : Nat, which = i := ⟨which.toNat, by omega⟩
              obtain ⟨r, hri⟩ : ∃ r, l[i]? = some r := ⟨_, List.getElem?_eq_getElem (by omega)⟩
              have hld := lend_any (c := c) A6.out HNIL.out (by omega)
              rw [hq] at hld
              have HRI : Hid _ := hri
              clear hri
              go_wp2_with fail
              refine hld.mono ?_
              rintro e w7 ⟨v, rfl, hrow, b7⟩
              rw [← hq] at hrow
              obtain ⟨g, cap, cur, hv, hg7, hh7, hle7, hmx7, hcur7, hA7⟩ := lent_row hrow
              subst hv
              rw [hq] at hle7 ⊢
              have hcurl : ∀ m x, l[m]? = some x → cur[m * 2]? = some (.int .i64 x.nd) ∧ cur[m * 2 + 1]? = some (.int .i64 x.en) := fun m x hx => hcur7 m x (by rw [List.getElem?_append_left (List.getElem?_eq_some_iff.1 hx).1]; exact hx)
              have e7 : w7.cell? ⟨g, i * 2 + 1, none⟩ = some (.int .i64 r.en) := cells_at hh7 (hcurl i r HRI.out).2
              have f7 : w7.frozen? ⟨g, i * 2 + 1, none⟩ = false := frozen_at hh7
              have B7 : Hid (Below w.heap.size w w7) := B6.out.trans (b7.mono B6.out.size)
              have H7 : Hid (w7.heap[g]? = some (.cells cur 42 (0, 0))) := hh7
              have HC7 : Hid (∀ m x, l[m]? = some x → cur[m * 2]? = some (.int .i64 x.nd) ∧ cur[m * 2 + 1]? = some (.int .i64 x.en)) := hcurl
              have HA7 : Hid (RunsAt w7 (some ⟨g, 0, none⟩) l) := hA7
              have hgw : w.heap.size ≤ g := Nat.le_trans B6.out.size hg7
              have hnr := okR_le (all_parts HRI.out HOK.out).2.1
              clear hld hrow hcur7 hcurl hh7 hA7 hmx7 b7
              go_upto_if 96 with fail
              go_cut [] (fun wc => ∃ (le : List Rn) (s' : Stp), RunsAt wc (some ⟨g, 0, none⟩) le ∧ le.length = j ∧ shadowV now free le need = some s' ∧ s'.at_ ≤ s.at_ ∧ Below w.heap.size w wc)
              case first => as_aux_lemma =>
                by_cases he : en < r.en
                · obtain ⟨s', h1, h2⟩ := early_shadow (e := en) HR.out hnd HSH.out HRI.out (by omega)
                  have hE := early_runs (e := en) H7.out HC7.out HRI.out
                  go_wp2
                  go_meet
                  exact ⟨_, s', hE, by simp [hq], h1, h2, B7.out.setCell (p := ⟨g, i * 2 + 1, none⟩) hgw _⟩
                · go_wp2
                  go_meet
                  exact ⟨l, s, HA7.out, hq, HS0.out, Int.le_refl _, B7.out⟩
              case rest => as_aux_lemma =>
                obtain ⟨le, s', hAe, hle, hse, hsle, hbe⟩ := hcut
                have hsd := pshadow_any (c := cap) hAe (by rw [hle]; omega) now free need
                rw [hse, hle] at hsd
                clear hAe hse e7 f7 HA7 HC7 H7
                go_wp2_with fail
                refine hsd.mono ?_
                rintro e w8 ⟨rfl, b8⟩
                have B8 := hbe.trans (b8.mono hbe.size)
                have A8 : RunsAt w8 ao l := RunsAt.below HA.out B8
                obtain ⟨g2, o2, hg2, hc2⟩ := A8
                obtain rfl := hg2 (by omega)
                unfold shA
                have hns : ¬ s.at_ < s'.at_ := by omega
                have own8 := own_empty w8
                have b80 : Below w8.heap.size w8 (w8.alloc (.cells #[] 42)) := (Below.refl _ w8).alloc (Nat.le_refl _) _
                have cT : ∀ W', Below w8.heap.size w8 W' → ∀ m u, (flatR (l.take i))[m]? = some u → W'.cell? ((⟨g2, o2, none⟩ : Addr).add m) = some u := fun W' hb => flatR_cell (fun k x hx => by
                  have hkx : l[k]? = some x := by
                    rw [List.getElem?_take] at hx
                    split at hx
                    · exact hx
                    · cases hx
                  exact ⟨cellB hb (hc2 k x hkx).1, cellB hb (hc2 k x hkx).2⟩)
                have cD : ∀ W', Below w8.heap.size w8 W' → ∀ m u, (flatR (l.drop (i + 1)))[m]? = some u → W'.cell? ((⟨g2, o2 + (i + 1) * 2, none⟩ : Addr).add m) = some u := fun W' hb => flatR_cell (fun k x hx => by
                  have hkx : l[i + 1 + k]? = some x := by rw [List.getElem?_drop] at hx; exact hx
                  have := hc2 _ x hkx
                  rw [show o2 + (i + 1 + k) * 2 = o2 + (i + 1) * 2 + k * 2 by omega] at this
                  exact ⟨cellB hb this.1, cellB hb this.2⟩)
                have hf1 : (flatR (l.take i)).length = i * 2 := by rw [flatR_len, List.length_take]; omega
                have hf2 : (flatR (l.drop (i + 1))).length = (j - (i + 1)) * 2 := by rw [flatR_len, List.length_drop]; omega
                have HF1 : Hid _ := hf1
                have HF2 : Hid _ := hf2
                have d8 := (hc2 i r HRI.out).1
                have HCT : Hid _ := cT
                have HCD : Hid _ := cD
                clear cT cD hf1 hf2 hc2 hg2 hsd hbe b8
                obtain ⟨xa, xm, xb, hx, hxx⟩ : ∃ xa xm xb, shA need (shadowV now (free + r.nd) (l.take i ++ l.drop (i + 1)) need) = .tuple #[.int .i64 xa, .int .i64 xm, .bool xb] ∧ (free + r.nd ≤ 256 → xb = true ∧ xa ≤ s.at_) := by
                  by_cases hfn : free + r.nd ≤ 256
                  · obtain ⟨s10, h1, h2⟩ := gone_shadow HR.out hnd HSH.out HRI.out hfn
                    rw [h1]
                    exact ⟨_, _, _, rfl, fun _ => ⟨rfl, h2⟩⟩
                  · obtain ⟨xa, xm, xb, h⟩ := shA_any need (shadowV now (free + r.nd) (l.take i ++ l.drop (i + 1)) need)
                    exact ⟨xa, xm, xb, h, fun h' => absurd h' hfn⟩
                obtain ⟨z, hz⟩ : ∃ z, z = i + (j - (i + 1)) := ⟨_, rfl⟩
                have hlr : (l.take i ++ l.drop (i + 1)).length = z := by simp; omega
                have fin : ∀ W' v', W'.ownsRow w8.heap.size 42 2 v' z (flatR (l.take i) ++ flatR (l.drop (i + 1))) → ∃ ao' cap', v' = .slice ao' z cap' ∧ Calls Try.prog 11 #[.int .i64 now, .int .i64 (free + r.nd), .slice ao' z cap', .int .i64 need] W' fun e w' => e = .returned (.tuple #[.int .i64 xa, .int .i64 xm, .bool xb]) ∧ Below W'.heap.size W' w' := fun W' v' hrow => by
                  obtain ⟨ao', cap', hv', hA'⟩ := runs_row (l := l.take i ++ l.drop (i + 1)) (by rw [flatR_app, hlr]; exact hrow)
                  have := pshadow_any (c := cap') hA' (by rw [hlr]; omega) now (free + r.nd) need
                  rw [hx, hlr] at this
                  rw [hlr] at hv'
                  exact ⟨ao', cap', hv', this⟩
                have HFIN : Hid _ := fin
                have HZ : Hid _ := hz
                have HXX : Hid (free + r.nd ≤ 256 → xb = true ∧ xa ≤ s.at_) := hxx
                have HD : c = i + 1 → Hid (flatR (l.drop (i + 1)) = []) := fun hc => show flatR (l.drop (i + 1)) = [] by rw [List.drop_of_length_le (by omega)]; rfl
                clear fin hx hlr hz hxx
                by_cases hci : c = i + 1
                · have HD0 := HD hci
                  clear HD
                  subst hci
                  go_upto_region 23 with fail
                  go_wp2_with (first
                    | (at_builtin; refine wpList_append_own_at _ rfl (.tmp 119) (.tmp 122) 22 rfl w8.heap.size 42 i0 _ 2 16 Try.underlying22 hi0 hz0 hz1 hz2 rfl (by decide) (.slice (some ⟨w8.heap.size, 0, none⟩) 0 0) 0 [] rfl own8 ⟨g2, o2, none⟩ i _ (flatR (l.take i)) rfl HF1.out (HCT.out _ b80) (flatR_one _) ?_ ?_ ?_ ?_; exact (Nat.le_trans (m := 35184372088832) (by omega) (by decide)); omega; simp; intro v9 w9 hown9 hgr9 _ _; have hown9' : w9.ownsRow w8.heap.size 42 2 v9 i (flatR (l.take i)) := (by simpa using hown9); have b9 := belowR_gr b80 own8 (Nat.le_refl _) hgr9)
                    | (at_builtin; refine wpList_append_own_at _ rfl (.tmp 124) (.tmp 128) 22 rfl w8.heap.size 42 i0 _ 2 16 Try.underlying22 hi0 hz0 hz1 hz2 rfl (by decide) v9 i (flatR (l.take i)) rfl hown9' _ _ _ (flatR (l.drop (i + 1))) rfl ?_ ?_ (flatR_one _) ?_ ?_ b9.size ?_; (have := HF2.out; omega); (intro m u hu; rw [HD0.out] at hu; simp at hu); exact (Nat.le_trans (m := 35184372088832) (by omega) (by decide)); omega; intro v10 w10 hown10 hgr10 _ _; obtain ⟨n10, hn10, hown10'⟩ : ∃ n10, n10 = z ∧ w10.ownsRow w8.heap.size 42 2 v10 n10 (flatR (l.take i) ++ flatR (l.drop (i + 1))) := ⟨_, by have := HZ.out; omega, hown10⟩; subst hn10; obtain ⟨ao10, cap10, hv10, hcl10⟩ := HFIN.out w10 v10 hown10'; subst hv10; have b10 := belowR_gr b9 hown9' (Nat.le_refl _) hgr10; have d10 := cellB b10 d8))
                  refine hcl10.mono ?_
                  rintro e w11 ⟨rfl, b11⟩
                  have d11 := cellB b11 d10
                  have B11 : Hid (Below w.heap.size w w11) := B8.trans ((b10.trans (b11.mono b10.size)).mono B8.size)
                  clear hcl10 hown10 hown10' hgr10 hown9 hown9' hgr9 own8 b80 b9 b10 b11 HCT HCD HF1 HF2 HFIN B8
                  by_cases hfn : free + r.nd ≤ 256
                  · obtain ⟨rfl, hxa⟩ := HXX.out hfn
                    have hxa' : ¬ s.at_ < xa := by omega
                    go_wp2
                    go_meet
                    exact B11.out
                  · go_wp2
                    go_meet
                    exact B11.out
                · clear HD
                  go_upto_region 23 with fail
                  go_wp2_with (first
                    | (at_builtin; refine wpList_append_own_at _ rfl (.tmp 119) (.tmp 122) 22 rfl w8.heap.size 42 i0 _ 2 16 Try.underlying22 hi0 hz0 hz1 hz2 rfl (by decide) (.slice (some ⟨w8.heap.size, 0, none⟩) 0 0) 0 [] rfl own8 ⟨g2, o2, none⟩ i _ (flatR (l.take i)) rfl HF1.out (HCT.out _ b80) (flatR_one _) ?_ ?_ ?_ ?_; exact (Nat.le_trans (m := 35184372088832) (by omega) (by decide)); omega; simp; intro v9 w9 hown9 hgr9 _ _; have hown9' : w9.ownsRow w8.heap.size 42 2 v9 i (flatR (l.take i)) := (by simpa using hown9); have b9 := belowR_gr b80 own8 (Nat.le_refl _) hgr9)
                    | (at_builtin; refine wpList_append_own_at _ rfl (.tmp 124) (.tmp 128) 22 rfl w8.heap.size 42 i0 _ 2 16 Try.underlying22 hi0 hz0 hz1 hz2 rfl (by decide) v9 i (flatR (l.take i)) rfl hown9' _ _ _ (flatR (l.drop (i + 1))) rfl ?_ ?_ (flatR_one _) ?_ ?_ b9.size ?_; (have := HF2.out; omega); exact HCD.out _ b9; exact (Nat.le_trans (m := 35184372088832) (by omega) (by decide)); omega; intro v10 w10 hown10 hgr10 _ _; obtain ⟨n10, hn10, hown10'⟩ : ∃ n10, n10 = z ∧ w10.ownsRow w8.heap.size 42 2 v10 n10 (flatR (l.take i) ++ flatR (l.drop (i + 1))) := ⟨_, by have := HZ.out; omega, hown10⟩; subst hn10; obtain ⟨ao10, cap10, hv10, hcl10⟩ := HFIN.out w10 v10 hown10'; subst hv10; have b10 := belowR_gr b9 hown9' (Nat.le_refl _) hgr10; have d10 := cellB b10 d8))
                  refine hcl10.mono ?_
                  rintro e w11 ⟨rfl, b11⟩
                  have d11 := cellB b11 d10
                  have B11 : Hid (Below w.heap.size w w11) := B8.trans ((b10.trans (b11.mono b10.size)).mono B8.size)
                  clear hcl10 hown10 hown10' hgr10 hown9 hown9' hgr9 own8 b80 b9 b10 b11 HCT HCD HF1 HF2 HFIN B8
                  by_cases hfn : free + r.nd ≤ 256
                  · obtain ⟨rfl, hxa⟩ := HXX.out hfn
                    have hxa' : ¬ s.at_ < xa := by omega
                    go_wp2
                    go_meet
                    exact B11.out
                  · go_wp2
                    go_meet
                    exact B11.out
            · have e : tw = false := by simp [htw, hw]
              clear htw
              subst e
              go_wp2
              go_meet
              exact B6.out
          case rest => as_aux_lemma =>
            have hB : Hid (Below w.heap.size w wc) := hcut
            clear hcut
            by_cases k1 : k < 1
            · go_wp2
              go_ret
              exact ⟨rfl, hB.out⟩
            by_cases k2 : free < k
            · go_wp2
              go_ret
              exact ⟨rfl, hB.out⟩
            by_cases k3 : en ≤ now
            · go_wp2
              go_ret
              exact ⟨rfl, hB.out⟩
            have own9 := own_empty wc
            have b90 : Below wc.heap.size wc (wc.alloc (.cells #[] 42)) := (Below.refl _ wc).alloc (Nat.le_refl _) _
            have HFL : Hid ((flatR l).length = j * 2) := show (flatR l).length = j * 2 by rw [flatR_len, hq]
            have Aw : Hid (RunsAt (wc.alloc (.cells #[] 42)) ao l) := RunsAt.below HA.out (hB.out.trans (b90.mono hB.out.size))
            have hnl : ao = none → j = 0 ∧ c = 0 := fun h => ⟨by rw [← hq, (HNIL.out h).1]; rfl, (HNIL.out h).2⟩
            have HNL : Hid (ao = none → j = 0 ∧ c = 0) := hnl
            have hfb := at_bound l s.at_ HOK.out free f0
            rw [← HFR.out, hq] at hfb
            obtain ⟨xa, xm, xb, hx, hx1, hx2⟩ : ∃ xa xm xb, shA need (shadowV now (free - k) (l ++ [⟨k, en⟩]) need) = .tuple #[.int .i64 xa, .int .i64 xm, .bool xb] ∧ (en ≤ s.at_ → xb = true ∧ xa = s.at_ ∧ xm = s.fr - need) ∧ (s.at_ < en → k ≤ s.fr - need → xb = true ∧ xa = s.at_ ∧ xm = s.fr - need - k) := by
              by_cases he : en ≤ s.at_
              · rw [shadow_by HR.out hnd HSH.out (by omega) (by omega) he]
                exact ⟨_, _, _, rfl, fun _ => ⟨rfl, rfl, by rw [HFR.out]⟩, fun h => by omega⟩
              · by_cases hk : k ≤ s.fr - need
                · rw [shadow_later HR.out hnd HSH.out (by omega) (by omega) (by omega) (by rw [← HFR.out]; exact hk)]
                  exact ⟨_, _, _, rfl, fun h => absurd h he, fun _ _ => ⟨rfl, rfl, by show atV free l s.at_ - k - need = _; rw [← HFR.out]; omega⟩⟩
                · obtain ⟨xa, xm, xb, h⟩ := shA_any need (shadowV now (free - k) (l ++ [⟨k, en⟩]) need)
                  exact ⟨xa, xm, xb, h, fun h => absurd h he, fun _ h => absurd h hk⟩
            have hlr : (l ++ [(⟨k, en⟩ : Rn)]).length = j + 1 := by simp [hq]
            have fin : ∀ W' v', W'.ownsRow wc.heap.size 42 2 v' (j + 1) (flatR l ++ [.int .i64 k, .int .i64 en]) → ∃ ao' cap', v' = .slice ao' (j + 1) cap' ∧ Calls Try.prog 11 #[.int .i64 now, .int .i64 (free - k), .slice ao' (j + 1) cap', .int .i64 need] W' fun e w' => e = .returned (.tuple #[.int .i64 xa, .int .i64 xm, .bool xb]) ∧ Below W'.heap.size W' w' := fun W' v' hrow => by
              obtain ⟨ao', cap', hv', hA'⟩ := runs_row (l := l ++ [⟨k, en⟩]) (by rw [flatR_app, hlr]; exact hrow)
              have := pshadow_any (c := cap') hA' (by rw [hlr]; omega) now (free - k) need
              rw [hx, hlr] at this
              rw [hlr] at hv'
              exact ⟨ao', cap', hv', this⟩
            have HFIN : Hid _ := fin
            have HX1 : Hid (en ≤ s.at_ → xb = true ∧ xa = s.at_ ∧ xm = s.fr - need) := hx1
            have HX2 : Hid (s.at_ < en → k ≤ s.fr - need → xb = true ∧ xa = s.at_ ∧ xm = s.fr - need - k) := hx2
            clear fin hx hlr hnl hx1 hx2
            go_upto_region 31 with fail
            go_wp2_with (first
              | (at_builtin; refine wpList_append_any rfl (.tmp 175) (.tmp 176) 22 rfl wc.heap.size 42 i0 _ 2 16 Try.underlying22 hi0 hz0 hz1 hz2 rfl (by decide) (.slice (some ⟨wc.heap.size, 0, none⟩) 0 0) 0 [] rfl own9 ao j c (flatR l) rfl HNL.out HFL.out (runs_flat Aw.out) (flatR_one _) ?_ ?_ ?_ ?_; exact (Nat.le_trans (m := 35184372088832) (by omega) (by decide)); omega; simp; intro v9 w9 hown9 hgr9; have hown9' : w9.ownsRow wc.heap.size 42 2 v9 j (flatR l) := (by simpa using hown9); have b9 := belowR_gr b90 own9 (Nat.le_refl _) hgr9; have z9 := b9.size)
              | (at_builtin; refine wpList_append_own_at _ rfl (.tmp 178) (.tmp 182) 22 rfl wc.heap.size 42 i0 _ 2 16 Try.underlying22 hi0 hz0 hz1 hz2 rfl (by decide) v9 j (flatR l) rfl (hown9'.alloc _) ⟨_, 0, none⟩ 1 1 [.int .i64 k, .int .i64 en] rfl rfl (new_cells _ _ _) (fun u hu => by simp at hu; rcases hu with rfl | rfl <;> rfl) ?_ ?_ ?_ ?_; exact (Nat.le_trans (m := 35184372088832) (by omega) (by decide)); omega; (simp; omega); intro v10 w10 hown10 hgr10 _ _; obtain ⟨ao10, cap10, hv10, hcl10⟩ := HFIN.out w10 v10 hown10; subst hv10; have b10 := belowR_gr (b9.alloc z9 _) (hown9'.alloc _) (Nat.le_refl _) hgr10))
            refine hcl10.mono ?_
            rintro e w11 ⟨rfl, b11⟩
            have B11 : Hid (Below w.heap.size w w11) := hB.out.trans ((b10.trans (b11.mono b10.size)).mono hB.out.size)
            clear hcl10 hown10 hgr10 hown9 hown9' hgr9 own9 b90 b9 b10 b11 HFIN Aw
            by_cases ha : now < s.at_
            · by_cases he : en ≤ s.at_
              · obtain ⟨rfl, rfl, rfl⟩ := HX1.out he
                go_wp2
                go_ret
                exact ⟨rfl, B11.out⟩
              · by_cases hk : k ≤ s.fr - need
                · obtain ⟨rfl, rfl, rfl⟩ := HX2.out (by omega) hk
                  have he' : s.at_ < en := by omega
                  have y1 : s.fr - need - k ≤ 9007199254740992 := by omega
                  have y2 : 0 ≤ s.fr - need - k := by omega
                  go_wp2
                  go_ret
                  exact ⟨rfl, B11.out⟩
                · go_wp2
                  go_ret
                  exact ⟨rfl, B11.out⟩
            · go_wp2
              go_ret
              exact ⟨rfl, B11.out⟩
end Go.Proofs.Ytljkllhpghjbiaa
