/-
  LAYER 15, the reference and the statements' helpers: sameWants, (*round).at.
  LAYER 15, the reference: Check.
-/
import Derived.Test.YtdkibcagbidelaaWhA
import Derived.Test.YtdkibcagbidelaaPtM
namespace Go.Proofs.Ytdkibcagbidelaa
open Go.RowKit Pr

set_option maxHeartbeats 400000 in
theorem sameWants_yes {w : World} {ao1 ao2 : Option Addr} {cap1 cap2 : Nat} {l : List Wt} (ha : WantsAt w ao1 l) (hb : WantsAt w ao2 l) (hn : l.length * 24 ≤ 140737488355328) :
    Calls Try.prog 21 #[.slice ao1 l.length cap1, .slice ao2 l.length cap2] w fun e w' => e = .returned (.bool true) ∧ Below w.heap.size w w' := by
  obtain ⟨g1, o1, h1, c1⟩ := ha
  obtain ⟨g2, o2, h2, c2⟩ := hb
  obtain ⟨q, hq⟩ : ∃ q, l.length = q := ⟨_, rfl⟩
  rw [hq] at h1 h2 hn ⊢
  go_enter Try.func21, Try.ntmps21
  go_wp2
  go_loopg [5] q (fun gk p wr => ∃ j : Nat, j + gk = q ∧ p = .int .i64 j ∧ Below w.heap.size w wr)
  case atStart => exact ⟨0, by omega, rfl, Below.refl _ _⟩
  case round =>
    obtain ⟨j, hj, rfl, hbw⟩ := hrel
    by_cases hlt : j < q
    · obtain ⟨s, hs⟩ : ∃ s, l[j]? = some s := ⟨_, List.getElem?_eq_getElem (by omega)⟩
      obtain rfl := h1 (by omega)
      obtain rfl := h2 (by omega)
      obtain ⟨d1, d2, d5⟩ := c1 j s hs
      obtain ⟨d3, d4, d6⟩ := c2 j s hs
      replace d1 := (hbw.cell (World.block_lt_of_cell? w _ d1)).trans d1
      replace d2 := (hbw.cell (World.block_lt_of_cell? w _ d2)).trans d2
      replace d3 := (hbw.cell (World.block_lt_of_cell? w _ d3)).trans d3
      replace d4 := (hbw.cell (World.block_lt_of_cell? w _ d4)).trans d4
      replace d5 := (hbw.cell (World.block_lt_of_cell? w _ d5)).trans d5
      replace d6 := (hbw.cell (World.block_lt_of_cell? w _ d6)).trans d6
      clear c1 c2 h1 h2
      go_wp2_with fail
      go_quiet (fail)
      all_goals
        go_wp2
        go_roundg (q - (j + 1))
        case measure => omega
        case rel => exact ⟨j + 1, by omega, rfl, hbw.trans ((drew_below wr _).mono hbw.size)⟩
    · obtain rfl : j = q := by omega
      go_wp2
      go_ret
      exact ⟨rfl, hbw⟩
/-- The place of the first want of a job. -/
def atF (j : Int) : List Wt → Int → Int
  | [], _ => -1
  | w :: l, k => if w.job = j then k else atF j l (k + 1)
theorem atF_drop {l : List Wt} {k : Nat} {r : Wt} (j : Int) (h : l[k]? = some r) : atF j (l.drop k) k = if r.job = j then (k : Int) else atF j (l.drop (k + 1)) ((k + 1 : Nat) : Int) := by
  obtain ⟨hk, rfl⟩ := List.getElem?_eq_some_iff.1 h
  rw [List.drop_eq_getElem_cons hk]
  simp only [atF]
  rw [show ((k + 1 : Nat) : Int) = (k : Int) + 1 by omega]
theorem atF_in {j : Int} : ∀ {l : List Wt} (k : Int) (w : Wt), w ∈ l → w.job = j → ∃ (i : Nat) (x : Wt), l[i]? = some x ∧ x.job = j ∧ atF j l k = k + i := by
  intro l
  induction l with
  | nil => intro k w h; cases h
  | cons a l ih =>
    intro k w h e
    by_cases ea : a.job = j
    · exact ⟨0, a, rfl, ea, by simp [atF, ea]⟩
    · have hw : w ∈ l := by
        rcases List.mem_cons.1 h with rfl | h
        · exact absurd e ea
        · exact h
      obtain ⟨i, x, h1, h2, h3⟩ := ih (k + 1) w hw e
      refine ⟨i + 1, x, by simpa using h1, h2, ?_⟩
      simp only [atF, if_neg ea, h3]
      omega
set_option maxHeartbeats 400000 in
theorem rat_any {w : World} {b : Nat} {lo : Option Addr} {l : List Wt} {c : Nat} (hb : w.cell? ⟨b, 2, none⟩ = some (.slice lo l.length c)) (hA : WantsAt w lo l) (hn : l.length * 24 ≤ 140737490000000) (n : Int) :
    Calls Try.prog 23 #[.pointer (some ⟨b, 0, none⟩), .int .i64 n] w fun e w' => e = .returned (.int .i64 (atF n l 0)) ∧ w' = w := by
  obtain ⟨q, hq⟩ : ∃ q, l.length = q := ⟨_, rfl⟩
  obtain ⟨g, o, hg, hc⟩ := hA
  rw [hq] at hg hn hb
  go_enter Try.func23, Try.ntmps23
  go_wp2
  go_loopg [5] q (fun gk p wr => ∃ j : Nat, j + gk = q ∧ p = .int .i64 j ∧ w = wr ∧ atF n l 0 = atF n (l.drop j) j)
  case atStart => exact ⟨0, by omega, rfl, rfl, by simp⟩
  case round =>
    obtain ⟨j, hj, rfl, rfl, hinv⟩ := hrel
    by_cases hlt : j < q
    · obtain ⟨r, hr⟩ : ∃ r, l[j]? = some r := ⟨_, List.getElem?_eq_getElem (by omega)⟩
      obtain rfl := hg (by omega)
      obtain ⟨c1, _, _⟩ := hc j r hr
      rw [atF_drop n hr] at hinv
      clear hc hg hr
      by_cases e : r.job = n
      · rw [if_pos e] at hinv
        rw [e] at c1
        have HI : Hid _ := hinv
        clear hinv
        go_wp2
        go_ret
        exact ⟨by rw [HI.out]; rfl, rfl⟩
      · rw [if_neg e] at hinv
        have HI : Hid _ := hinv
        clear hinv
        go_wp2
        go_roundg (q - (j + 1))
        case measure => omega
        case rel => exact ⟨j + 1, by omega, rfl, rfl, HI.out⟩
    · obtain rfl : j = q := by omega
      have e : Hid (atF n l 0 = -1) := by rw [hinv, List.drop_of_length_le (by omega)]; exact rfl
      clear hinv
      go_wp2
      go_ret
      exact ⟨by rw [e.out]; rfl, rfl⟩
end Go.Proofs.Ytdkibcagbidelaa
namespace Go.Proofs.Ytdkibcagbidelaa
open Go.RowKit Pr

theorem chk_split (now free : Int) (ws : List Wt) (ho : Int) (rs : List Rn) : chkB now free ws ho rs = ((nowB now && (right free rs && rs.all fun r => decide (now < r.en) && decide (r.en ≤ 4398046511104))) && (waitB (free + sumN rs) [] ws && mayHoldB ho ws)) := by
  unfold chkB mayRunB right
  congr 1
  rw [Bool.eq_iff_iff]
  simp only [Bool.and_eq_true, List.all_eq_true, runB, decide_eq_true_eq]
  constructor
  · rintro ⟨⟨a, b⟩, c⟩
    exact ⟨a, ⟨b, fun r hr => (c r hr).1⟩, fun r hr => by have := (c r hr).2; omega⟩
  · rintro ⟨a, ⟨b, c⟩, d⟩
    exact ⟨⟨a, b⟩, fun r hr => ⟨c r hr, by have := d r hr; omega⟩⟩
def enB (now : Int) (r : Rn) : Bool := decide (now < r.en) && decide (r.en ≤ 4398046511104)
def chkE (b : Bool) : Value := .int .i64 (if b then 0 else 150)
set_option maxRecDepth 20000 in
set_option maxHeartbeats 4000000 in
theorem rchk_any {w : World} {wo ao : Option Addr} {ws : List Wt} {rs : List Rn} {cw cr : Nat} (hW : WantsAt w wo ws) (hA : RunsAt w ao rs) (hnw : ws.length * 24 ≤ 140737490000000) (hn : rs.length * 16 ≤ 140737488355328) (now free ho : Int) :
    Calls Try.prog 17 #[.int .i64 now, .int .i64 free, .slice wo ws.length cw, .int .i64 ho, .slice ao rs.length cr] w fun e w' => e = .returned (chkE (chkB now free ws ho rs)) ∧ Below w.heap.size w w' := by
  rw [chk_split]
  have CR := right_any (c := cr) hA hn free
  obtain ⟨q, hq⟩ : ∃ q, rs.length = q := ⟨_, rfl⟩
  obtain ⟨m, hm⟩ : ∃ m, ws.length = m := ⟨_, rfl⟩
  have HQ : Hid (rs.length = q) := hq
  have HM : Hid (ws.length = m) := hm
  rw [hq] at CR ⊢
  rw [hm]
  have hm24 : m * 24 ≤ 140737490000000 := by rw [← hm]; exact hnw
  have hq16 : q * 16 ≤ 140737488355328 := by rw [← hq]; exact hn
  clear hq hm
  by_cases h1 : now < 0
  · have e : Hid (nowB now = false) := by show nowB now = false; simp [nowB]; omega
    go_enter Try.func17, Try.ntmps17
    go_wp2
    go_ret
    exact ⟨by rw [e.out]; rfl, Below.refl _ _⟩
  by_cases h2 : 2199023255552 < now
  · have e : Hid (nowB now = false) := by show nowB now = false; simp [nowB]; omega
    go_enter Try.func17, Try.ntmps17
    go_wp2
    go_ret
    exact ⟨by rw [e.out]; rfl, Below.refl _ _⟩
  have hnb : Hid (nowB now = true) := by show nowB now = true; simp [nowB]; omega
  cases hr : right free rs with
  | false =>
    rw [hr] at CR
    go_enter Try.func17, Try.ntmps17
    go_wp2_with (go_at_call 33; refine CR.mono ?_; rintro e w1 ⟨rfl, b1⟩)
    go_ret
    exact ⟨by rw [hnb.out]; rfl, b1⟩
  | true =>
    rw [hr] at CR
    obtain ⟨⟨f0, f1⟩, hokr⟩ := right_parts.1 hr
    have hsb : ∀ j, 0 ≤ sumN (rs.take j) ∧ sumN (rs.take j) ≤ 256 * q := fun j => by
      have := sumN_bound (l := rs.take j) (List.all_eq_true.2 (fun r hr => List.all_eq_true.1 hokr r (List.mem_of_mem_take hr)))
      have h3 : (rs.take j).length ≤ q := by rw [← HQ.out, List.length_take]; omega
      have : (256 : Int) * (rs.take j).length ≤ 256 * q := by omega
      omega
    have HSB : Hid (∀ j, 0 ≤ sumN (rs.take j) ∧ sumN (rs.take j) ≤ 256 * q) := hsb
    clear hr hsb
    rw [hnb.out, Bool.true_and, Bool.true_and]
    go_enter Try.func17, Try.ntmps17
    go_wp2_with (go_at_call 33; refine CR.mono ?_; rintro e w1 ⟨rfl, b1⟩)
    have HB1 : Hid (Below w.heap.size w w1) := b1
    obtain ⟨ga, oa, hga, hac⟩ := hA.below b1
    have HAC : Hid (∀ k r, rs[k]? = some r → w1.cell? ⟨ga, oa + k * 2, none⟩ = some (.int .i64 r.nd) ∧ w1.cell? ⟨ga, oa + k * 2 + 1, none⟩ = some (.int .i64 r.en)) := hac
    rw [HQ.out] at hga
    clear CR b1 hac
    go_loopg [11, 12] q (fun gk p11 p12 wr => ∃ j : Nat, j + gk = q ∧ p11 = .int .i64 (free + sumN (rs.take j)) ∧ p12 = .int .i64 j ∧ w1 = wr ∧ (rs.all fun r => decide (now < r.en) && decide (r.en ≤ 4398046511104)) = (rs.drop j).all fun r => decide (now < r.en) && decide (r.en ≤ 4398046511104))
    case atStart => exact ⟨0, by omega, by simp [sumN], rfl, rfl, by simp⟩
    case round =>
      obtain ⟨j, hjg, rfl, rfl, rfl, hinv⟩ := hrel
      by_cases hlt : j < q
      · obtain ⟨r, hr⟩ : ∃ r, rs[j]? = some r := ⟨_, List.getElem?_eq_getElem (by have := HQ.out; omega)⟩
        obtain rfl := hga (by omega)
        obtain ⟨c1, c2⟩ := HAC.out j r hr
        rw [allB_drop hr] at hinv
        have h5 := HSB.out j
        have h6 := HSB.out (j + 1)
        have h7 := sumN_take hr
        rw [h7] at h6
        by_cases h3 : r.en ≤ now
        · rw [show (decide (now < r.en) && decide (r.en ≤ 4398046511104)) = false by simp; omega, Bool.false_and] at hinv
          have HI : Hid _ := hinv
          clear hinv hr h7
          go_wp2
          go_ret
          exact ⟨by rw [HI.out]; rfl, HB1.out⟩
        by_cases h4 : 4398046511104 < r.en
        · rw [show (decide (now < r.en) && decide (r.en ≤ 4398046511104)) = false by simp; omega, Bool.false_and] at hinv
          have HI : Hid _ := hinv
          clear hinv hr h7
          go_wp2
          go_ret
          exact ⟨by rw [HI.out]; rfl, HB1.out⟩
        · rw [show (decide (now < r.en) && decide (r.en ≤ 4398046511104)) = true by simp; omega, Bool.true_and] at hinv
          have HI : Hid _ := hinv
          have H7 : Hid _ := h7
          generalize sumN (rs.take j) = S at *
          clear hinv hr h7
          go_wp2
          go_roundg (q - (j + 1))
          case measure => omega
          case rel => exact ⟨j + 1, by omega, by rw [H7.out]; congr 1; omega, rfl, rfl, HI.out⟩
      · obtain rfl : q = j := by omega
        have htk : rs.take q = rs := List.take_of_length_le (by have := HQ.out; omega)
        rw [htk]
        have hall : (rs.all fun r => decide (now < r.en) && decide (r.en ≤ 4398046511104)) = true := by rw [hinv, List.drop_of_length_le (by have := HQ.out; omega)]; exact rfl
        have HALL : Hid ((rs.all fun r => decide (now < r.en) && decide (r.en ≤ 4398046511104)) = true) := hall
        obtain ⟨A, hAA⟩ : ∃ A, free + sumN rs = A := ⟨_, rfl⟩
        have HAA : Hid (free + sumN rs = A) := hAA
        rw [hAA]
        clear hAA hinv hall htk hga HAC HSB hjg hlt
        obtain ⟨V1, hV1⟩ : ∃ V1, V1 = w1 := ⟨_, rfl⟩
        subst hV1
        go_upto_region 11 with fail
        go_wp2
        go_loopg [13, 14] m (fun gk p13 p14 wr => ∃ (i : Nat) (b : Bool), i + gk = m ∧ p13 = .bool b ∧ b = (decide (ho = -1) || (ws.take i).any (fun x => decide (x.job = ho))) ∧ p14 = .int .i64 i ∧ waitB A [] ws = waitB A ((ws.take i).map Wt.job).reverse (ws.drop i) ∧ Below V1.heap.size V1 wr)
        case atStart => exact ⟨0, _, by omega, rfl, by simp; try rfl, rfl, by simp, Below.refl _ _⟩
        case round =>
          obtain ⟨i, b, hig, rfl, hb, rfl, hinv, hbw⟩ := hrel
          have HBB : Hid (b = (decide (ho = -1) || (ws.take i).any (fun x => decide (x.job = ho)))) := hb
          have HBW : Hid (Below V1.heap.size V1 wr) := hbw
          have BW : Below w.heap.size w wr := HB1.out.trans (hbw.mono HB1.out.size)
          have HBV : Hid (Below w.heap.size w wr) := BW
          clear hb
          by_cases hlt : i < m
          · obtain ⟨x, hx⟩ : ∃ x, ws[i]? = some x := ⟨_, List.getElem?_eq_getElem (by have := HM.out; omega)⟩
            obtain ⟨gw, ow, hgw, hwc⟩ := hW.below BW
            obtain rfl := hgw (by have := HM.out; omega)
            obtain ⟨c0, c1, c2⟩ := hwc i x hx
            rw [wait_drop hx] at hinv
            have HX : Hid (ws[i]? = some x) := hx
            clear hwc hgw hx BW hbw
            go_upto_region 15 with fail
            obtain ⟨zx, hzx⟩ : ∃ zx, wr.heap.size = zx := ⟨_, rfl⟩
            obtain ⟨W2, hW2⟩ : ∃ W2, wr.alloc (.cells #[.int .i64 x.job, .int .i64 x.nd, .int .i64 x.lm] 40) = W2 := ⟨_, rfl⟩
            have b2 : Below wr.heap.size wr W2 := by rw [← hW2]; exact (Below.refl _ wr).alloc (Nat.le_refl _) _
            have kx : W2.heap[zx]? = some (.cells #[.int .i64 x.job, .int .i64 x.nd, .int .i64 x.lm] 40 (0, 0)) := by rw [← hW2, ← hzx]; exact heap_alloc_new wr _
            have x0 := cells_at kx (k := 0) rfl
            have x1 := cells_at kx (k := 1) rfl
            have x2 := cells_at kx (k := 2) rfl
            try rw [hW2]
            try rw [hzx]
            have HKX : Hid (W2.heap[zx]? = some (.cells #[.int .i64 x.job, .int .i64 x.nd, .int .i64 x.lm] 40 (0, 0))) := kx
            have HV2 : Hid (Below V1.heap.size V1 W2) := HBW.out.trans (b2.mono HBW.out.size)
            have HW2 : Hid (Below w.heap.size w W2) := HBV.out.trans (b2.mono HBV.out.size)
            clear b2 kx c0 c1 c2 hW2 hzx HBW HBV
            cases hok : okW A x with
            | false =>
              rw [hok, Bool.false_and, Bool.false_and] at hinv
              have HI : Hid _ := hinv
              have hcs : x.job < 0 ∨ (¬ x.job < 0 ∧ x.nd < 1) ∨ (¬ x.job < 0 ∧ ¬ x.nd < 1 ∧ 256 < x.nd) ∨ (¬ x.job < 0 ∧ ¬ x.nd < 1 ∧ ¬ 256 < x.nd ∧ A < x.nd) ∨ (¬ x.job < 0 ∧ ¬ x.nd < 1 ∧ ¬ 256 < x.nd ∧ ¬ A < x.nd ∧ x.lm < 1) ∨ (¬ x.job < 0 ∧ ¬ x.nd < 1 ∧ ¬ 256 < x.nd ∧ ¬ A < x.nd ∧ ¬ x.lm < 1 ∧ 1048576 < x.lm) := by
                simp [okW, frB] at hok
                omega
              clear hinv hok
              rcases hcs with h | ⟨h, h'⟩ | ⟨h, h', h''⟩ | ⟨h, h', h'', h3⟩ | ⟨h, h', h'', h3, h4⟩ | ⟨h, h', h'', h3, h4, h5⟩
              all_goals
                go_wp2
                go_ret
                exact ⟨by rw [HALL.out, HAA.out, HI.out]; rfl, HW2.out⟩
            | true =>
              rw [hok, Bool.true_and] at hinv
              have HI : Hid _ := hinv
              obtain ⟨g1, g2, g3, g4, g5, g6⟩ : ¬ x.job < 0 ∧ ¬ x.nd < 1 ∧ ¬ 256 < x.nd ∧ ¬ A < x.nd ∧ ¬ x.lm < 1 ∧ ¬ 1048576 < x.lm := by
                simp [okW, frB] at hok
                omega
              clear hinv hok
              go_upto_region 17 with fail
              clear x0 x1 x2
              go_wp2
              go_loopg [16] i (fun gk p16 wq => ∃ (k : Nat), k + gk = i ∧ p16 = .int .i64 k ∧ ((ws.take k).map Wt.job).contains x.job = false ∧ Below W2.heap.size W2 wq)
              case atStart => exact ⟨0, by omega, rfl, by simp, Below.refl _ _⟩
              case round =>
                obtain ⟨k, hkg, rfl, hcon, hbq⟩ := hrel
                have kx := bk hbq HKX.out
                have x0 := cells_at kx (k := 0) rfl
                have BQ : Below w.heap.size w wr := HW2.out.trans (hbq.mono HW2.out.size)
                have HBQ : Hid (Below w.heap.size w wr) := BQ
                have HB2 : Hid (Below W2.heap.size W2 wr) := hbq
                clear kx hbq
                by_cases hk : k < i
                · obtain ⟨y, hy⟩ : ∃ y, ws[k]? = some y := ⟨_, List.getElem?_eq_getElem (by have := HM.out; omega)⟩
                  obtain ⟨gv, ov, hgv, hwc⟩ := hW.below BQ
                  have egv := hgv (by have := HM.out; omega)
                  injection egv with egv
                  injection egv with e1 e2
                  subst e1 e2
                  obtain ⟨y0, _, _⟩ := hwc k y hy
                  by_cases e : y.job = x.job
                  · have HCT : Hid ((((ws.take i).map Wt.job).reverse).contains x.job = true) := by
                      show (((ws.take i).map Wt.job).reverse).contains x.job = true
                      rw [List.contains_eq_mem, decide_eq_true_eq, List.mem_reverse, List.mem_map]
                      exact ⟨y, List.mem_of_getElem? (i := k) (by rw [List.getElem?_take, if_pos hk]; exact hy), e⟩
                    rw [e] at y0
                    clear hwc hgv hy hcon BQ
                    go_upto_region 20 with fail
                    go_quiet (fail)
                    all_goals
                      go_wp2
                      go_ret
                      exact ⟨by rw [HALL.out, HAA.out, HI.out, HCT.out]; rfl, below_drewN HBQ.out _⟩
                  · have HC2 : Hid (((ws.take (k + 1)).map Wt.job).contains x.job = false) := by
                      show ((ws.take (k + 1)).map Wt.job).contains x.job = false
                      rw [List.take_add_one, hy, List.map_append]
                      rw [List.contains_eq_mem, decide_eq_false_iff_not, List.mem_append]
                      rintro (h | h)
                      · rw [List.contains_eq_mem, decide_eq_false_iff_not] at hcon
                        exact hcon h
                      · simp at h
                        exact e h.symm
                    have e' : (y.job == x.job) = false := beq_false_of_ne e
                    clear hwc hgv hy hcon BQ
                    go_upto_region 20 with fail
                    go_quiet (fail)
                    all_goals
                      go_wp2
                      go_roundg (i - (k + 1))
                      case measure => omega
                      case rel => exact ⟨k + 1, by omega, rfl, HC2.out, below_drewN HB2.out _⟩
                · obtain rfl : i = k := by omega
                  have HIN : Hid (waitB A [] ws = waitB A ((ws.take (i + 1)).map Wt.job).reverse (ws.drop (i + 1))) := by
                    show waitB A [] ws = waitB A ((ws.take (i + 1)).map Wt.job).reverse (ws.drop (i + 1))
                    rw [HI.out]
                    have e1 : ((ws.take i).map Wt.job).reverse.contains x.job = false := by
                      rw [List.contains_eq_mem, decide_eq_false_iff_not, List.mem_reverse]
                      rw [List.contains_eq_mem, decide_eq_false_iff_not] at hcon
                      exact hcon
                    rw [e1, List.take_add_one, HX.out, List.map_append, List.reverse_append]
                    rfl
                  have HNX : Hid (∀ c : Bool, c = (b || decide (x.job = ho)) → c = (decide (ho = -1) || (ws.take (i + 1)).any (fun x => decide (x.job = ho)))) := fun c hc => by
                    rw [hc, HBB.out, List.take_add_one, HX.out, List.any_append, Bool.or_assoc]
                    simp
                  have HV3 : Hid (Below V1.heap.size V1 wr) := HV2.out.trans (HB2.out.mono HV2.out.size)
                  clear hcon BQ
                  by_cases e : x.job = ho
                  · have e' : (x.job == ho) = true := by simp [e]
                    cases b
                    · go_wp2
                      go_roundg (m - (i + 1))
                      case measure => omega
                      case rel => exact ⟨i + 1, true, by omega, by first | rfl | simp [e], HNX.out true (by simp [e]), rfl, HIN.out, HV3.out⟩
                    · go_wp2
                      go_roundg (m - (i + 1))
                      case measure => omega
                      case rel => exact ⟨i + 1, true, by omega, by first | rfl | simp, HNX.out true (by simp), rfl, HIN.out, HV3.out⟩
                  · have e' : (x.job == ho) = false := beq_false_of_ne e
                    cases b
                    · go_wp2
                      go_roundg (m - (i + 1))
                      case measure => omega
                      case rel => exact ⟨i + 1, false, by omega, by first | rfl | simp [e], HNX.out false (by simp [e]), rfl, HIN.out, HV3.out⟩
                    · go_wp2
                      go_roundg (m - (i + 1))
                      case measure => omega
                      case rel => exact ⟨i + 1, true, by omega, by first | rfl | simp, HNX.out true (by simp), rfl, HIN.out, HV3.out⟩
          · have htk : ws.take i = ws := List.take_of_length_le (by have := HM.out; omega)
            have HWT : Hid (waitB A [] ws = true) := by
              show waitB A [] ws = true
              rw [hinv, List.drop_of_length_le (by have := HM.out; omega)]
              rfl
            have HHO : Hid (mayHoldB ho ws = b) := by
              show mayHoldB ho ws = b
              rw [HBB.out, htk]
              rfl
            obtain rfl : m = i := by omega
            clear hinv htk BW hbw HBB
            cases b
            · go_wp2
              go_ret
              exact ⟨by rw [HALL.out, HAA.out, HWT.out, HHO.out]; rfl, HBV.out⟩
            · go_wp2
              go_ret
              exact ⟨by rw [HALL.out, HAA.out, HWT.out, HHO.out]; rfl, HBV.out⟩
end Go.Proofs.Ytdkibcagbidelaa
