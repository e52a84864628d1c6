/-
  LAYER 15: the statements' helpers: sameInts, same, shown.
-/
import Derived.Test.YtdkibcagbidelaaPcB
namespace Go.Proofs.Ytdkibcagbidelaa
open Go.RowKit Pr

/-- Numbers that lie in memory. -/
def IntsAt (W : World) (ao : Option Addr) (l : List Int) : Prop := ∃ g o, (0 < l.length → ao = some ⟨g, o, none⟩) ∧ ∀ k n, l[k]? = some n → W.cell? ⟨g, o + k, none⟩ = some (.int .i64 n)
theorem IntsAt.below {W W' : World} {ao : Option Addr} {l : List Int} (h : IntsAt W ao l) (b : Below W.heap.size W W') : IntsAt W' ao l := by
  obtain ⟨g, o, h1, h2⟩ := h
  exact ⟨g, o, h1, fun k n hn => (b.cell (World.block_lt_of_cell? W _ (h2 k n hn))).trans (h2 k n hn)⟩
theorem ints_row {W : World} {B : Nat} {v : Value} {l : List Int} (h : W.ownsRow B 3 1 v l.length (intsV l)) : ∃ a c, v = .slice a l.length c ∧ IntsAt W a l := by
  rcases h.2 with ⟨rfl, h0⟩ | ⟨g, cap, cur, rfl, hb, hg, _, _, _, ht⟩
  · exact ⟨none, 0, by rw [h0], 0, 0, fun h => by omega, fun j s hs => by rw [List.length_eq_zero_iff.1 h0] at hs; simp at hs⟩
  · refine ⟨some ⟨g, 0, none⟩, cap, rfl, g, 0, fun _ => rfl, fun j s hs => ?_⟩
    have hj : j < l.length := (List.getElem?_eq_some_iff.1 hs).1
    have h1 : (intsV l)[j]? = some (.int .i64 s) := by simp [intsV, hs]
    rw [← ht, List.getElem?_take_of_lt (by omega), Array.getElem?_toList] at h1
    rw [Nat.zero_add]
    exact cells_at hg h1

set_option maxHeartbeats 400000 in
theorem sameInts_yes {w : World} {ao1 ao2 : Option Addr} {cap1 cap2 : Nat} {l : List Int} (ha : IntsAt w ao1 l) (hb : IntsAt w ao2 l) (hn : l.length * 8 ≤ 140737488355328) :
    Calls Try.prog 12 #[.slice ao1 l.length cap1, .slice ao2 l.length cap2] w fun e w' => e = .returned (.bool true) ∧ Below w.heap.size w w' := by
  obtain ⟨g1, o1, h1, c1⟩ := ha
  obtain ⟨g2, o2, h2, c2⟩ := hb
  obtain ⟨q, hq⟩ : ∃ q, l.length = q := ⟨_, rfl⟩
  rw [hq] at h1 h2 hn ⊢
  go_enter Try.func12, Try.ntmps12
  go_wp2
  go_loopg [5] q (fun gk p wr => ∃ j : Nat, j + gk = q ∧ p = .int .i64 j ∧ Below w.heap.size w wr)
  case atStart => exact ⟨0, by omega, rfl, Below.refl _ _⟩
  case round =>
    obtain ⟨j, hj, rfl, hbw⟩ := hrel
    by_cases hlt : j < q
    · obtain ⟨s, hs⟩ : ∃ s, l[j]? = some s := ⟨_, List.getElem?_eq_getElem (by omega)⟩
      obtain rfl := h1 (by omega)
      obtain rfl := h2 (by omega)
      have d1 := c1 j s hs
      have d2 := c2 j s hs
      replace d1 := (hbw.cell (World.block_lt_of_cell? w _ d1)).trans d1
      replace d2 := (hbw.cell (World.block_lt_of_cell? w _ d2)).trans d2
      clear c1 c2 h1 h2
      go_wp2_with fail
      go_quiet (fail)
      all_goals
        go_wp2
        go_roundg (q - (j + 1))
        case measure => omega
        case rel => exact ⟨j + 1, by omega, rfl, hbw.trans ((drew_below wr _).mono hbw.size)⟩
    · obtain rfl : j = q := by omega
      go_wp2
      go_ret
      exact ⟨rfl, hbw⟩

set_option maxHeartbeats 400000 in
theorem same_yes {w : World} {a1 a2 : Option Addr} {c1 c2 : Nat} (p : Pln) (ha : IntsAt w a1 p.st) (hb : IntsAt w a2 p.st) (hn : p.st.length * 8 ≤ 140737488355328) :
    Calls Try.prog 11 #[planV (.slice a1 p.st.length c1) p, planV (.slice a2 p.st.length c2) p] w fun e w' => e = .returned (.bool true) ∧ Below w.heap.size w w' := by
  obtain ⟨W1, hW1⟩ : ∃ W1, (w.alloc (.cells #[.slice a1 p.st.length c1, .int .i64 p.ho, .int .i64 p.sh, .int .i64 p.ex] 30)).alloc (.cells #[.slice a2 p.st.length c2, .int .i64 p.ho, .int .i64 p.sh, .int .i64 p.ex] 30) = W1 := ⟨_, rfl⟩
  have b1 : Below w.heap.size w W1 := by rw [← hW1]; exact ((Below.refl _ w).alloc (Nat.le_refl _) _).alloc (by simp) _
  have k1 : W1.heap[w.heap.size]? = some (.cells #[.slice a1 p.st.length c1, .int .i64 p.ho, .int .i64 p.sh, .int .i64 p.ex] 30 (0, 0)) := by
    rw [← hW1]
    exact (Below.heap_alloc _ _ _ (by simp)).trans (heap_alloc_new w _)
  have k2 : W1.heap[w.heap.size + 1]? = some (.cells #[.slice a2 p.st.length c2, .int .i64 p.ho, .int .i64 p.sh, .int .i64 p.ex] 30 (0, 0)) := by
    rw [← hW1]
    have := heap_alloc_new (w.alloc (.cells #[.slice a1 p.st.length c1, .int .i64 p.ho, .int .i64 p.sh, .int .i64 p.ex] 30)) (.cells #[.slice a2 p.st.length c2, .int .i64 p.ho, .int .i64 p.sh, .int .i64 p.ex] 30)
    rwa [World.size_alloc] at this
  have C := sameInts_yes (cap1 := c1) (cap2 := c2) (ha.below b1) (hb.below b1) hn
  have u0 := cells_at k1 (k := 0) rfl
  have v0 := cells_at k2 (k := 0) rfl
  have HK1 : Hid _ := k1
  have HK2 : Hid _ := k2
  clear k1 k2 ha hb
  unfold planV
  go_enter Try.func11, Try.ntmps11
  go_wp2_with fail
  refine C.mono ?_
  rintro e w2 ⟨rfl, b2⟩
  have j1 := (b2.block _ (lt_of_blk HK1.out)).trans HK1.out
  have j2 := (b2.block _ (lt_of_blk HK2.out)).trans HK2.out
  have x1 := cells_at j1 (k := 1) rfl
  have x2 := cells_at j1 (k := 2) rfl
  have x3 := cells_at j1 (k := 3) rfl
  have y1 := cells_at j2 (k := 1) rfl
  have y2 := cells_at j2 (k := 2) rfl
  have y3 := cells_at j2 (k := 3) rfl
  have HB : Hid (Below w.heap.size w w2) := b1.trans (b2.mono b1.size)
  clear j1 j2 HK1 HK2 u0 v0 hW1 b1 b2 C
  go_wp2
  go_ret
  exact ⟨by first | rfl | simp, HB.out⟩

def ws1 : List Wt := [⟨0, 3, 5⟩, ⟨1, 3, 5⟩, ⟨2, 1, 5⟩, ⟨3, 1, 6⟩]
def ws2 : List Wt := [⟨7, 1, 9⟩, ⟨8, 1, 9⟩, ⟨5, 4, 1⟩]
theorem sh1 : passR 1 4 ws1 (-1) [] = ⟨[0, 2], 1, 6, 1⟩ ∧ passE 1 4 ws1 (-1) [] = 0 := by constructor <;> rfl
theorem sh2 : passR 3 2 ws2 5 [⟨2, 8⟩] = ⟨[], 5, 8, 0⟩ ∧ passE 3 2 ws2 5 [⟨2, 8⟩] = 0 := by constructor <;> rfl
theorem sh3 : passE 1 2 [] 0 [] = 150 := by rfl
theorem lit_wants (w : World) (l : List Wt) : WantsAt (w.alloc (.cells (flatW l).toArray 40)) (some ⟨w.heap.size, 0, none⟩) l := by
  refine ⟨w.heap.size, 0, fun _ => rfl, fun k x hx => ?_⟩
  obtain ⟨h1, h2, h3⟩ := flatW_at l k x hx
  rw [Nat.zero_add]
  exact ⟨cells_at (heap_alloc_new w _) (by simpa using h1), cells_at (heap_alloc_new w _) (by simpa using h2), cells_at (heap_alloc_new w _) (by simpa using h3)⟩
theorem lit_runs (w : World) (l : List Rn) : RunsAt (w.alloc (.cells (flatR l).toArray 45)) (some ⟨w.heap.size, 0, none⟩) l := by
  refine ⟨w.heap.size, 0, fun _ => rfl, fun k x hx => ?_⟩
  obtain ⟨h1, h2⟩ := flatR_at l k x hx
  rw [Nat.zero_add]
  exact ⟨cells_at (heap_alloc_new w _) (by simpa using h1), cells_at (heap_alloc_new w _) (by simpa using h2)⟩
theorem lit_ints (w : World) (l : List Int) : IntsAt (w.alloc (.cells (intsV l).toArray 3)) (some ⟨w.heap.size, 0, none⟩) l := by
  refine ⟨w.heap.size, 0, fun _ => rfl, fun k x hx => ?_⟩
  rw [Nat.zero_add]
  exact cells_at (heap_alloc_new w _) (by simp [intsV, hx])
theorem no_runs (w : World) : RunsAt w none [] := ⟨0, 0, fun h => by simp at h, fun k x hx => by simp at hx⟩
theorem no_wants (w : World) : WantsAt w none [] := ⟨0, 0, fun h => by simp at h, fun k x hx => by simp at hx⟩
theorem no_ints (w : World) : IntsAt w none [] := ⟨0, 0, fun h => by simp at h, fun k x hx => by simp at hx⟩

set_option maxRecDepth 20000 in
set_option maxHeartbeats 1000000 in
theorem shown_any (w : World) : Calls Try.prog 8 #[] w fun e w' => e = .returned (.bool true) ∧ Below w.heap.size w w' := by
  have P1 := pass_any (c := 0) (cw := 4) (no_runs _) (by simp) (lit_wants w ws1) (by decide) (by decide) 1 4 (-1)
  rw [sh1.1, sh1.2] at P1
  unfold planV at P1
  go_enter Try.func8, Try.ntmps8
  go_upto_region 2 with (go_at_call 13; refine P1.mono ?_; rintro e w1 ⟨v1, rfl, hr1, b1⟩; obtain ⟨a1, c1, rfl, hi1⟩ := ints_row hr1)
  have bz1 : Below w.heap.size w w1 := ((Below.refl _ w).alloc (Nat.le_refl _) _).trans (b1.mono (by simp))
  obtain ⟨z1, hz1⟩ : ∃ z1, w1.heap.size = z1 := ⟨_, rfl⟩
  obtain ⟨W2, hW2⟩ : ∃ W2, w1.alloc (.cells #[.slice a1 2 c1, .int .i64 1, .int .i64 6, .int .i64 1] 30) = W2 := ⟨_, rfl⟩
  have bw2 : Below w1.heap.size w1 W2 := by rw [← hW2]; exact (Below.refl _ w1).alloc (Nat.le_refl _) _
  have k2 : W2.heap[z1]? = some (.cells #[.slice a1 2 c1, .int .i64 1, .int .i64 6, .int .i64 1] 30 (0, 0)) := by rw [← hW2, ← hz1]; exact heap_alloc_new w1 _
  have i2 := hi1.below bw2
  have B2 : Below w.heap.size w W2 := bz1.trans (bw2.mono bz1.size)
  have bx2 : Below W2.heap.size W2 ((W2.alloc (.cells (flatW ws2).toArray 40)).alloc (.cells (flatR [⟨2, 8⟩]).toArray 45)) := ((Below.refl _ W2).alloc (Nat.le_refl _) _).alloc (by simp) _
  have P2 := pass_any (c := 1) (cw := 3) (lit_runs (W2.alloc (.cells (flatW ws2).toArray 40)) [⟨2, 8⟩]) (by simp) ((lit_wants W2 ws2).below ((Below.refl _ _).alloc (Nat.le_refl _) _)) (by decide) (by decide) 3 2 5
  rw [sh2.1, sh2.2] at P2
  unfold planV at P2
  rw [World.size_alloc] at P2
  have HK2 : Hid _ := k2
  have HI2 : Hid (IntsAt W2 a1 [0, 2]) := i2
  have HB2 : Hid _ := B2
  have HX2 : Hid _ := bx2
  clear P1 b1 bz1 bw2 k2 i2 B2 hi1 bx2
  go_upto_region 3 with (go_at_call 13; refine P2.mono ?_; rintro e w3 ⟨v3, rfl, hr3, b3⟩; obtain ⟨a3, c3, rfl, hi3⟩ := ints_row hr3)
  have bz3 : Below W2.heap.size W2 w3 := HX2.out.trans (b3.mono (by simp; omega))
  obtain ⟨z3, hz3⟩ : ∃ z3, w3.heap.size = z3 := ⟨_, rfl⟩
  obtain ⟨W4, hW4⟩ : ∃ W4, w3.alloc (.cells #[.slice a3 0 c3, .int .i64 5, .int .i64 8, .int .i64 0] 30) = W4 := ⟨_, rfl⟩
  have bw4 : Below w3.heap.size w3 W4 := by rw [← hW4]; exact (Below.refl _ w3).alloc (Nat.le_refl _) _
  have k4 : W4.heap[z3]? = some (.cells #[.slice a3 0 c3, .int .i64 5, .int .i64 8, .int .i64 0] 30 (0, 0)) := by rw [← hW4, ← hz3]; exact heap_alloc_new w3 _
  have b24 : Below W2.heap.size W2 W4 := bz3.trans (bw4.mono bz3.size)
  have HK4 : Hid _ := k4
  have HI4 : Hid (IntsAt W4 a3 []) := hi3.below bw4
  have HK2' : Hid _ := (b24.block _ (lt_of_blk HK2.out)).trans HK2.out
  have HI2' : Hid (IntsAt W4 a1 [0, 2]) := HI2.out.below b24
  have HB4 : Hid (Below w.heap.size w W4) := HB2.out.trans (b24.mono HB2.out.size)
  have P3 := pass_any (w := W4) (c := 0) (cw := 0) (no_runs _) (by simp) (no_wants _) (by simp) (fun x hx => by simp at hx) 1 2 0
  rw [sh3, show passR 1 2 [] 0 [] = ⟨[], 0, 0, 0⟩ from rfl] at P3
  unfold planV at P3
  clear P2 b3 bz3 bw4 k4 b24 hi3 HX2 HK2 HI2 HB2 hW2
  go_upto_region 4 with (go_at_call 13; refine P3.mono ?_; rintro e w5 ⟨v5, rfl, hr5, b5⟩; obtain ⟨a5, c5, rfl, hi5⟩ := ints_row hr5)
  obtain ⟨W6, hW6⟩ : ∃ W6, w5.alloc (.cells #[.slice a5 0 c5, .int .i64 0, .int .i64 0, .int .i64 0] 30) = W6 := ⟨_, rfl⟩
  have b46 : Below W4.heap.size W4 W6 := b5.trans (by rw [← hW6]; exact ((Below.refl _ w5).alloc (Nat.le_refl _) _).mono b5.size)
  obtain ⟨W7, hW7⟩ : ∃ W7, W6.alloc (.cells #[.int .i64 0, .int .i64 2] 3) = W7 := ⟨_, rfl⟩
  have b67 : Below W6.heap.size W6 W7 := by rw [← hW7]; exact (Below.refl _ _).alloc (Nat.le_refl _) _
  have b47 : Below W4.heap.size W4 W7 := b46.trans (b67.mono b46.size)
  have il : IntsAt W7 (some ⟨W6.heap.size, 0, none⟩) [0, 2] := by rw [← hW7]; exact lit_ints W6 [0, 2]
  have k6 := (b46.block _ (lt_of_blk HK2'.out)).trans HK2'.out
  have S1 := same_yes (c1 := c1) (c2 := 2) ⟨[0, 2], 1, 6, 1⟩ (HI2'.out.below b47) il (by decide)
  have x0 := cells_at k6 (k := 0) rfl
  have x1 := cells_at k6 (k := 1) rfl
  have x2 := cells_at k6 (k := 2) rfl
  have x3 := cells_at k6 (k := 3) rfl
  unfold planV at S1
  simp only [List.length_cons, List.length_nil, Nat.zero_add, Nat.reduceAdd] at S1
  have HK7 : Hid _ := (b47.block _ (lt_of_blk HK4.out)).trans HK4.out
  have HI7 : Hid (IntsAt W7 a3 []) := HI4.out.below b47
  have HB7 : Hid (Below w.heap.size w W7) := HB4.out.trans (b47.mono HB4.out.size)
  clear P3 b5 b46 b67 b47 il k6 hi5 HK2' HI2' HK4 HI4 HB4 hW4
  go_wp2_with fail
  refine S1.mono ?_
  rintro e w8 ⟨rfl, b8⟩
  have k8 := (b8.block _ (lt_of_blk HK7.out)).trans HK7.out
  have S2 := same_yes (w := w8) (c1 := c3) (c2 := 0) ⟨[], 5, 8, 0⟩ (HI7.out.below b8) (no_ints _) (by decide)
  have y0 := cells_at k8 (k := 0) rfl
  have y1 := cells_at k8 (k := 1) rfl
  have y2 := cells_at k8 (k := 2) rfl
  have y3 := cells_at k8 (k := 3) rfl
  unfold planV at S2
  simp only [List.length_nil] at S2
  have HB8 : Hid (Below w.heap.size w w8) := HB7.out.trans (b8.mono HB7.out.size)
  clear b8 k8 S1 HK7 HI7 HB7 x0 x1 x2 x3 hW7 hW6
  go_wp2_with fail
  refine S2.mono ?_
  rintro e w9 ⟨rfl, b9⟩
  have HB9 : Hid (Below w.heap.size w w9) := HB8.out.trans (b9.mono HB8.out.size)
  clear b9 S2 HB8
  go_wp2
  go_ret
  exact ⟨rfl, HB9.out⟩
end Go.Proofs.Ytdkibcagbidelaa
