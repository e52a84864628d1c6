/-
  LAYER 15: the statements' helpers: has, want.
-/
import Derived.Test.YtdkibcagbidelaaLsB
import Derived.Test.YtdkibcagbidelaaPsW
namespace Go.Proofs.Ytdkibcagbidelaa
open Go.RowKit Pr

theorem con_drop {l : List Int} {k : Nat} {r : Int} (n : Int) (h : l[k]? = some r) : (l.drop k).contains n = (decide (r = n) || (l.drop (k + 1)).contains n) := by
  obtain ⟨hk, rfl⟩ := List.getElem?_eq_some_iff.1 h
  rw [List.drop_eq_getElem_cons hk, List.contains_cons]
  congr 1
  rw [Bool.eq_iff_iff]
  simp
  exact eq_comm
theorem find_drop {l : List Wt} {k : Nat} {r : Wt} (j : Int) (h : l[k]? = some r) : findW (l.drop k) j = if r.job = j then some r else findW (l.drop (k + 1)) j := by
  obtain ⟨hk, rfl⟩ := List.getElem?_eq_some_iff.1 h
  unfold findW
  rw [List.drop_eq_getElem_cons hk]
  by_cases e : l[k].job = j
  · rw [if_pos e, List.find?_cons_of_pos (by simpa using e)]
  · rw [if_neg e, List.find?_cons_of_neg (by simpa using e)]

set_option maxHeartbeats 400000 in
theorem has_any {w : World} {ao : Option Addr} {l : List Int} {c : Nat} (hA : IntsAt w ao l) (hn : l.length * 8 ≤ 140737490000000) (n : Int) :
    Calls Try.prog 15 #[.slice ao l.length c, .int .i64 n] w fun e w' => e = .returned (.bool (l.contains n)) ∧ w' = w := by
  obtain ⟨q, hq⟩ : ∃ q, l.length = q := ⟨_, rfl⟩
  obtain ⟨g, o, hg, hc⟩ := hA
  rw [hq]
  rw [hq] at hg hn
  go_enter Try.func15, Try.ntmps15
  go_wp2
  go_loopg [5] q (fun gk p wr => ∃ j : Nat, j + gk = q ∧ p = .int .i64 j ∧ w = wr ∧ l.contains n = (l.drop j).contains n)
  case atStart => exact ⟨0, by omega, rfl, rfl, by simp⟩
  case round =>
    obtain ⟨j, hj, rfl, rfl, hinv⟩ := hrel
    by_cases hlt : j < q
    · obtain ⟨r, hr⟩ : ∃ r, l[j]? = some r := ⟨_, List.getElem?_eq_getElem (by omega)⟩
      obtain rfl := hg (by omega)
      have c1 := hc j r hr
      rw [con_drop n hr] at hinv
      clear hc hg hr
      by_cases e : r = n
      · subst e
        rw [show decide (r = r) = true by simp, Bool.true_or] at hinv
        have HI : Hid _ := hinv
        clear hinv
        go_wp2
        go_ret
        exact ⟨ret_bool HI.out.symm, rfl⟩
      · rw [show decide (r = n) = false by simp [e], Bool.false_or] at hinv
        have HI : Hid _ := hinv
        clear hinv
        go_wp2
        go_roundg (q - (j + 1))
        case measure => omega
        case rel => exact ⟨j + 1, by omega, rfl, rfl, HI.out⟩
    · obtain rfl : j = q := by omega
      have e : Hid (l.contains n = false) := by rw [hinv, List.drop_of_length_le (by omega)]; exact rfl
      clear hinv
      go_wp2
      go_ret
      exact ⟨ret_bool e.out.symm, rfl⟩

def fwV (o : Option Wt) : Value := match o with
  | none => .agg #[.int .i64 0, .int .i64 0, .int .i64 0]
  | some x => .agg #[.int .i64 x.job, .int .i64 x.nd, .int .i64 x.lm]
theorem set3 {W : World} {b : Nat} {a0 a1 a2 v0 v1 v2 : Value} (h : W.heap[b]? = some (.cells #[a0, a1, a2] 40 (0, 0))) :
    (((W.setCell ⟨b, 0, none⟩ v0).setCell ⟨b, 1, none⟩ v1).setCell ⟨b, 2, none⟩ v2).heap[b]? = some (.cells #[v0, v1, v2] 40 (0, 0)) :=
  heap_setCell_same _ b 2 _ 40 v2 (heap_setCell_same _ b 1 _ 40 v1 (heap_setCell_same W b 0 _ 40 v0 h))
theorem below3 {B : Nat} {w W : World} {b : Nat} {v0 v1 v2 : Value} (h : Below B w W) (hb : B ≤ b) : Below B w (((W.setCell ⟨b, 0, none⟩ v0).setCell ⟨b, 1, none⟩ v1).setCell ⟨b, 2, none⟩ v2) :=
  ((h.setCell (p := ⟨b, 0, none⟩) hb v0).setCell (p := ⟨b, 1, none⟩) hb v1).setCell (p := ⟨b, 2, none⟩) hb v2
set_option maxRecDepth 20000 in
set_option maxHeartbeats 800000 in
theorem want_any {w : World} {ao : Option Addr} {l : List Wt} {c : Nat} (hA : WantsAt w ao l) (hn : l.length * 24 ≤ 140737490000000) (n : Int) :
    Calls Try.prog 14 #[.slice ao l.length c, .int .i64 n] w fun e w' => e = .returned (.tuple #[fwV (findW l n), .bool (findW l n).isSome]) ∧ Below w.heap.size w w' := by
  obtain ⟨q, hq⟩ : ∃ q, l.length = q := ⟨_, rfl⟩
  obtain ⟨W1, hW1⟩ : ∃ W1, w.alloc (.cells #[.int .i64 0, .int .i64 0, .int .i64 0] 40) = W1 := ⟨_, rfl⟩
  have b1 : Below w.heap.size w W1 := by rw [← hW1]; exact (Below.refl _ w).alloc (Nat.le_refl _) _
  have k1 : W1.heap[w.heap.size]? = some (.cells #[.int .i64 0, .int .i64 0, .int .i64 0] 40 (0, 0)) := by rw [← hW1]; exact heap_alloc_new w _
  obtain ⟨g, o, hg, hc⟩ := hA.below b1
  have c0 := cells_at k1 (k := 0) rfl
  have c1 := cells_at k1 (k := 1) rfl
  have c2 := cells_at k1 (k := 2) rfl
  have g0 := frozen_at k1 (k := 0)
  have g1 := frozen_at k1 (k := 1)
  have g2 := frozen_at k1 (k := 2)
  have HK : Hid _ := k1
  have HB : Hid _ := b1
  rw [hq]
  rw [hq] at hg hn
  clear hA k1 b1
  go_enter Try.func14, Try.ntmps14
  go_wp2
  go_loopg [6] q (fun gk p wr => ∃ j : Nat, j + gk = q ∧ p = .int .i64 j ∧ W1 = wr ∧ findW l n = findW (l.drop j) n)
  case atStart => exact ⟨0, by omega, rfl, rfl, by simp⟩
  case round =>
    clear hW1
    obtain ⟨j, hj, rfl, rfl, hinv⟩ := hrel
    by_cases hlt : j < q
    · obtain ⟨r, hr⟩ : ∃ r, l[j]? = some r := ⟨_, List.getElem?_eq_getElem (by omega)⟩
      obtain rfl := hg (by omega)
      obtain ⟨d0, d1, d2⟩ := hc j r hr
      rw [find_drop n hr] at hinv
      clear hc hg hr
      by_cases e : r.job = n
      · rw [if_pos e] at hinv
        have HI : Hid _ := hinv
        obtain ⟨rj, hrj⟩ : ∃ rj, r.job = rj := ⟨_, rfl⟩
        have HRJ : Hid _ := hrj
        rw [hrj] at e d0
        subst e
        clear hinv hrj
        have e3 := set3 (v0 := .int .i64 rj) (v1 := .int .i64 r.nd) (v2 := .int .i64 r.lm) HK.out
        have Y : Hid (_ ∧ _ ∧ _) := And.intro (cells_at e3 (k := 0) rfl) (And.intro (cells_at e3 (k := 1) rfl) (cells_at e3 (k := 2) rfl))
        clear e3
        go_wp2
        obtain ⟨y0, y1, y2⟩ := Y.out
        refine bodyPost_ret (v := .tuple #[.agg #[.int .i64 rj, .int .i64 r.nd, .int .i64 r.lm], .bool true]) (by simp [results, Try.results14, go_sem, y0, y1, y2]) rfl ⟨?_, below3 HB.out (Nat.le_refl _)⟩
        rw [HI.out, ← HRJ.out]
        rfl
      · rw [if_neg e] at hinv
        have HI : Hid _ := hinv
        clear hinv
        go_wp2
        go_roundg (q - (j + 1))
        case measure => omega
        case rel => exact ⟨j + 1, by omega, rfl, rfl, HI.out⟩
    · obtain rfl : j = q := by omega
      have e : Hid (findW l n = none) := by rw [hinv, List.drop_of_length_le (by omega)]; exact rfl
      clear hinv
      have e3 := set3 (v0 := .int .i64 0) (v1 := .int .i64 0) (v2 := .int .i64 0) HK.out
      have Y : Hid (_ ∧ _ ∧ _) := And.intro (cells_at e3 (k := 0) rfl) (And.intro (cells_at e3 (k := 1) rfl) (cells_at e3 (k := 2) rfl))
      clear e3
      go_wp2
      obtain ⟨y0, y1, y2⟩ := Y.out
      refine bodyPost_ret (v := .tuple #[.agg #[.int .i64 0, .int .i64 0, .int .i64 0], .bool false]) (by simp [results, Try.results14, go_sem, y0, y1, y2]) rfl ⟨?_, below3 HB.out (Nat.le_refl _)⟩
      rw [e.out]
      rfl
theorem want_yes {w : World} {ao : Option Addr} {l : List Wt} {c : Nat} (hA : WantsAt w ao l) (hn : l.length * 24 ≤ 140737490000000) {n : Int} {x : Wt} (hf : findW l n = some x) :
    Calls Try.prog 14 #[.slice ao l.length c, .int .i64 n] w fun e w' => e = .returned (.tuple #[.agg #[.int .i64 x.job, .int .i64 x.nd, .int .i64 x.lm], .bool true]) ∧ Below w.heap.size w w' := by
  have := want_any (c := c) hA hn n
  rw [hf] at this
  exact this
theorem want_no {w : World} {ao : Option Addr} {l : List Wt} {c : Nat} (hA : WantsAt w ao l) (hn : l.length * 24 ≤ 140737490000000) {n : Int} (hf : findW l n = none) :
    Calls Try.prog 14 #[.slice ao l.length c, .int .i64 n] w fun e w' => e = .returned (.tuple #[.agg #[.int .i64 0, .int .i64 0, .int .i64 0], .bool false]) ∧ Below w.heap.size w w' := by
  have := want_any (c := c) hA hn n
  rw [hf] at this
  exact this
end Go.Proofs.Ytdkibcagbidelaa
