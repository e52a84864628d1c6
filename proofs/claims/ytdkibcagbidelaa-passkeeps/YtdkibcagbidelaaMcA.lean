/-
  LAYER 15: package pass: the rules (room, deadline), isHeld.
-/
import Derived.Test.YtdkibcagbidelaaPaC
import Derived.Test.YtdkibcagbidelaaCol
namespace Go.Proofs.Ytdkibcagbidelaa
open Go.RowKit Pr

def wtV (r : Wt) : Value := .agg #[.int .i64 r.job, .int .i64 r.nd, .int .i64 r.lm]
set_option maxHeartbeats 400000 in
theorem lets_any (x : Wt) {r : Nat} {fr : Int} {w : World} (hr : w.cell? ⟨r, 0, none⟩ = some (.int .i64 fr)) :
    Calls Try.prog 98 #[.pointer (some ⟨r, 0, none⟩), wtV x] w fun e w' => e = .returned (.bool (decide (x.nd ≤ fr))) ∧ Below w.heap.size w w' := by
  obtain ⟨w1, hw1⟩ : ∃ w1, w.alloc (.cells #[.int .i64 x.job, .int .i64 x.nd, .int .i64 x.lm] 40) = w1 := ⟨_, rfl⟩
  have hbl : Below w.heap.size w w1 := by rw [← hw1]; exact (Below.refl _ w).alloc (Nat.le_refl _) _
  have hr1 : w1.cell? ⟨r, 0, none⟩ = some (.int .i64 fr) := (hbl.cell (World.block_lt_of_cell? w _ hr)).trans hr
  have hx : w1.cell? ⟨w.heap.size, 1, none⟩ = some (.int .i64 x.nd) := by rw [← hw1]; exact cell_nw w rfl
  clear hr
  unfold wtV
  go_enter Try.func98, Try.ntmps98
  go_wp2
  go_quiet (fail)
  all_goals
    go_wp2
    go_ret
    refine ⟨ret_bool (by simp), hbl.trans ((drew_below _ _).mono hbl.size)⟩

set_option maxHeartbeats 400000 in
theorem started_any (x : Wt) {r : Nat} {fr : Int} {w : World} (hr : w.heap[r]? = some (.cells #[.int .i64 fr] 90 (0, 0))) (h0 : 0 ≤ fr) (h1 : fr ≤ 1152921504606846976) (h2 : 0 ≤ x.nd) (h3 : x.nd ≤ 256) :
    Calls Try.prog 99 #[.pointer (some ⟨r, 0, none⟩), wtV x] w fun e w' => e = .returned (.tuple #[]) ∧ w'.heap[r]? = some (.cells #[.int .i64 (fr - x.nd)] 90 (0, 0)) ∧ Chg (fun i => i = r) w w' := by
  obtain ⟨w1, hw1⟩ : ∃ w1, w.alloc (.cells #[.int .i64 x.job, .int .i64 x.nd, .int .i64 x.lm] 40) = w1 := ⟨_, rfl⟩
  have hbl : Below w.heap.size w w1 := by rw [← hw1]; exact (Below.refl _ w).alloc (Nat.le_refl _) _
  have hlt : r < w.heap.size := (Array.getElem?_eq_some_iff.1 hr).1
  have hr1 : w1.heap[r]? = some (.cells #[.int .i64 fr] 90 (0, 0)) := (hbl.block r hlt).trans hr
  have hx : w1.cell? ⟨w.heap.size, 1, none⟩ = some (.int .i64 x.nd) := by rw [← hw1]; exact cell_nw w rfl
  have c1 : w1.cell? ⟨r, 0, none⟩ = some (.int .i64 fr) := cells_at hr1 rfl
  have f1 : w1.frozen? ⟨r, 0, none⟩ = false := frozen_at hr1
  have HR : Hid _ := hr1
  have HB : Hid _ := hbl
  clear hr hr1 hbl
  unfold wtV
  go_enter Try.func99, Try.ntmps99
  go_wp2
  go_region
  go_end0
  refine ⟨rfl, ?_, ?_⟩
  · exact heap_setCell_same w1 r 0 _ 90 _ HR.out
  · exact ((Chg.of_below HB.out (fun i => i = r)).setCell ⟨r, 0, none⟩ _ (.inl rfl)).drew

theorem dlets_any (x : Wt) (now by_ : Int) (w : World) (h0 : 0 ≤ now) (h1 : now ≤ 2199023255552) (h2 : 0 ≤ x.lm) (h3 : x.lm ≤ 1048576) :
    Calls Try.prog 100 #[.agg #[.int .i64 now, .int .i64 by_], wtV x] w fun e w' => e = .returned (.bool (decide (now + x.lm ≤ by_))) ∧ Below w.heap.size w w' := by
  have hbl : Below w.heap.size w ((w.alloc (.cells #[.int .i64 now, .int .i64 by_] 94)).alloc (.cells #[.int .i64 x.job, .int .i64 x.nd, .int .i64 x.lm] 40)) := ((Below.refl _ w).alloc (Nat.le_refl _) _).alloc (by simp) _
  unfold wtV
  go_enter Try.func100, Try.ntmps100
  go_wp2
  go_ret
  exact ⟨ret_bool (by simp), hbl⟩
theorem dstarted_any (x : Wt) (now by_ : Int) (w : World) :
    Calls Try.prog 101 #[.agg #[.int .i64 now, .int .i64 by_], wtV x] w fun e w' => e = .returned (.tuple #[]) ∧ Below w.heap.size w w' := by
  have hbl : Below w.heap.size w ((w.alloc (.cells #[.int .i64 now, .int .i64 by_] 94)).alloc (.cells #[.int .i64 x.job, .int .i64 x.nd, .int .i64 x.lm] 40)) := ((Below.refl _ w).alloc (Nat.le_refl _) _).alloc (by simp) _
  unfold wtV
  go_enter Try.func101, Try.ntmps101
  go_wp2
  go_end0
  exact ⟨rfl, hbl⟩
theorem held_any {m : Nat} {j : Int} {w : World} (hm : w.cell? ⟨m, 4, none⟩ = some (.int .i64 j)) :
    Calls Try.prog 41 #[.pointer (some ⟨m, 0, none⟩)] w fun e w' => e = .returned (.bool (j != -1)) ∧ w' = w := by
  go_enter Try.func41, Try.ntmps41
  go_wp2
  go_ret
  exact ⟨rfl, rfl⟩
end Go.Proofs.Ytdkibcagbidelaa
