/-
  Package profile: areRight (over slices.ContainsFunc, slices.IndexFunc), byEnd's comparison (over cmp.Compare).
-/
import Derived.Test.YtdkibcagbidelaaRg
import Derived.Sort.Grow
namespace Go.Proofs.Ytdkibcagbidelaa
open Go.RowKit Pr

theorem wrong_any (r : Rn) (w : World) : Calls Try.prog 55 #[.agg #[.int .i64 r.nd, .int .i64 r.en]] w fun e w' => e = .returned (.bool (!okR r)) ∧ Below w.heap.size w w' := by
  have hb : Below w.heap.size w (w.alloc (.cells #[.int .i64 r.nd, .int .i64 r.en] 45)) := (Below.refl _ w).alloc (Nat.le_refl _) _
  go_enter Try.func55, Try.ntmps55
  by_cases h1 : r.nd < 1
  · have e : okR r = false := by simp [okR]; omega
    rw [e]
    go_wp2
    go_ret
    exact ⟨rfl, hb⟩
  · by_cases h2 : 256 < r.nd
    · have e : okR r = false := by simp [okR]; omega
      rw [e]
      go_wp2
      go_ret
      exact ⟨rfl, hb⟩
    · have e : okR r = true := by simp [okR]; omega
      rw [e]
      go_wp2
      go_ret
      exact ⟨rfl, hb⟩

set_option maxHeartbeats 1000000 in
theorem index_any {w : World} {ao : Option Addr} {l : List Rn} {c : Nat} (hA : RunsAt w ao l) (hn : l.length * 16 ≤ 140737488355328) :
    Calls Try.prog 46 #[.slice ao l.length c, .func (.func 55) #[] #[]] w fun e w' => ∃ k : Int, e = .returned (.int .i64 k) ∧ (k = -1 ∧ l.all okR = true ∨ 0 ≤ k ∧ l.all okR = false) ∧ Below w.heap.size w w' := by
  obtain ⟨q, hq⟩ : ∃ q, l.length = q := ⟨_, rfl⟩
  obtain ⟨g, o, hg, hc⟩ := hA
  rw [hq]
  rw [hq] at hg hn
  go_enter Try.func46, Try.ntmps46
  go_wp2
  go_loopg [8] q (fun gk p wr => ∃ j : Nat, j + gk = q ∧ p = .int .i64 j ∧ Below w.heap.size w wr ∧ l.all okR = (l.drop j).all okR)
  case atStart => exact ⟨0, by omega, rfl, Below.refl _ _, by simp⟩
  case round =>
    obtain ⟨j, hj, rfl, hb, hinv⟩ := hrel
    by_cases hlt : j < q
    · obtain ⟨r, hr⟩ : ∃ r, l[j]? = some r := ⟨_, List.getElem?_eq_getElem (by omega)⟩
      obtain rfl := hg (by omega)
      obtain ⟨c1, c2⟩ := hc j r hr
      replace c1 := (hb.cell (World.block_lt_of_cell? w _ c1)).trans c1
      replace c2 := (hb.cell (World.block_lt_of_cell? w _ c2)).trans c2
      rw [all_drop hr] at hinv
      clear hc hg hr
      go_wp2_with fail
      refine (wrong_any r wr).mono ?_
      rintro e w1 ⟨rfl, b1⟩
      have b2 := hb.trans (b1.mono hb.size)
      cases ho : okR r with
      | false =>
        rw [ho, Bool.false_and] at hinv
        have HI : Hid _ := hinv
        clear hinv
        go_wp2
        go_ret
        exact ⟨_, rfl, .inr ⟨by omega, HI.out⟩, b2⟩
      | true =>
        rw [ho, Bool.true_and] at hinv
        have HI : Hid _ := hinv
        clear hinv
        go_wp2
        go_roundg (q - (j + 1))
        case measure => omega
        case rel => exact ⟨j + 1, by omega, rfl, b2, HI.out⟩
    · obtain rfl : j = q := by omega
      have e : Hid (l.all okR = true) := by rw [hinv, List.drop_of_length_le (by omega)]; exact rfl
      clear hinv
      go_wp2
      go_ret
      exact ⟨_, rfl, .inl ⟨rfl, e.out⟩, hb⟩

theorem contains_any {w : World} {ao : Option Addr} {l : List Rn} {c : Nat} (hA : RunsAt w ao l) (hn : l.length * 16 ≤ 140737488355328) :
    Calls Try.prog 37 #[.slice ao l.length c, .func (.func 55) #[] #[]] w fun e w' => e = .returned (.bool (!l.all okR)) ∧ Below w.heap.size w w' := by
  go_enter Try.func37, Try.ntmps37
  go_wp2_with fail
  refine (index_any hA hn).mono ?_
  rintro e w1 ⟨k, rfl, (⟨rfl, h⟩ | ⟨hk, h⟩), b1⟩
  · have H : Hid _ := h
    clear h
    go_wp2
    go_ret
    exact ⟨by rw [H.out]; rfl, b1⟩
  · have H : Hid _ := h
    clear h
    go_wp2
    go_ret
    exact ⟨by rw [H.out]; rfl, b1⟩

theorem areRight_any {w : World} {ao : Option Addr} {l : List Rn} {c : Nat} (hA : RunsAt w ao l) (hn : l.length * 16 ≤ 140737488355328) (free : Int) :
    Calls Try.prog 49 #[.int .i64 free, .slice ao l.length c] w fun e w' => e = .returned (.bool (right free l)) ∧ Below w.heap.size w w' := by
  unfold right
  by_cases h1 : free < 0
  · have : okF free = false := by simp [okF]; omega
    have h1' : ¬ 0 ≤ free := by omega
    rw [this, Bool.false_and]
    go_enter Try.func49, Try.ntmps49
    go_wp2
    go_ret
    exact ⟨rfl, Below.refl _ _⟩
  by_cases h2 : 256 < free
  · have : okF free = false := by simp [okF]; omega
    have h1' : 0 ≤ free := by omega
    have h2' : ¬ free ≤ 256 := by omega
    rw [this, Bool.false_and]
    go_enter Try.func49, Try.ntmps49
    go_wp2
    go_ret
    exact ⟨rfl, Below.refl _ _⟩
  have hf : okF free = true := by simp [okF]; omega
  have h1' : 0 ≤ free := by omega
  have h2' : free ≤ 256 := by omega
  rw [hf, Bool.true_and]
  go_enter Try.func49, Try.ntmps49
  go_wp2_with fail
  refine (contains_any hA hn).mono ?_
  rintro e w1 ⟨rfl, b1⟩
  cases h : l.all okR with
  | false =>
    simp only [Bool.not_false]
    go_wp2
    go_ret
    exact ⟨by rw [h]; rfl, b1⟩
  | true =>
    simp only [Bool.not_true]
    go_wp2
    go_ret
    exact ⟨by rw [h]; rfl, b1⟩

namespace Pr
/-- How two numbers stand to each other. -/
def cmpV (a b : Int) : Int := if a < b then -1 else if b < a then 1 else 0
end Pr
theorem isNaN_no (a : Int) (w : World) : Calls Try.prog 63 #[.int .i64 a] w fun e w' => e = .returned (.bool false) ∧ w' = w := by
  go_enter Try.func63, Try.ntmps63
  go_wp2
  go_ret
  simp
theorem compare_any (a b : Int) (w : World) : Calls Try.prog 59 #[.int .i64 a, .int .i64 b] w fun e w' => e = .returned (.int .i64 (cmpV a b)) ∧ w' = w := by
  go_enter Try.func59, Try.ntmps59
  by_cases h1 : a < b
  · go_wp2_with (go_at_call 63; refine (isNaN_no _ _).mono ?_; rintro e w' ⟨rfl, rfl⟩)
    go_ret
    simp [cmpV, h1]
  · by_cases h2 : b < a
    · go_wp2_with (go_at_call 63; refine (isNaN_no _ _).mono ?_; rintro e w' ⟨rfl, rfl⟩)
      go_ret
      simp [cmpV, h1, h2]
    · go_wp2_with (go_at_call 63; refine (isNaN_no _ _).mono ?_; rintro e w' ⟨rfl, rfl⟩)
      go_ret
      have e1 : ¬ a < b := by omega
      have e2 : ¬ b < a := by omega
      simp [cmpV, e1, e2]
theorem endCmp_any (x y : Rn) (w : World) : Calls Try.prog 58 #[.agg #[.int .i64 x.nd, .int .i64 x.en], .agg #[.int .i64 y.nd, .int .i64 y.en]] w fun e w' => e = .returned (.int .i64 (cmpV x.en y.en)) ∧ ∃ q os, w' = Sort.grow (w.drewN q) os := by
  go_enter Try.func58, Try.ntmps58
  go_wp2_with (go_at_call 59; refine (compare_any _ _ _).mono ?_; rintro e w' ⟨rfl, rfl⟩)
  go_ret
  refine ⟨rfl, 0, #[.cells #[.int .i64 x.nd, .int .i64 x.en] 45, .cells #[.int .i64 y.nd, .int .i64 y.en] 45], ?_⟩
  rw [Sort.alloc_eq_grow, Sort.alloc_eq_grow, Sort.grow_grow]
  rfl
end Go.Proofs.Ytdkibcagbidelaa
