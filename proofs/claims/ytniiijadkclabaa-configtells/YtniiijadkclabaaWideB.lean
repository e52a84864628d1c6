/-
  THE CONTRACTS OF PACKAGE wide: Sub, Cmp, Times.
-/
import Derived.Test.YtniiijadkclabaaWide
namespace Go.Proofs.Ytniiijadkclabaa
open Go.RowKit Wd

namespace Wd
theorem bor_01 (x y : Int) : 0 ≤ bor x y ∧ bor x y ≤ 1 := by unfold bor; split <;> omega
theorem cmp_hi {ah al bh bl : Int} (h2 : Word al) (h4 : Word bl) (h : ah ≠ bh) : cmpV ah bh = cmpV (val ah al) (val bh bl) := by
  obtain ⟨_, _⟩ := h2; obtain ⟨_, _⟩ := h4
  unfold cmpV val; split <;> split <;> (try split) <;> (try split) <;> omega
theorem cmp_lo {ah al bl : Int} : cmpV al bl = cmpV (val ah al) (val ah bl) := by
  unfold cmpV val; split <;> split <;> (try split) <;> (try split) <;> omega
end Wd

set_option maxHeartbeats 400000 in
theorem cmp_any (ah al bh bl : Int) (h2 : Word al) (h4 : Word bl) (w : World) :
    Calls Try.prog 51 #[.agg #[.int .u64 ah, .int .u64 al], .agg #[.int .u64 bh, .int .u64 bl]] w fun e w' =>
      e = .returned (.int .i64 (cmpV (val ah al) (val bh bl))) ∧ Below w.heap.size w w' := by
  by_cases h : ah = bh
  · subst h
    rw [← cmp_lo]
    go_enter Try.func51, Try.ntmps51
    go_wp2_with (go_at_call 60; refine (compare al bl _).mono ?_; rintro e w' ⟨rfl, rfl⟩)
    go_ret
    exact ⟨rfl, ((Below.refl _ _).alloc (Nat.le_refl _) _).alloc (by simp) _⟩
  · rw [← cmp_hi h2 h4 h]
    have k : (ah != bh) = true := by simp [h]
    go_enter Try.func51, Try.ntmps51
    go_wp2_with (go_at_call 60; refine (compare ah bh _).mono ?_; rintro e w' ⟨rfl, rfl⟩)
    go_ret
    exact ⟨rfl, ((Below.refl _ _).alloc (Nat.le_refl _) _).alloc (by simp) _⟩

end Go.Proofs.Ytniiijadkclabaa
