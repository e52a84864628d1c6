/-
  THE CONTRACTS OF THE REFERENCE's FUNCTIONS (backfillref01) and of the statements' own two turners: Mul, Cmp, Add, Sub, Shl, Shr.
-/
import Derived.Test.YtbnokceagaodkaaDoorRefC0
namespace Go.Proofs.YtbnokceagaodkaaDoor
open Go.RowKit Wd

set_option maxHeartbeats 1000000 in
theorem rcmp_any (ah al bh bl : Int) (h2 : Word al) (h4 : Word bl) (w : World) :
    Calls Tryd.prog 10 #[.agg #[.int .u64 ah, .int .u64 al], .agg #[.int .u64 bh, .int .u64 bl]] w fun e w' =>
      e = .returned (.int .i64 (cmpV (val ah al) (val bh bl))) ∧ Below w.heap.size w w' := by
  by_cases h : ah = bh
  · subst h
    rw [← cmp_lo]
    unfold cmpV
    by_cases l : al < bl
    · go_enter Tryd.func10, Tryd.ntmps10
      go_wp2
      go_ret
      exact ⟨by simp, ((Below.refl _ _).alloc (Nat.le_refl _) _).alloc (by simp) _⟩
    · by_cases q : al = bl
      · subst q
        go_enter Tryd.func10, Tryd.ntmps10
        go_wp2
        go_ret
        exact ⟨by simp, ((Below.refl _ _).alloc (Nat.le_refl _) _).alloc (by simp) _⟩
      · have q' : (al == bl) = false := by simp [q]
        go_enter Tryd.func10, Tryd.ntmps10
        go_wp2
        go_ret
        exact ⟨by first | (simp; done) | (simp [q]; done) | (simp [l, q]; done), ((Below.refl _ _).alloc (Nat.le_refl _) _).alloc (by simp) _⟩
  · rw [← cmp_hi h2 h4 h]
    have k : (ah == bh) = false := by simp [h]
    unfold cmpV
    by_cases l : ah < bh
    · go_enter Tryd.func10, Tryd.ntmps10
      go_wp2
      go_ret
      exact ⟨by first | (simp; done) | (simp [l]; done), ((Below.refl _ _).alloc (Nat.le_refl _) _).alloc (by simp) _⟩
    · go_enter Tryd.func10, Tryd.ntmps10
      go_wp2
      go_ret
      exact ⟨by first | (simp; done) | (simp [l, h]; done), ((Below.refl _ _).alloc (Nat.le_refl _) _).alloc (by simp) _⟩

namespace Wd
end Wd

end Go.Proofs.YtbnokceagaodkaaDoor
