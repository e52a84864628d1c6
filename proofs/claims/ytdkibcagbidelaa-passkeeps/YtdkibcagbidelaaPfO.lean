/-
  Package profile: At.
-/
import Derived.Test.YtdkibcagbidelaaPfN
namespace Go.Proofs.Ytdkibcagbidelaa
open Go.RowKit Go.Shelf Pr

attribute [local go_sem] Oper.semAt_some

namespace Pr
theorem want_step {t x : Int} {S : List Stp} {j : Nat} {s : Stp} (h : S[j]? = some s) : wantV t x (S.drop j) = wantV t (if s.at_ ≤ t then s.fr else x) (S.drop (j + 1)) := by
  obtain ⟨hj, rfl⟩ := List.getElem?_eq_some_iff.1 h
  rw [List.drop_eq_getElem_cons hj]
  rfl
theorem want_at {now free t : Int} {l : List Rn} (hr : right free l = true) : wantV t 0 (stepsV now free l) = AtV now free l t := by
  have hS : stepsV now free l = fromV free l now := by unfold stepsV fromV; rw [if_pos hr]
  rw [hS]
  unfold AtV
  by_cases h : now ≤ t
  · rw [if_pos (by simp [hr, h]), from_want now h]
  · rw [if_neg (by simp [h]), want_above _ _ (fun s hs => by have := (from_mem now s hs).1; omega)]
theorem want_all {now free t : Int} {l : List Rn} : wantV t 0 (stepsV now free l) = AtV now free l t := by
  by_cases hr : right free l = true
  · exact want_at hr
  · have hS : stepsV now free l = [] := by unfold stepsV; rw [if_neg hr]
    rw [hS]
    unfold AtV
    rw [if_neg (by simp [hr])]
    rfl
/-- Steps do not fall. -/
theorem from_tail {free : Int} {l : List Rn} : ∀ a, ∀ k s, (fromV free l a)[k]? = some s → ∀ u ∈ (fromV free l a).drop k, s.at_ ≤ u.at_ := by
  refine from_ind (l := l) (fun a h => ?_) (fun a n h ih => ?_)
  · rw [from_none h]
    intro k s hs u hu
    cases k with
    | zero => simp at hs hu; subst hs; subst hu; exact Int.le_refl _
    | succ k => simp at hs
  · rw [from_some h]
    intro k s hs u hu
    cases k with
    | zero =>
      simp at hs
      subst hs
      simp only [List.drop_zero] at hu
      rcases List.mem_cons.1 hu with rfl | hu
      · exact Int.le_refl _
      · have := (from_mem n u hu).1
        have := (next_some h).1
        simp only
        omega
    | succ k => exact ih k s (by simpa using hs) u (by simpa using hu)
theorem steps_tail {now free : Int} {l : List Rn} {k : Nat} {s : Stp} (h : (stepsV now free l)[k]? = some s) : ∀ u ∈ (stepsV now free l).drop k, s.at_ ≤ u.at_ := by
  by_cases hr : right free l = true
  · have hS : stepsV now free l = fromV free l now := by unfold stepsV fromV; rw [if_pos hr]
    rw [hS] at h ⊢
    exact from_tail now k s h
  · have hS : stepsV now free l = [] := by unfold stepsV; rw [if_neg hr]
    rw [hS] at h
    simp at h
/-- A step above the time: what was found stands. -/
theorem want_end {now free t m : Int} {l : List Rn} {k : Nat} {s : Stp} (h : (stepsV now free l)[k]? = some s) (ht : t < s.at_) (hw : wantV t m ((stepsV now free l).drop k) = AtV now free l t) : m = AtV now free l t := by
  rw [← hw, want_above _ _ (fun u hu => by have := steps_tail h u hu; omega)]
end Pr

end Go.Proofs.Ytdkibcagbidelaa
