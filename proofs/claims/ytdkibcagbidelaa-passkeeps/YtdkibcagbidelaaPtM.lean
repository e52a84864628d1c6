/-
  What the reference's pass does with the list of those who are left. No Go in sight.
-/
import Derived.Test.YtdkibcagbidelaaPsW
namespace Go.Proofs.Ytdkibcagbidelaa.Pr

theorem oth_self {j : Int} {l : List Wt} (h : ∀ w ∈ l, w.job ≠ j) : othV j l = l := by
  unfold othV
  rw [List.filter_eq_self]
  intro w hw
  exact decide_eq_true (h w hw)
theorem erase_oth {ws : List Wt} (hu : (ws.map Wt.job).Nodup) : ∀ {i : Nat} {w : Wt}, ws[i]? = some w → ws.eraseIdx i = othV w.job ws := by
  induction ws with
  | nil => intro i w h; simp at h
  | cons a l ih =>
    rw [List.map_cons, List.nodup_cons] at hu
    intro i w h
    cases i with
    | zero =>
      simp at h
      subst h
      show l = othV a.job (a :: l)
      unfold othV
      rw [List.filter_cons_of_neg (by simp)]
      exact (oth_self (fun w hw e => hu.1 (List.mem_map.2 ⟨w, hw, e⟩))).symm
    | succ i =>
      have h' : l[i]? = some w := by simpa using h
      have hne : a.job ≠ w.job := fun e => hu.1 (List.mem_map.2 ⟨w, List.mem_of_getElem? h', e.symm⟩)
      show a :: l.eraseIdx i = othV w.job (a :: l)
      unfold othV
      rw [List.filter_cons_of_pos (by simpa using hne), ih hu.2 h']
      rfl
theorem drop_erase {l : List Wt} {i : Nat} : (l.eraseIdx i).drop i = l.drop (i + 1) := by
  induction l generalizing i with
  | nil => simp
  | cons a l ih =>
    cases i with
    | zero => simp
    | succ i => simpa using ih
theorem oth_drop {l : List Wt} {i : Nat} {w : Wt} (j : Int) (h : l[i]? = some w) : othV j (l.drop i) = if w.job = j then othV j (l.drop (i + 1)) else w :: othV j (l.drop (i + 1)) := by
  obtain ⟨hi, rfl⟩ := List.getElem?_eq_some_iff.1 h
  rw [List.drop_eq_getElem_cons hi]
  unfold othV
  by_cases e : l[i].job = j
  · rw [if_pos e, List.filter_cons_of_neg (by simpa using e)]
  · rw [if_neg e, List.filter_cons_of_pos (by simpa using e)]
/-- One that fits and ends in time, or is among the extra ones, is started; another is passed by. -/
theorem fill_one {now sh : Int} {s : Ps} {x : Int} {w : Wt} {l : List Wt} : fillV now sh s x (w :: l) =
    if s.fr < w.nd ∨ (sh < now + w.lm ∧ x < w.nd) then fillV now sh s x l else fillV now sh (stV now s w) (if sh < now + w.lm then x - w.nd else x) l := by
  simp only [fillV]
  by_cases h1 : w.nd ≤ s.fr <;> by_cases h2 : now + w.lm ≤ sh <;> by_cases h3 : w.nd ≤ x
  all_goals simp [h1, h2, h3, Int.not_lt.2, Int.not_le.1]
end Go.Proofs.Ytdkibcagbidelaa.Pr
