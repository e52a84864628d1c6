/-
  The plain mathematics of layer 5's reference: the steps. No Go in sight.
-/
import Derived.Test.YtdkibcagbidelaaPrA
namespace Go.Proofs.Ytdkibcagbidelaa.Pr

/-- What the least end above a time is. -/
theorem next_is (l : List Rn) (t : Int) : ∀ best : Option Int, (∀ b, best = some b → t < b) →
    (nextV best l t = none → best = none ∧ ∀ r ∈ l, r.en ≤ t) ∧
    (∀ n, nextV best l t = some n → t < n ∧ (best = some n ∨ ∃ r ∈ l, r.en = n) ∧ (∀ b, best = some b → n ≤ b) ∧ ∀ r ∈ l, t < r.en → n ≤ r.en) := by
  induction l with
  | nil =>
    intro best hb
    exact ⟨fun h => ⟨h, fun r hr => by cases hr⟩, fun n h => ⟨hb n h, .inl h, fun b hb' => by rw [show nextV best [] t = best from rfl] at h; rw [h] at hb'; cases hb'; exact Int.le_refl _, fun r hr => by cases hr⟩⟩
  | cons r l ih =>
    intro best hb
    have e : nextV best (r :: l) t = nextV (if t < r.en ∧ (∀ b, best = some b → r.en < b) then some r.en else best) l t := rfl
    rw [e]
    by_cases h : t < r.en ∧ (∀ b, best = some b → r.en < b)
    · rw [if_pos h]
      obtain ⟨i1, i2⟩ := ih (some r.en) (fun b hb' => by cases hb'; exact h.1)
      refine ⟨fun hn => (by cases (i1 hn).1), fun n hn => ?_⟩
      obtain ⟨j1, j2, j3, j4⟩ := i2 n hn
      refine ⟨j1, .inr ?_, fun b hb' => ?_, fun s hs hts => ?_⟩
      · rcases j2 with j2 | ⟨s, hs, hsn⟩
        · injection j2 with j2
          exact ⟨r, by simp, j2⟩
        · exact ⟨s, by simp [hs], hsn⟩
      · have := j3 r.en rfl
        have := h.2 b hb'
        omega
      · rcases List.mem_cons.1 hs with rfl | hs
        · exact j3 _ rfl
        · exact j4 s hs hts
    · rw [if_neg h]
      obtain ⟨i1, i2⟩ := ih best hb
      refine ⟨fun hn => ?_, fun n hn => ?_⟩
      · obtain ⟨k1, k2⟩ := i1 hn
        refine ⟨k1, fun s hs => ?_⟩
        rcases List.mem_cons.1 hs with rfl | hs
        · have : ¬ t < s.en := fun ht => h ⟨ht, fun b hb' => by rw [k1] at hb'; cases hb'⟩
          omega
        · exact k2 s hs
      · obtain ⟨j1, j2, j3, j4⟩ := i2 n hn
        refine ⟨j1, ?_, j3, fun s hs hts => ?_⟩
        · rcases j2 with j2 | ⟨s, hs, hsn⟩
          · exact .inl j2
          · exact .inr ⟨s, by simp [hs], hsn⟩
        · rcases List.mem_cons.1 hs with rfl | hs
          · cases hbst : best with
            | none => exact absurd ⟨hts, fun b hb' => by rw [hbst] at hb'; cases hb'⟩ h
            | some b =>
              have h1 := j3 b hbst
              have h2 : ¬ s.en < b := fun hlt => h ⟨hts, fun b' hb' => by rw [hbst] at hb'; cases hb'; exact hlt⟩
              omega
          · exact j4 s hs hts
theorem next_none {l : List Rn} {t : Int} (h : nextV none l t = none) : ∀ r ∈ l, r.en ≤ t := ((next_is l t none (fun b hb => by cases hb)).1 h).2
theorem next_some {l : List Rn} {t n : Int} (h : nextV none l t = some n) : t < n ∧ (∃ r ∈ l, r.en = n) ∧ ∀ r ∈ l, t < r.en → n ≤ r.en := by
  obtain ⟨a, b, _, d⟩ := (next_is l t none (fun b hb => by cases hb)).2 n h
  exact ⟨a, b.resolve_left (by simp), d⟩
/-- How many end above a time. -/
def cnt (l : List Rn) (t : Int) : Nat := (l.filter fun r => decide (t < r.en)).length
theorem cnt_le (l : List Rn) (t : Int) : cnt l t ≤ l.length := List.length_filter_le _ _
theorem cnt_mono (l : List Rn) {t n : Int} (h : t ≤ n) : cnt l n ≤ cnt l t := by
  unfold cnt
  induction l with
  | nil => exact Nat.le_refl _
  | cons r l ih =>
    by_cases h1 : n < r.en
    · have h2 : t < r.en := by omega
      simp [h1, h2] at ih ⊢
      exact ih
    · by_cases h2 : t < r.en
      · simp [h1, h2] at ih ⊢
        omega
      · simp [h1, h2] at ih ⊢
        exact ih
theorem cnt_lt {l : List Rn} {t n : Int} (h : t < n) (hr : ∃ r ∈ l, r.en = n) : cnt l n < cnt l t := by
  induction l with
  | nil => obtain ⟨r, hr, _⟩ := hr; cases hr
  | cons r l ih =>
    have hm := cnt_mono l (Int.le_of_lt h)
    unfold cnt at *
    by_cases e : r.en = n
    · have h1 : ¬ n < r.en := by omega
      have h2 : t < r.en := by omega
      simp [h1, h2] at hm ⊢
      omega
    · have := ih (by
        obtain ⟨s, hs, hsn⟩ := hr
        rcases List.mem_cons.1 hs with rfl | hs
        · exact absurd hsn e
        · exact ⟨s, hs, hsn⟩)
      by_cases h1 : n < r.en
      · have h2 : t < r.en := by omega
        simp [h1, h2] at this ⊢
        exact this
      · by_cases h2 : t < r.en
        · simp [h1, h2] at this ⊢
          omega
        · simp [h1, h2] at this ⊢
          exact this
/-- A step. -/
structure Stp where
  at_ : Int
  fr : Int
/-- The steps behind a time. -/
def stepsFrom (free : Int) (l : List Rn) : Nat → Int → List Stp
  | 0, _ => []
  | k + 1, t => match nextV none l t with
    | none => []
    | some n => ⟨n, atV free l n⟩ :: stepsFrom free l k n
def restV (free : Int) (l : List Rn) (t : Int) : List Stp := stepsFrom free l (cnt l t) t
def stepsV (now free : Int) (l : List Rn) : List Stp := if right free l then ⟨now, atV free l now⟩ :: restV free l now else []
theorem from_any (free : Int) (l : List Rn) : ∀ (k : Nat) (t : Int) (k' : Nat), cnt l t ≤ k → cnt l t ≤ k' → stepsFrom free l k t = stepsFrom free l k' t := by
  intro k
  induction k with
  | zero =>
    intro t k' h _
    cases hn : nextV none l t with
    | none => cases k' with
      | zero => rfl
      | succ k' => simp [stepsFrom, hn]
    | some n => have := cnt_lt (next_some hn).1 (next_some hn).2.1; omega
  | succ k ih =>
    intro t k' h h'
    cases hn : nextV none l t with
    | none => cases k' with
      | zero => simp [stepsFrom, hn]
      | succ k' => simp [stepsFrom, hn]
    | some n =>
      have hlt := cnt_lt (next_some hn).1 (next_some hn).2.1
      cases k' with
      | zero => omega
      | succ k' =>
        simp only [stepsFrom, hn]
        rw [ih n k' (by omega) (by omega)]
theorem rest_none {free : Int} {l : List Rn} {t : Int} (h : nextV none l t = none) : restV free l t = [] := by
  unfold restV
  cases hc : cnt l t with
  | zero => rfl
  | succ k => simp [stepsFrom, h]
theorem rest_some {free : Int} {l : List Rn} {t n : Int} (h : nextV none l t = some n) : restV free l t = ⟨n, atV free l n⟩ :: restV free l n := by
  have hlt := cnt_lt (next_some h).1 (next_some h).2.1
  obtain ⟨k, hk⟩ : ∃ k, cnt l t = k + 1 := ⟨cnt l t - 1, by omega⟩
  unfold restV
  rw [hk]
  simp only [stepsFrom, h]
  rw [from_any free l k n (cnt l n) (by omega) (Nat.le_refl _)]
theorem rest_len (free : Int) (l : List Rn) (t : Int) : (restV free l t).length ≤ cnt l t := by
  unfold restV
  have : ∀ (k : Nat) (t : Int), (stepsFrom free l k t).length ≤ k := by
    intro k
    induction k with
    | zero => intro t; simp [stepsFrom]
    | succ k ih =>
      intro t
      simp only [stepsFrom]
      split
      · simp
      · simp only [List.length_cons]
        have := ih (by assumption)
        omega
  exact this _ _
theorem steps_len (now free : Int) (l : List Rn) : (stepsV now free l).length ≤ l.length + 1 := by
  unfold stepsV
  split
  · simp only [List.length_cons]
    have := rest_len free l now
    have := cnt_le l now
    omega
  · simp
end Go.Proofs.Ytdkibcagbidelaa.Pr
