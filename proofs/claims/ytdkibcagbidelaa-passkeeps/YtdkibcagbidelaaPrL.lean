/-
  The plain mathematics of ProfileLess: what a run more or less does to a shadow. No Go in sight.
-/
import Derived.Test.YtdkibcagbidelaaPrS
namespace Go.Proofs.Ytdkibcagbidelaa.Pr

/-- T is the least time, from now on, at which there are enough. -/
def IsSh (now free : Int) (l : List Rn) (need T : Int) : Prop := now ≤ T ∧ need ≤ atV free l T ∧ ∀ u, now ≤ u → u < T → atV free l u < need
theorem sh_uniq {now free : Int} {l : List Rn} {need T T' : Int} (h : IsSh now free l need T) (h' : IsSh now free l need T') : T = T' := by
  obtain ⟨a1, a2, a3⟩ := h
  obtain ⟨b1, b2, b3⟩ := h'
  rcases Int.lt_trichotomy T T' with c | c | c
  · have := b3 T a1 c; omega
  · exact c
  · have := a3 T' b1 c; omega
theorem steps_right {now free : Int} {l : List Rn} (h : right free l = true) : stepsV now free l = fromV free l now := by unfold stepsV fromV; rw [if_pos h]
theorem shadow_right {now free need : Int} {l : List Rn} {s : Stp} (h : shadowV now free l need = some s) : right free l = true ∧ 0 ≤ need := by
  unfold shadowV at h
  by_cases hc : (right free l && decide (0 ≤ need)) = true
  · simpa using hc
  · rw [if_neg hc] at h; cases h
theorem shadow_some {now free need : Int} {l : List Rn} {s : Stp} (h : shadowV now free l need = some s) : IsSh now free l need s.at_ ∧ s.fr = atV free l s.at_ := by
  obtain ⟨hr, hn⟩ := shadow_right h
  unfold shadowV at h
  rw [if_pos (by simp [hr, hn]), steps_right hr] at h
  obtain ⟨h1, h2, h3, h4⟩ := (from_first now).1 s h
  exact ⟨⟨h1, by omega, h4⟩, h2⟩
/-- Where it is, Shadow tells it. -/
theorem shadow_of {now free need T : Int} {l : List Rn} (hr : right free l = true) (hn : 0 ≤ need) (h : IsSh now free l need T) : shadowV now free l need = some ⟨T, atV free l T⟩ := by
  cases hs : shadowV now free l need with
  | none =>
    unfold shadowV at hs
    rw [if_pos (by simp [hr, hn]), steps_right hr] at hs
    have := (from_first now).2 hs T h.1
    have := h.2.1
    omega
  | some s =>
    obtain ⟨h1, h2⟩ := shadow_some hs
    have e := sh_uniq h1 h
    obtain ⟨a, b⟩ := s
    simp only at e h2
    subst e
    rw [h2]
/-- With no fewer at any time the shadow is there, and no later. -/
theorem shadow_more {now free need T free' : Int} {l l' : List Rn} (hr : right free' l' = true) (hn : 0 ≤ need) (h : IsSh now free l need T) (hm : ∀ u, atV free l u ≤ atV free' l' u) : ∃ s, shadowV now free' l' need = some s ∧ s.at_ ≤ T := by
  cases hs : shadowV now free' l' need with
  | none =>
    unfold shadowV at hs
    rw [if_pos (by simp [hr, hn]), steps_right hr] at hs
    have h1 := (from_first now).2 hs T h.1
    have h2 := h.2.1
    have h3 := hm T
    omega
  | some s =>
    refine ⟨s, rfl, ?_⟩
    obtain ⟨⟨h1, h2, h3⟩, _⟩ := shadow_some hs
    by_cases c : s.at_ ≤ T
    · exact c
    · have h4 := h3 T h.1 (by omega)
      have h5 := h.2.1
      have h6 := hm T
      omega
theorem right_parts {free : Int} {l : List Rn} : right free l = true ↔ (0 ≤ free ∧ free ≤ 256) ∧ l.all okR = true := by
  unfold right okF
  simp
/-- The order of the runs is not seen. -/
theorem shadow_rev (now free need : Int) (l : List Rn) : shadowV now free l.reverse need = shadowV now free l need := by
  have hat : ∀ u, atV free l.reverse u = atV free l u := fun u => by rw [at_su, at_su, su_rev]
  have hr : right free l.reverse = right free l := by simp [right]
  cases hs : shadowV now free l need with
  | some s =>
    obtain ⟨h1, h2⟩ := shadow_some hs
    obtain ⟨r1, r2⟩ := shadow_right hs
    have := shadow_of (l := l.reverse) (hr.trans r1) r2 (T := s.at_) ⟨h1.1, by rw [hat]; exact h1.2.1, fun u a b => by rw [hat]; exact h1.2.2 u a b⟩
    rw [this, hat, ← h2]
  | none =>
    cases ht : shadowV now free l.reverse need with
    | none => rfl
    | some s =>
      obtain ⟨h1, h2⟩ := shadow_some ht
      obtain ⟨r1, r2⟩ := shadow_right ht
      have := shadow_of (l := l) (hr.symm.trans r1) r2 (T := s.at_) ⟨h1.1, by rw [← hat]; exact h1.2.1, fun u a b => by rw [← hat]; exact h1.2.2 u a b⟩
      rw [this] at hs
      cases hs
/-- One of the runs ends earlier. -/
theorem su_early {a b : List Rn} {r : Rn} {e : Int} (hr : okR r = true) (he : e ≤ r.en) (u : Int) : su (a ++ r :: b) u ≤ su (a ++ ⟨r.nd, e⟩ :: b) u := by
  have := okR_le hr
  rw [su_app, su_app]
  simp only [su]
  by_cases c : r.en ≤ u
  · rw [if_pos c, if_pos (by omega)]; omega
  · rw [if_neg c]; split <;> omega
/-- One of the runs is gone, its nodes free. -/
theorem su_gone {a b : List Rn} {r : Rn} (hr : okR r = true) (u : Int) : su (a ++ r :: b) u ≤ r.nd + su (a ++ b) u := by
  have := okR_le hr
  rw [su_app, su_app]
  simp only [su]
  split <;> omega
/-- One run more, of k that were free: it ends by the shadow. -/
theorem shadow_by {now free need T k e : Int} {l : List Rn} (hr : right free l = true) (hn : 0 ≤ need) (h : IsSh now free l need T) (hk1 : 1 ≤ k) (hk2 : k ≤ free) (heT : e ≤ T) :
    shadowV now (free - k) (l ++ [⟨k, e⟩]) need = some ⟨T, atV free l T⟩ := by
  obtain ⟨⟨f0, f1⟩, hok⟩ := right_parts.1 hr
  have hat : ∀ u, atV (free - k) (l ++ [⟨k, e⟩]) u = atV free l u - k + (if e ≤ u then k else 0) := fun u => by
    rw [at_su, at_su, su_app]; simp only [su]; omega
  have hr' : right (free - k) (l ++ [⟨k, e⟩]) = true := right_parts.2 ⟨⟨by omega, by omega⟩, by simp [hok, okR]; omega⟩
  have := shadow_of hr' hn (T := T) ⟨h.1, by rw [hat, if_pos heT]; have := h.2.1; omega, fun u a b => by rw [hat]; have := h.2.2 u a b; split <;> omega⟩
  rw [this, hat, if_pos heT]
  congr 2
  omega
/-- One run more that ends later, of at most what is more: it takes just that. -/
theorem shadow_later {now free need T k e : Int} {l : List Rn} (hr : right free l = true) (hn : 0 ≤ need) (h : IsSh now free l need T) (hk1 : 1 ≤ k) (hk2 : k ≤ free) (heT : T < e) (hm : k ≤ atV free l T - need) :
    shadowV now (free - k) (l ++ [⟨k, e⟩]) need = some ⟨T, atV free l T - k⟩ := by
  obtain ⟨⟨f0, f1⟩, hok⟩ := right_parts.1 hr
  have hat : ∀ u, atV (free - k) (l ++ [⟨k, e⟩]) u = atV free l u - k + (if e ≤ u then k else 0) := fun u => by
    rw [at_su, at_su, su_app]; simp only [su]; omega
  have hr' : right (free - k) (l ++ [⟨k, e⟩]) = true := right_parts.2 ⟨⟨by omega, by omega⟩, by simp [hok, okR]; omega⟩
  have := shadow_of hr' hn (T := T) ⟨h.1, by rw [hat, if_neg (by omega)]; omega, fun u a b => by rw [hat]; have := h.2.2 u a b; split <;> omega⟩
  rw [this, hat, if_neg (by omega)]
  congr 2
  omega
end Go.Proofs.Ytdkibcagbidelaa.Pr
