/-
  The plain mathematics of ProfileRises and ProfileLess: sums of runs, the steps' order, the shadow. No Go in sight.
-/
import Derived.Test.YtdkibcagbidelaaPrC
namespace Go.Proofs.Ytdkibcagbidelaa.Pr

/-- The nodes of all runs that end by a time. -/
def su : List Rn → Int → Int
  | [], _ => 0
  | r :: l, t => (if r.en ≤ t then r.nd else 0) + su l t
theorem at_su (l : List Rn) (t : Int) : ∀ free, atV free l t = free + su l t := by
  induction l with
  | nil => intro free; simp [atV, su]
  | cons r l ih =>
    intro free
    have e : atV free (r :: l) t = atV (if r.en ≤ t then free + r.nd else free) l t := rfl
    rw [e, ih]
    simp only [su]
    split <;> omega
theorem su_app (a b : List Rn) (t : Int) : su (a ++ b) t = su a t + su b t := by
  induction a with
  | nil => simp [su]
  | cons r l ih => simp only [List.cons_append, su, ih]; omega
theorem su_rev (l : List Rn) (t : Int) : su l.reverse t = su l t := by
  induction l with
  | nil => rfl
  | cons r l ih => rw [List.reverse_cons, su_app, ih]; simp only [su]; omega
theorem okR_le {r : Rn} (h : okR r = true) : 1 ≤ r.nd ∧ r.nd ≤ 256 := by simpa [okR] using h
theorem su_mono {l : List Rn} (h : l.all okR = true) {t u : Int} (htu : t ≤ u) : su l t ≤ su l u := by
  induction l with
  | nil => exact Int.le_refl _
  | cons r l ih =>
    obtain ⟨h1, h2⟩ : okR r = true ∧ l.all okR = true := by simpa using h
    have := ih h2
    have := okR_le h1
    simp only [su]
    by_cases a : r.en ≤ t
    · rw [if_pos a, if_pos (by omega)]; omega
    · rw [if_neg a]; split <;> omega
theorem su_same {l : List Rn} {t u : Int} (htu : t ≤ u) (h : ∀ r ∈ l, t < r.en → u < r.en) : su l u = su l t := by
  induction l with
  | nil => rfl
  | cons r l ih =>
    have h1 := ih (fun s hs => h s (by simp [hs]))
    have h2 := h r (by simp)
    simp only [su, h1]
    by_cases a : r.en ≤ t
    · rw [if_pos a, if_pos (by omega)]
    · rw [if_neg a, if_neg (by omega)]
theorem su_lt {l : List Rn} (h : l.all okR = true) {t u : Int} (hr : ∃ r ∈ l, t < r.en ∧ r.en ≤ u) : su l t < su l u := by
  induction l with
  | nil => obtain ⟨r, hr, _⟩ := hr; cases hr
  | cons r l ih =>
    obtain ⟨h1, h2⟩ : okR r = true ∧ l.all okR = true := by simpa using h
    have ho := okR_le h1
    obtain ⟨s, hs, s1, s2⟩ := hr
    have hm := su_mono h2 (t := t) (u := u) (by omega)
    simp only [su]
    rcases List.mem_cons.1 hs with rfl | hs
    · rw [if_neg (by omega), if_pos s2]; omega
    · have := ih h2 ⟨s, hs, s1, s2⟩
      by_cases a : r.en ≤ t
      · rw [if_pos a, if_pos (by omega)]; omega
      · rw [if_neg a]; split <;> omega
/-- Between a time and the next end nothing turns. -/
theorem at_gap {l : List Rn} {a n u free : Int} (h : nextV none l a = some n) (h1 : a ≤ u) (h2 : u < n) : atV free l u = atV free l a := by
  rw [at_su, at_su, su_same h1 (fun r hr hlt => by have := (next_some h).2.2 r hr hlt; omega)]
theorem at_end {l : List Rn} {a u free : Int} (h : nextV none l a = none) (h1 : a ≤ u) : atV free l u = atV free l a := by
  rw [at_su, at_su, su_same h1 (fun r hr hlt => by have := next_none h r hr; omega)]

/-- The steps from a time on. -/
def fromV (free : Int) (l : List Rn) (a : Int) : List Stp := ⟨a, atV free l a⟩ :: restV free l a
theorem from_ind {l : List Rn} {C : Int → Prop} (h0 : ∀ a, nextV none l a = none → C a) (h1 : ∀ a n, nextV none l a = some n → C n → C a) : ∀ a, C a := by
  have : ∀ k a, cnt l a ≤ k → C a := by
    intro k
    induction k with
    | zero =>
      intro a ha
      cases hn : nextV none l a with
      | none => exact h0 a hn
      | some n => have := cnt_lt (next_some hn).1 (next_some hn).2.1; omega
    | succ k ih =>
      intro a ha
      cases hn : nextV none l a with
      | none => exact h0 a hn
      | some n => exact h1 a n hn (ih n (by have := cnt_lt (next_some hn).1 (next_some hn).2.1; omega))
  exact fun a => this _ a (Nat.le_refl _)
theorem from_none {free : Int} {l : List Rn} {a : Int} (h : nextV none l a = none) : fromV free l a = [⟨a, atV free l a⟩] := by unfold fromV; rw [rest_none h]
theorem from_some {free : Int} {l : List Rn} {a n : Int} (h : nextV none l a = some n) : fromV free l a = ⟨a, atV free l a⟩ :: fromV free l n := by unfold fromV; rw [rest_some h]
/-- All steps are at their times. -/
theorem from_mem {free : Int} {l : List Rn} : ∀ a, ∀ s ∈ fromV free l a, a ≤ s.at_ ∧ s.fr = atV free l s.at_ := by
  refine from_ind (l := l) (fun a h => ?_) (fun a n h ih => ?_)
  · rw [from_none h]
    intro s hs
    obtain rfl := List.mem_singleton.1 hs
    exact ⟨Int.le_refl _, rfl⟩
  · rw [from_some h]
    intro s hs
    rcases List.mem_cons.1 hs with rfl | hs
    · exact ⟨Int.le_refl _, rfl⟩
    · obtain ⟨h1, h2⟩ := ih s hs
      have := (next_some h).1
      exact ⟨by omega, h2⟩
/-- The steps rise. -/
theorem from_rise {free : Int} {l : List Rn} (hok : l.all okR = true) : ∀ a, ∀ i s t, (fromV free l a)[i]? = some s → (fromV free l a)[i + 1]? = some t → s.at_ < t.at_ ∧ s.fr < t.fr := by
  refine from_ind (l := l) (fun a h => ?_) (fun a n h ih => ?_)
  · rw [from_none h]
    intro i s t _ h2
    simp at h2
  · rw [from_some h]
    intro i s t h1 h2
    cases i with
    | zero =>
      simp at h1 h2
      subst h1
      have e : (fromV free l n)[0]? = some ⟨n, atV free l n⟩ := by unfold fromV; rfl
      rw [e] at h2
      injection h2 with h2
      subst h2
      obtain ⟨n1, ⟨r, hr, hrn⟩, _⟩ := next_some h
      have := su_lt hok (t := a) (u := n) ⟨r, hr, by omega, by omega⟩
      refine ⟨n1, ?_⟩
      show atV free l a < atV free l n
      rw [at_su, at_su]
      omega
    | succ i => exact ih i s t (by simpa using h1) (by simpa using h2)
/-- The last step has all nodes. -/
theorem from_last {free : Int} {l : List Rn} : ∀ a, ∃ s, (fromV free l a).getLast? = some s ∧ ∀ u, s.at_ ≤ u → atV free l u = s.fr := by
  refine from_ind (l := l) (fun a h => ?_) (fun a n h ih => ?_)
  · rw [from_none h]
    exact ⟨_, rfl, fun u hu => at_end h hu⟩
  · rw [from_some h]
    obtain ⟨s, h1, h2⟩ := ih
    exact ⟨s, by rw [List.getLast?_cons, h1]; rfl, h2⟩
/-- The Free of the last step that is not above a time. -/
def wantV (t : Int) : Int → List Stp → Int
  | w, [] => w
  | w, s :: l => wantV t (if s.at_ ≤ t then s.fr else w) l
theorem want_above {t : Int} : ∀ (l : List Stp) (w : Int), (∀ s ∈ l, t < s.at_) → wantV t w l = w := by
  intro l
  induction l with
  | nil => intro w _; rfl
  | cons s l ih =>
    intro w h
    have h1 := h s (by simp)
    simp only [wantV]
    rw [if_neg (by omega)]
    exact ih w (fun x hx => h x (by simp [hx]))
theorem from_want {free t : Int} {l : List Rn} : ∀ a, a ≤ t → ∀ w, wantV t w (fromV free l a) = atV free l t := by
  refine from_ind (l := l) (fun a h hat w => ?_) (fun a n h ih hat w => ?_)
  · rw [from_none h]
    simp only [wantV]
    rw [if_pos hat, at_end h hat]
  · rw [from_some h]
    simp only [wantV]
    rw [if_pos hat]
    by_cases hn : n ≤ t
    · exact ih hn _
    · rw [want_above _ _ (fun s hs => by have := (from_mem n s hs).1; omega), at_gap h hat (by omega)]
/-- The first that has enough: there, and never before. -/
theorem from_first {free need : Int} {l : List Rn} : ∀ a,
    (∀ s, firstV need (fromV free l a) = some s → a ≤ s.at_ ∧ s.fr = atV free l s.at_ ∧ need ≤ s.fr ∧ ∀ u, a ≤ u → u < s.at_ → atV free l u < need) ∧
    (firstV need (fromV free l a) = none → ∀ u, a ≤ u → atV free l u < need) := by
  refine from_ind (l := l) (fun a h => ?_) (fun a n h ih => ?_)
  · rw [from_none h]
    simp only [firstV]
    by_cases c : need ≤ atV free l a
    · rw [if_pos c]
      refine ⟨fun s hs => ?_, fun hs => by cases hs⟩
      injection hs with hs
      subst hs
      exact ⟨Int.le_refl _, rfl, c, fun u h1 h2 => by simp only at h2; omega⟩
    · rw [if_neg c]
      exact ⟨fun s hs => (by cases hs), fun _ u hu => by rw [at_end h hu]; omega⟩
  · rw [from_some h]
    simp only [firstV]
    by_cases c : need ≤ atV free l a
    · rw [if_pos c]
      refine ⟨fun s hs => ?_, fun hs => by cases hs⟩
      injection hs with hs
      subst hs
      exact ⟨Int.le_refl _, rfl, c, fun u h1 h2 => by simp only at h2; omega⟩
    · rw [if_neg c]
      have hn := (next_some h).1
      refine ⟨fun s hs => ?_, fun hs u hu => ?_⟩
      · obtain ⟨h1, h2, h3, h4⟩ := ih.1 s hs
        refine ⟨by omega, h2, h3, fun u hu1 hu2 => ?_⟩
        by_cases g : u < n
        · rw [at_gap h hu1 g]; omega
        · exact h4 u (by omega) hu2
      · by_cases g : u < n
        · rw [at_gap h hu g]; omega
        · exact ih.2 hs u (by omega)
end Go.Proofs.Ytdkibcagbidelaa.Pr
