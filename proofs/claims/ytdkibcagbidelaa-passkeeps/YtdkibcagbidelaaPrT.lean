/-
  The plain mathematics of profile's way: runs by their ends, cut at a time. No Go in sight.
-/
import Derived.Test.YtdkibcagbidelaaPrS
namespace Go.Proofs.Ytdkibcagbidelaa.Pr

/-- All nodes of some runs. -/
def sumN : List Rn → Int
  | [] => 0
  | r :: l => r.nd + sumN l
theorem sumN_app (a b : List Rn) : sumN (a ++ b) = sumN a + sumN b := by
  induction a with
  | nil => simp [sumN]
  | cons r a ih => simp only [List.cons_append, sumN, ih]; omega
theorem sumN_take {l : List Rn} {j : Nat} {r : Rn} (h : l[j]? = some r) : sumN (l.take (j + 1)) = sumN (l.take j) + r.nd := by
  rw [List.take_add_one, h, sumN_app]
  simp [sumN]
theorem sumN_bound {l : List Rn} (h : l.all okR = true) : 0 ≤ sumN l ∧ sumN l ≤ 256 * l.length := by
  induction l with
  | nil => simp [sumN]
  | cons r l ih =>
    obtain ⟨h1, h2⟩ : okR r = true ∧ l.all okR = true := by simpa using h
    have := ih h2
    have := okR_le h1
    simp only [sumN, List.length_cons]
    omega
theorem take_all {l : List Rn} (h : l.all okR = true) (j : Nat) : (l.take j).all okR = true := by
  rw [List.all_eq_true] at h ⊢
  exact fun r hr => h r (List.mem_of_mem_take hr)
theorem drop_all {l : List Rn} (h : l.all okR = true) (j : Nat) : (l.drop j).all okR = true := by
  rw [List.all_eq_true] at h ⊢
  exact fun r hr => h r (List.mem_of_mem_drop hr)
theorem su_all {l : List Rn} {a : Int} (h : ∀ r ∈ l, r.en ≤ a) : su l a = sumN l := by
  induction l with
  | nil => rfl
  | cons r l ih =>
    simp only [su, sumN]
    rw [if_pos (h r (by simp)), ih (fun s hs => h s (by simp [hs]))]
theorem su_none {l : List Rn} {a : Int} (h : ∀ r ∈ l, a < r.en) : su l a = 0 := by
  induction l with
  | nil => rfl
  | cons r l ih =>
    simp only [su]
    rw [if_neg (by have := h r (by simp); omega), ih (fun s hs => h s (by simp [hs]))]
    omega
theorem su_perm {l m : List Rn} (h : l.Perm m) (t : Int) : su l t = su m t := by
  induction h with
  | nil => rfl
  | cons x _ ih => simp only [su, ih]
  | swap x y l => simp only [su]; omega
  | trans _ _ h1 h2 => exact h1.trans h2
theorem next_of_none {l : List Rn} {t : Int} (h : ∀ r ∈ l, r.en ≤ t) : nextV none l t = none := by
  cases hn : nextV none l t with
  | none => rfl
  | some n =>
    obtain ⟨h1, ⟨r, hr, hrn⟩, _⟩ := next_some hn
    have := h r hr
    omega
theorem next_of_some {l : List Rn} {t n : Int} (h1 : t < n) (h2 : ∃ r ∈ l, r.en = n) (h3 : ∀ r ∈ l, t < r.en → n ≤ r.en) : nextV none l t = some n := by
  cases hn : nextV none l t with
  | none =>
    obtain ⟨r, hr, hrn⟩ := h2
    have := next_none hn r hr
    omega
  | some m =>
    obtain ⟨g1, ⟨s, hs, hsm⟩, g3⟩ := next_some hn
    obtain ⟨r, hr, hrn⟩ := h2
    have := g3 r hr (by omega)
    have := h3 s hs (by omega)
    congr 1
    omega
/-- By their ends. -/
def Srt (m : List Rn) : Prop := m.Pairwise (fun x y => x.en ≤ y.en)
/-- How many of the first ones have ended. -/
def nEnd (t : Int) : List Rn → Nat
  | [] => 0
  | r :: l => if r.en ≤ t then nEnd t l + 1 else 0
theorem nEnd_le (t : Int) (l : List Rn) : nEnd t l ≤ l.length := by
  induction l with
  | nil => exact Nat.le_refl _
  | cons r l ih => simp only [nEnd]; split <;> simp only [List.length_cons] <;> omega
theorem nEnd_in {t : Int} {l : List Rn} {j : Nat} {r : Rn} (h : l[j]? = some r) (hj : j < nEnd t l) : r.en ≤ t := by
  induction l generalizing j with
  | nil => simp at h
  | cons x l ih =>
    simp only [nEnd] at hj
    split at hj
    · cases j with
      | zero => simp at h; subst h; assumption
      | succ j => exact ih (by simpa using h) (by omega)
    · omega
theorem nEnd_at {t : Int} {l : List Rn} {r : Rn} (h : l[nEnd t l]? = some r) : t < r.en := by
  induction l with
  | nil => simp at h
  | cons x l ih =>
    simp only [nEnd] at h
    split at h
    · exact ih (by simpa using h)
    · simp at h; subst h; omega
/-- Where the count stands. -/
theorem nEnd_is {t : Int} {l : List Rn} {j : Nat} (hj : j ≤ l.length) (h1 : ∀ i r, i < j → l[i]? = some r → r.en ≤ t) (h2 : ∀ r, l[j]? = some r → t < r.en) : nEnd t l = j := by
  rcases Nat.lt_trichotomy (nEnd t l) j with h | h | h
  · obtain ⟨r, hr⟩ : ∃ r, l[nEnd t l]? = some r := ⟨_, List.getElem?_eq_getElem (by omega)⟩
    have := h1 _ r h hr
    have := nEnd_at hr
    omega
  · exact h
  · have := nEnd_le t l
    obtain ⟨r, hr⟩ : ∃ r, l[j]? = some r := ⟨_, List.getElem?_eq_getElem (by omega)⟩
    have := nEnd_in hr h
    have := h2 r hr
    omega
/-- Cut at a time: c have ended before, c' by now. -/
theorem cut_su {m : List Rn} {a : Int} {c : Nat} (hs : Srt m) (hc : ∀ r ∈ m.take c, r.en ≤ a) :
    (∀ r ∈ m.take (c + nEnd a (m.drop c)), r.en ≤ a) ∧ (∀ r ∈ m.drop (c + nEnd a (m.drop c)), a < r.en) ∧ su m a = sumN (m.take (c + nEnd a (m.drop c))) := by
  have e1 : ∀ r ∈ m.take (c + nEnd a (m.drop c)), r.en ≤ a := by
    intro r hr
    obtain ⟨i, hi⟩ := List.mem_iff_getElem?.1 hr
    rw [List.getElem?_take] at hi
    split at hi
    · by_cases hic : i < c
      · exact hc r (List.mem_iff_getElem?.2 ⟨i, by rw [List.getElem?_take, if_pos hic]; exact hi⟩)
      · refine nEnd_in (l := m.drop c) (j := i - c) ?_ (by omega)
        rw [List.getElem?_drop, show c + (i - c) = i by omega]
        exact hi
    · cases hi
  have e2 : ∀ r ∈ m.drop (c + nEnd a (m.drop c)), a < r.en := by
    intro r hr
    cases hd : m.drop (c + nEnd a (m.drop c)) with
    | nil => rw [hd] at hr; cases hr
    | cons x y =>
      have hx : m[c + nEnd a (m.drop c)]? = some x := by
        have : (m.drop (c + nEnd a (m.drop c)))[0]? = some x := by rw [hd]; rfl
        rwa [List.getElem?_drop, Nat.add_zero] at this
      have hx' := nEnd_at (t := a) (l := m.drop c) (r := x) (by rw [List.getElem?_drop]; exact hx)
      rw [hd] at hr
      rcases List.mem_cons.1 hr with rfl | hr
      · exact hx'
      · have hp : (x :: y).Pairwise (fun x y => x.en ≤ y.en) := by rw [← hd]; exact List.Pairwise.drop hs
        have := (List.pairwise_cons.1 hp).1 r hr
        omega
  refine ⟨e1, e2, ?_⟩
  have : su m a = su (m.take (c + nEnd a (m.drop c)) ++ m.drop (c + nEnd a (m.drop c))) a := by rw [List.take_append_drop]
  rw [this, su_app, su_all e1, su_none e2]
  omega
/-- Who comes next. -/
theorem cut_next {m l : List Rn} {a : Int} {c : Nat} {r : Rn} (hp : m.Perm l) (hs : Srt m) (h1 : ∀ r ∈ m.take c, r.en ≤ a) (h2 : ∀ r ∈ m.drop c, a < r.en) (hr : m[c]? = some r) : nextV none l a = some r.en := by
  have hm : r ∈ m := List.mem_of_getElem? hr
  have hd : m.drop c = r :: m.drop (c + 1) := drop_c hr
  refine next_of_some (h2 r (by rw [hd]; simp)) ⟨r, hp.mem_iff.1 hm, rfl⟩ (fun s hs' hlt => ?_)
  have hsm : s ∈ m.take c ++ m.drop c := by rw [List.take_append_drop]; exact hp.mem_iff.2 hs'
  rcases List.mem_append.1 hsm with h | h
  · have := h1 s h; omega
  · rw [hd] at h
    rcases List.mem_cons.1 h with rfl | h
    · exact Int.le_refl _
    · have hpw : (r :: m.drop (c + 1)).Pairwise (fun x y => x.en ≤ y.en) := by rw [← hd]; exact List.Pairwise.drop hs
      exact (List.pairwise_cons.1 hpw).1 s h
theorem cut_last {m l : List Rn} {a : Int} {c : Nat} (hp : m.Perm l) (h1 : ∀ r ∈ m.take c, r.en ≤ a) (hc : m.length ≤ c) : nextV none l a = none :=
  next_of_none (fun s hs => h1 s (by rw [List.take_of_length_le hc]; exact hp.mem_iff.2 hs))
end Go.Proofs.Ytdkibcagbidelaa.Pr
