/-
  The layer's mathematics: sorting by halves, whatever is asked; by keys: sorted and stable, so that two ways of it answer the same list.
-/
import Derived.Test.YtjgllfpnmmopdaaProg
namespace Go.Proofs.Ytjgllfpnmmopdaa

def mergeV {α : Type} (lt : α → α → Bool) : List α → List α → List α
  | [], ys => ys
  | x :: xs, [] => x :: xs
  | x :: xs, y :: ys => if lt y x = true then y :: mergeV lt (x :: xs) ys else x :: mergeV lt xs (y :: ys)
termination_by xs ys => xs.length + ys.length

theorem mergeV_nil {α : Type} (lt : α → α → Bool) (ys : List α) : mergeV lt [] ys = ys := by
  unfold mergeV; rfl
theorem mergeV_nil_right {α : Type} (lt : α → α → Bool) (xs : List α) : mergeV lt xs [] = xs := by
  cases xs <;> (unfold mergeV; rfl)
theorem mergeV_second {α : Type} (lt : α → α → Bool) (x y : α) (xs ys : List α) (h : lt y x = true) : mergeV lt (x :: xs) (y :: ys) = y :: mergeV lt (x :: xs) ys := by
  rw [mergeV, if_pos h]
theorem mergeV_first {α : Type} (lt : α → α → Bool) (x y : α) (xs ys : List α) (h : lt y x = false) : mergeV lt (x :: xs) (y :: ys) = x :: mergeV lt xs (y :: ys) := by
  rw [mergeV, if_neg (by simp [h])]
theorem mergeV_perm {α : Type} (lt : α → α → Bool) : ∀ xs ys : List α, (mergeV lt xs ys).Perm (xs ++ ys)
  | [], ys => by rw [mergeV_nil]; exact List.Perm.refl _
  | x :: xs, [] => by rw [mergeV_nil_right, List.append_nil]
  | x :: xs, y :: ys => by
    by_cases h : lt y x = true
    · rw [mergeV_second lt x y xs ys h]
      exact ((mergeV_perm lt (x :: xs) ys).cons y).trans List.perm_middle.symm
    · rw [mergeV_first lt x y xs ys (by simpa using h)]
      exact (mergeV_perm lt xs (y :: ys)).cons x
termination_by xs ys => xs.length + ys.length
theorem mergeV_length {α : Type} (lt : α → α → Bool) (xs ys : List α) : (mergeV lt xs ys).length = xs.length + ys.length := by
  rw [(mergeV_perm lt xs ys).length_eq, List.length_append]

def sortV {α : Type} (lt : α → α → Bool) (l : List α) : List α :=
  if l.length < 2 then l else mergeV lt (sortV lt (l.take (l.length / 2))) (sortV lt (l.drop (l.length / 2)))
termination_by l.length
decreasing_by
  · simp only [List.length_take]; omega
  · simp only [List.length_drop]; omega
theorem sortV_short {α : Type} (lt : α → α → Bool) {l : List α} (h : l.length < 2) : sortV lt l = l := by
  rw [sortV, if_pos h]
theorem sortV_long {α : Type} (lt : α → α → Bool) {l : List α} (h : ¬ l.length < 2) : sortV lt l = mergeV lt (sortV lt (l.take (l.length / 2))) (sortV lt (l.drop (l.length / 2))) := by
  rw [sortV, if_neg h]
theorem sortV_perm {α : Type} (lt : α → α → Bool) : ∀ (n : Nat) (l : List α), l.length ≤ n → (sortV lt l).Perm l
  | 0, l, h => by rw [sortV_short lt (by omega)]
  | n + 1, l, h => by
    by_cases h2 : l.length < 2
    · rw [sortV_short lt h2]
    · rw [sortV_long lt h2]
      have h3 := sortV_perm lt n (l.take (l.length / 2)) (by simp only [List.length_take]; omega)
      have h4 := sortV_perm lt n (l.drop (l.length / 2)) (by simp only [List.length_drop]; omega)
      have h5 := (mergeV_perm lt (sortV lt (l.take (l.length / 2))) (sortV lt (l.drop (l.length / 2)))).trans (h3.append h4)
      rwa [List.take_append_drop] at h5
theorem sort_perm {α : Type} (lt : α → α → Bool) (l : List α) : (sortV lt l).Perm l := sortV_perm lt l.length l (Nat.le_refl _)
theorem sort_length {α : Type} (lt : α → α → Bool) (l : List α) : (sortV lt l).length = l.length := (sort_perm lt l).length_eq

/-- One is ahead of another: a smaller key, or the same key and a smaller number. -/
def Ahd {α : Type} (key num : α → Int) (a b : α) : Prop := key a < key b ∨ (key a = key b ∧ num a < num b)
theorem mergeV_sorted {α : Type} (key num : α → Int) : ∀ xs ys : List α, xs.Pairwise (Ahd key num) → ys.Pairwise (Ahd key num) → (∀ x ∈ xs, ∀ y ∈ ys, num x < num y) →
    (mergeV (fun a b => decide (key a < key b)) xs ys).Pairwise (Ahd key num)
  | [], ys, _, h, _ => by rw [mergeV_nil]; exact h
  | x :: xs, [], h, _, _ => by rw [mergeV_nil_right]; exact h
  | x :: xs, y :: ys, hx, hy, hn => by
    have hx' := List.pairwise_cons.1 hx
    have hy' := List.pairwise_cons.1 hy
    by_cases h : key y < key x
    · rw [mergeV_second _ x y xs ys (by simpa using h)]
      refine List.pairwise_cons.2 ⟨fun z hz => ?_, mergeV_sorted key num (x :: xs) ys hx hy'.2 (fun a ha b hb => hn a ha b (List.mem_cons_of_mem _ hb))⟩
      rcases List.mem_append.1 ((mergeV_perm _ _ _).mem_iff.1 hz) with h1 | h1
      · rcases List.mem_cons.1 h1 with h2 | h2
        · subst h2; exact Or.inl h
        · rcases hx'.1 z h2 with h3 | h3
          · exact Or.inl (by omega)
          · exact Or.inl (by omega)
      · exact hy'.1 z h1
    · rw [mergeV_first _ x y xs ys (by simpa using h)]
      refine List.pairwise_cons.2 ⟨fun z hz => ?_, mergeV_sorted key num xs (y :: ys) hx'.2 hy (fun a ha b hb => hn a (List.mem_cons_of_mem _ ha) b hb)⟩
      rcases List.mem_append.1 ((mergeV_perm _ _ _).mem_iff.1 hz) with h1 | h1
      · exact hx'.1 z h1
      · have h4 := hn x (List.mem_cons_self ..) z h1
        have h5 : key y ≤ key z := by
          rcases List.mem_cons.1 h1 with h2 | h2
          · subst h2; omega
          · rcases hy'.1 z h2 with h3 | h3 <;> omega
        unfold Ahd
        omega
termination_by xs ys => xs.length + ys.length
theorem sortV_sorted {α : Type} (key num : α → Int) : ∀ (n : Nat) (l : List α), l.length ≤ n → l.Pairwise (fun a b => num a < num b) → (sortV (fun a b => decide (key a < key b)) l).Pairwise (Ahd key num)
  | 0, l, h, _ => by
    have h1 : l = [] := List.eq_nil_of_length_eq_zero (by omega)
    subst h1; rw [sortV_short _ (by simp)]; exact List.Pairwise.nil
  | n + 1, l, h, hp => by
    by_cases h2 : l.length < 2
    · rw [sortV_short _ h2]
      match l, h2 with
      | [], _ => exact List.Pairwise.nil
      | [x], _ => exact List.pairwise_singleton _ _
    · rw [sortV_long _ h2]
      have hs : (l.take (l.length / 2) ++ l.drop (l.length / 2)).Pairwise (fun a b => num a < num b) := by rw [List.take_append_drop]; exact hp
      have hs' := List.pairwise_append.1 hs
      refine mergeV_sorted key num _ _ (sortV_sorted key num n _ (by simp only [List.length_take]; omega) hs'.1) (sortV_sorted key num n _ (by simp only [List.length_drop]; omega) hs'.2.1) (fun x hx y hy => hs'.2.2 x ((sort_perm _ _).mem_iff.1 hx) y ((sort_perm _ _).mem_iff.1 hy))
theorem sort_sorted {α : Type} (key num : α → Int) {l : List α} (hp : l.Pairwise (fun a b => num a < num b)) : (sortV (fun a b => decide (key a < key b)) l).Pairwise (Ahd key num) := sortV_sorted key num l.length l (Nat.le_refl _) hp
/-- Sorted in this way, there is one list alone. -/
theorem one_sorted {α : Type} (key num : α → Int) : ∀ (l m : List α), l.Perm m → l.Pairwise (Ahd key num) → m.Pairwise (Ahd key num) → l = m
  | [], m, h, _, _ => (List.nil_perm.1 h).symm
  | x :: l, [], h, _, _ => absurd h.length_eq (by simp)
  | x :: l, y :: m, h, hl, hm => by
    have hl' := List.pairwise_cons.1 hl
    have hm' := List.pairwise_cons.1 hm
    have e : x = y := by
      rcases List.mem_cons.1 (h.mem_iff.1 (List.mem_cons_self ..)) with h1 | h1
      · exact h1
      · rcases List.mem_cons.1 (h.mem_iff.2 (List.mem_cons_self ..)) with h2 | h2
        · exact h2.symm
        · have h3 := hl'.1 y h2
          have h4 := hm'.1 x h1
          unfold Ahd at h3 h4
          omega
    subst e
    rw [one_sorted key num l m (List.Perm.cons_inv h) hl'.2 hm'.2]

/-- The reference's way: put in behind all that are not behind it. -/
theorem put_sorted {α : Type} (key num : α → Int) {l : List α} {r : α} {k : Nat} (hk : k ≤ l.length) (hl : l.Pairwise (Ahd key num)) (hn : ∀ x ∈ l, num x < num r)
    (h1 : ∀ x ∈ l.drop k, key r < key x) (h2 : ∀ h : 0 < k, key (l[k - 1]'(by omega)) ≤ key r) : (l.take k ++ r :: l.drop k).Pairwise (Ahd key num) := by
  have hs : (l.take k ++ l.drop k).Pairwise (Ahd key num) := by rw [List.take_append_drop]; exact hl
  have hs' := List.pairwise_append.1 hs
  have h3 : ∀ x ∈ l.take k, key x ≤ key r := by
    intro x hx
    obtain ⟨i, hi, e⟩ := List.mem_iff_getElem.1 hx
    have hi' : i < k := by simp only [List.length_take] at hi; omega
    have e1 : l[i]'(by omega) = x := by rw [← e, List.getElem_take]
    have h4 := h2 (by omega)
    by_cases h5 : i = k - 1
    · subst h5; rw [← e1]; exact h4
    · have h6 := (List.pairwise_iff_getElem.1 hl) i (k - 1) (by omega) (by omega) (by omega)
      rw [e1] at h6
      rcases h6 with h7 | h7 <;> omega
  refine List.pairwise_append.2 ⟨hs'.1, List.pairwise_cons.2 ⟨fun z hz => Or.inl (h1 z hz), hs'.2.1⟩, fun a ha b hb => ?_⟩
  have h7 := h3 a ha
  have h8 := hn a (List.mem_of_mem_take ha)
  rcases List.mem_cons.1 hb with h9 | h9
  · subst h9; unfold Ahd; omega
  · exact hs'.2.2 a ha b h9
theorem put_perm {α : Type} {l : List α} {r : α} {k : Nat} : (l.take k ++ r :: l.drop k).Perm (l ++ [r]) := by
  have h : (l.take k ++ r :: l.drop k).Perm (r :: (l.take k ++ l.drop k)) := List.perm_middle
  rw [List.take_append_drop] at h
  exact h.trans (List.perm_append_comm (l₁ := [r]) (l₂ := l))

end Go.Proofs.Ytjgllfpnmmopdaa
