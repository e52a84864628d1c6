/-
  Layer 8: what the library's own words for numbers, pieces and joins have to do with ours.
-/
import Derived.Test.YtokpcpmkilikaaaDoorVbM
import Derived.Lib.AtoiAllCases
import Derived.Lib.ItoaNum
import Derived.Lib.Split
import Derived.Lib.Join
namespace Go.Proofs.YtokpcpmkilikaaaDoor.Vb
open Go Go.Lib

theorem digV_dec (n : Nat) : decDigits n = digV n := by
  induction n using Nat.strongRecOn with
  | _ n ih =>
    by_cases h : n < 10
    · rw [decDigits, dif_pos h, digV_small h]; rfl
    · rw [decDigits, dif_neg h, digV_great (by omega), ih (n / 10) (by omega)]; rfl
theorem itoa_dig {v : Int} (h : 0 ≤ v) : itoa v = digV v.toNat := by
  unfold itoa
  rw [if_neg (by omega), digV_dec]
theorem parse10_of (s : Bs) : ∀ n, s.all dig = true → fold n s < 18446744073709551616 → parseUint10 n s = .ok (fold n s) := by
  induction s with
  | nil => intro n _ _; rfl
  | cons c r ih =>
    intro n h hl
    simp only [List.all_cons, Bool.and_eq_true] at h
    have hd : 48 ≤ c.toNat ∧ c.toNat ≤ 57 := by have := h.1; unfold dig at this; simpa using this
    have hf : fold n (c :: r) = fold (10 * n + dv c) r := rfl
    have hg := fold_ge r (10 * n + dv c)
    have hdv : dv c = c.toNat - 48 := rfl
    rw [hf] at hl ⊢
    unfold parseUint10
    rw [if_pos hd, if_neg (by omega), if_neg (by omega), show n * 10 + (c.toNat - 48) = 10 * n + dv c by omega]
    exact ih _ h.2 hl
theorem num_atoi {p : Bs} {n : Nat} (h : numV p = some n) : atoiAll p = .ok (n : Int) ∧ itoa (n : Int) = p := by
  obtain ⟨h1, h2⟩ := num_some h
  obtain ⟨f1, f2, f3, _⟩ := digV_facts n
  rw [h1] at f1 f2 f3
  refine ⟨?_, by rw [itoa_dig (by omega)]; simpa using h1⟩
  cases p with
  | nil => exact absurd rfl f3
  | cons c r =>
    have hp := parse10_of (c :: r) 0 f1 (by omega)
    rw [f2] at hp
    have hc : 48 ≤ c.toNat ∧ c.toNat ≤ 57 := by
      simp only [List.all_cons, Bool.and_eq_true] at f1
      have := f1.1; unfold dig at this; simpa using this
    have hm : parseMag (c :: r) = .ok n := by unfold parseMag; rw [if_neg (by simp), hp]
    unfold atoiAll
    simp only
    rw [if_neg (by omega), hm]
    simp only
    rw [if_neg (by omega), if_neg (by omega), if_neg (by omega)]
theorem num_none_atoi {p : Bs} {v : Int} (h : numV p = none) (h2 : atoiAll p = .ok v) (h0 : 0 ≤ v) : itoa v ≠ p := by
  intro e
  have hb := atoiAll_bounds h2
  rw [itoa_dig h0] at e
  have := num_dig (n := v.toNat) (by omega)
  rw [e, h] at this
  cases this

theorem index_blank (s : Bs) : (32 ∉ s ∧ index s [32] = -1) ∨ ∃ a b, s = a ++ 32 :: b ∧ (32 : UInt8) ∉ a ∧ index s [32] = (a.length : Int) := by
  induction s with
  | nil => exact .inl ⟨by simp, rfl⟩
  | cons c r ih =>
    by_cases hc : c = 32
    · subst hc
      refine .inr ⟨[], r, rfl, by simp, ?_⟩
      unfold index
      rw [if_pos (by simp)]; rfl
    · have hp : ¬ ([(32 : UInt8)].isPrefixOf (c :: r) = true) := by simp [List.isPrefixOf]; exact fun e => hc e.symm
      rcases ih with ⟨h1, h2⟩ | ⟨a, b, h1, h2, h3⟩
      · refine .inl ⟨by simp; exact ⟨fun e => hc e.symm, h1⟩, ?_⟩
        unfold index
        rw [if_neg hp, if_pos (by simp [h2])]
      · refine .inr ⟨c :: a, b, by rw [h1]; rfl, by simp; exact ⟨fun e => hc e.symm, h2⟩, ?_⟩
        unfold index
        rw [if_neg hp, if_neg (by rw [h3]; simp), h3]
        simp
theorem split_lib (k : Nat) : ∀ s : Bs, s.length ≤ k → splitK [32] 0 (count s [32]) s = splitV s := by
  induction k with
  | zero =>
    intro s h
    have : s = [] := List.length_eq_zero_iff.1 (by omega)
    subst this
    rfl
  | succ k ih =>
    intro s h
    rcases index_blank s with ⟨h1, h2⟩ | ⟨a, b, h1, h2, h3⟩
    · rw [count_miss h2, split_plain h1]; rfl
    · rw [count_hit (by simp) h3, Nat.add_comm 1]
      unfold splitK
      rw [if_neg (by rw [h3]; simp), h3]
      have hd : s.drop (((a.length : Int)).toNat + [(32 : UInt8)].length) = b := by subst h1; simp
      have ht : s.take (((a.length : Int)).toNat + 0) = a := by subst h1; simp
      have hd' : s.drop (a.length + [(32 : UInt8)].length) = b := by subst h1; simp
      rw [hd, ht, hd', ih b (by subst h1; simp at h; omega), h1, split_cons h2]
theorem joined_lib (l : List Bs) : join l [32] = joinV l := by
  induction l with
  | nil => rfl
  | cons p r ih =>
    cases r with
    | nil => rw [join_one]; rfl
    | cons q r =>
      rw [Vb.join_cons p (by simp), ← ih, Lib.join_cons, Lib.join_cons]
      simp [joinTail]
end Go.Proofs.YtokpcpmkilikaaaDoor.Vb
