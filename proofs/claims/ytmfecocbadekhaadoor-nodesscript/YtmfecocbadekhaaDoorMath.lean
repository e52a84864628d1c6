/-
  PLAIN MATHEMATICS for layer 2: a machine's free nodes as the bits of one number F; words of 64 bits; lists of free nodes. No Go in it.
-/
import Derived.Lib.TrailingZeros
namespace Go.Proofs.YtmfecocbadekhaaDoor
namespace Nd

/-- Word i of F. -/
def wd (F i : Nat) : Nat := F / 2 ^ (64 * i) % 18446744073709551616
theorem wd_lt (F i : Nat) : wd F i < 18446744073709551616 := Nat.mod_lt _ (by decide)
theorem wd_bit (F i j : Nat) : (wd F i).testBit j = (decide (j < 64) && F.testBit (64 * i + j)) := by
  unfold wd
  rw [show (18446744073709551616 : Nat) = 2 ^ 64 by rfl, Nat.testBit_mod_two_pow, Nat.testBit_div_two_pow, Nat.add_comm]

/-- The free ones below N, rising. -/
def frees (F N : Nat) : List Nat := (List.range N).filter fun k => F.testBit k
/-- The free ones. -/
def lst (F : Nat) : List Nat := frees F 256

theorem frees_succ (F N : Nat) : frees F (N + 1) = frees F N ++ (if F.testBit N then [N] else []) := by
  unfold frees
  rw [List.range_succ, List.filter_append]
  by_cases h : F.testBit N <;> simp [h]
theorem frees_zero (F : Nat) : frees F 0 = [] := rfl
theorem frees_add (F a d : Nat) : ∃ l, frees F (a + d) = frees F a ++ l := by
  induction d with
  | zero => exact ⟨[], by simp⟩
  | succ d ih =>
    obtain ⟨l, hl⟩ := ih
    exact ⟨l ++ (if F.testBit (a + d) then [a + d] else []), by rw [← Nat.add_assoc, frees_succ, hl, List.append_assoc]⟩
theorem frees_skip (F a d : Nat) (h : ∀ j, a ≤ j → j < a + d → F.testBit j = false) : frees F (a + d) = frees F a := by
  induction d with
  | zero => rfl
  | succ d ih =>
    rw [← Nat.add_assoc, frees_succ, h (a + d) (by omega) (by omega), ih (fun j h1 h2 => h j h1 (by omega))]
    simp
theorem frees_len (F N : Nat) : (frees F N).length ≤ N := by
  unfold frees
  have := List.length_filter_le (fun k => F.testBit k) (List.range N)
  simpa using this
theorem lst_len (F : Nat) : (lst F).length ≤ 256 := frees_len F 256
theorem frees_take (F a d many : Nat) (h : many ≤ (frees F a).length) : (frees F (a + d)).take many = (frees F a).take many := by
  obtain ⟨l, hl⟩ := frees_add F a d
  rw [hl, List.take_append_of_le_length h]
theorem mem_frees (F N k : Nat) : k ∈ frees F N ↔ k < N ∧ F.testBit k = true := by simp [frees]
theorem frees_pair (F N : Nat) : (frees F N).Pairwise (· < ·) := List.Pairwise.filter _ List.pairwise_lt_range

/-- How many bits of a word are 1. -/
def pop (u : Nat) : Nat := ((List.range 64).filter fun j => u.testBit j).length
theorem pop_le (u : Nat) : pop u ≤ 64 := by
  unfold pop
  have := List.length_filter_le (fun j => u.testBit j) (List.range 64)
  simpa using this
theorem range_filter_add (p : Nat → Bool) (a d : Nat) : ((List.range (a + d)).filter p).length = ((List.range a).filter p).length + ((List.range d).filter fun j => p (a + j)).length := by
  induction d with
  | zero => simp
  | succ d ih =>
    rw [← Nat.add_assoc, List.range_succ, List.range_succ, List.filter_append, List.filter_append, List.length_append, List.length_append, ih]
    by_cases h : p (a + d) <;> simp [h] <;> omega
theorem frees_word (F i : Nat) : (frees F (64 * (i + 1))).length = (frees F (64 * i)).length + pop (wd F i) := by
  unfold frees pop
  rw [Nat.mul_add, Nat.mul_one, range_filter_add]
  congr 2
  apply List.filter_congr
  intro j hj
  rw [wd_bit]
  have : j < 64 := by simpa using hj
  simp [this]

/-- The lowest bit of a word. -/
theorem ctz_form (u : Nat) (h0 : u ≠ 0) (h : u < 18446744073709551616) : ∃ m, u = 2 ^ Lib.ctz 64 u * (2 * m + 1) ∧ Lib.ctz 64 u < 64 := by
  obtain ⟨m, hm, hk⟩ := Lib.ctzFrom_spec 64 u (by omega) h
  exact ⟨m, by simpa [Lib.ctz, h0] using hm, by simpa [Lib.ctz, h0] using hk⟩
theorem odd_bit (k m j : Nat) : (2 ^ k * (2 * m + 1)).testBit j = (decide (k ≤ j) && (decide (j = k) || (decide (k < j) && m.testBit (j - k - 1)))) := by
  rw [Nat.mul_comm, Nat.testBit_mul_two_pow]
  by_cases h : k ≤ j
  · by_cases e : j = k
    · subst e; simp
    · obtain ⟨d, rfl⟩ : ∃ d, j = k + (d + 1) := ⟨j - k - 1, by omega⟩
      have e3 : k + (d + 1) - k = d + 1 := by omega
      have e4 : k + (d + 1) - k - 1 = d := by omega
      rw [e3, Nat.testBit_succ, show (2 * m + 1) / 2 = m by omega]
      simp
  · simp [h]
theorem low_cut (k m : Nat) : (2 ^ k * (2 * m + 1)) &&& (2 ^ k * (2 * m + 1) - 1) = 2 ^ (k + 1) * m := by
  have hp : 0 < 2 ^ k := Nat.two_pow_pos k
  have e : 2 ^ k * (2 * m + 1) - 1 = 2 ^ k * (2 * m) + (2 ^ k - 1) := by rw [Nat.mul_add, Nat.mul_one]; omega
  rw [e]
  apply Nat.eq_of_testBit_eq
  intro j
  rw [Nat.testBit_and, odd_bit, Nat.testBit_two_pow_mul_add _ (by omega), Nat.mul_comm (2 ^ (k + 1)), Nat.testBit_mul_two_pow]
  by_cases h : j < k
  · simp [h, show ¬ k ≤ j by omega, show ¬ k + 1 ≤ j by omega]
  · rw [if_neg h]
    by_cases e : j = k
    · subst e
      simp
      intro hj
      omega
    · obtain ⟨d, rfl⟩ : ∃ d, j = k + (d + 1) := ⟨j - k - 1, by omega⟩
      have e3 : k + (d + 1) - k = d + 1 := by omega
      have e4 : k + (d + 1) - (k + 1) = d := by omega
      rw [e3, e4, Nat.testBit_succ, show 2 * m / 2 = m by omega]
      simp

/-- What is left of word i of F behind the first k bits. -/
structure WdRest (F i k u : Nat) : Prop where
  lt : u < 18446744073709551616
  bit : ∀ j, u.testBit j = (decide (k ≤ j) && (wd F i).testBit j)
theorem left_start (F i : Nat) : WdRest F i 0 (wd F i) := ⟨wd_lt F i, by simp⟩
theorem left_none (F i k : Nat) (hk : k ≤ 64) (h : WdRest F i k 0) : frees F (64 * (i + 1)) = frees F (64 * i + k) := by
  rw [show 64 * (i + 1) = 64 * i + k + (64 - k) by omega]
  apply frees_skip
  intro j h1 h2
  have := h.bit (j - 64 * i)
  rw [Nat.zero_testBit, wd_bit] at this
  simpa [show k ≤ j - 64 * i by omega, show j - 64 * i < 64 by omega, show 64 * i + (j - 64 * i) = j by omega] using this.symm
theorem left_step (F i k u : Nat) (_hk : k ≤ 64) (h : WdRest F i k u) (h0 : u ≠ 0) :
    k ≤ Lib.ctz 64 u ∧ Lib.ctz 64 u < 64 ∧ frees F (64 * i + (Lib.ctz 64 u + 1)) = frees F (64 * i + k) ++ [64 * i + Lib.ctz 64 u] ∧ WdRest F i (Lib.ctz 64 u + 1) (u &&& (u - 1)) := by
  obtain ⟨m, hm, hc⟩ := ctz_form u h0 h.lt
  generalize Lib.ctz 64 u = c at hm hc ⊢
  have hcut := low_cut c m
  rw [← hm] at hcut
  have hb : ∀ j, u.testBit j = (decide (c ≤ j) && (decide (j = c) || (decide (c < j) && m.testBit (j - c - 1)))) := by intro j; rw [hm]; exact odd_bit c m j
  have hcc : u.testBit c = true := by rw [hb]; simp
  have hkc : k ≤ c := by
    have := h.bit c
    rw [hcc] at this
    simp at this
    exact this.1
  have hFc : F.testBit (64 * i + c) = true := by
    have := h.bit c
    rw [hcc, wd_bit] at this
    simpa [hc, hkc] using this.symm
  refine ⟨hkc, hc, ?_, ?_, ?_⟩
  · rw [← Nat.add_assoc, frees_succ, hFc, if_pos rfl]
    congr 1
    rw [show 64 * i + c = 64 * i + k + (c - k) by omega]
    apply frees_skip
    intro j h1 h2
    have := h.bit (j - 64 * i)
    rw [hb, wd_bit] at this
    simpa [show ¬ c ≤ j - 64 * i by omega, show k ≤ j - 64 * i by omega, show j - 64 * i < 64 by omega, show 64 * i + (j - 64 * i) = j by omega] using this.symm
  · exact Nat.lt_of_le_of_lt Nat.and_le_left h.lt
  · intro j
    rw [hcut, Nat.mul_comm, Nat.testBit_mul_two_pow]
    have hj := h.bit j
    rw [hb] at hj
    by_cases h1 : c + 1 ≤ j
    · simp only [h1, decide_true, Bool.true_and]
      simp only [show c ≤ j by omega, show ¬ j = c by omega, show c < j by omega, show k ≤ j by omega, decide_true, decide_false, Bool.true_and, Bool.false_or] at hj
      rw [← hj, Nat.sub_add_eq]
    · simp [h1]
end Nd
end Go.Proofs.YtmfecocbadekhaaDoor
