/-
  PLAIN MATHEMATICS: counting the ones of a word by halves, quarters and bytes.
-/
import Derived.Test.YtmfecocbadekhaaDoorMath
namespace Go.Proofs.YtmfecocbadekhaaDoor
namespace Nd

theorem and_bytes (a b c d : Nat) (ha : a < 256) (hc : c < 256) : (a + 256 * b) &&& (c + 256 * d) = (a &&& c) + 256 * (b &&& d) := by
  have hac : a &&& c < 2 ^ 8 := Nat.lt_of_le_of_lt Nat.and_le_left ha
  rw [show a + 256 * b = 2 ^ 8 * b + a by omega, show c + 256 * d = 2 ^ 8 * d + c by omega, show (a &&& c) + 256 * (b &&& d) = 2 ^ 8 * (b &&& d) + (a &&& c) by omega]
  apply Nat.eq_of_testBit_eq
  intro j
  rw [Nat.testBit_and, Nat.testBit_two_pow_mul_add _ ha, Nat.testBit_two_pow_mul_add _ hc, Nat.testBit_two_pow_mul_add _ hac]
  split <;> simp

/-- A number out of its bytes, the lowest first. -/
def val : List Nat → Nat
  | [] => 0
  | a :: l => a + 256 * val l
def rep (m : Nat) : Nat → Nat
  | 0 => 0
  | n + 1 => m + 256 * rep m n
def Byte (a : Nat) : Prop := a < 256
theorem val_lt (l : List Nat) (h : ∀ a ∈ l, a < 256) : val l < 256 ^ l.length := by
  induction l with
  | nil => simp [val]
  | cons a l ih =>
    have h1 := ih (fun x hx => h x (List.mem_cons_of_mem _ hx))
    have h2 := h a (List.mem_cons_self ..)
    simp only [val, List.length_cons, Nat.pow_succ]
    omega

def s1 (a : Nat) : Nat := (a / 2 &&& 85) + (a &&& 85)
def s2 (a : Nat) : Nat := (a / 4 &&& 51) + (a &&& 51)
def s3 (a : Nat) : Nat := a / 16 + a % 16
def pop8 (a : Nat) : Nat := ((List.range 8).filter fun j => a.testBit j).length

theorem s1_at : ∀ a : Fin 256, ∀ c : Fin 2, (a.val / 2 + 128 * c.val) &&& 85 = a.val / 2 &&& 85 := by decide +kernel
theorem s2_at : ∀ a : Fin 256, ∀ c : Fin 4, (a.val / 4 + 64 * c.val) &&& 51 = a.val / 4 &&& 51 := by decide +kernel
theorem all_at : ∀ a : Fin 256, s1 a.val < 256 ∧ s2 (s1 a.val) < 256 ∧ s2 (s1 a.val) % 16 ≤ 4 ∧ s2 (s1 a.val) / 16 ≤ 4 ∧ s3 (s2 (s1 a.val)) = pop8 a.val ∧ pop8 a.val ≤ 8 := by decide +kernel

theorem S1_val (l : List Nat) (h : ∀ a ∈ l, a < 256) : (val l / 2 &&& rep 85 l.length) + (val l &&& rep 85 l.length) = val (l.map s1) := by
  induction l with
  | nil => simp [val, rep]
  | cons a l ih =>
    have h1 := ih (fun x hx => h x (List.mem_cons_of_mem _ hx))
    have h2 := h a (List.mem_cons_self ..)
    have h3 := s1_at ⟨a, h2⟩ ⟨val l % 2, by omega⟩
    simp only at h3
    simp only [val, List.length_cons, rep, List.map_cons]
    rw [show (a + 256 * val l) / 2 = (a / 2 + 128 * (val l % 2)) + 256 * (val l / 2) by omega, and_bytes _ _ _ _ (by omega) (by omega), and_bytes _ _ _ _ h2 (by omega), h3, ← h1, s1]
    omega
theorem S2_val (l : List Nat) (h : ∀ a ∈ l, a < 256) : (val l / 4 &&& rep 51 l.length) + (val l &&& rep 51 l.length) = val (l.map s2) := by
  induction l with
  | nil => simp [val, rep]
  | cons a l ih =>
    have h1 := ih (fun x hx => h x (List.mem_cons_of_mem _ hx))
    have h2 := h a (List.mem_cons_self ..)
    have h3 := s2_at ⟨a, h2⟩ ⟨val l % 4, by omega⟩
    simp only at h3
    simp only [val, List.length_cons, rep, List.map_cons]
    rw [show (a + 256 * val l) / 4 = (a / 4 + 64 * (val l % 4)) + 256 * (val l / 4) by omega, and_bytes _ _ _ _ (by omega) (by omega), and_bytes _ _ _ _ h2 (by omega), h3, ← h1, s2]
    omega
theorem S3_val (l : List Nat) (h : ∀ a ∈ l, a % 16 ≤ 4 ∧ a / 16 ≤ 4) : (val l / 16 + val l) &&& rep 15 l.length = val (l.map s3) := by
  induction l with
  | nil => simp [val, rep]
  | cons a l ih =>
    have h1 := ih (fun x hx => h x (List.mem_cons_of_mem _ hx))
    obtain ⟨h2, h3⟩ := h a (List.mem_cons_self ..)
    have h4 : val l % 16 ≤ 4 := by
      cases l with
      | nil => simp [val]
      | cons b r => have := (h b (by simp)).1; simp only [val]; omega
    simp only [val, List.length_cons, rep, List.map_cons]
    rw [show (a + 256 * val l) / 16 + (a + 256 * val l) = (a / 16 + 16 * (val l % 16) + a) + 256 * (val l / 16 + val l) by omega, and_bytes _ _ _ _ (by omega) (by omega), h1, s3]
    have := Nat.and_two_pow_sub_one_eq_mod (a / 16 + 16 * (val l % 16) + a) 4
    simp only [show (2 : Nat) ^ 4 - 1 = 15 by rfl, show (2 : Nat) ^ 4 = 16 by rfl] at this
    rw [this]
    omega

theorem pop_val (l : List Nat) (h : ∀ a ∈ l, a < 256) : ((List.range (8 * l.length)).filter fun j => (val l).testBit j).length = (l.map pop8).sum := by
  induction l with
  | nil => simp
  | cons a l ih =>
    have h1 := ih (fun x hx => h x (List.mem_cons_of_mem _ hx))
    have h2 : a < 2 ^ 8 := h a (List.mem_cons_self ..)
    rw [List.length_cons, Nat.mul_add, Nat.mul_one, Nat.add_comm, range_filter_add, List.map_cons, List.sum_cons, ← h1, pop8, val, Nat.add_comm a, show (256 : Nat) = 2 ^ 8 by rfl]
    congr 2
    · apply List.filter_congr
      intro j hj
      have : j < 8 := by simpa using hj
      rw [Nat.testBit_two_pow_mul_add _ h2, if_pos this]
    · apply List.filter_congr
      intro j hj
      rw [Nat.testBit_two_pow_mul_add _ h2, if_neg (by omega), Nat.add_sub_cancel_left]

/-- Each word is eight bytes. -/
theorem bytes (x : Nat) (h : x < 18446744073709551616) : ∃ a0 a1 a2 a3 a4 a5 a6 a7, a0 < 256 ∧ a1 < 256 ∧ a2 < 256 ∧ a3 < 256 ∧ a4 < 256 ∧ a5 < 256 ∧ a6 < 256 ∧ a7 < 256 ∧ val [a0, a1, a2, a3, a4, a5, a6, a7] = x := by
  refine ⟨x % 256, x / 256 % 256, x / 65536 % 256, x / 16777216 % 256, x / 4294967296 % 256, x / 1099511627776 % 256, x / 281474976710656 % 256, x / 72057594037927936 % 256, by omega, by omega, by omega, by omega, by omega, by omega, by omega, by omega, ?_⟩
  simp only [val]
  omega
theorem val_le (l : List Nat) (h : ∀ a ∈ l, a ≤ 68) : val l ≤ 68 * rep 1 l.length := by
  induction l with
  | nil => simp [val, rep]
  | cons a l ih =>
    have h1 := ih (fun x hx => h x (List.mem_cons_of_mem _ hx))
    have h2 := h a (List.mem_cons_self ..)
    simp only [val, List.length_cons, rep]
    omega
theorem rep1 : rep 1 8 = 72340172838076673 := by rfl
theorem rep85 : rep 85 8 = 6148914691236517205 := by rfl
theorem rep51 : rep 51 8 = 3689348814741910323 := by rfl
theorem rep15 : rep 15 8 = 1085102592571150095 := by rfl
theorem pow8 : (256 : Nat) ^ 8 = 18446744073709551616 := by rfl

/-- The three steps: the ones of each byte, in that byte. -/
theorem pop_steps (x : Nat) (h : x < 18446744073709551616) : ∃ x1 x2 x3 : Nat,
    (x / 2 &&& 6148914691236517205) + (x &&& 6148914691236517205) = x1 ∧ x1 < 18446744073709551616 ∧
    (x1 / 4 &&& 3689348814741910323) + (x1 &&& 3689348814741910323) = x2 ∧ x2 < 18446744073709551616 ∧
    x2 / 16 + x2 < 18446744073709551616 ∧ (x2 / 16 + x2) &&& 1085102592571150095 = x3 ∧
    (∃ c0 c1 c2 c3 c4 c5 c6 c7, x3 = val [c0, c1, c2, c3, c4, c5, c6, c7] ∧ c0 ≤ 8 ∧ c1 ≤ 8 ∧ c2 ≤ 8 ∧ c3 ≤ 8 ∧ c4 ≤ 8 ∧ c5 ≤ 8 ∧ c6 ≤ 8 ∧ c7 ≤ 8 ∧
      pop x = c0 + c1 + c2 + c3 + c4 + c5 + c6 + c7) := by
  obtain ⟨a0, a1, a2, a3, a4, a5, a6, a7, g0, g1, g2, g3, g4, g5, g6, g7, hx⟩ := bytes x h
  have hl : ∀ a ∈ [a0, a1, a2, a3, a4, a5, a6, a7], a < 256 := by
    intro a ha
    simp only [List.mem_cons, List.not_mem_nil, or_false] at ha
    omega
  have hn : [a0, a1, a2, a3, a4, a5, a6, a7].length = 8 := rfl
  have hm : (((([a0, a1, a2, a3, a4, a5, a6, a7].map s1).map s2).map s3) : List Nat) = [pop8 a0, pop8 a1, pop8 a2, pop8 a3, pop8 a4, pop8 a5, pop8 a6, pop8 a7] := by
    simp only [List.map_cons, List.map_nil, (all_at ⟨a0, g0⟩).2.2.2.2.1, (all_at ⟨a1, g1⟩).2.2.2.2.1, (all_at ⟨a2, g2⟩).2.2.2.2.1, (all_at ⟨a3, g3⟩).2.2.2.2.1, (all_at ⟨a4, g4⟩).2.2.2.2.1, (all_at ⟨a5, g5⟩).2.2.2.2.1, (all_at ⟨a6, g6⟩).2.2.2.2.1, (all_at ⟨a7, g7⟩).2.2.2.2.1]
  have hs : ([a0, a1, a2, a3, a4, a5, a6, a7].map pop8).sum = pop8 a0 + pop8 a1 + pop8 a2 + pop8 a3 + pop8 a4 + pop8 a5 + pop8 a6 + pop8 a7 := by
    simp only [List.map_cons, List.map_nil, List.sum_cons, List.sum_nil]
    omega
  generalize [a0, a1, a2, a3, a4, a5, a6, a7] = l at hl hn hm hs hx
  have e1 := S1_val l hl
  have b1 : ∀ a ∈ l.map s1, a < 256 := by
    intro a ha
    obtain ⟨c, hc, rfl⟩ := List.mem_map.1 ha
    exact (all_at ⟨c, hl c hc⟩).1
  have e2 := S2_val (l.map s1) b1
  have b2 : ∀ a ∈ (l.map s1).map s2, a % 16 ≤ 4 ∧ a / 16 ≤ 4 := by
    intro a ha
    simp only [List.map_map, List.mem_map, Function.comp_apply] at ha
    obtain ⟨c, hc, rfl⟩ := ha
    have := all_at ⟨c, hl c hc⟩
    exact ⟨this.2.2.1, this.2.2.2.1⟩
  have e3 := S3_val ((l.map s1).map s2) b2
  have l1 := val_lt (l.map s1) b1
  have l2 := val_le ((l.map s1).map s2) (fun a ha => by have := b2 a ha; omega)
  have hp := pop_val l hl
  rw [hm] at e3
  simp only [List.length_map, hn, rep1, rep85, rep51, rep15, pow8] at e1 e2 e3 l1 l2 hp
  rw [hx] at e1 hp
  refine ⟨_, _, _, e1, l1, e2, by omega, by omega, e3, pop8 a0, pop8 a1, pop8 a2, pop8 a3, pop8 a4, pop8 a5, pop8 a6, pop8 a7, rfl, (all_at ⟨a0, g0⟩).2.2.2.2.2, (all_at ⟨a1, g1⟩).2.2.2.2.2, (all_at ⟨a2, g2⟩).2.2.2.2.2, (all_at ⟨a3, g3⟩).2.2.2.2.2, (all_at ⟨a4, g4⟩).2.2.2.2.2, (all_at ⟨a5, g5⟩).2.2.2.2.2, (all_at ⟨a6, g6⟩).2.2.2.2.2, (all_at ⟨a7, g7⟩).2.2.2.2.2, ?_⟩
  rw [← hs]
  exact hp
theorem val_cons (a : Nat) (l : List Nat) : val (a :: l) = a + 256 * val l := rfl
theorem div1 (a : Nat) (l : List Nat) (h : a < 256) : val (a :: l) / 256 = val l := by
  rw [val_cons]; omega
theorem div2 (a b : Nat) (l : List Nat) (h : a < 256) (g : b < 256) : val (a :: b :: l) / 65536 = val l := by
  rw [val_cons, val_cons]; omega
theorem div4 (a b c d : Nat) (l : List Nat) (h : a < 256) (g : b < 256) (i : c < 256) (j : d < 256) : val (a :: b :: c :: d :: l) / 4294967296 = val l := by
  rw [val_cons, val_cons, val_cons, val_cons]; omega
theorem add_cons (a b : Nat) (l r : List Nat) : val (a :: l) + val (b :: r) = (a + b) + 256 * (val l + val r) := by
  rw [val_cons, val_cons]; omega
theorem add_nil (l : List Nat) : val l + val [] = val l := by simp [val]
theorem pop_rest (x3 c0 c1 c2 c3 c4 c5 c6 c7 : Nat) (h : x3 = val [c0, c1, c2, c3, c4, c5, c6, c7]) (h0 : c0 ≤ 8) (h1 : c1 ≤ 8) (h2 : c2 ≤ 8) (h3 : c3 ≤ 8) (h4 : c4 ≤ 8) (h5 : c5 ≤ 8) (h6 : c6 ≤ 8) (h7 : c7 ≤ 8) :
    ∃ x4 x5 x6 : Nat, x3 + x3 / 256 = x4 ∧ x4 + x4 / 65536 = x5 ∧ x5 + x5 / 4294967296 = x6 ∧ x4 < 4611686018427387904 ∧ x5 < 4611686018427387904 ∧ x6 < 4611686018427387904 ∧ x6 % 128 = c0 + c1 + c2 + c3 + c4 + c5 + c6 + c7 := by
  have e4 : x3 + x3 / 256 = val [c0 + c1, c1 + c2, c2 + c3, c3 + c4, c4 + c5, c5 + c6, c6 + c7, c7] := by
    rw [h, div1 _ _ (by omega), add_cons, add_cons, add_cons, add_cons, add_cons, add_cons, add_cons, add_nil]
    rfl
  have e5 : val [c0 + c1, c1 + c2, c2 + c3, c3 + c4, c4 + c5, c5 + c6, c6 + c7, c7] + val [c0 + c1, c1 + c2, c2 + c3, c3 + c4, c4 + c5, c5 + c6, c6 + c7, c7] / 65536 = val [c0 + c1 + (c2 + c3), c1 + c2 + (c3 + c4), c2 + c3 + (c4 + c5), c3 + c4 + (c5 + c6), c4 + c5 + (c6 + c7), c5 + c6 + c7, c6 + c7, c7] := by
    rw [div2 _ _ _ (by omega) (by omega), add_cons, add_cons, add_cons, add_cons, add_cons, add_cons, add_nil]
    rfl
  have e6 : val [c0 + c1 + (c2 + c3), c1 + c2 + (c3 + c4), c2 + c3 + (c4 + c5), c3 + c4 + (c5 + c6), c4 + c5 + (c6 + c7), c5 + c6 + c7, c6 + c7, c7] + val [c0 + c1 + (c2 + c3), c1 + c2 + (c3 + c4), c2 + c3 + (c4 + c5), c3 + c4 + (c5 + c6), c4 + c5 + (c6 + c7), c5 + c6 + c7, c6 + c7, c7] / 4294967296 = val [c0 + c1 + (c2 + c3) + (c4 + c5 + (c6 + c7)), c1 + c2 + (c3 + c4) + (c5 + c6 + c7), c2 + c3 + (c4 + c5) + (c6 + c7), c3 + c4 + (c5 + c6) + c7, c4 + c5 + (c6 + c7), c5 + c6 + c7, c6 + c7, c7] := by
    rw [div4 _ _ _ _ _ (by omega) (by omega) (by omega) (by omega), add_cons, add_cons, add_cons, add_cons, add_nil]
    rfl
  refine ⟨_, _, _, e4, e5, e6, ?_, ?_, ?_, ?_⟩
  · simp only [val]; omega
  · simp only [val]; omega
  · simp only [val]; omega
  · rw [val_cons]; omega
end Nd
end Go.Proofs.YtmfecocbadekhaaDoor
