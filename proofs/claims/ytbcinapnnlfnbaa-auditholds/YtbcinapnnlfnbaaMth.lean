/-
  THE PLAIN MATHEMATICS OF LAYER 1 (wide): what each operation of numbers of 128 bits answers, as functions on Int. No Go in sight.
  THE PLAIN MATHEMATICS OF LAYER 4 (fixq): what each call answers, as functions on Int. No Go in sight.
  THE PLAIN MATHEMATICS OF FixqLaws: up is down or one more; all rises with what rises.
  THE PLAIN MATHEMATICS OF LAYER 1: shifts.
  THE PLAIN MATHEMATICS OF A QUOTIENT OF TWO WORDS BY ONE, digit by digit of 32 bits (math/bits.Div64's way).
  THE PLAIN MATHEMATICS OF A QUOTIENT FOUND BIT BY BIT (the reference's Div).
  THE PLAIN MATHEMATICS OF LAYER 7 (ladder): the Rungs, the steps of a Half, and that a Half lies between the real number and 81 below it. Real numbers are not needed: x is at most 2^63 * 2^-(e / K), K being 2^32, where x^K * 2^e is at most 2^(63 * K). No Go in sight.
  THE PLAIN MATHEMATICS OF LAYER 7 (ladder): what follows for a Half and for its upper bound.
  THE PLAIN MATHEMATICS OF LAYER 11 (config): what its calls answer, as functions on Int. No Go in sight.
-/
import Derived.Laws.Bits64b
namespace Go.Proofs.Ytbcinapnnlfnbaa.Wd

/-- A word of 64 bits. -/
def Word (x : Int) : Prop := 0 ≤ x ∧ x < 18446744073709551616
/-- A number of 128 bits out of its two words; and its two words. -/
def val (h l : Int) : Int := h * 18446744073709551616 + l
def hiW (v : Int) : Int := v / 18446744073709551616
def loW (v : Int) : Int := v % 18446744073709551616
def top : Int := 340282366920938463463374607431768211455
def Num (v : Int) : Prop := 0 ≤ v ∧ v ≤ top

def addV (a b : Int) : Int := if a + b ≤ top then a + b else top
def addB (a b : Int) : Bool := decide (a + b ≤ top)
def subV (a b : Int) : Int := if b ≤ a then a - b else 0
def subB (a b : Int) : Bool := decide (b ≤ a)
def timV (a b : Int) : Int := if a * b ≤ top then a * b else top
def timB (a b : Int) : Bool := decide (a * b ≤ top)
def cmpV (a b : Int) : Int := if a < b then -1 else if a = b then 0 else 1
def divV (a b : Int) : Int := if b = 0 then 0 else a / b
def remV (a b : Int) : Int := if b = 0 then 0 else a % b
def divB (b : Int) : Bool := decide (b ≠ 0)
def shlV (a n : Int) : Int := if n < 0 then a else (a * 2 ^ n.toNat) % 340282366920938463463374607431768211456
def shrV (a n : Int) : Int := if n < 0 then a else a / 2 ^ n.toNat
/-- The root, bit by bit, from bit k - 1 down. -/
def sqrtFrom (a : Int) : Nat → Int → Int
  | 0, r => r
  | k + 1, r => if (r + 2 ^ k) * (r + 2 ^ k) ≤ a then sqrtFrom a k (r + 2 ^ k) else sqrtFrom a k r
def sqrtV (a : Int) : Int := sqrtFrom a 64 0

theorem val_num {h l : Int} (hh : Word h) (hl : Word l) : Num (val h l) := by
  obtain ⟨a, b⟩ := hh; obtain ⟨c, d⟩ := hl
  unfold Num val top; omega
theorem hi_val {h l : Int} (hl : Word l) : hiW (val h l) = h := by
  obtain ⟨c, d⟩ := hl
  unfold hiW val; omega
theorem lo_val {h l : Int} (hl : Word l) : loW (val h l) = l := by
  obtain ⟨c, d⟩ := hl
  unfold loW val; omega
theorem val_words (v : Int) : val (hiW v) (loW v) = v := by
  unfold val hiW loW; omega
theorem lo_word (v : Int) : Word (loW v) := by unfold Word loW; omega
theorem hi_word {v : Int} (h : Num v) : Word (hiW v) := by
  obtain ⟨a, b⟩ := h; unfold top at b; unfold Word hiW; omega
theorem mul_num {a b : Int} (ha : Word a) (hb : Word b) : Num (a * b) := by
  obtain ⟨a0, a1⟩ := ha; obtain ⟨b0, b1⟩ := hb
  refine ⟨Int.mul_nonneg a0 b0, ?_⟩
  have h : a * b ≤ 18446744073709551615 * 18446744073709551615 := Int.mul_le_mul (by omega) (by omega) b0 (by omega)
  unfold top; omega
theorem addV_num {a b : Int} (ha : Num a) (hb : Num b) : Num (addV a b) := by
  obtain ⟨a0, a1⟩ := ha; obtain ⟨b0, b1⟩ := hb
  unfold Num addV top at *; split <;> omega
theorem subV_num {a b : Int} (ha : Num a) (hb : Num b) : Num (subV a b) := by
  obtain ⟨a0, a1⟩ := ha; obtain ⟨b0, b1⟩ := hb
  unfold Num subV top at *; split <;> omega
theorem timV_num {a b : Int} (ha : Num a) (hb : Word b) : Num (timV a b) := by
  obtain ⟨a0, a1⟩ := ha; obtain ⟨b0, b1⟩ := hb
  have := Int.mul_nonneg a0 b0
  unfold Num timV top at *; split <;> omega
end Go.Proofs.Ytbcinapnnlfnbaa.Wd
namespace Go.Proofs.Ytbcinapnnlfnbaa.Wd

theorem hi_small {r : Int} (h : Word r) : hiW r = 0 ∧ loW r = r := by
  obtain ⟨_, _⟩ := h; unfold hiW loW; omega
theorem num_small {r : Int} (h : Word r) : Num r := by
  obtain ⟨_, _⟩ := h; unfold Num top; omega

/-- A number of 64 bits, or the greatest one. -/
def narV (v : Int) : Int := if v < 18446744073709551616 then v else 18446744073709551615
def narB (v : Int) : Bool := decide (v < 18446744073709551616)
/-- A quotient, rounded up. -/
def ceilV (u b : Int) : Int := if u % b = 0 then u / b else u / b + 1
def dnV (u b : Int) : Int := if b = 0 then 18446744073709551615 else narV (u / b)
def dnB (u b : Int) : Bool := if b = 0 then false else narB (u / b)
def upV (u b : Int) : Int := if b = 0 then 18446744073709551615 else narV (ceilV u b)
def upB (u b : Int) : Bool := if b = 0 then false else narB (ceilV u b)
def ofV (n : Int) : Int := if n < 0 then 0 else narV (n * 4294967296)
def ofB (n : Int) : Bool := if n < 0 then false else narB (n * 4294967296)
def minV (f : Int) : Int := if f < 9223372036854775808 then f else 9223372036854775808
def partV (a f : Int) : Int := a * minV f / 9223372036854775808

theorem nar_hi {u : Int} (hu : Num u) (h : hiW u = 0) : narV u = loW u ∧ narB u = true := by
  obtain ⟨a, b⟩ := hu
  unfold hiW at h
  have : u < 18446744073709551616 := by omega
  refine ⟨?_, by simp [narB, this]⟩
  unfold narV loW; rw [if_pos this]; omega
theorem nar_no {u : Int} (hu : Num u) (h : hiW u ≠ 0) : narV u = 18446744073709551615 ∧ narB u = false := by
  obtain ⟨a, b⟩ := hu
  unfold hiW at h
  have : ¬ u < 18446744073709551616 := by omega
  exact ⟨by unfold narV; rw [if_neg this], by simp [narB]; omega⟩
theorem nar_word {u : Int} (hu : 0 ≤ u) : Word (narV u) := by
  unfold narV Word; split <;> omega
theorem div_facts {u b : Int} (hu : Num u) (hb : Word b) (h : b ≠ 0) :
    divV u b = u / b ∧ remV u b = u % b ∧ divB b = true ∧ Num (u / b) ∧ 0 ≤ u % b ∧ u % b < b ∧ u / b * b + u % b = u ∧ timV (u / b) b = u / b * b := by
  obtain ⟨a0, a1⟩ := hu; obtain ⟨b0, b1⟩ := hb
  have q0 := Int.ediv_nonneg a0 b0
  have q1 := Int.ediv_le_self b a0
  have m0 := Int.emod_nonneg u h
  have m1 := Int.emod_lt_of_pos u (show 0 < b by omega)
  have e := Int.mul_ediv_add_emod u b
  rw [Int.mul_comm] at e
  refine ⟨by unfold divV; rw [if_neg h], by unfold remV; rw [if_neg h], by simp [divB, h], ⟨q0, by omega⟩, m0, m1, e, ?_⟩
  unfold timV; rw [if_pos (by omega)]
/-- One more than a quotient that is not exact fits. -/
theorem div_more {u b : Int} (hu : Num u) (hb : Word b) (h : b ≠ 0) (hm : u % b ≠ 0) : addV (u / b) 1 = u / b + 1 ∧ Num (u / b + 1) := by
  obtain ⟨_, _, _, ⟨q0, q1⟩, m0, m1, e, _⟩ := div_facts hu hb h
  obtain ⟨a0, a1⟩ := hu; obtain ⟨b0, b1⟩ := hb
  have b2 : 2 ≤ b := by omega
  have h2 : u / b * 2 ≤ u / b * b := Int.mul_le_mul_of_nonneg_left b2 q0
  have h3 : u / b + 1 ≤ top := by unfold top at *; omega
  exact ⟨by unfold addV; rw [if_pos h3], by omega, h3⟩
theorem dn_word {u b : Int} (hu : Num u) (hb : Word b) : Word (dnV u b) := by
  unfold dnV
  split
  · exact ⟨by omega, by omega⟩
  · exact nar_word (Int.ediv_nonneg hu.1 hb.1)
theorem words_ne {u v : Int} (h : u ≠ v) : ¬ (hiW u = hiW v ∧ loW u = loW v) := by
  rintro ⟨a, b⟩
  exact h (by rw [← val_words u, ← val_words v, a, b])
theorem part_big {a : Int} : a * 9223372036854775808 / 9223372036854775808 = a := Int.mul_ediv_cancel _ (by omega)
theorem minV_word {f : Int} (hf : Word f) : Word (minV f) := by
  obtain ⟨_, _⟩ := hf; unfold minV Word; split <;> omega
theorem minV_le (f : Int) : minV f ≤ 9223372036854775808 := by unfold minV; split <;> omega
theorem part_le {a f : Int} (ha : Word a) : partV a f ≤ a := by
  obtain ⟨a0, _⟩ := ha
  have h : a * minV f ≤ a * 9223372036854775808 := Int.mul_le_mul_of_nonneg_left (minV_le f) a0
  have := Int.ediv_le_ediv (show (0 : Int) < 9223372036854775808 by omega) h
  rw [part_big] at this
  exact this
theorem part_nonneg {a f : Int} (ha : Word a) (hf : Word f) : 0 ≤ partV a f :=
  Int.ediv_nonneg (Int.mul_nonneg ha.1 (minV_word hf).1) (by omega)
theorem part_dn {a f : Int} (ha : Word a) : dnV (a * minV f) 9223372036854775808 = partV a f ∧ dnB (a * minV f) 9223372036854775808 = true := by
  have h1 := part_le (f := f) ha
  have h2 : a * minV f / 9223372036854775808 < 18446744073709551616 := by have := ha.2; unfold partV at h1; omega
  refine ⟨?_, ?_⟩
  · unfold dnV narV partV; rw [if_neg (by omega), if_pos h2]
  · unfold dnB narB; rw [if_neg (by omega)]; simp [h2]
end Go.Proofs.Ytbcinapnnlfnbaa.Wd
namespace Go.Proofs.Ytbcinapnnlfnbaa.Wd

theorem nar_mono {u v : Int} (h : u ≤ v) : narV u ≤ narV v := by
  unfold narV; split <;> split <;> omega
theorem dn_mono {u v b : Int} (hb : Word b) (h : u ≤ v) : dnV u b ≤ dnV v b := by
  unfold dnV
  by_cases z : b = 0
  · rw [if_pos z, if_pos z]; exact Int.le_refl _
  · rw [if_neg z, if_neg z]
    exact nar_mono (Int.ediv_le_ediv (by have := hb.1; omega) h)
theorem mulDn_mono {a b c : Int} (hb : Word b) (h : a ≤ c) : dnV (a * b) 4294967296 ≤ dnV (c * b) 4294967296 :=
  dn_mono ⟨by omega, by omega⟩ (Int.mul_le_mul_of_nonneg_right h hb.1)
theorem divDn_mono {a b c : Int} (hb : Word b) (h : a ≤ c) : dnV (a * 4294967296) b ≤ dnV (c * 4294967296) b :=
  dn_mono hb (by omega)
theorem minV_mono {f g : Int} (h : f ≤ g) : minV f ≤ minV g := by unfold minV; split <;> split <;> omega
theorem part_mono1 {a b c : Int} (hb : Word b) (h : a ≤ c) : partV a b ≤ partV c b :=
  Int.ediv_le_ediv (by omega) (Int.mul_le_mul_of_nonneg_right h (minV_word hb).1)
theorem part_mono2 {a b c : Int} (hb : Word b) (h : a ≤ c) : partV b a ≤ partV b c :=
  Int.ediv_le_ediv (by omega) (Int.mul_le_mul_of_nonneg_left (minV_mono h) hb.1)
theorem part_one (a : Int) : partV a 9223372036854775808 = a := part_big
/-- The quotient by one, and the product by one. -/
theorem div_one {a : Int} (ha : Word a) : dnV (a * 4294967296) 4294967296 = a ∧ dnB (a * 4294967296) 4294967296 = true := by
  obtain ⟨a0, a1⟩ := ha
  have e : a * 4294967296 / 4294967296 = a := Int.mul_ediv_cancel _ (by omega)
  refine ⟨?_, ?_⟩
  · unfold dnV narV; rw [if_neg (by omega), e, if_pos a1]
  · unfold dnB narB; rw [if_neg (by omega), e]; simp [a1]
theorem mul_one_up {a : Int} (ha : Word a) : upV (a * 4294967296) 4294967296 = a ∧ upB (a * 4294967296) 4294967296 = true := by
  obtain ⟨a0, a1⟩ := ha
  have e : ceilV (a * 4294967296) 4294967296 = a := by unfold ceilV; rw [if_pos (by omega)]; omega
  refine ⟨?_, ?_⟩
  · unfold upV narV; rw [if_neg (by omega), e, if_pos a1]
  · unfold upB narB; rw [if_neg (by omega), e]; simp [a1]
/-- Up is down, or one more; or down is the greatest, and up does not fit. -/
theorem up_dn (u b : Int) : (dnB u b = upB u b ∧ dnV u b = upV u b) ∨ (dnB u b = true ∧ upB u b = true ∧ dnV u b + 1 = upV u b ∧ dnV u b ≠ upV u b ∧ dnV u b + 1 < 18446744073709551616) ∨ (dnB u b = true ∧ upB u b = false ∧ dnV u b = 18446744073709551615 ∧ upV u b = 18446744073709551615) := by
  by_cases z : b = 0
  · exact .inl ⟨by simp [dnB, upB, z], by simp [dnV, upV, z]⟩
  · have e1 : dnB u b = narB (u / b) := by unfold dnB; rw [if_neg z]
    have e2 : dnV u b = narV (u / b) := by unfold dnV; rw [if_neg z]
    have e3 : upB u b = narB (ceilV u b) := by unfold upB; rw [if_neg z]
    have e4 : upV u b = narV (ceilV u b) := by unfold upV; rw [if_neg z]
    rw [e1, e2, e3, e4]
    by_cases m : u % b = 0
    · have e5 : ceilV u b = u / b := by unfold ceilV; rw [if_pos m]
      rw [e5]; exact .inl ⟨rfl, rfl⟩
    · have e5 : ceilV u b = u / b + 1 := by unfold ceilV; rw [if_neg m]
      rw [e5]
      generalize u / b = q
      by_cases h : q < 18446744073709551616
      · have n1 : narB q = true := by simp [narB, h]
        have n2 : narV q = q := by unfold narV; rw [if_pos h]
        by_cases g : q + 1 < 18446744073709551616
        · have n3 : narB (q + 1) = true := by simp [narB, g]
          have n4 : narV (q + 1) = q + 1 := by unfold narV; rw [if_pos g]
          rw [n1, n2, n3, n4]; exact .inr (.inl ⟨rfl, rfl, rfl, by omega, by omega⟩)
        · have n3 : narB (q + 1) = false := by simp [narB]; omega
          have n4 : narV (q + 1) = 18446744073709551615 := by unfold narV; rw [if_neg g]
          rw [n1, n2, n3, n4]; exact .inr (.inr ⟨rfl, rfl, by omega, rfl⟩)
      · have n1 : narB q = false := by simp [narB]; omega
        have n2 : narV q = 18446744073709551615 := by unfold narV; rw [if_neg h]
        have n3 : narB (q + 1) = false := by simp [narB]; omega
        have n4 : narV (q + 1) = 18446744073709551615 := by unfold narV; rw [if_neg (by omega)]
        rw [n1, n2, n3, n4]; exact .inl ⟨rfl, rfl⟩
/-- What was laid on is taken off. -/
theorem add_back {a b : Int} (ha : Word a) (h : narB (a + b) = true) : narV (a + b) = a + b ∧ subV (a + b) b = a ∧ subB (a + b) b = true := by
  unfold narB at h
  simp at h
  obtain ⟨_, _⟩ := ha
  refine ⟨by unfold narV; rw [if_pos h], ?_, by simp [subB]; omega⟩
  unfold subV; rw [if_pos (by omega)]; omega
end Go.Proofs.Ytbcinapnnlfnbaa.Wd
namespace Go.Proofs.Ytbcinapnnlfnbaa.Wd

theorem pow_pos' (k : Nat) : (1 : Int) ≤ 2 ^ k := by
  have : 0 < (2 : Nat) ^ k := Nat.two_pow_pos k
  have h : ((2 ^ k : Nat) : Int) = (2 : Int) ^ k := by simp
  omega
theorem pow_split (k : Nat) (h : k ≤ 64) : (2 : Int) ^ k * 2 ^ (64 - k) = 18446744073709551616 := by
  rw [← Int.pow_add, show k + (64 - k) = 64 by omega]; rfl

/-- Shifted up by less than a word: P * Q = 2^64. -/
theorem shl_words {ah al P Q : Int} (h1 : Word ah) (h2 : Word al) (hP : 1 ≤ P) (hQ : 1 ≤ Q) (hM : P * Q = 18446744073709551616) :
    ∃ u, (ah * P) % 18446744073709551616 = P * u ∧ 0 ≤ u ∧ P * u + al / Q < 18446744073709551616 ∧ 0 ≤ P * u ∧ 0 ≤ al / Q ∧ al / Q < P ∧
      P * u + al / Q = hiW ((val ah al * P) % 340282366920938463463374607431768211456) ∧ (al * P) % 18446744073709551616 = loW ((val ah al * P) % 340282366920938463463374607431768211456) := by
  obtain ⟨a0, a1⟩ := h1; obtain ⟨b0, b1⟩ := h2
  have ea : ah * P = ah / Q * 18446744073709551616 + P * (ah % Q) := by
    have e : ah = ah / Q * Q + ah % Q := by have := Int.mul_ediv_add_emod ah Q; rw [Int.mul_comm Q] at this; omega
    calc ah * P = (ah / Q * Q + ah % Q) * P := by rw [← e]
      _ = ah / Q * (P * Q) + P * (ah % Q) := by rw [Int.add_mul, Int.mul_assoc, Int.mul_comm Q P, Int.mul_comm (ah % Q) P]
      _ = _ := by rw [hM]
  have eb : al * P = al / Q * 18446744073709551616 + P * (al % Q) := by
    have e : al = al / Q * Q + al % Q := by have := Int.mul_ediv_add_emod al Q; rw [Int.mul_comm Q] at this; omega
    calc al * P = (al / Q * Q + al % Q) * P := by rw [← e]
      _ = al / Q * (P * Q) + P * (al % Q) := by rw [Int.add_mul, Int.mul_assoc, Int.mul_comm Q P, Int.mul_comm (al % Q) P]
      _ = _ := by rw [hM]
  have ra0 := Int.emod_nonneg ah (show Q ≠ 0 by omega)
  have ra1 := Int.emod_lt_of_pos ah (show 0 < Q by omega)
  have rb0 := Int.emod_nonneg al (show Q ≠ 0 by omega)
  have rb1 := Int.emod_lt_of_pos al (show 0 < Q by omega)
  have u0 : 0 ≤ P * (ah % Q) := Int.mul_nonneg (by omega) ra0
  have t0 : 0 ≤ P * (al % Q) := Int.mul_nonneg (by omega) rb0
  have u1 : P * (ah % Q) ≤ 18446744073709551616 - P := by
    have h := Int.mul_le_mul_of_nonneg_left (show ah % Q ≤ Q - 1 by omega) (show 0 ≤ P by omega)
    rw [Int.mul_sub, hM] at h; omega
  have t1 : P * (al % Q) ≤ 18446744073709551616 - P := by
    have h := Int.mul_le_mul_of_nonneg_left (show al % Q ≤ Q - 1 by omega) (show 0 ≤ P by omega)
    rw [Int.mul_sub, hM] at h; omega
  have v0 : 0 ≤ al / Q := Int.ediv_nonneg b0 (by omega)
  have v1 : al / Q < P := Int.ediv_lt_of_lt_mul (by omega) (by rw [hM]; omega)
  have ev : val ah al * P = ah * P * 18446744073709551616 + al * P := by unfold val; rw [Int.add_mul, Int.mul_right_comm]
  rw [ev, ea, eb]
  refine ⟨ah % Q, ?_, ra0, ?_, u0, v0, v1, ?_, ?_⟩ <;> (try simp only [hiW, loW]) <;>
    (generalize P * (ah % Q) = u at *; generalize P * (al % Q) = t at *; generalize al / Q = v at *; generalize ah / Q = s at *; omega)

/-- Shifted down by less than a word. -/
theorem shr_words {ah al P Q : Int} (h1 : Word ah) (h2 : Word al) (hP : 1 ≤ P) (hQ : 1 ≤ Q) (hM : P * Q = 18446744073709551616) :
    ∃ u, (ah * Q) % 18446744073709551616 = Q * u ∧ 0 ≤ u ∧ Q * u + al / P < 18446744073709551616 ∧ 0 ≤ Q * u ∧ 0 ≤ al / P ∧ al / P < Q ∧
      Q * u + al / P = loW (val ah al / P) ∧ ah / P = hiW (val ah al / P) := by
  obtain ⟨a0, a1⟩ := h1; obtain ⟨b0, b1⟩ := h2
  have ea : ah * Q = ah / P * 18446744073709551616 + Q * (ah % P) := by
    have e : ah = ah / P * P + ah % P := by have := Int.mul_ediv_add_emod ah P; rw [Int.mul_comm P] at this; omega
    calc ah * Q = (ah / P * P + ah % P) * Q := by rw [← e]
      _ = ah / P * (P * Q) + Q * (ah % P) := by rw [Int.add_mul, Int.mul_assoc, Int.mul_comm (ah % P) Q]
      _ = _ := by rw [hM]
  have ra0 := Int.emod_nonneg ah (show P ≠ 0 by omega)
  have ra1 := Int.emod_lt_of_pos ah (show 0 < P by omega)
  have u0 : 0 ≤ Q * (ah % P) := Int.mul_nonneg (by omega) ra0
  have u1 : Q * (ah % P) ≤ 18446744073709551616 - Q := by
    have h := Int.mul_le_mul_of_nonneg_left (show ah % P ≤ P - 1 by omega) (show 0 ≤ Q by omega)
    rw [Int.mul_sub, Int.mul_comm Q P, hM] at h; omega
  have v0 : 0 ≤ al / P := Int.ediv_nonneg b0 (by omega)
  have v1 : al / P < Q := Int.ediv_lt_of_lt_mul (by omega) (by rw [Int.mul_comm, hM]; omega)
  have ev : val ah al / P = ah * Q + al / P := by
    unfold val
    rw [show ah * 18446744073709551616 = ah * Q * P by rw [Int.mul_assoc, Int.mul_comm Q P, hM], Int.add_comm, Int.add_mul_ediv_right _ _ (by omega), Int.add_comm]
  rw [ev, ea]
  refine ⟨ah % P, ?_, ra0, ?_, u0, v0, v1, ?_, ?_⟩ <;> (try simp only [hiW, loW]) <;>
    (generalize Q * (ah % P) = u at *; generalize al / P = v at *; generalize ah / P = s at *; omega)

/-- Bits that do not meet: or is plus. -/
theorem or_plus (k : Nat) {u v : Int} (hu : 0 ≤ u) (hv : 0 ≤ v) (hv' : v < 2 ^ k) (h : 2 ^ k * u + v < 18446744073709551616) :
    bits .or .u64 (2 ^ k * u) v = 2 ^ k * u + v ∧ bits .or .u64 v (2 ^ k * u) = 2 ^ k * u + v := by
  obtain ⟨u, rfl⟩ := Int.eq_ofNat_of_zero_le hu
  obtain ⟨v, rfl⟩ := Int.eq_ofNat_of_zero_le hv
  have hp : ((2 ^ k : Nat) : Int) = (2 : Int) ^ k := by simp
  have e : (2 : Int) ^ k * (u : Int) = ((2 ^ k * u : Nat) : Int) := by rw [Int.natCast_mul, hp]
  have hv2 : v < 2 ^ k := by omega
  rw [e] at h ⊢
  have o1 : 2 ^ k * u ||| v = 2 ^ k * u + v := (Nat.two_pow_add_eq_or_of_lt hv2 u).symm
  have o2 : v ||| 2 ^ k * u = 2 ^ k * u + v := by rw [Nat.or_comm, o1]
  have l1 : 2 ^ k * u < 18446744073709551616 := by omega
  rw [bits_or_u64_nat _ _ l1 (by omega), bits_or_u64_nat _ _ (by omega) l1, o1, o2]
  constructor <;> omega

theorem shl_small (ah al n : Int) (h1 : Word ah) (h2 : Word al) (h0 : 0 ≤ n) (hn : n < 64) :
    bits .or .u64 (IntKind.u64.wrap (ah * 2 ^ n.toNat)) (al / 2 ^ (64 - n).toNat) = hiW (shlV (val ah al) n) ∧
    IntKind.u64.wrap (IntKind.u64.wrap (ah * 2 ^ n.toNat) + al / 2 ^ (64 - n).toNat) = hiW (shlV (val ah al) n) ∧
    IntKind.u64.wrap (al * 2 ^ n.toNat) = loW (shlV (val ah al) n) := by
  have e : (64 - n).toNat = 64 - n.toNat := by omega
  rw [e]
  obtain ⟨u, e1, u0, e2, p0, v0, v1, e3, e4⟩ := shl_words h1 h2 (pow_pos' n.toNat) (pow_pos' (64 - n.toNat)) (pow_split n.toNat (by omega))
  have es : shlV (val ah al) n = (val ah al * 2 ^ n.toNat) % 340282366920938463463374607431768211456 := by unfold shlV; rw [if_neg (by omega)]
  rw [es, IntKind.wrap_u64, IntKind.wrap_u64, IntKind.wrap_u64, e1]
  refine ⟨by rw [(or_plus _ u0 v0 v1 e2).1]; exact e3, ?_, e4⟩
  rw [← e3]; omega
theorem shr_small (ah al n : Int) (h1 : Word ah) (h2 : Word al) (h0 : 0 ≤ n) (hn : n < 64) :
    bits .or .u64 (al / 2 ^ n.toNat) (IntKind.u64.wrap (ah * 2 ^ (64 - n).toNat)) = loW (shrV (val ah al) n) ∧
    IntKind.u64.wrap (al / 2 ^ n.toNat + IntKind.u64.wrap (ah * 2 ^ (64 - n).toNat)) = loW (shrV (val ah al) n) ∧
    ah / 2 ^ n.toNat = hiW (shrV (val ah al) n) := by
  have e : (64 - n).toNat = 64 - n.toNat := by omega
  rw [e]
  obtain ⟨u, e1, u0, e2, p0, v0, v1, e3, e4⟩ := shr_words h1 h2 (pow_pos' n.toNat) (pow_pos' (64 - n.toNat)) (pow_split n.toNat (by omega))
  have es : shrV (val ah al) n = val ah al / 2 ^ n.toNat := by unfold shrV; rw [if_neg (by omega)]
  rw [es, IntKind.wrap_u64, IntKind.wrap_u64, e1]
  refine ⟨by rw [(or_plus _ u0 v0 v1 e2).2]; exact e3, ?_, e4⟩
  rw [← e3]; omega

theorem pow_big (j : Nat) (h : 64 ≤ j) : (2 : Int) ^ j = 18446744073709551616 * 2 ^ (j - 64) := by
  have e : 64 + (j - 64) = j := by omega
  have h2 : (2 : Int) ^ (64 + (j - 64)) = 2 ^ 64 * 2 ^ (j - 64) := Int.pow_add 2 64 (j - 64)
  rw [e] at h2
  rw [h2]; rfl
theorem shl_great (ah al n : Int) (hn : 64 ≤ n) :
    IntKind.u64.wrap (al * 2 ^ (n - 64).toNat) = hiW (shlV (val ah al) n) ∧ 0 = loW (shlV (val ah al) n) := by
  have es : shlV (val ah al) n = (val ah al * 2 ^ n.toNat) % 340282366920938463463374607431768211456 := by unfold shlV; rw [if_neg (by omega)]
  rw [es, pow_big n.toNat (by omega), show n.toNat - 64 = (n - 64).toNat by omega, IntKind.wrap_u64]
  generalize (2 : Int) ^ (n - 64).toNat = p
  have e : val ah al * (18446744073709551616 * p) = (ah * p) * 340282366920938463463374607431768211456 + (al * p) * 18446744073709551616 := by
    unfold val
    rw [Int.add_mul, ← Int.mul_assoc, ← Int.mul_assoc, Int.mul_right_comm al, Int.mul_assoc ah, Int.mul_right_comm ah]
    rfl
  rw [e]
  simp only [hiW, loW]
  generalize ah * p = x
  generalize al * p = y
  constructor <;> omega
theorem min_great (al n : Int) : IntKind.u64.wrap (al * 2 ^ min (n - 64).toNat 64) = IntKind.u64.wrap (al * 2 ^ (n - 64).toNat) := by
  by_cases h : (n - 64).toNat ≤ 64
  · rw [Nat.min_eq_left h]
  · rw [Nat.min_eq_right (by omega), pow_big (n - 64).toNat (by omega), IntKind.wrap_u64, IntKind.wrap_u64]
    generalize (2 : Int) ^ ((n - 64).toNat - 64) = p
    rw [Int.mul_comm 18446744073709551616 p, ← Int.mul_assoc]
    generalize al * p = y
    omega
theorem shr_great (ah al n : Int) (h1 : Word ah) (h2 : Word al) (hn : 64 ≤ n) :
    ah / 2 ^ (n - 64).toNat = loW (shrV (val ah al) n) ∧ 0 = hiW (shrV (val ah al) n) := by
  obtain ⟨a0, a1⟩ := h1
  have es : shrV (val ah al) n = val ah al / 2 ^ n.toNat := by unfold shrV; rw [if_neg (by omega)]
  have hd : val ah al / 18446744073709551616 = ah := hi_val h2
  rw [es, pow_big n.toNat (by omega), show n.toNat - 64 = (n - 64).toNat by omega, ← Int.ediv_ediv_of_nonneg (by omega), hd]
  have hp := pow_pos' (n - 64).toNat
  generalize (2 : Int) ^ (n - 64).toNat = p at *
  have q0 : 0 ≤ ah / p := Int.ediv_nonneg a0 (by omega)
  have q1 : ah / p ≤ ah := Int.ediv_le_self p a0
  simp only [hiW, loW]
  generalize ah / p = q at *
  constructor <;> omega
theorem min_great_r (ah n : Int) (h1 : Word ah) : ah / 2 ^ min (n - 64).toNat 64 = ah / 2 ^ (n - 64).toNat := by
  obtain ⟨a0, a1⟩ := h1
  by_cases h : (n - 64).toNat ≤ 64
  · rw [Nat.min_eq_left h]
  · rw [Nat.min_eq_right (by omega), Int.ediv_eq_zero_of_lt a0 (by omega)]
    have hb := pow_big (n - 64).toNat (by omega)
    have hp := pow_pos' ((n - 64).toNat - 64)
    rw [Int.ediv_eq_zero_of_lt a0 (by omega)]
theorem shl_zero (a : Int) (h : Num a) : shlV a 0 = a := by
  obtain ⟨a0, a1⟩ := h; unfold top at a1; unfold shlV; rw [if_neg (by omega)]; simp; omega
theorem shr_zero (a : Int) : shrV a 0 = a := by unfold shrV; rw [if_neg (by omega)]; simp
theorem shl_neg (a n : Int) (h : n < 0) : shlV a n = a := by unfold shlV; rw [if_pos h]
theorem shr_neg (a n : Int) (h : n < 0) : shrV a n = a := by unfold shrV; rw [if_pos h]
end Go.Proofs.Ytbcinapnnlfnbaa.Wd
namespace Go.Proofs.Ytbcinapnnlfnbaa.Wd

/-- The divisor's two halves p, z (p has its highest bit), U the upper part, c the next half: what a digit is found of. -/
def Digit (U c p z : Int) : Prop := 2147483648 ≤ p ∧ p < 4294967296 ∧ 0 ≤ z ∧ z < 4294967296 ∧ 0 ≤ c ∧ c < 4294967296 ∧ 0 ≤ U ∧ U < p * 4294967296 + z
/-- The digit. -/
def dig (U c p z : Int) : Int := (U * 4294967296 + c) / (p * 4294967296 + z)
/-- A guess q with its rest r. -/
def St (U c p z q r : Int) : Prop := r = U - q * p ∧ 0 ≤ r ∧ r < 4294967296 ∧ dig U c p z ≤ q ∧ 0 ≤ q ∧ q ≤ 4294967297

theorem dig_nonneg {U c p z : Int} (h : Digit U c p z) : 0 ≤ dig U c p z := by
  obtain ⟨p0, p1, z0, z1, c0, c1, U0, U1⟩ := h
  exact Int.ediv_nonneg (by omega) (by omega)
theorem dig_lt {U c p z : Int} (h : Digit U c p z) : dig U c p z < 4294967296 := by
  obtain ⟨p0, p1, z0, z1, c0, c1, U0, U1⟩ := h
  exact Int.ediv_lt_of_lt_mul (by omega) (by omega)
theorem k_init {U c p z : Int} (h : Digit U c p z) : St U c p z (U / p) (U - U / p * p) := by
  have hd := h
  obtain ⟨p0, p1, z0, z1, c0, c1, U0, U1⟩ := h
  have e := Int.mul_ediv_add_emod U p
  rw [Int.mul_comm] at e
  have m0 := Int.emod_nonneg U (show p ≠ 0 by omega)
  have m1 := Int.emod_lt_of_pos U (show 0 < p by omega)
  refine ⟨rfl, by omega, by omega, ?_, Int.ediv_nonneg U0 (by omega), ?_⟩
  · rw [Int.le_ediv_iff_mul_le (by omega)]
    have q0 := dig_nonneg hd
    have h1 : dig U c p z * (p * 4294967296 + z) ≤ U * 4294967296 + c := Int.ediv_mul_le _ (by omega)
    have h2 : 0 ≤ dig U c p z * z := Int.mul_nonneg q0 z0
    rw [Int.mul_add, ← Int.mul_assoc] at h1
    generalize dig U c p z * p = a at *
    generalize dig U c p z * z = b at *
    omega
  · have : U / p < 4294967298 := Int.ediv_lt_of_lt_mul (by omega) (by omega)
    omega
theorem k_eq {U p z q r : Int} (hs : r = U - q * p) : q * (p * 4294967296 + z) = (U - r) * 4294967296 + q * z := by
  rw [Int.mul_add, ← Int.mul_assoc, show q * p = U - r by omega]
theorem k_false {U c p z q r : Int} (h : Digit U c p z) (hs : St U c p z q r) (hc : q * z ≤ 4294967296 * r + c) : q = dig U c p z := by
  obtain ⟨p0, p1, z0, z1, c0, c1, U0, U1⟩ := h
  obtain ⟨e, r0, r1, ql, q0, q1⟩ := hs
  have : q ≤ dig U c p z := by
    unfold dig
    rw [Int.le_ediv_iff_mul_le (by omega), k_eq e]
    generalize q * z = a at *
    omega
  omega
theorem k_true {U c p z q r : Int} (h : Digit U c p z) (hs : St U c p z q r) (hc : 4294967296 ≤ q ∨ 4294967296 * r + c < q * z) : dig U c p z ≤ q - 1 := by
  have hd := h
  obtain ⟨p0, p1, z0, z1, c0, c1, U0, U1⟩ := h
  obtain ⟨e, r0, r1, ql, q0, q1⟩ := hs
  have : dig U c p z < q := by
    rcases hc with hc | hc
    · have := dig_lt hd; omega
    · apply Int.ediv_lt_of_lt_mul (by omega)
      rw [k_eq e]
      generalize q * z = a at *
      omega
  omega
theorem k_next {U c p z q r : Int} (h : Digit U c p z) (hs : St U c p z q r) (hc : 4294967296 ≤ q ∨ 4294967296 * r + c < q * z) (hr : r + p < 4294967296) : St U c p z (q - 1) (r + p) := by
  have ht := k_true h hs hc
  have hn := dig_nonneg h
  obtain ⟨p0, p1, z0, z1, c0, c1, U0, U1⟩ := h
  obtain ⟨e, r0, r1, ql, q0, q1⟩ := hs
  refine ⟨?_, by omega, hr, ht, by omega, by omega⟩
  rw [Int.sub_mul]; omega
theorem k_break {U c p z q r : Int} (h : Digit U c p z) (hs : St U c p z q r) (hc : 4294967296 ≤ q ∨ 4294967296 * r + c < q * z) (hr : 4294967296 ≤ r + p) : q - 1 = dig U c p z := by
  have ht := k_true h hs hc
  have hn := dig_nonneg h
  obtain ⟨p0, p1, z0, z1, c0, c1, U0, U1⟩ := h
  obtain ⟨e, r0, r1, ql, q0, q1⟩ := hs
  have : q - 1 ≤ dig U c p z := by
    unfold dig
    have e' : r + p = U - (q - 1) * p := by rw [Int.sub_mul]; omega
    rw [Int.le_ediv_iff_mul_le (by omega), k_eq e']
    have m : (q - 1) * z ≤ 4294967296 * 4294967295 := Int.mul_le_mul (by omega) (by omega) z0 (by omega)
    generalize (q - 1) * z = a at *
    omega
  omega
theorem k_rem {U c p z : Int} (h : Digit U c p z) :
    IntKind.u64.wrap (IntKind.u64.wrap (IntKind.u64.wrap (U * 4294967296) + c) - IntKind.u64.wrap (dig U c p z * (p * 4294967296 + z))) = (U * 4294967296 + c) % (p * 4294967296 + z) ∧
    0 ≤ (U * 4294967296 + c) % (p * 4294967296 + z) ∧ (U * 4294967296 + c) % (p * 4294967296 + z) < p * 4294967296 + z := by
  obtain ⟨p0, p1, z0, z1, c0, c1, U0, U1⟩ := h
  have e := Int.mul_ediv_add_emod (U * 4294967296 + c) (p * 4294967296 + z)
  have m0 := Int.emod_nonneg (U * 4294967296 + c) (show p * 4294967296 + z ≠ 0 by omega)
  have m1 := Int.emod_lt_of_pos (U * 4294967296 + c) (show 0 < p * 4294967296 + z by omega)
  refine ⟨?_, m0, m1⟩
  have eq : dig U c p z * (p * 4294967296 + z) = U * 4294967296 + c - (U * 4294967296 + c) % (p * 4294967296 + z) := by
    unfold dig; rw [Int.mul_comm]; omega
  rw [eq]
  simp only [IntKind.wrap_u64]
  generalize (U * 4294967296 + c) % (p * 4294967296 + z) = m at *
  omega

/-- Both digits together: V = N * P in words U and L; Y = y * P. -/
theorem k_whole {N y P Y U L : Int} (hy : 1 ≤ y) (hP : 1 ≤ P) (hY : Y = y * P) (hV : N * P = U * 18446744073709551616 + L) (q1 r1 q0 r0 : Int)
    (h1 : q1 = (U * 4294967296 + L / 4294967296) / Y) (h2 : r1 = (U * 4294967296 + L / 4294967296) % Y) (h3 : q0 = (r1 * 4294967296 + L % 4294967296) / Y) (h4 : r0 = (r1 * 4294967296 + L % 4294967296) % Y) :
    q1 * 4294967296 + q0 = N / y ∧ r0 / P = N % y := by
  have hYp : 0 < Y := by rw [hY]; exact Int.mul_pos (by omega) (by omega)
  have e1 := Int.mul_ediv_add_emod (U * 4294967296 + L / 4294967296) Y
  have e2 := Int.mul_ediv_add_emod (r1 * 4294967296 + L % 4294967296) Y
  rw [← h1, ← h2] at e1
  rw [← h3, ← h4] at e2
  have m0 : 0 ≤ r0 := by rw [h4]; exact Int.emod_nonneg _ (by omega)
  have m1 : r0 < Y := by rw [h4]; exact Int.emod_lt_of_pos _ hYp
  have eV : N * P = (q1 * 4294967296 + q0) * Y + r0 := by
    rw [hV, Int.add_mul, Int.mul_right_comm, Int.mul_comm q1 Y, Int.mul_comm q0 Y]
    omega
  have d1 : N * P / Y = q1 * 4294967296 + q0 := by
    rw [eV, Int.add_comm, Int.add_mul_ediv_right _ _ (by omega), Int.ediv_eq_zero_of_lt m0 m1, Int.zero_add]
  have d2 : N * P % Y = r0 := by
    rw [eV, Int.add_comm, Int.add_mul_emod_self_right, Int.emod_eq_of_lt m0 m1]
  have c1 : N * P / Y = N / y := by rw [hY, Int.mul_ediv_mul_of_pos_left _ _ (by omega)]
  have c2 : N * P % Y = N % y * P := by rw [hY, Int.mul_comm N P, Int.mul_comm y P, Int.mul_emod_mul_of_pos _ _ (by omega), Int.mul_comm]
  refine ⟨by rw [← d1, c1], ?_⟩
  rw [← d2, c2, Int.mul_ediv_cancel _ (by omega)]
end Go.Proofs.Ytbcinapnnlfnbaa.Wd
namespace Go.Proofs.Ytbcinapnnlfnbaa.Wd

/-- When k bits have been gone through: what is left of a, the quotient and the rest so far. -/
def Part (A b : Int) (k : Nat) (a q r : Int) : Prop := a = (A * 2 ^ k) % 340282366920938463463374607431768211456 ∧ q = A / 2 ^ (128 - k) / b ∧ r = A / 2 ^ (128 - k) % b

theorem part_start {A b : Int} (hA : Num A) : Part A b 0 A 0 0 := by
  obtain ⟨a0, a1⟩ := hA; unfold top at a1
  have e : A / 2 ^ (128 - 0) = 0 := Int.ediv_eq_zero_of_lt a0 (by show A < 340282366920938463463374607431768211456; omega)
  refine ⟨by simp; omega, by rw [e]; simp, by rw [e]; simp⟩
theorem part_end {A b a q r : Int} (h : Part A b 128 a q r) (hb : 0 < b) : q = divV A b ∧ r = remV A b := by
  obtain ⟨_, e1, e2⟩ := h
  have e : A / 2 ^ (128 - 128) = A := by simp
  rw [e] at e1 e2
  unfold divV remV
  rw [if_neg (by omega), if_neg (by omega)]
  exact ⟨e1, e2⟩
/-- The next bit. -/
theorem next_bit (A : Int) (k : Nat) (hk : k < 128) : A / 2 ^ (128 - (k + 1)) = 2 * (A / 2 ^ (128 - k)) + (A * 2 ^ k) % 340282366920938463463374607431768211456 / 170141183460469231731687303715884105728 := by
  have hP := pow_pos' k
  have hR := pow_pos' (128 - (k + 1))
  have eR : (2 : Int) ^ (128 - k) = 2 ^ (128 - (k + 1)) * 2 := by rw [show 128 - k = (128 - (k + 1)) + 1 by omega, Int.pow_succ]
  have ePR : (2 : Int) ^ k * 2 ^ (128 - (k + 1)) = 170141183460469231731687303715884105728 := by rw [← Int.pow_add, show k + (128 - (k + 1)) = 127 by omega]; rfl
  rw [eR]
  generalize (2 : Int) ^ (128 - (k + 1)) = R at *
  generalize (2 : Int) ^ k = P at *
  have e := Int.mul_ediv_add_emod A (R * 2)
  have v0 := Int.emod_nonneg A (show R * 2 ≠ 0 by omega)
  have v1 := Int.emod_lt_of_pos A (show 0 < R * 2 by omega)
  have ea : A * P = A / (R * 2) * 340282366920938463463374607431768211456 + A % (R * 2) * P := by
    have : A * P = (R * 2 * (A / (R * 2)) + A % (R * 2)) * P := by rw [e]
    rw [this, Int.add_mul]
    have : R * 2 * (A / (R * 2)) * P = A / (R * 2) * (P * R * 2) := by
      rw [Int.mul_comm (R * 2), Int.mul_assoc, Int.mul_comm (R * 2) P, Int.mul_assoc P R 2]
    rw [this, ePR]; omega
  have m0 : 0 ≤ A % (R * 2) * P := Int.mul_nonneg v0 (by omega)
  have m1 : A % (R * 2) * P < 340282366920938463463374607431768211456 := by
    have h := Int.mul_lt_mul_of_pos_right v1 (show 0 < P by omega)
    have : R * 2 * P = 340282366920938463463374607431768211456 := by rw [Int.mul_comm, ← Int.mul_assoc, ePR]; rfl
    omega
  have em : (A * P) % 340282366920938463463374607431768211456 = A % (R * 2) * P := by rw [ea]; omega
  have ed : A % (R * 2) * P / 170141183460469231731687303715884105728 = A % (R * 2) / R := by
    rw [← ePR, Int.mul_comm P R, Int.mul_ediv_mul_of_pos_left _ _ (by omega)]
  rw [em, ed]
  have eA : A / R = (A % (R * 2) + 2 * (A / (R * 2)) * R) / R := by
    have : A % (R * 2) + 2 * (A / (R * 2)) * R = A := by
      have h2 : R * 2 * (A / (R * 2)) = 2 * (A / (R * 2)) * R := by rw [Int.mul_comm R 2, Int.mul_assoc, Int.mul_comm R, ← Int.mul_assoc]
      omega
    rw [this]
  rw [eA, Int.add_mul_ediv_right _ _ (by omega), Int.add_comm]
/-- The bit is the highest of a's upper word. -/
theorem top_bit (a : Int) : a / 170141183460469231731687303715884105728 = hiW a / 9223372036854775808 := by unfold hiW; omega
theorem part_bounds {A b a q r : Int} {k : Nat} (hA : Num A) (hb : 0 < b) (hk : k < 128) (h : Part A b k a q r) : Num a ∧ 0 ≤ r ∧ r < b ∧ 0 ≤ q ∧ 2 * q + 1 ≤ top := by
  obtain ⟨e0, e1, e2⟩ := h
  obtain ⟨a0, a1⟩ := hA
  have hP := pow_pos' (128 - k)
  have d0 : 0 ≤ A / 2 ^ (128 - k) := Int.ediv_nonneg a0 (by omega)
  have d1 : 2 * (A / 2 ^ (128 - k)) ≤ A := by
    have eR : (2 : Int) ^ (128 - k) = 2 ^ (127 - k) * 2 := by rw [show 128 - k = (127 - k) + 1 by omega, Int.pow_succ]
    have hQ := pow_pos' (127 - k)
    rw [eR, ← Int.ediv_ediv_of_nonneg (by omega)]
    have := Int.ediv_le_self (2 ^ (127 - k)) a0
    omega
  have q0 : 0 ≤ A / 2 ^ (128 - k) / b := Int.ediv_nonneg d0 (by omega)
  have q1 : A / 2 ^ (128 - k) / b ≤ A / 2 ^ (128 - k) := Int.ediv_le_self b d0
  refine ⟨?_, by rw [e2]; exact Int.emod_nonneg _ (by omega), by rw [e2]; exact Int.emod_lt_of_pos _ hb, by rw [e1]; exact q0, ?_⟩
  · rw [e0]; unfold Num top; omega
  · rw [e1]; unfold top at *; omega
theorem part_next {A b a q r : Int} {k : Nat} (hA : Num A) (hb : 0 < b) (hk : k < 128) (h : Part A b k a q r) :
    (b ≤ 2 * r + hiW a / 9223372036854775808 → Part A b (k + 1) (shlV a 1) (2 * q + 1) (2 * r + hiW a / 9223372036854775808 - b)) ∧
    (2 * r + hiW a / 9223372036854775808 < b → Part A b (k + 1) (shlV a 1) (2 * q) (2 * r + hiW a / 9223372036854775808)) := by
  have hbd := part_bounds hA hb hk h
  obtain ⟨na, r0, r1, q0, _⟩ := hbd
  obtain ⟨e0, e1, e2⟩ := h
  have hn := next_bit A k hk
  rw [← e0, top_bit] at hn
  have es : shlV a 1 = (A * 2 ^ (k + 1)) % 340282366920938463463374607431768211456 := by
    unfold shlV; rw [if_neg (by omega), e0, Int.pow_succ, ← Int.mul_assoc]
    show ((A * 2 ^ k) % 340282366920938463463374607431768211456 * 2) % _ = _
    generalize A * 2 ^ k = x
    omega
  have hbit : 0 ≤ hiW a / 9223372036854775808 ∧ hiW a / 9223372036854775808 ≤ 1 := by
    obtain ⟨w0, w1⟩ := hi_word na; omega
  obtain ⟨b0, b1⟩ := hbit
  have ed := Int.mul_ediv_add_emod (A / 2 ^ (128 - k)) b
  rw [← e1, ← e2] at ed
  generalize hiW a / 9223372036854775808 = t at *
  have eD : A / 2 ^ (128 - (k + 1)) = 2 * r + t + 2 * q * b := by
    rw [hn, ← ed, Int.mul_add, Int.mul_comm b q, ← Int.mul_assoc]; omega
  constructor
  · intro hle
    have e3 : 2 * r + t + 2 * q * b = (2 * r + t - b) + (2 * q + 1) * b := by rw [Int.add_mul]; omega
    refine ⟨es, ?_, ?_⟩
    · rw [eD, e3, Int.add_mul_ediv_right _ _ (by omega), Int.ediv_eq_zero_of_lt (by omega) (by omega), Int.zero_add]
    · rw [eD, e3, Int.add_mul_emod_self_right, Int.emod_eq_of_lt (by omega) (by omega)]
  · intro hlt
    refine ⟨es, ?_, ?_⟩
    · rw [eD, Int.add_mul_ediv_right _ _ (by omega), Int.ediv_eq_zero_of_lt (by omega) (by omega), Int.zero_add]
    · rw [eD, Int.add_mul_emod_self_right, Int.emod_eq_of_lt (by omega) (by omega)]
theorem shl_one {q : Int} (h0 : 0 ≤ q) (h : 2 * q + 1 ≤ top) : shlV q 1 = 2 * q ∧ hiW (2 * q) = hiW (2 * q + 1) ∧ loW (2 * q) + 1 = loW (2 * q + 1) := by
  unfold top at h
  refine ⟨?_, ?_, ?_⟩
  · unfold shlV; rw [if_neg (by omega)]; show (q * 2) % _ = _; omega
  · unfold hiW; omega
  · unfold loW; omega
end Go.Proofs.Ytbcinapnnlfnbaa.Wd
namespace Go.Proofs.Ytbcinapnnlfnbaa.Ld

/-- Rung j stands at j - 1. -/
def rungs : List Nat := [13043817825332782212, 15511800964685064948, 16915738899553466670, 17664662643191237676, 18051468387014017850, 18248035989933441396, 18347121020861646923, 18396865112328554660, 18421787711448657617, 18434261669329232139, 18440501815349552981, 18443622680442407997, 18445183311048607331, 18445963675871538003, 18446353870663572144, 18446548971154807801, 18446646522174239824, 18446695297877410578, 18446719685777359790, 18446731879739425373, 18446737976723480911, 18446741025216264367, 18446742549462845017, 18446743311586182573, 18446743692647863158, 18446743883178706403, 18446743978444128763, 18446744026076840128, 18446744049893195856, 18446744061801373732, 18446744067755462673, 18446744070732507144]
def R (j : Nat) : Nat := rungs.getD j 0
/-- What is behind the first k Rungs. -/
def steps (f : Nat) : Nat → Nat
  | 0 => 9223372036854775808
  | k + 1 => if f / 2 ^ (31 - k) % 2 = 1 then steps f k * R k / 18446744073709551616 else steps f k
def halfN (e : Nat) : Nat := if 63 ≤ e / 4294967296 then 0 else steps (e % 4294967296) 32 / 2 ^ (e / 4294967296)
def uppN (e : Nat) : Nat := min (halfN e + 81) 9223372036854775808

/-- Each Rung, held against the one ahead of it. -/
theorem chain_low : ∀ j, j < 32 → R j * R j ≤ (if j = 0 then 9223372036854775808 else R (j - 1)) * 18446744073709551616 := by decide
theorem chain_next : ∀ j, j < 32 → (if j = 0 then 9223372036854775808 else R (j - 1)) * 18446744073709551616 < (R j + 1) * (R j + 1) := by decide
theorem chain_upp : ∀ j, j < 32 → (if j = 0 then 9223372036854775808 else R (j - 1) + 3) * 18446744073709551616 ≤ (R j + 3) * (R j + 3) := by decide
theorem rung_top : ∀ j, j < 32 → R j + 3 < 18446744073709551616 := by decide

theorem two_pow_le {a b : Nat} (h : a ≤ b) : 2 ^ a ≤ 2 ^ b := Nat.pow_le_pow_right (by decide) h
theorem le_of_pow {a b k : Nat} (hk : k ≠ 0) (h : a ^ k ≤ b ^ k) : a ≤ b := (Nat.pow_le_pow_iff_left hk).1 h

/-- Rung j + 1, to the power of 2^(j + 1), twice, is at most 2^(64 * 2^(j + 1)); three more: at least. -/
theorem rung_low (j : Nat) (h : j < 32) : R j ^ 2 ^ (j + 1) * 2 ≤ 18446744073709551616 ^ 2 ^ (j + 1) := by
  induction j with
  | zero => decide
  | succ j ih =>
    have e1 := chain_low (j + 1) h
    rw [if_neg (by omega), Nat.add_sub_cancel] at e1
    have e2 := ih (by omega)
    have e3 : R (j + 1) ^ 2 ^ (j + 1 + 1) ≤ R j ^ 2 ^ (j + 1) * 18446744073709551616 ^ 2 ^ (j + 1) := by
      rw [Nat.pow_succ 2 (j + 1), Nat.mul_comm (2 ^ (j + 1)) 2, Nat.pow_mul, ← Nat.mul_pow, Nat.pow_two]
      exact Nat.pow_le_pow_left e1 _
    calc R (j + 1) ^ 2 ^ (j + 1 + 1) * 2 ≤ R j ^ 2 ^ (j + 1) * 18446744073709551616 ^ 2 ^ (j + 1) * 2 := Nat.mul_le_mul_right _ e3
      _ = R j ^ 2 ^ (j + 1) * 2 * 18446744073709551616 ^ 2 ^ (j + 1) := by rw [Nat.mul_right_comm]
      _ ≤ 18446744073709551616 ^ 2 ^ (j + 1) * 18446744073709551616 ^ 2 ^ (j + 1) := Nat.mul_le_mul_right _ e2
      _ = 18446744073709551616 ^ 2 ^ (j + 1 + 1) := by rw [← Nat.pow_add, Nat.pow_succ 2 (j + 1), Nat.mul_two]
theorem rung_upp (j : Nat) (h : j < 32) : 18446744073709551616 ^ 2 ^ (j + 1) ≤ (R j + 3) ^ 2 ^ (j + 1) * 2 := by
  induction j with
  | zero => decide
  | succ j ih =>
    have e1 := chain_upp (j + 1) h
    rw [if_neg (by omega), Nat.add_sub_cancel] at e1
    have e2 := ih (by omega)
    have e3 : (R j + 3) ^ 2 ^ (j + 1) * 18446744073709551616 ^ 2 ^ (j + 1) ≤ (R (j + 1) + 3) ^ 2 ^ (j + 1 + 1) := by
      rw [Nat.pow_succ 2 (j + 1), Nat.mul_comm (2 ^ (j + 1)) 2, Nat.pow_mul, ← Nat.mul_pow, Nat.pow_two]
      exact Nat.pow_le_pow_left e1 _
    calc 18446744073709551616 ^ 2 ^ (j + 1 + 1) = 18446744073709551616 ^ 2 ^ (j + 1) * 18446744073709551616 ^ 2 ^ (j + 1) := by rw [← Nat.pow_add, Nat.pow_succ 2 (j + 1), Nat.mul_two]
      _ ≤ (R j + 3) ^ 2 ^ (j + 1) * 2 * 18446744073709551616 ^ 2 ^ (j + 1) := Nat.mul_le_mul_right _ e2
      _ = (R j + 3) ^ 2 ^ (j + 1) * 18446744073709551616 ^ 2 ^ (j + 1) * 2 := by rw [Nat.mul_right_comm]
      _ ≤ (R (j + 1) + 3) ^ 2 ^ (j + 1 + 1) * 2 := Nat.mul_le_mul_right _ e3

/-- The same to the power of K, which is 2^32. -/
theorem rungK_low (j : Nat) (h : j < 32) {K : Nat} (hK : K = 2 ^ 32) : R j ^ K * 2 ^ 2 ^ (31 - j) ≤ 18446744073709551616 ^ K := by
  have eK : K = 2 ^ (j + 1) * 2 ^ (31 - j) := by rw [hK, ← Nat.pow_add]; congr 1; omega
  rw [eK, Nat.pow_mul, Nat.pow_mul, ← Nat.mul_pow]
  exact Nat.pow_le_pow_left (rung_low j h) _
theorem rungK_upp (j : Nat) (h : j < 32) {K : Nat} (hK : K = 2 ^ 32) : 18446744073709551616 ^ K ≤ (R j + 3) ^ K * 2 ^ 2 ^ (31 - j) := by
  have eK : K = 2 ^ (j + 1) * 2 ^ (31 - j) := by rw [hK, ← Nat.pow_add]; congr 1; omega
  rw [eK, Nat.pow_mul, Nat.pow_mul, ← Nat.mul_pow]
  exact Nat.pow_le_pow_left (rung_upp j h) _

/-- The bits of f that the first k Rungs stand for. -/
def bitsTo (f : Nat) : Nat → Nat
  | 0 => 0
  | k + 1 => bitsTo f k + (if f / 2 ^ (31 - k) % 2 = 1 then 2 ^ (31 - k) else 0)
theorem bitsTo_eq (f : Nat) (hf : f < 2 ^ 32) (k : Nat) (hk : k ≤ 32) : bitsTo f k + f % 2 ^ (32 - k) = f := by
  induction k with
  | zero => simp only [bitsTo, Nat.sub_zero, Nat.zero_add]; exact Nat.mod_eq_of_lt hf
  | succ k ih =>
    have h := ih (by omega)
    have e : f % 2 ^ (32 - k) = (if f / 2 ^ (31 - k) % 2 = 1 then 2 ^ (31 - k) else 0) + f % 2 ^ (32 - (k + 1)) := by
      rw [show 32 - k = 31 - k + 1 by omega, show 32 - (k + 1) = 31 - k by omega, Nat.pow_succ, Nat.mod_mul]
      rcases Nat.mod_two_eq_zero_or_one (f / 2 ^ (31 - k)) with h2 | h2 <;> rw [h2] <;> simp [Nat.add_comm]
    simp only [bitsTo]
    omega
theorem bitsTo_all (f : Nat) (hf : f < 2 ^ 32) : bitsTo f 32 = f := by
  have h := bitsTo_eq f hf 32 (by omega)
  rw [show f % 2 ^ (32 - 32) = 0 from Nat.mod_one f] at h
  exact h

theorem steps_top (f k : Nat) (hk : k ≤ 32) : steps f k ≤ 9223372036854775808 := by
  induction k with
  | zero => exact Nat.le_refl _
  | succ k ih =>
    have h := ih (by omega)
    have hr := rung_top k (by omega)
    simp only [steps]
    split
    · have h2 : steps f k * R k ≤ steps f k * 18446744073709551616 := Nat.mul_le_mul_left _ (by omega)
      omega
    · exact h

/-- Not above. -/
theorem steps_low (f k : Nat) (hk : k ≤ 32) {K : Nat} (hK : K = 2 ^ 32) : steps f k ^ K * 2 ^ bitsTo f k ≤ 9223372036854775808 ^ K := by
  induction k with
  | zero => simp only [steps, bitsTo, Nat.pow_zero, Nat.mul_one]; exact Nat.le_refl _
  | succ k ih =>
    have h := ih (by omega)
    simp only [steps, bitsTo]
    split
    · have hr := rungK_low k (by omega) hK
      have hd : steps f k * R k / 18446744073709551616 * 18446744073709551616 ≤ steps f k * R k := Nat.div_mul_le_self _ _
      have hd' := Nat.pow_le_pow_left hd K
      rw [Nat.mul_pow, Nat.mul_pow] at hd'
      generalize steps f k * R k / 18446744073709551616 = t at *
      generalize steps f k = s at *
      refine Nat.le_of_mul_le_mul_right (c := 18446744073709551616 ^ K) ?_ (Nat.pow_pos (by decide))
      rw [Nat.pow_add]
      calc t ^ K * (2 ^ bitsTo f k * 2 ^ 2 ^ (31 - k)) * 18446744073709551616 ^ K = (t ^ K * 18446744073709551616 ^ K) * (2 ^ bitsTo f k * 2 ^ 2 ^ (31 - k)) := by rw [Nat.mul_right_comm]
        _ ≤ (s ^ K * R k ^ K) * (2 ^ bitsTo f k * 2 ^ 2 ^ (31 - k)) := Nat.mul_le_mul_right _ hd'
        _ = (s ^ K * 2 ^ bitsTo f k) * (R k ^ K * 2 ^ 2 ^ (31 - k)) := by rw [Nat.mul_mul_mul_comm]
        _ ≤ 9223372036854775808 ^ K * 18446744073709551616 ^ K := Nat.mul_le_mul h hr
    · rw [Nat.add_zero]; exact h
/-- Not below, 2.5 a step added. -/
theorem steps_upp (f k : Nat) (hk : k ≤ 32) {K : Nat} (hK : K = 2 ^ 32) : 18446744073709551616 ^ K ≤ (2 * steps f k + 5 * k) ^ K * 2 ^ bitsTo f k := by
  induction k with
  | zero => simp only [steps, bitsTo, Nat.pow_zero, Nat.mul_one]; exact Nat.le_refl _
  | succ k ih =>
    have h := ih (by omega)
    have ht := steps_top f k (by omega)
    simp only [steps, bitsTo]
    split
    · have hr := rungK_upp k (by omega) hK
      have h3 := rung_top k (by omega)
      have hd : (2 * steps f k + 5 * k) * (R k + 3) ≤ (2 * (steps f k * R k / 18446744073709551616) + 5 * (k + 1)) * 18446744073709551616 := by
        have e1 : (2 * steps f k + 5 * k) * (R k + 3) = 2 * (steps f k * R k) + 6 * steps f k + 5 * k * (R k + 3) := by
          rw [Nat.add_mul, Nat.mul_assoc, Nat.mul_add]; omega
        have e2 : 5 * k * (R k + 3) ≤ 5 * k * 18446744073709551616 := Nat.mul_le_mul_left _ (by omega)
        rw [e1]
        generalize steps f k * R k = p at *
        omega
      have hd' := Nat.pow_le_pow_left hd K
      rw [Nat.mul_pow, Nat.mul_pow] at hd'
      generalize 2 * (steps f k * R k / 18446744073709551616) + 5 * (k + 1) = t at *
      generalize 2 * steps f k + 5 * k = s at *
      refine Nat.le_of_mul_le_mul_right (c := 18446744073709551616 ^ K) ?_ (Nat.pow_pos (by decide))
      rw [Nat.pow_add]
      calc 18446744073709551616 ^ K * 18446744073709551616 ^ K ≤ (s ^ K * 2 ^ bitsTo f k) * ((R k + 3) ^ K * 2 ^ 2 ^ (31 - k)) := Nat.mul_le_mul h hr
        _ = (s ^ K * (R k + 3) ^ K) * (2 ^ bitsTo f k * 2 ^ 2 ^ (31 - k)) := by rw [Nat.mul_mul_mul_comm]
        _ ≤ (t ^ K * 18446744073709551616 ^ K) * (2 ^ bitsTo f k * 2 ^ 2 ^ (31 - k)) := Nat.mul_le_mul_right _ hd'
        _ = t ^ K * (2 ^ bitsTo f k * 2 ^ 2 ^ (31 - k)) * 18446744073709551616 ^ K := by rw [Nat.mul_right_comm]
    · rw [Nat.add_zero]
      refine Nat.le_trans h (Nat.mul_le_mul_right _ (Nat.pow_le_pow_left (by omega) _))

/-- THE WHOLE PART's REST: a Half's t, for f below 2^32. -/
theorem t_low (f : Nat) (hf : f < 2 ^ 32) {K : Nat} (hK : K = 2 ^ 32) : steps f 32 ^ K * 2 ^ f ≤ 9223372036854775808 ^ K := by
  have h := steps_low f 32 (by omega) hK
  rw [bitsTo_all f hf] at h
  exact h
theorem t_upp (f : Nat) (hf : f < 2 ^ 32) {K : Nat} (hK : K = 2 ^ 32) : 9223372036854775808 ^ K ≤ (steps f 32 + 80) ^ K * 2 ^ f := by
  have h := steps_upp f 32 (by omega) hK
  rw [bitsTo_all f hf, show 2 * steps f 32 + 5 * 32 = 2 * (steps f 32 + 80) by omega, show 18446744073709551616 = 2 * 9223372036854775808 by rfl, Nat.mul_pow, Nat.mul_pow, Nat.mul_assoc] at h
  exact Nat.le_of_mul_le_mul_left h (Nat.pow_pos (by decide))

/-- (a + d)^k is hardly more than a^k. -/
theorem bern (a d k : Nat) (h : k * d ≤ a) : (a + d) ^ k * (a - k * d) ≤ a ^ k * a := by
  induction k with
  | zero => simp
  | succ k ih =>
    rw [Nat.succ_mul] at h ⊢
    have e := ih (by omega)
    have h1 : (a + d) * (a - (k * d + d)) ≤ a * (a - k * d) := by
      obtain ⟨c, rfl⟩ : ∃ c, a = k * d + d + c := ⟨a - (k * d + d), by omega⟩
      generalize k * d = m at *
      rw [show m + d + c - (m + d) = c by omega, show m + d + c - m = d + c by omega]
      have e1 : (m + d + c + d) * c = (m + d + c) * c + d * c := by rw [Nat.add_mul]
      have e2 : (m + d + c) * (d + c) = (m + d + c) * d + (m + d + c) * c := by rw [Nat.mul_add]
      have e3 : d * c ≤ (m + d + c) * d := by rw [Nat.mul_comm d c]; exact Nat.mul_le_mul_right _ (by omega)
      omega
    calc (a + d) ^ (k + 1) * (a - (k * d + d)) = (a + d) ^ k * ((a + d) * (a - (k * d + d))) := by rw [Nat.pow_succ, Nat.mul_assoc]
      _ ≤ (a + d) ^ k * (a * (a - k * d)) := Nat.mul_le_mul_left _ h1
      _ = (a + d) ^ k * (a - k * d) * a := by rw [Nat.mul_comm a, Nat.mul_assoc]
      _ ≤ a ^ k * a * a := Nat.mul_le_mul_right _ e
      _ = a ^ (k + 1) * a := by rw [Nat.pow_succ]
theorem bern2 {a d k : Nat} (h : 2 * (k * d) < a) : (a + d) ^ k < 2 * a ^ k := by
  have e := bern a d k (by omega)
  have ha : 0 < a := by omega
  refine Nat.lt_of_not_le fun hn => ?_
  have h1 : 2 * a ^ k * (a - k * d) ≤ a ^ k * a := Nat.le_trans (Nat.mul_le_mul_right _ hn) e
  have hp : 0 < a ^ k := Nat.pow_pos ha
  rw [Nat.mul_comm 2, Nat.mul_assoc] at h1
  have h2 := Nat.le_of_mul_le_mul_left h1 hp
  omega

/-- t is at least 2^62. -/
theorem t_least (f : Nat) (hf : f < 2 ^ 32) : 4611686018427387904 ≤ steps f 32 := by
  obtain ⟨K, hK⟩ : ∃ K : Nat, K = 2 ^ 32 := ⟨_, rfl⟩
  have h := t_upp f hf hK
  refine Nat.le_of_not_lt fun hn => ?_
  have h1 : (steps f 32 + 80) ^ K ≤ (4611686018427387904 + 79) ^ K := Nat.pow_le_pow_left (by omega) _
  have h2 : (4611686018427387904 + 79) ^ K < 2 * 4611686018427387904 ^ K := bern2 (by rw [hK]; decide)
  have h3 : 2 * 2 ^ f ≤ 2 ^ K := by
    rw [Nat.mul_comm, ← Nat.pow_succ]; exact two_pow_le (by rw [hK]; exact hf)
  have h4 : 9223372036854775808 ^ K = 4611686018427387904 ^ K * 2 ^ K := by rw [← Nat.mul_pow]
  have hp : 0 < 2 ^ f := Nat.pow_pos (by decide)
  have h5 : (steps f 32 + 80) ^ K * 2 ^ f < 2 * 4611686018427387904 ^ K * 2 ^ f := Nat.mul_lt_mul_of_pos_right (Nat.lt_of_le_of_lt h1 h2) hp
  have h6 : 2 * 4611686018427387904 ^ K * 2 ^ f ≤ 4611686018427387904 ^ K * 2 ^ K := by
    rw [Nat.mul_comm 2, Nat.mul_assoc]; exact Nat.mul_le_mul_left _ h3
  omega
/-- t falls as f rises. -/
theorem t_falls {f g : Nat} (hfg : f < g) (hg : g < 2 ^ 32) : steps g 32 ≤ steps f 32 := by
  obtain ⟨K, hK⟩ : ∃ K : Nat, K = 2 ^ 32 := ⟨_, rfl⟩
  have h := t_upp f (by omega) hK
  have h' := t_low g hg hK
  have l := t_least g hg
  refine Nat.le_of_not_lt fun hn => ?_
  have h1 : (steps f 32 + 80) ^ K ≤ (steps g 32 + 79) ^ K := Nat.pow_le_pow_left (by omega) _
  have h2 : (steps g 32 + 79) ^ K < 2 * steps g 32 ^ K := bern2 (by rw [hK]; omega)
  have hp : 0 < 2 ^ f := Nat.pow_pos (by decide)
  have h3 : 2 * 2 ^ f ≤ 2 ^ g := by
    rw [Nat.mul_comm, ← Nat.pow_succ]; exact two_pow_le hfg
  have h5 : (steps f 32 + 80) ^ K * 2 ^ f < 2 * steps g 32 ^ K * 2 ^ f := Nat.mul_lt_mul_of_pos_right (Nat.lt_of_le_of_lt h1 h2) hp
  have h6 : 2 * steps g 32 ^ K * 2 ^ f ≤ steps g 32 ^ K * 2 ^ g := by
    rw [Nat.mul_comm 2, Nat.mul_assoc]; exact Nat.mul_le_mul_left _ h3
  omega
end Go.Proofs.Ytbcinapnnlfnbaa.Ld
namespace Go.Proofs.Ytbcinapnnlfnbaa.Ld

theorem half_top (e : Nat) : halfN e ≤ 9223372036854775808 := by
  unfold halfN
  split
  · omega
  · exact Nat.le_trans (Nat.div_le_self _ _) (steps_top _ 32 (by omega))
theorem half_small {f : Nat} (hf : f < 4294967296) : halfN f = steps f 32 := by
  unfold halfN
  rw [Nat.div_eq_of_lt hf, Nat.mod_eq_of_lt hf, if_neg (by decide), Nat.pow_zero, Nat.div_one]
theorem half_least {f : Nat} (hf : f < 4294967296) : 4611686018427387904 ≤ halfN f := by
  rw [half_small hf]; exact t_least f hf
theorem half_upper (e : Nat) : halfN e ≤ uppN e := by
  have := half_top e
  unfold uppN; omega

/-- A Half is not above the real number. -/
theorem half_low (e : Nat) {K : Nat} (hK : K = 2 ^ 32) : halfN e ^ K * 2 ^ e ≤ 9223372036854775808 ^ K := by
  have hK0 : K ≠ 0 := by rw [hK]; decide
  unfold halfN
  split
  · rw [Nat.zero_pow (by omega), Nat.zero_mul]; exact Nat.zero_le _
  · have hf : e % 4294967296 < 2 ^ 32 := Nat.mod_lt _ (by decide)
    have h := t_low (e % 4294967296) hf hK
    have hd := Nat.pow_le_pow_left (Nat.div_mul_le_self (steps (e % 4294967296) 32) (2 ^ (e / 4294967296))) K
    rw [Nat.mul_pow, ← Nat.pow_mul] at hd
    have ee : e = e / 4294967296 * K + e % 4294967296 := by rw [hK]; omega
    have e2 : 2 ^ e = 2 ^ (e / 4294967296 * K) * 2 ^ (e % 4294967296) := by rw [← Nat.pow_add, ← ee]
    rw [e2, ← Nat.mul_assoc]
    exact Nat.le_trans (Nat.mul_le_mul_right _ hd) h
/-- The upper bound is not below it. -/
theorem half_upp (e : Nat) {K : Nat} (hK : K = 2 ^ 32) : 9223372036854775808 ^ K ≤ uppN e ^ K * 2 ^ e := by
  have hone : 9223372036854775808 ^ K ≤ 9223372036854775808 ^ K * 2 ^ e := Nat.le_mul_of_pos_right _ (Nat.pow_pos (by decide))
  have hmin : ∀ {x : Nat}, 9223372036854775808 ^ K ≤ x ^ K * 2 ^ e → 9223372036854775808 ^ K ≤ (min x 9223372036854775808) ^ K * 2 ^ e := by
    intro x hx
    rcases Nat.le_total x 9223372036854775808 with h | h
    · rw [Nat.min_eq_left h]; exact hx
    · rw [Nat.min_eq_right h]; exact hone
  refine hmin ?_
  unfold halfN
  split
  · next h =>
    have h1 : 9223372036854775808 ^ K ≤ 2 ^ e := by
      rw [show (9223372036854775808 : Nat) = 2 ^ 63 by rfl, ← Nat.pow_mul]
      exact two_pow_le (by rw [hK]; omega)
    exact Nat.le_trans h1 (Nat.le_mul_of_pos_left _ (Nat.pow_pos (by decide)))
  · have hf : e % 4294967296 < 2 ^ 32 := Nat.mod_lt _ (by decide)
    have h := t_upp (e % 4294967296) hf hK
    have ee : e = e / 4294967296 * K + e % 4294967296 := by rw [hK]; omega
    have e2 : 2 ^ e = 2 ^ (e / 4294967296 * K) * 2 ^ (e % 4294967296) := by rw [← Nat.pow_add, ← ee]
    rw [e2, ← Nat.mul_assoc, Nat.pow_mul, ← Nat.mul_pow]
    refine Nat.le_trans h (Nat.mul_le_mul_right _ (Nat.pow_le_pow_left ?_ _))
    have hp : 0 < 2 ^ (e / 4294967296) := Nat.pow_pos (by decide)
    have hm := Nat.mod_lt (steps (e % 4294967296) 32) hp
    have hq := Nat.div_add_mod (steps (e % 4294967296) 32) (2 ^ (e / 4294967296))
    generalize 2 ^ (e / 4294967296) = p at *
    generalize steps (e % 4294967296) 32 = t at *
    rw [Nat.mul_comm] at hq
    rw [Nat.add_mul]
    omega

theorem half_falls {e f : Nat} (h : e ≤ f) : halfN f ≤ halfN e := by
  by_cases he : e = f
  · subst he; exact Nat.le_refl _
  · unfold halfN
    split
    · exact Nat.zero_le _
    · next hf =>
      rw [if_neg (by omega)]
      have hfm : f % 4294967296 < 2 ^ 32 := Nat.mod_lt _ (by decide)
      have hem : e % 4294967296 < 2 ^ 32 := Nat.mod_lt _ (by decide)
      by_cases hn : e / 4294967296 = f / 4294967296
      · rw [hn]
        exact Nat.div_le_div_right (t_falls (by omega) hfm)
      · have l := t_least (e % 4294967296) hem
        have u := steps_top (f % 4294967296) 32 (by omega)
        have h1 : steps (f % 4294967296) 32 / 2 ^ (f / 4294967296) ≤ 9223372036854775808 / 2 ^ (e / 4294967296 + 1) :=
          Nat.le_trans (Nat.div_le_div_right u) (Nat.div_le_div_left (two_pow_le (by omega)) (Nat.pow_pos (by decide)))
        have h2 : 9223372036854775808 / 2 ^ (e / 4294967296 + 1) = 4611686018427387904 / 2 ^ (e / 4294967296) := by
          rw [Nat.pow_succ, Nat.mul_comm, ← Nat.div_div_eq_div_mul]
        rw [h2] at h1
        exact Nat.le_trans h1 (Nat.div_le_div_right l)
theorem half_whole {n : Nat} (h : n < 63) : halfN (n * 4294967296) = 9223372036854775808 / 2 ^ n := by
  unfold halfN
  rw [Nat.mul_div_cancel _ (by decide), Nat.mul_mod_left, if_neg (by omega)]
  rfl

theorem twice_low (e : Nat) : halfN e * halfN e ≤ 9223372036854775808 * uppN (2 * e) := by
  obtain ⟨K, hK⟩ : ∃ K : Nat, K = 2 ^ 32 := ⟨_, rfl⟩
  have hK0 : K ≠ 0 := by rw [hK]; decide
  have h1 := half_low e hK
  have h2 := half_upp (2 * e) hK
  refine le_of_pow hK0 (Nat.le_of_mul_le_mul_right (c := 2 ^ (2 * e)) ?_ (Nat.pow_pos (by decide)))
  have h3 := Nat.mul_le_mul h1 h1
  rw [Nat.mul_mul_mul_comm, ← Nat.pow_add 2 e e, ← Nat.two_mul] at h3
  rw [Nat.mul_pow, Nat.mul_pow, Nat.mul_assoc (9223372036854775808 ^ K)]
  exact Nat.le_trans h3 (Nat.mul_le_mul_left _ h2)
theorem twice_upp (e : Nat) : 9223372036854775808 * halfN (2 * e) ≤ uppN e * uppN e := by
  obtain ⟨K, hK⟩ : ∃ K : Nat, K = 2 ^ 32 := ⟨_, rfl⟩
  have hK0 : K ≠ 0 := by rw [hK]; decide
  have h1 := half_upp e hK
  have h2 := half_low (2 * e) hK
  refine le_of_pow hK0 (Nat.le_of_mul_le_mul_right (c := 2 ^ (2 * e)) ?_ (Nat.pow_pos (by decide)))
  have h3 := Nat.mul_le_mul h1 h1
  rw [Nat.mul_mul_mul_comm, ← Nat.pow_add 2 e e, ← Nat.two_mul] at h3
  rw [Nat.mul_pow, Nat.mul_pow, Nat.mul_assoc (9223372036854775808 ^ K)]
  exact Nat.le_trans (Nat.mul_le_mul_left _ h2) h3
end Go.Proofs.Ytbcinapnnlfnbaa.Ld
namespace Go.Proofs.Ytbcinapnnlfnbaa.Cg

structure Cf where
  nodes : Int
  queue : Int
  limit : Int
  age : Int
  fair : Int
  size : Int
  period : Int
  half : Int
structure Rng (c : Cf) : Prop where
  n0 : 1 ≤ c.nodes
  n1 : c.nodes ≤ 256
  q0 : 1 ≤ c.queue
  q1 : c.queue ≤ 128
  l0 : 1 ≤ c.limit
  l1 : c.limit ≤ 1048576
  a0 : 1 ≤ c.age
  a1 : c.age ≤ 1048576
  f0 : 0 ≤ c.fair
  f1 : c.fair ≤ 1048576
  s0 : 0 ≤ c.size
  s1 : c.size ≤ 1048576
  p0 : 1 ≤ c.period
  p1 : c.period ≤ 1048576
  h0 : 1 ≤ c.half
  h1 : c.half ≤ 1073741824
def eZ (c : Cf) : Int := c.period * 4294967296 / c.half
def upZ (a b : Int) : Int := (a + b - 1) / b
def kZ (c : Cf) : Int := if upZ 8589934592 (eZ c) < 2 then 2 else upZ 8589934592 (eZ c)
def cZ (c : Cf) : Int := c.nodes * c.period
def mZ (c : Cf) : Int := cZ c * kZ c
def gZ (c : Cf) : Int := kZ c * (1 + upZ (mZ c * 81) 2147483648)
def aheadZ (c : Cf) : Int := c.fair + c.size * c.nodes
def leadZ (c : Cf) : Int := aheadZ c / c.age
def boundZ (c : Cf) : Int := leadZ c + 1 + c.queue * c.limit
def topZ (c : Cf) : Int := c.age * boundZ c + aheadZ c
def offN (c : Cf) : Int := if c.fair = 0 then 0 else (258048 * gZ c + 2 * cZ c) * c.fair + cZ c * 4294967296
def offD (c : Cf) : Int := if c.fair = 0 then 1 else cZ c * 4294967296

theorem mul_box {a b A B : Int} (a0 : 0 ≤ a) (b0 : 0 ≤ b) (hA : a ≤ A) (hB : b ≤ B) : 0 ≤ a * b ∧ a * b ≤ A * B :=
  ⟨Int.mul_nonneg a0 b0, Int.mul_le_mul hA hB b0 (Int.le_trans a0 hA)⟩
theorem e_box {c : Cf} (r : Rng c) : 4 ≤ eZ c ∧ eZ c ≤ 4503599627370496 := by
  obtain ⟨_, _, _, _, _, _, _, _, _, _, _, _, _, _, _, _⟩ := r
  unfold eZ
  have h1 : c.period * 4294967296 / c.half ≤ c.period * 4294967296 := Int.ediv_le_self _ (by omega)
  have h2 : 4 ≤ c.period * 4294967296 / c.half := (Int.le_ediv_iff_mul_le (by omega)).2 (by omega)
  omega
theorem up_box {e : Int} (h : 4 ≤ e) : 0 ≤ upZ 8589934592 e ∧ upZ 8589934592 e ≤ 2147483648 := by
  unfold upZ
  refine ⟨Int.ediv_nonneg (by omega) (by omega), ?_⟩
  have : (8589934592 + e - 1) / e < 2147483649 := Int.ediv_lt_of_lt_mul (by omega) (by omega)
  omega
theorem k_box {c : Cf} (r : Rng c) : 2 ≤ kZ c ∧ kZ c ≤ 2147483648 := by
  have h := up_box (e_box r).1
  unfold kZ
  split <;> omega
theorem c_box {c : Cf} (r : Rng c) : 1 ≤ cZ c ∧ cZ c ≤ 268435456 := by
  obtain ⟨_, _, _, _, _, _, _, _, _, _, _, _, _, _, _, _⟩ := r
  unfold cZ
  have h1 := mul_box (a := c.nodes) (b := c.period) (A := 256) (B := 1048576) (by omega) (by omega) (by omega) (by omega)
  have h2 : 1 * 1 ≤ c.nodes * c.period := Int.mul_le_mul (by omega) (by omega) (by omega) (by omega)
  omega
theorem m_box {c : Cf} (r : Rng c) : cZ c * 2 ≤ mZ c ∧ mZ c ≤ 576460752303423488 := by
  have hc := c_box r
  have hk := k_box r
  unfold mZ
  have h1 := mul_box (a := cZ c) (b := kZ c) (A := 268435456) (B := 2147483648) (by omega) (by omega) (by omega) (by omega)
  have h2 : cZ c * 2 ≤ cZ c * kZ c := Int.mul_le_mul_of_nonneg_left (by omega) (by omega)
  omega
theorem g_box {c : Cf} (r : Rng c) (hm : mZ c ≤ 2147483648) : 0 ≤ upZ (mZ c * 81) 2147483648 ∧ upZ (mZ c * 81) 2147483648 ≤ 81 ∧ 0 ≤ gZ c ∧ gZ c ≤ 176093659136 := by
  have hk := k_box r
  have hb := m_box r
  have hc := c_box r
  have h0 : 0 ≤ upZ (mZ c * 81) 2147483648 ∧ upZ (mZ c * 81) 2147483648 ≤ 81 := by unfold upZ; omega
  unfold gZ
  have h1 := mul_box (a := kZ c) (b := 1 + upZ (mZ c * 81) 2147483648) (A := 2147483648) (B := 82) (by omega) (by omega) (by omega) (by omega)
  omega
theorem ahead_box {c : Cf} (r : Rng c) : 0 ≤ c.size * c.nodes ∧ c.size * c.nodes ≤ 268435456 ∧ 0 ≤ aheadZ c ∧ aheadZ c ≤ 269484032 := by
  obtain ⟨_, _, _, _, _, _, _, _, _, _, _, _, _, _, _, _⟩ := r
  have h1 := mul_box (a := c.size) (b := c.nodes) (A := 1048576) (B := 256) (by omega) (by omega) (by omega) (by omega)
  unfold aheadZ
  omega
theorem lead_box {c : Cf} (r : Rng c) : 0 ≤ leadZ c ∧ leadZ c ≤ 269484032 := by
  have h := ahead_box r
  have ha := r.a0
  unfold leadZ
  exact ⟨Int.ediv_nonneg (by omega) (by omega), Int.le_trans (Int.ediv_le_self _ (by omega)) (by omega)⟩
theorem bound_box {c : Cf} (r : Rng c) : 0 ≤ c.queue * c.limit ∧ c.queue * c.limit ≤ 134217728 ∧ 1 ≤ boundZ c ∧ boundZ c ≤ 403701761 := by
  have h := lead_box r
  obtain ⟨_, _, _, _, _, _, _, _, _, _, _, _, _, _, _, _⟩ := r
  have h1 := mul_box (a := c.queue) (b := c.limit) (A := 128) (B := 1048576) (by omega) (by omega) (by omega) (by omega)
  unfold boundZ
  omega
theorem top_box {c : Cf} (r : Rng c) : 0 ≤ c.age * boundZ c ∧ c.age * boundZ c ≤ 423311977742336 ∧ 1 ≤ topZ c ∧ topZ c ≤ 562949953421312 := by
  have h := bound_box r
  have h2 := ahead_box r
  obtain ⟨_, _, _, _, _, _, _, _, _, _, _, _, _, _, _, _⟩ := r
  have h1 := mul_box (a := c.age) (b := boundZ c) (A := 1048576) (B := 403701761) (by omega) (by omega) (by omega) (by omega)
  have h3 : 1 * 1 ≤ c.age * boundZ c := Int.mul_le_mul (by omega) (by omega) (by omega) (by omega)
  unfold topZ
  omega
theorem off_box {c : Cf} (r : Rng c) (hm : mZ c ≤ 2147483648) : 0 ≤ (258048 * gZ c + 2 * cZ c) * c.fair ∧ (258048 * gZ c + 2 * cZ c) * c.fair ≤ 47647940505341725245440 ∧ 0 ≤ offN c ∧ offN c ≤ 47649093426846332092416 ∧ 1 ≤ offD c ∧ offD c ≤ 1152921504606846976 := by
  have hg := g_box r hm
  have hc := c_box r
  obtain ⟨_, _, _, _, _, _, _, _, _, _, _, _, _, _, _, _⟩ := r
  have h1 := mul_box (a := 258048 * gZ c + 2 * cZ c) (b := c.fair) (A := 45440617089597440) (B := 1048576) (by omega) (by omega) (by omega) (by omega)
  unfold offN offD
  split <;> omega
end Go.Proofs.Ytbcinapnnlfnbaa.Cg
