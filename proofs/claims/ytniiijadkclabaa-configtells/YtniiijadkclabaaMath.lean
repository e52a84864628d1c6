/-
  THE PLAIN MATHEMATICS OF LAYER 1 (wide): what each operation of numbers of 128 bits answers, as functions on Int. No Go in sight.
-/
namespace Go.Proofs.Ytniiijadkclabaa.Wd

/-- A word of 64 bits. -/
def Word (x : Int) : Prop := 0 ≤ x ∧ x < 18446744073709551616
/-- A number of 128 bits out of its two words; and its two words. -/
def val (h l : Int) : Int := h * 18446744073709551616 + l
def hiW (v : Int) : Int := v / 18446744073709551616
def loW (v : Int) : Int := v % 18446744073709551616
def top : Int := 340282366920938463463374607431768211455
def Num (v : Int) : Prop := 0 ≤ v ∧ v ≤ top

def addV (a b : Int) : Int := if a + b ≤ top then a + b else top
def addB (a b : Int) : Bool := decide (a + b ≤ top)
def subV (a b : Int) : Int := if b ≤ a then a - b else 0
def subB (a b : Int) : Bool := decide (b ≤ a)
def timV (a b : Int) : Int := if a * b ≤ top then a * b else top
def timB (a b : Int) : Bool := decide (a * b ≤ top)
def cmpV (a b : Int) : Int := if a < b then -1 else if a = b then 0 else 1
def divV (a b : Int) : Int := if b = 0 then 0 else a / b
def remV (a b : Int) : Int := if b = 0 then 0 else a % b
def divB (b : Int) : Bool := decide (b ≠ 0)
def shlV (a n : Int) : Int := if n < 0 then a else (a * 2 ^ n.toNat) % 340282366920938463463374607431768211456
def shrV (a n : Int) : Int := if n < 0 then a else a / 2 ^ n.toNat
/-- The root, bit by bit, from bit k - 1 down. -/
def sqrtFrom (a : Int) : Nat → Int → Int
  | 0, r => r
  | k + 1, r => if (r + 2 ^ k) * (r + 2 ^ k) ≤ a then sqrtFrom a k (r + 2 ^ k) else sqrtFrom a k r
def sqrtV (a : Int) : Int := sqrtFrom a 64 0

theorem val_num {h l : Int} (hh : Word h) (hl : Word l) : Num (val h l) := by
  obtain ⟨a, b⟩ := hh; obtain ⟨c, d⟩ := hl
  unfold Num val top; omega
theorem hi_val {h l : Int} (hl : Word l) : hiW (val h l) = h := by
  obtain ⟨c, d⟩ := hl
  unfold hiW val; omega
theorem lo_val {h l : Int} (hl : Word l) : loW (val h l) = l := by
  obtain ⟨c, d⟩ := hl
  unfold loW val; omega
theorem val_words (v : Int) : val (hiW v) (loW v) = v := by
  unfold val hiW loW; omega
theorem lo_word (v : Int) : Word (loW v) := by unfold Word loW; omega
theorem hi_word {v : Int} (h : Num v) : Word (hiW v) := by
  obtain ⟨a, b⟩ := h; unfold top at b; unfold Word hiW; omega
theorem mul_num {a b : Int} (ha : Word a) (hb : Word b) : Num (a * b) := by
  obtain ⟨a0, a1⟩ := ha; obtain ⟨b0, b1⟩ := hb
  refine ⟨Int.mul_nonneg a0 b0, ?_⟩
  have h : a * b ≤ 18446744073709551615 * 18446744073709551615 := Int.mul_le_mul (by omega) (by omega) b0 (by omega)
  unfold top; omega
theorem addV_num {a b : Int} (ha : Num a) (hb : Num b) : Num (addV a b) := by
  obtain ⟨a0, a1⟩ := ha; obtain ⟨b0, b1⟩ := hb
  unfold Num addV top at *; split <;> omega
theorem subV_num {a b : Int} (ha : Num a) (hb : Num b) : Num (subV a b) := by
  obtain ⟨a0, a1⟩ := ha; obtain ⟨b0, b1⟩ := hb
  unfold Num subV top at *; split <;> omega
theorem timV_num {a b : Int} (ha : Num a) (hb : Word b) : Num (timV a b) := by
  obtain ⟨a0, a1⟩ := ha; obtain ⟨b0, b1⟩ := hb
  have := Int.mul_nonneg a0 b0
  unfold Num timV top at *; split <;> omega
end Go.Proofs.Ytniiijadkclabaa.Wd
