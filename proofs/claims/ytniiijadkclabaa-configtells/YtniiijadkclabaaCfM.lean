/-
  THE PLAIN MATHEMATICS OF LAYER 11 (config): what its calls answer, as functions on Int. No Go in sight.
-/
namespace Go.Proofs.Ytniiijadkclabaa.Cg

structure Cf where
  nodes : Int
  queue : Int
  limit : Int
  age : Int
  fair : Int
  size : Int
  period : Int
  half : Int
structure Rng (c : Cf) : Prop where
  n0 : 1 ≤ c.nodes
  n1 : c.nodes ≤ 256
  q0 : 1 ≤ c.queue
  q1 : c.queue ≤ 128
  l0 : 1 ≤ c.limit
  l1 : c.limit ≤ 1048576
  a0 : 1 ≤ c.age
  a1 : c.age ≤ 1048576
  f0 : 0 ≤ c.fair
  f1 : c.fair ≤ 1048576
  s0 : 0 ≤ c.size
  s1 : c.size ≤ 1048576
  p0 : 1 ≤ c.period
  p1 : c.period ≤ 1048576
  h0 : 1 ≤ c.half
  h1 : c.half ≤ 1073741824
def eZ (c : Cf) : Int := c.period * 4294967296 / c.half
def upZ (a b : Int) : Int := (a + b - 1) / b
def kZ (c : Cf) : Int := if upZ 8589934592 (eZ c) < 2 then 2 else upZ 8589934592 (eZ c)
def cZ (c : Cf) : Int := c.nodes * c.period
def mZ (c : Cf) : Int := cZ c * kZ c
def gZ (c : Cf) : Int := kZ c * (1 + upZ (mZ c * 81) 2147483648)
def aheadZ (c : Cf) : Int := c.fair + c.size * c.nodes
def leadZ (c : Cf) : Int := aheadZ c / c.age
def boundZ (c : Cf) : Int := leadZ c + 1 + c.queue * c.limit
def topZ (c : Cf) : Int := c.age * boundZ c + aheadZ c
def offN (c : Cf) : Int := if c.fair = 0 then 0 else (258048 * gZ c + 2 * cZ c) * c.fair + cZ c * 4294967296
def offD (c : Cf) : Int := if c.fair = 0 then 1 else cZ c * 4294967296

theorem mul_box {a b A B : Int} (a0 : 0 ≤ a) (b0 : 0 ≤ b) (hA : a ≤ A) (hB : b ≤ B) : 0 ≤ a * b ∧ a * b ≤ A * B :=
  ⟨Int.mul_nonneg a0 b0, Int.mul_le_mul hA hB b0 (Int.le_trans a0 hA)⟩
theorem e_box {c : Cf} (r : Rng c) : 4 ≤ eZ c ∧ eZ c ≤ 4503599627370496 := by
  obtain ⟨_, _, _, _, _, _, _, _, _, _, _, _, _, _, _, _⟩ := r
  unfold eZ
  have h1 : c.period * 4294967296 / c.half ≤ c.period * 4294967296 := Int.ediv_le_self _ (by omega)
  have h2 : 4 ≤ c.period * 4294967296 / c.half := (Int.le_ediv_iff_mul_le (by omega)).2 (by omega)
  omega
theorem up_box {e : Int} (h : 4 ≤ e) : 0 ≤ upZ 8589934592 e ∧ upZ 8589934592 e ≤ 2147483648 := by
  unfold upZ
  refine ⟨Int.ediv_nonneg (by omega) (by omega), ?_⟩
  have : (8589934592 + e - 1) / e < 2147483649 := Int.ediv_lt_of_lt_mul (by omega) (by omega)
  omega
theorem k_box {c : Cf} (r : Rng c) : 2 ≤ kZ c ∧ kZ c ≤ 2147483648 := by
  have h := up_box (e_box r).1
  unfold kZ
  split <;> omega
theorem c_box {c : Cf} (r : Rng c) : 1 ≤ cZ c ∧ cZ c ≤ 268435456 := by
  obtain ⟨_, _, _, _, _, _, _, _, _, _, _, _, _, _, _, _⟩ := r
  unfold cZ
  have h1 := mul_box (a := c.nodes) (b := c.period) (A := 256) (B := 1048576) (by omega) (by omega) (by omega) (by omega)
  have h2 : 1 * 1 ≤ c.nodes * c.period := Int.mul_le_mul (by omega) (by omega) (by omega) (by omega)
  omega
theorem m_box {c : Cf} (r : Rng c) : cZ c * 2 ≤ mZ c ∧ mZ c ≤ 576460752303423488 := by
  have hc := c_box r
  have hk := k_box r
  unfold mZ
  have h1 := mul_box (a := cZ c) (b := kZ c) (A := 268435456) (B := 2147483648) (by omega) (by omega) (by omega) (by omega)
  have h2 : cZ c * 2 ≤ cZ c * kZ c := Int.mul_le_mul_of_nonneg_left (by omega) (by omega)
  omega
theorem g_box {c : Cf} (r : Rng c) (hm : mZ c ≤ 2147483648) : 0 ≤ upZ (mZ c * 81) 2147483648 ∧ upZ (mZ c * 81) 2147483648 ≤ 81 ∧ 0 ≤ gZ c ∧ gZ c ≤ 176093659136 := by
  have hk := k_box r
  have hb := m_box r
  have hc := c_box r
  have h0 : 0 ≤ upZ (mZ c * 81) 2147483648 ∧ upZ (mZ c * 81) 2147483648 ≤ 81 := by unfold upZ; omega
  unfold gZ
  have h1 := mul_box (a := kZ c) (b := 1 + upZ (mZ c * 81) 2147483648) (A := 2147483648) (B := 82) (by omega) (by omega) (by omega) (by omega)
  omega
theorem ahead_box {c : Cf} (r : Rng c) : 0 ≤ c.size * c.nodes ∧ c.size * c.nodes ≤ 268435456 ∧ 0 ≤ aheadZ c ∧ aheadZ c ≤ 269484032 := by
  obtain ⟨_, _, _, _, _, _, _, _, _, _, _, _, _, _, _, _⟩ := r
  have h1 := mul_box (a := c.size) (b := c.nodes) (A := 1048576) (B := 256) (by omega) (by omega) (by omega) (by omega)
  unfold aheadZ
  omega
theorem lead_box {c : Cf} (r : Rng c) : 0 ≤ leadZ c ∧ leadZ c ≤ 269484032 := by
  have h := ahead_box r
  have ha := r.a0
  unfold leadZ
  exact ⟨Int.ediv_nonneg (by omega) (by omega), Int.le_trans (Int.ediv_le_self _ (by omega)) (by omega)⟩
theorem bound_box {c : Cf} (r : Rng c) : 0 ≤ c.queue * c.limit ∧ c.queue * c.limit ≤ 134217728 ∧ 1 ≤ boundZ c ∧ boundZ c ≤ 403701761 := by
  have h := lead_box r
  obtain ⟨_, _, _, _, _, _, _, _, _, _, _, _, _, _, _, _⟩ := r
  have h1 := mul_box (a := c.queue) (b := c.limit) (A := 128) (B := 1048576) (by omega) (by omega) (by omega) (by omega)
  unfold boundZ
  omega
theorem top_box {c : Cf} (r : Rng c) : 0 ≤ c.age * boundZ c ∧ c.age * boundZ c ≤ 423311977742336 ∧ 1 ≤ topZ c ∧ topZ c ≤ 562949953421312 := by
  have h := bound_box r
  have h2 := ahead_box r
  obtain ⟨_, _, _, _, _, _, _, _, _, _, _, _, _, _, _, _⟩ := r
  have h1 := mul_box (a := c.age) (b := boundZ c) (A := 1048576) (B := 403701761) (by omega) (by omega) (by omega) (by omega)
  have h3 : 1 * 1 ≤ c.age * boundZ c := Int.mul_le_mul (by omega) (by omega) (by omega) (by omega)
  unfold topZ
  omega
theorem off_box {c : Cf} (r : Rng c) (hm : mZ c ≤ 2147483648) : 0 ≤ (258048 * gZ c + 2 * cZ c) * c.fair ∧ (258048 * gZ c + 2 * cZ c) * c.fair ≤ 47647940505341725245440 ∧ 0 ≤ offN c ∧ offN c ≤ 47649093426846332092416 ∧ 1 ≤ offD c ∧ offD c ≤ 1152921504606846976 := by
  have hg := g_box r hm
  have hc := c_box r
  obtain ⟨_, _, _, _, _, _, _, _, _, _, _, _, _, _, _, _⟩ := r
  have h1 := mul_box (a := 258048 * gZ c + 2 * cZ c) (b := c.fair) (A := 45440617089597440) (B := 1048576) (by omega) (by omega) (by omega) (by omega)
  unfold offN offD
  split <;> omega
end Go.Proofs.Ytniiijadkclabaa.Cg
