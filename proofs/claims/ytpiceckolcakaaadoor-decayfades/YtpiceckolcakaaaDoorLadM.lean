/-
  THE PLAIN MATHEMATICS OF LAYER 7 (ladder): the Rungs, the steps of a Half, and that a Half lies between the real number and 81 below it. Real numbers are not needed: x is at most 2^63 * 2^-(e / K), K being 2^32, where x^K * 2^e is at most 2^(63 * K). No Go in sight.
-/
namespace Go.Proofs.YtpiceckolcakaaaDoor.Ld

/-- Rung j stands at j - 1. -/
def rungs : List Nat := [13043817825332782212, 15511800964685064948, 16915738899553466670, 17664662643191237676, 18051468387014017850, 18248035989933441396, 18347121020861646923, 18396865112328554660, 18421787711448657617, 18434261669329232139, 18440501815349552981, 18443622680442407997, 18445183311048607331, 18445963675871538003, 18446353870663572144, 18446548971154807801, 18446646522174239824, 18446695297877410578, 18446719685777359790, 18446731879739425373, 18446737976723480911, 18446741025216264367, 18446742549462845017, 18446743311586182573, 18446743692647863158, 18446743883178706403, 18446743978444128763, 18446744026076840128, 18446744049893195856, 18446744061801373732, 18446744067755462673, 18446744070732507144]
def R (j : Nat) : Nat := rungs.getD j 0
/-- What is behind the first k Rungs. -/
def steps (f : Nat) : Nat → Nat
  | 0 => 9223372036854775808
  | k + 1 => if f / 2 ^ (31 - k) % 2 = 1 then steps f k * R k / 18446744073709551616 else steps f k
def halfN (e : Nat) : Nat := if 63 ≤ e / 4294967296 then 0 else steps (e % 4294967296) 32 / 2 ^ (e / 4294967296)
def uppN (e : Nat) : Nat := min (halfN e + 81) 9223372036854775808

/-- Each Rung, held against the one ahead of it. -/
theorem chain_low : ∀ j, j < 32 → R j * R j ≤ (if j = 0 then 9223372036854775808 else R (j - 1)) * 18446744073709551616 := by decide
theorem chain_next : ∀ j, j < 32 → (if j = 0 then 9223372036854775808 else R (j - 1)) * 18446744073709551616 < (R j + 1) * (R j + 1) := by decide
theorem chain_upp : ∀ j, j < 32 → (if j = 0 then 9223372036854775808 else R (j - 1) + 3) * 18446744073709551616 ≤ (R j + 3) * (R j + 3) := by decide
theorem rung_top : ∀ j, j < 32 → R j + 3 < 18446744073709551616 := by decide

theorem two_pow_le {a b : Nat} (h : a ≤ b) : 2 ^ a ≤ 2 ^ b := Nat.pow_le_pow_right (by decide) h
theorem le_of_pow {a b k : Nat} (hk : k ≠ 0) (h : a ^ k ≤ b ^ k) : a ≤ b := (Nat.pow_le_pow_iff_left hk).1 h

/-- Rung j + 1, to the power of 2^(j + 1), twice, is at most 2^(64 * 2^(j + 1)); three more: at least. -/
theorem rung_low (j : Nat) (h : j < 32) : R j ^ 2 ^ (j + 1) * 2 ≤ 18446744073709551616 ^ 2 ^ (j + 1) := by
  induction j with
  | zero => decide
  | succ j ih =>
    have e1 := chain_low (j + 1) h
    rw [if_neg (by omega), Nat.add_sub_cancel] at e1
    have e2 := ih (by omega)
    have e3 : R (j + 1) ^ 2 ^ (j + 1 + 1) ≤ R j ^ 2 ^ (j + 1) * 18446744073709551616 ^ 2 ^ (j + 1) := by
      rw [Nat.pow_succ 2 (j + 1), Nat.mul_comm (2 ^ (j + 1)) 2, Nat.pow_mul, ← Nat.mul_pow, Nat.pow_two]
      exact Nat.pow_le_pow_left e1 _
    calc R (j + 1) ^ 2 ^ (j + 1 + 1) * 2 ≤ R j ^ 2 ^ (j + 1) * 18446744073709551616 ^ 2 ^ (j + 1) * 2 := Nat.mul_le_mul_right _ e3
      _ = R j ^ 2 ^ (j + 1) * 2 * 18446744073709551616 ^ 2 ^ (j + 1) := by rw [Nat.mul_right_comm]
      _ ≤ 18446744073709551616 ^ 2 ^ (j + 1) * 18446744073709551616 ^ 2 ^ (j + 1) := Nat.mul_le_mul_right _ e2
      _ = 18446744073709551616 ^ 2 ^ (j + 1 + 1) := by rw [← Nat.pow_add, Nat.pow_succ 2 (j + 1), Nat.mul_two]
theorem rung_upp (j : Nat) (h : j < 32) : 18446744073709551616 ^ 2 ^ (j + 1) ≤ (R j + 3) ^ 2 ^ (j + 1) * 2 := by
  induction j with
  | zero => decide
  | succ j ih =>
    have e1 := chain_upp (j + 1) h
    rw [if_neg (by omega), Nat.add_sub_cancel] at e1
    have e2 := ih (by omega)
    have e3 : (R j + 3) ^ 2 ^ (j + 1) * 18446744073709551616 ^ 2 ^ (j + 1) ≤ (R (j + 1) + 3) ^ 2 ^ (j + 1 + 1) := by
      rw [Nat.pow_succ 2 (j + 1), Nat.mul_comm (2 ^ (j + 1)) 2, Nat.pow_mul, ← Nat.mul_pow, Nat.pow_two]
      exact Nat.pow_le_pow_left e1 _
    calc 18446744073709551616 ^ 2 ^ (j + 1 + 1) = 18446744073709551616 ^ 2 ^ (j + 1) * 18446744073709551616 ^ 2 ^ (j + 1) := by rw [← Nat.pow_add, Nat.pow_succ 2 (j + 1), Nat.mul_two]
      _ ≤ (R j + 3) ^ 2 ^ (j + 1) * 2 * 18446744073709551616 ^ 2 ^ (j + 1) := Nat.mul_le_mul_right _ e2
      _ = (R j + 3) ^ 2 ^ (j + 1) * 18446744073709551616 ^ 2 ^ (j + 1) * 2 := by rw [Nat.mul_right_comm]
      _ ≤ (R (j + 1) + 3) ^ 2 ^ (j + 1 + 1) * 2 := Nat.mul_le_mul_right _ e3

/-- The same to the power of K, which is 2^32. -/
theorem rungK_low (j : Nat) (h : j < 32) {K : Nat} (hK : K = 2 ^ 32) : R j ^ K * 2 ^ 2 ^ (31 - j) ≤ 18446744073709551616 ^ K := by
  have eK : K = 2 ^ (j + 1) * 2 ^ (31 - j) := by rw [hK, ← Nat.pow_add]; congr 1; omega
  rw [eK, Nat.pow_mul, Nat.pow_mul, ← Nat.mul_pow]
  exact Nat.pow_le_pow_left (rung_low j h) _
theorem rungK_upp (j : Nat) (h : j < 32) {K : Nat} (hK : K = 2 ^ 32) : 18446744073709551616 ^ K ≤ (R j + 3) ^ K * 2 ^ 2 ^ (31 - j) := by
  have eK : K = 2 ^ (j + 1) * 2 ^ (31 - j) := by rw [hK, ← Nat.pow_add]; congr 1; omega
  rw [eK, Nat.pow_mul, Nat.pow_mul, ← Nat.mul_pow]
  exact Nat.pow_le_pow_left (rung_upp j h) _

/-- The bits of f that the first k Rungs stand for. -/
def bitsTo (f : Nat) : Nat → Nat
  | 0 => 0
  | k + 1 => bitsTo f k + (if f / 2 ^ (31 - k) % 2 = 1 then 2 ^ (31 - k) else 0)
theorem bitsTo_eq (f : Nat) (hf : f < 2 ^ 32) (k : Nat) (hk : k ≤ 32) : bitsTo f k + f % 2 ^ (32 - k) = f := by
  induction k with
  | zero => simp only [bitsTo, Nat.sub_zero, Nat.zero_add]; exact Nat.mod_eq_of_lt hf
  | succ k ih =>
    have h := ih (by omega)
    have e : f % 2 ^ (32 - k) = (if f / 2 ^ (31 - k) % 2 = 1 then 2 ^ (31 - k) else 0) + f % 2 ^ (32 - (k + 1)) := by
      rw [show 32 - k = 31 - k + 1 by omega, show 32 - (k + 1) = 31 - k by omega, Nat.pow_succ, Nat.mod_mul]
      rcases Nat.mod_two_eq_zero_or_one (f / 2 ^ (31 - k)) with h2 | h2 <;> rw [h2] <;> simp [Nat.add_comm]
    simp only [bitsTo]
    omega
theorem bitsTo_all (f : Nat) (hf : f < 2 ^ 32) : bitsTo f 32 = f := by
  have h := bitsTo_eq f hf 32 (by omega)
  rw [show f % 2 ^ (32 - 32) = 0 from Nat.mod_one f] at h
  exact h

theorem steps_top (f k : Nat) (hk : k ≤ 32) : steps f k ≤ 9223372036854775808 := by
  induction k with
  | zero => exact Nat.le_refl _
  | succ k ih =>
    have h := ih (by omega)
    have hr := rung_top k (by omega)
    simp only [steps]
    split
    · have h2 : steps f k * R k ≤ steps f k * 18446744073709551616 := Nat.mul_le_mul_left _ (by omega)
      omega
    · exact h

/-- Not above. -/
theorem steps_low (f k : Nat) (hk : k ≤ 32) {K : Nat} (hK : K = 2 ^ 32) : steps f k ^ K * 2 ^ bitsTo f k ≤ 9223372036854775808 ^ K := by
  induction k with
  | zero => simp only [steps, bitsTo, Nat.pow_zero, Nat.mul_one]; exact Nat.le_refl _
  | succ k ih =>
    have h := ih (by omega)
    simp only [steps, bitsTo]
    split
    · have hr := rungK_low k (by omega) hK
      have hd : steps f k * R k / 18446744073709551616 * 18446744073709551616 ≤ steps f k * R k := Nat.div_mul_le_self _ _
      have hd' := Nat.pow_le_pow_left hd K
      rw [Nat.mul_pow, Nat.mul_pow] at hd'
      generalize steps f k * R k / 18446744073709551616 = t at *
      generalize steps f k = s at *
      refine Nat.le_of_mul_le_mul_right (c := 18446744073709551616 ^ K) ?_ (Nat.pow_pos (by decide))
      rw [Nat.pow_add]
      calc t ^ K * (2 ^ bitsTo f k * 2 ^ 2 ^ (31 - k)) * 18446744073709551616 ^ K = (t ^ K * 18446744073709551616 ^ K) * (2 ^ bitsTo f k * 2 ^ 2 ^ (31 - k)) := by rw [Nat.mul_right_comm]
        _ ≤ (s ^ K * R k ^ K) * (2 ^ bitsTo f k * 2 ^ 2 ^ (31 - k)) := Nat.mul_le_mul_right _ hd'
        _ = (s ^ K * 2 ^ bitsTo f k) * (R k ^ K * 2 ^ 2 ^ (31 - k)) := by rw [Nat.mul_mul_mul_comm]
        _ ≤ 9223372036854775808 ^ K * 18446744073709551616 ^ K := Nat.mul_le_mul h hr
    · rw [Nat.add_zero]; exact h
/-- Not below, 2.5 a step added. -/
theorem steps_upp (f k : Nat) (hk : k ≤ 32) {K : Nat} (hK : K = 2 ^ 32) : 18446744073709551616 ^ K ≤ (2 * steps f k + 5 * k) ^ K * 2 ^ bitsTo f k := by
  induction k with
  | zero => simp only [steps, bitsTo, Nat.pow_zero, Nat.mul_one]; exact Nat.le_refl _
  | succ k ih =>
    have h := ih (by omega)
    have ht := steps_top f k (by omega)
    simp only [steps, bitsTo]
    split
    · have hr := rungK_upp k (by omega) hK
      have h3 := rung_top k (by omega)
      have hd : (2 * steps f k + 5 * k) * (R k + 3) ≤ (2 * (steps f k * R k / 18446744073709551616) + 5 * (k + 1)) * 18446744073709551616 := by
        have e1 : (2 * steps f k + 5 * k) * (R k + 3) = 2 * (steps f k * R k) + 6 * steps f k + 5 * k * (R k + 3) := by
          rw [Nat.add_mul, Nat.mul_assoc, Nat.mul_add]; omega
        have e2 : 5 * k * (R k + 3) ≤ 5 * k * 18446744073709551616 := Nat.mul_le_mul_left _ (by omega)
        rw [e1]
        generalize steps f k * R k = p at *
        omega
      have hd' := Nat.pow_le_pow_left hd K
      rw [Nat.mul_pow, Nat.mul_pow] at hd'
      generalize 2 * (steps f k * R k / 18446744073709551616) + 5 * (k + 1) = t at *
      generalize 2 * steps f k + 5 * k = s at *
      refine Nat.le_of_mul_le_mul_right (c := 18446744073709551616 ^ K) ?_ (Nat.pow_pos (by decide))
      rw [Nat.pow_add]
      calc 18446744073709551616 ^ K * 18446744073709551616 ^ K ≤ (s ^ K * 2 ^ bitsTo f k) * ((R k + 3) ^ K * 2 ^ 2 ^ (31 - k)) := Nat.mul_le_mul h hr
        _ = (s ^ K * (R k + 3) ^ K) * (2 ^ bitsTo f k * 2 ^ 2 ^ (31 - k)) := by rw [Nat.mul_mul_mul_comm]
        _ ≤ (t ^ K * 18446744073709551616 ^ K) * (2 ^ bitsTo f k * 2 ^ 2 ^ (31 - k)) := Nat.mul_le_mul_right _ hd'
        _ = t ^ K * (2 ^ bitsTo f k * 2 ^ 2 ^ (31 - k)) * 18446744073709551616 ^ K := by rw [Nat.mul_right_comm]
    · rw [Nat.add_zero]
      refine Nat.le_trans h (Nat.mul_le_mul_right _ (Nat.pow_le_pow_left (by omega) _))

/-- THE WHOLE PART's REST: a Half's t, for f below 2^32. -/
theorem t_low (f : Nat) (hf : f < 2 ^ 32) {K : Nat} (hK : K = 2 ^ 32) : steps f 32 ^ K * 2 ^ f ≤ 9223372036854775808 ^ K := by
  have h := steps_low f 32 (by omega) hK
  rw [bitsTo_all f hf] at h
  exact h
theorem t_upp (f : Nat) (hf : f < 2 ^ 32) {K : Nat} (hK : K = 2 ^ 32) : 9223372036854775808 ^ K ≤ (steps f 32 + 80) ^ K * 2 ^ f := by
  have h := steps_upp f 32 (by omega) hK
  rw [bitsTo_all f hf, show 2 * steps f 32 + 5 * 32 = 2 * (steps f 32 + 80) by omega, show 18446744073709551616 = 2 * 9223372036854775808 by rfl, Nat.mul_pow, Nat.mul_pow, Nat.mul_assoc] at h
  exact Nat.le_of_mul_le_mul_left h (Nat.pow_pos (by decide))

/-- (a + d)^k is hardly more than a^k. -/
theorem bern (a d k : Nat) (h : k * d ≤ a) : (a + d) ^ k * (a - k * d) ≤ a ^ k * a := by
  induction k with
  | zero => simp
  | succ k ih =>
    rw [Nat.succ_mul] at h ⊢
    have e := ih (by omega)
    have h1 : (a + d) * (a - (k * d + d)) ≤ a * (a - k * d) := by
      obtain ⟨c, rfl⟩ : ∃ c, a = k * d + d + c := ⟨a - (k * d + d), by omega⟩
      generalize k * d = m at *
      rw [show m + d + c - (m + d) = c by omega, show m + d + c - m = d + c by omega]
      have e1 : (m + d + c + d) * c = (m + d + c) * c + d * c := by rw [Nat.add_mul]
      have e2 : (m + d + c) * (d + c) = (m + d + c) * d + (m + d + c) * c := by rw [Nat.mul_add]
      have e3 : d * c ≤ (m + d + c) * d := by rw [Nat.mul_comm d c]; exact Nat.mul_le_mul_right _ (by omega)
      omega
    calc (a + d) ^ (k + 1) * (a - (k * d + d)) = (a + d) ^ k * ((a + d) * (a - (k * d + d))) := by rw [Nat.pow_succ, Nat.mul_assoc]
      _ ≤ (a + d) ^ k * (a * (a - k * d)) := Nat.mul_le_mul_left _ h1
      _ = (a + d) ^ k * (a - k * d) * a := by rw [Nat.mul_comm a, Nat.mul_assoc]
      _ ≤ a ^ k * a * a := Nat.mul_le_mul_right _ e
      _ = a ^ (k + 1) * a := by rw [Nat.pow_succ]
theorem bern2 {a d k : Nat} (h : 2 * (k * d) < a) : (a + d) ^ k < 2 * a ^ k := by
  have e := bern a d k (by omega)
  have ha : 0 < a := by omega
  refine Nat.lt_of_not_le fun hn => ?_
  have h1 : 2 * a ^ k * (a - k * d) ≤ a ^ k * a := Nat.le_trans (Nat.mul_le_mul_right _ hn) e
  have hp : 0 < a ^ k := Nat.pow_pos ha
  rw [Nat.mul_comm 2, Nat.mul_assoc] at h1
  have h2 := Nat.le_of_mul_le_mul_left h1 hp
  omega

/-- t is at least 2^62. -/
theorem t_least (f : Nat) (hf : f < 2 ^ 32) : 4611686018427387904 ≤ steps f 32 := by
  obtain ⟨K, hK⟩ : ∃ K : Nat, K = 2 ^ 32 := ⟨_, rfl⟩
  have h := t_upp f hf hK
  refine Nat.le_of_not_lt fun hn => ?_
  have h1 : (steps f 32 + 80) ^ K ≤ (4611686018427387904 + 79) ^ K := Nat.pow_le_pow_left (by omega) _
  have h2 : (4611686018427387904 + 79) ^ K < 2 * 4611686018427387904 ^ K := bern2 (by rw [hK]; decide)
  have h3 : 2 * 2 ^ f ≤ 2 ^ K := by
    rw [Nat.mul_comm, ← Nat.pow_succ]; exact two_pow_le (by rw [hK]; exact hf)
  have h4 : 9223372036854775808 ^ K = 4611686018427387904 ^ K * 2 ^ K := by rw [← Nat.mul_pow]
  have hp : 0 < 2 ^ f := Nat.pow_pos (by decide)
  have h5 : (steps f 32 + 80) ^ K * 2 ^ f < 2 * 4611686018427387904 ^ K * 2 ^ f := Nat.mul_lt_mul_of_pos_right (Nat.lt_of_le_of_lt h1 h2) hp
  have h6 : 2 * 4611686018427387904 ^ K * 2 ^ f ≤ 4611686018427387904 ^ K * 2 ^ K := by
    rw [Nat.mul_comm 2, Nat.mul_assoc]; exact Nat.mul_le_mul_left _ h3
  omega
/-- t falls as f rises. -/
theorem t_falls {f g : Nat} (hfg : f < g) (hg : g < 2 ^ 32) : steps g 32 ≤ steps f 32 := by
  obtain ⟨K, hK⟩ : ∃ K : Nat, K = 2 ^ 32 := ⟨_, rfl⟩
  have h := t_upp f (by omega) hK
  have h' := t_low g hg hK
  have l := t_least g hg
  refine Nat.le_of_not_lt fun hn => ?_
  have h1 : (steps f 32 + 80) ^ K ≤ (steps g 32 + 79) ^ K := Nat.pow_le_pow_left (by omega) _
  have h2 : (steps g 32 + 79) ^ K < 2 * steps g 32 ^ K := bern2 (by rw [hK]; omega)
  have hp : 0 < 2 ^ f := Nat.pow_pos (by decide)
  have h3 : 2 * 2 ^ f ≤ 2 ^ g := by
    rw [Nat.mul_comm, ← Nat.pow_succ]; exact two_pow_le hfg
  have h5 : (steps f 32 + 80) ^ K * 2 ^ f < 2 * steps g 32 ^ K * 2 ^ f := Nat.mul_lt_mul_of_pos_right (Nat.lt_of_le_of_lt h1 h2) hp
  have h6 : 2 * steps g 32 ^ K * 2 ^ f ≤ steps g 32 ^ K * 2 ^ g := by
    rw [Nat.mul_comm 2, Nat.mul_assoc]; exact Nat.mul_le_mul_left _ h3
  omega
end Go.Proofs.YtpiceckolcakaaaDoor.Ld
