/-
  THE STATEMENT LadderTrue: its floats: squared, all cases in one.
-/
import Derived.Test.YtbnokceagaodkaaDoorTrueB
namespace Go.Proofs.YtbnokceagaodkaaDoor
open Go.RowKit Wd Ld

namespace Ld
theorem sq_hi (v : Nat) : hiW (v : Int) = ((v / 18446744073709551616 : Nat) : Int) := by unfold hiW; omega
theorem sq_lo (v : Nat) : loW (v : Int) = ((v % 18446744073709551616 : Nat) : Int) := by unfold loW; omega
theorem sq_shl (v : Nat) (h : v < 170141183460469231731687303715884105728) : shlV (val (hiW (v : Int)) (loW (v : Int))) 1 = ((v * 2 : Nat) : Int) := by
  rw [val_words]; unfold shlV; rw [if_neg (by decide)]
  have e : (1 : Int).toNat = 1 := rfl
  rw [e]; omega
end Ld

theorem squared_any (m : Nat) (x : Int) (up : Bool) (h0 : 9223372036854775808 ≤ m) (h1 : m < 18446744073709551616) (hx0 : -1099511627776 ≤ x) (hx1 : x ≤ 1099511627776) (w : World) :
    Calls Tryd.prog 17 #[.agg #[.int .u64 (m : Int), .int .i64 x], .bool up] w fun r w' => r = .returned (.agg #[.int .u64 (sqM m up : Nat), .int .i64 (2 * x + (sqD m up : Nat))]) ∧ Below w.heap.size w w' := by
  obtain ⟨a, b⟩ := sq_range h0 h1
  have hm : Word (m : Int) := ⟨by omega, by omega⟩
  have emm : (m : Int) * (m : Int) = ((m * m : Nat) : Int) := by rw [Int.natCast_mul]
  have wg : Word (hiW ((m * m : Nat) : Int)) := by rw [sq_hi]; exact ⟨by omega, by omega⟩
  have wl : Word (loW ((m * m : Nat) : Int)) := lo_word _
  have hq : 170141183460469231731687303715884105728 ≤ sqQ m ∧ sqQ m < 340282366920938463463374607431768211456 := by unfold sqQ; split <;> omega
  have wH : Word ((sqH m : Nat) : Int) := by unfold sqH; exact ⟨by omega, by omega⟩
  have hHl : sqH m < 18446744073709551616 := by unfold sqH; omega
  by_cases hs : m * m < 170141183460469231731687303715884105728
  · have hQ : sqQ m = m * m * 2 := by unfold sqQ; rw [if_pos hs]
    have hLn : sqL m = 63 := by unfold sqL; rw [if_pos hs]
    have eH : hiW (shlV (val (hiW ((m * m : Nat) : Int)) (loW ((m * m : Nat) : Int))) 1) = ((sqH m : Nat) : Int) := by rw [sq_shl _ hs, sq_hi, ← hQ]; rfl
    have eL : loW (shlV (val (hiW ((m * m : Nat) : Int)) (loW ((m * m : Nat) : Int))) 1) = ((sqQ m % 18446744073709551616 : Nat) : Int) := by rw [sq_shl _ hs, sq_lo, ← hQ]
    have ht : (hiW ((m * m : Nat) : Int) / 9223372036854775808 == 0) = true := by rw [sq_hi, beq_iff_eq]; omega
    cases up with
    | false =>
      have h := sq_small_down m x _ _ hm hx0 hx1 _ _ (by rw [emm]) (by rw [emm]) wg wl ht eH eL wH w
      rw [show sqM m false = sqH m from rfl, show ((sqD m false : Nat) : Int) = 63 by rw [show sqD m false = sqL m from rfl, hLn]; rfl, show 2 * x + 63 = 2 * x + 64 - 1 by omega]
      exact h
    | true =>
      by_cases hz : sqQ m % 18446744073709551616 = 0
      · have h := sq_small_no m x _ _ hm hx0 hx1 _ _ (by rw [emm]) (by rw [emm]) wg wl ht eH eL wH (by rw [hz]; rfl) w
        have hc : sqC m true = false := by unfold sqC; simp [hz]
        rw [show sqM m true = sqH m by unfold sqM; simp [hc], show ((sqD m true : Nat) : Int) = 63 by unfold sqD; simp [hc, hLn], show 2 * x + 63 = 2 * x + 64 - 1 by omega]
        exact h
      · have hc : sqC m true = true := by unfold sqC; simp; omega
        by_cases hi : sqH m + 1 = 18446744073709551616
        · have h := sq_small_carry m x _ _ hm hx0 hx1 _ _ (by rw [emm]) (by rw [emm]) wg wl ht eH eL wH (by omega) (by omega) w
          rw [show sqM m true = 9223372036854775808 by unfold sqM; simp [hc, hi], show ((sqD m true : Nat) : Int) = 64 by unfold sqD; simp [hc, hi, hLn], show 2 * x + 64 = 2 * x + 64 - 1 + 1 by omega]
          exact h
        · have h := sq_small_inc m x _ _ hm hx0 hx1 _ _ (by rw [emm]) (by rw [emm]) wg wl ht eH eL wH (by omega) (by omega) w
          rw [show sqM m true = sqH m + 1 by unfold sqM; simp [hc, hi], show ((sqD m true : Nat) : Int) = 63 by unfold sqD; simp [hi, hLn], show 2 * x + 63 = 2 * x + 64 - 1 by omega]
          exact h
  · have hQ : sqQ m = m * m := by unfold sqQ; rw [if_neg hs]
    have hLn : sqL m = 64 := by unfold sqL; rw [if_neg hs]
    have eH : hiW ((m : Int) * (m : Int)) = ((sqH m : Nat) : Int) := by rw [emm, sq_hi, ← hQ]; rfl
    have eL : loW ((m : Int) * (m : Int)) = ((sqQ m % 18446744073709551616 : Nat) : Int) := by rw [emm, sq_lo, ← hQ]
    have ht : (((sqH m : Nat) : Int) / 9223372036854775808 == 0) = false := by rw [beq_eq_false_iff_ne]; unfold sqH; omega
    cases up with
    | false =>
      have h := sq_great_down m x _ _ hm hx0 hx1 eH eL wH ht w
      rw [show sqM m false = sqH m from rfl, show ((sqD m false : Nat) : Int) = 64 by rw [show sqD m false = sqL m from rfl, hLn]; rfl]
      exact h
    | true =>
      by_cases hz : sqQ m % 18446744073709551616 = 0
      · have h := sq_great_no m x _ _ hm hx0 hx1 eH eL wH ht (by rw [hz]; rfl) w
        have hc : sqC m true = false := by unfold sqC; simp [hz]
        rw [show sqM m true = sqH m by unfold sqM; simp [hc], show ((sqD m true : Nat) : Int) = 64 by unfold sqD; simp [hc, hLn]]
        exact h
      · have hc : sqC m true = true := by unfold sqC; simp; omega
        by_cases hi : sqH m + 1 = 18446744073709551616
        · have h := sq_great_carry m x _ _ hm hx0 hx1 eH eL wH (by omega) (by omega) w
          rw [show sqM m true = 9223372036854775808 by unfold sqM; simp [hc, hi], show ((sqD m true : Nat) : Int) = 65 by unfold sqD; simp [hc, hi, hLn], show 2 * x + 65 = 2 * x + 64 + 1 by omega]
          exact h
        · have h := sq_great_inc m x _ _ hm hx0 hx1 eH eL wH ht (by omega) (by omega) w
          rw [show sqM m true = sqH m + 1 by unfold sqM; simp [hc, hi], show ((sqD m true : Nat) : Int) = 64 by unfold sqD; simp [hi, hLn]]
          exact h
end Go.Proofs.YtbnokceagaodkaaDoor
