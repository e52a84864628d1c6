/-
  math/bits' functions that layer 1 calls, walked over the dump's own text.
-/
import Derived.Test.YtniiijadkclabaaRows
import Derived.Test.YtniiijadkclabaaMath
import Derived.WalkKit
import Derived.WalkSpells
import Derived.WalkLawsBesides
import Derived.Lib.Tables
import Derived.Laws.Bits64b
import Derived.Laws.Externs
import Derived.Shelf.Spec.BitsCarry
namespace Go.Proofs.Ytniiijadkclabaa
open Go.RowKit
namespace Wd
/-- The lower half of a word. -/
theorem mask32 (a : Int) (h : Word a) : bits .and .u64 a 4294967295 = a % 4294967296 := by
  obtain ⟨a0, a1⟩ := h
  obtain ⟨m, rfl⟩ := Int.eq_ofNat_of_zero_le a0
  refine (bits_and_u64_nat m 4294967295 (by omega) (by omega)).trans ?_
  rw [show m &&& 4294967295 = m % 4294967296 from Nat.and_two_pow_sub_one_eq_mod m 32]
  omega
/-- The product of two halves. -/
theorem halves {a b : Int} (a0 : 0 ≤ a) (a1 : a < 4294967296) (b0 : 0 ≤ b) (b1 : b < 4294967296) : 0 ≤ a * b ∧ a * b ≤ 18446744065119617025 :=
  have h : a * b ≤ 4294967295 * 4294967295 := Int.mul_le_mul (by omega) (by omega) b0 (by omega)
  ⟨Int.mul_nonneg a0 b0, h⟩
/-- The school's product: of halves, each with each. -/
theorem school (x y : Int) : x * y = x / 4294967296 * (y / 4294967296) * 18446744073709551616 + (x / 4294967296 * (y % 4294967296) + x % 4294967296 * (y / 4294967296)) * 4294967296 + x % 4294967296 * (y % 4294967296) := by
  have ex : x = x / 4294967296 * 4294967296 + x % 4294967296 := by omega
  have ey : y = y / 4294967296 * 4294967296 + y % 4294967296 := by omega
  generalize x / 4294967296 = a at *
  generalize x % 4294967296 = b at *
  generalize y / 4294967296 = c at *
  generalize y % 4294967296 = d at *
  rw [ex, ey, Int.add_mul, Int.mul_add, Int.mul_add, Int.mul_right_comm a 4294967296 (c * 4294967296), ← Int.mul_assoc a c 4294967296, Int.mul_right_comm a 4294967296 d, ← Int.mul_assoc b c 4294967296]
  omega
end Wd
open Wd

set_option maxHeartbeats 1000000 in
/-- math/bits.Mul64. -/
theorem mul64 (x y : Int) (hx : Word x) (hy : Word y) (w : World) :
    Calls Try.prog 56 #[.int .u64 x, .int .u64 y] w fun e w' => e = .returned (.tuple #[.int .u64 (hiW (x * y)), .int .u64 (loW (x * y))]) ∧ w' = w := by
  have mx := mask32 x hx
  have my := mask32 y hy
  have e := school x y
  obtain ⟨x0, x1⟩ := hx; obtain ⟨y0, y1⟩ := hy
  obtain ⟨hh0, hh1⟩ := halves (a := x / 4294967296) (b := y / 4294967296) (by omega) (by omega) (by omega) (by omega)
  obtain ⟨hl0, hl1⟩ := halves (a := x / 4294967296) (b := y % 4294967296) (by omega) (by omega) (by omega) (by omega)
  obtain ⟨lh0, lh1⟩ := halves (a := x % 4294967296) (b := y / 4294967296) (by omega) (by omega) (by omega) (by omega)
  obtain ⟨ll0, ll1⟩ := halves (a := x % 4294967296) (b := y % 4294967296) (by omega) (by omega) (by omega) (by omega)
  have mt := mask32 (x / 4294967296 * (y % 4294967296) + x % 4294967296 * (y % 4294967296) / 4294967296) ⟨by omega, by omega⟩
  have eh : x / 4294967296 * (y / 4294967296) + (x / 4294967296 * (y % 4294967296) + x % 4294967296 * (y % 4294967296) / 4294967296) / 4294967296 + ((x / 4294967296 * (y % 4294967296) + x % 4294967296 * (y % 4294967296) / 4294967296) % 4294967296 + x % 4294967296 * (y / 4294967296)) / 4294967296 = hiW (x * y) := by
    rw [e]; unfold hiW; omega
  have el : IntKind.u64.wrap (x * y) = loW (x * y) := IntKind.wrap_u64 _
  have EH : Hid _ := eh
  have EL : Hid _ := el
  clear e eh el
  go_enter Try.func56, Try.ntmps56
  go_wp2
  rw [EH.out, EL.out]
  go_ret2
  exact ⟨rfl, rfl⟩

/-- cmp.isNaN of a uint64. -/
theorem isnan (x : Int) (w : World) : Calls Try.prog 65 #[.int .u64 x] w fun e w' => e = .returned (.bool false) ∧ w' = w := by
  go_enter Try.func65, Try.ntmps65
  go_wp2
  go_ret
  exact ⟨by simp, rfl⟩
set_option maxHeartbeats 400000 in
/-- cmp.Compare of two uint64. -/
theorem compare (x y : Int) (w : World) : Calls Try.prog 60 #[.int .u64 x, .int .u64 y] w fun e w' => e = .returned (.int .i64 (cmpV x y)) ∧ w' = w := by
  unfold cmpV
  by_cases h : x < y
  · go_enter Try.func60, Try.ntmps60
    go_wp2_with (go_at_call 65; refine (isnan _ _).mono ?_; rintro e w' ⟨rfl, rfl⟩)
    go_ret
    exact ⟨by simp, rfl⟩
  · by_cases h2 : y < x
    · have h3 : ¬ x = y := by omega
      go_enter Try.func60, Try.ntmps60
      go_wp2_with (go_at_call 65; refine (isnan _ _).mono ?_; rintro e w' ⟨rfl, rfl⟩)
      go_ret
      exact ⟨by first | (simp; done) | (simp [h, h3]; done), rfl⟩
    · have h3 : x = y := by omega
      subst h3
      go_enter Try.func60, Try.ntmps60
      go_wp2_with (go_at_call 65; refine (isnan _ _).mono ?_; rintro e w' ⟨rfl, rfl⟩)
      go_ret
      exact ⟨by simp, rfl⟩

/-- math/bits.Add64, Sub64: the model stands in for both. -/
theorem add64 (x y c : Int) (hx : 0 ≤ x) (hy : 0 ≤ y) (hc0 : 0 ≤ c) (hc : c ≤ 1) (w : World) : (callFunc 57 #[.int .u64 x, .int .u64 y, .int .u64 c]).run Try.prog w =
    .ok (.value (.tuple #[.int .u64 ((x + y + c) % 18446744073709551616), .int .u64 ((x + y + c) / 18446744073709551616)])) w := by
  rw [run_callFunc_extern Try.func57 (by kernel_rfl) (by kernel_rfl) (by kernel_rfl) (e := add64Entry) (by kernel_rfl), run_add64 x y c hx hy hc0 hc]
  rfl
def Wd.bor (x y : Int) : Int := if x < y then 1 else 0
theorem add64_0 (x y : Int) (hx : 0 ≤ x) (hy : 0 ≤ y) (w : World) : (callFunc 57 #[.int .u64 x, .int .u64 y, .int .u64 0]).run Try.prog w =
    .ok (.value (.tuple #[.int .u64 ((x + y) % 18446744073709551616), .int .u64 ((x + y) / 18446744073709551616)])) w := by
  simpa using add64 x y 0 hx hy (Int.le_refl 0) (by decide) w
end Go.Proofs.Ytniiijadkclabaa
