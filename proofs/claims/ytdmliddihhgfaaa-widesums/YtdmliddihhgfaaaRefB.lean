/-
  THE CONTRACTS OF THE REFERENCE's FUNCTIONS: Mul.
-/
import Derived.Test.YtdmliddihhgfaaaWide
namespace Go.Proofs.Ytdmliddihhgfaaa
open Go.RowKit Wd
namespace Wd
theorem hide {p : Prop} (h : p) : Hid p := h
theorem unhide {p : Prop} (h : Hid p) : p := h
theorem rmul_law (x y : Nat) (hx : x < 18446744073709551616) (hy : y < 18446744073709551616) :
    let hh := (x / 4294967296) * (y / 4294967296)
    let hl := (x / 4294967296) * (y % 4294967296)
    let lh := (x % 4294967296) * (y / 4294967296)
    let ll := (x % 4294967296) * (y % 4294967296)
    hh < 18446744073709551616 ∧ hl < 18446744073709551616 ∧ lh < 18446744073709551616 ∧ ll < 18446744073709551616 ∧
    ll / 4294967296 + hl % 4294967296 < 18446744073709551616 ∧ ll / 4294967296 + hl % 4294967296 + lh % 4294967296 < 18446744073709551616 ∧
    hh + hl / 4294967296 < 18446744073709551616 ∧ hh + hl / 4294967296 + lh / 4294967296 < 18446744073709551616 ∧
    hh + hl / 4294967296 + lh / 4294967296 + (ll / 4294967296 + hl % 4294967296 + lh % 4294967296) / 4294967296 < 18446744073709551616 ∧
    hh + hl / 4294967296 + lh / 4294967296 + (ll / 4294967296 + hl % 4294967296 + lh % 4294967296) / 4294967296 = x * y / 18446744073709551616 ∧
    ((ll / 4294967296 + hl % 4294967296 + lh % 4294967296) * 4294967296 % 18446744073709551616 + ll % 4294967296) % 18446744073709551616 = x * y % 18446744073709551616 := by
  intro hh hl lh ll
  have e : x * y = hh * (4294967296 * 4294967296) + (hl + lh) * 4294967296 + ll := by
    show x * y = (x / 4294967296) * (y / 4294967296) * (4294967296 * 4294967296) + ((x / 4294967296) * (y % 4294967296) + (x % 4294967296) * (y / 4294967296)) * 4294967296 + (x % 4294967296) * (y % 4294967296)
    rw [← Lib.split_mul, Nat.div_add_mod' x 4294967296, Nat.div_add_mod' y 4294967296]
  have ha : hh ≤ _ := Lib.half_mul_le (a := x / 4294967296) (b := y / 4294967296) (by omega) (by omega)
  have hb : hl ≤ _ := Lib.half_mul_le (a := x / 4294967296) (b := y % 4294967296) (by omega) (by omega)
  have hc : lh ≤ _ := Lib.half_mul_le (a := x % 4294967296) (b := y / 4294967296) (by omega) (by omega)
  have hd : ll ≤ _ := Lib.half_mul_le (a := x % 4294967296) (b := y % 4294967296) (by omega) (by omega)
  have hxy : x * y ≤ 18446744073709551615 * 18446744073709551615 := Nat.mul_le_mul (by omega) (by omega)
  rw [e] at hxy ⊢
  generalize hh = a at *
  generalize hl = b at *
  generalize lh = c at *
  generalize ll = d at *
  refine ⟨by omega, by omega, by omega, by omega, by omega, by omega, by omega, by omega, by omega, by omega, by omega⟩
theorem mulK (a : Nat) : (a : Int) * 4294967296 = ((a * 4294967296 : Nat) : Int) := by omega
end Wd

set_option maxHeartbeats 1000000 in
theorem rmulN (x y : Nat) (hx : x < 18446744073709551616) (hy : y < 18446744073709551616) (w : World) :
    Calls Try.prog 19 #[.int .u64 x, .int .u64 y] w fun e w' => e = .returned (.agg #[.int .u64 ((x * y / 18446744073709551616 : Nat) : Int), .int .u64 ((x * y % 18446744073709551616 : Nat) : Int)]) ∧ Below w.heap.size w w' := by
  obtain ⟨b1, b2, b3, b4, b5, b6, b7, b8, b9, e1, e2⟩ := rmul_law x y hx hy
  have E1 := hide e1
  have E2 := hide e2
  clear e1 e2
  go_enter Try.func19, Try.ntmps19
  go_wp2
  simp only [maskN x hx, maskN y hy, divN, mulN, addN, wrapN _ b1, wrapN _ b2, wrapN _ b3, wrapN _ b4, maskN _ b4, maskN _ b2, maskN _ b3, wrapN _ b5, wrapN _ b6, wrapN _ b7, wrapN _ b8, wrapN _ b9, mulK, wrapM]
  rw [unhide E1, unhide E2]
  exact bodyPost_ret (v := .agg #[.int .u64 ((x * y / 18446744073709551616 : Nat) : Int), .int .u64 ((x * y % 18446744073709551616 : Nat) : Int)]) (by simp [results, Try.results19, go_sem]) rfl ⟨rfl, (Below.refl _ _).alloc (Nat.le_refl _) _⟩

theorem rmul_any (x y : Int) (hx : Word x) (hy : Word y) (w : World) :
    Calls Try.prog 19 #[.int .u64 x, .int .u64 y] w fun e w' => e = .returned (.agg #[.int .u64 (hiW (x * y)), .int .u64 (loW (x * y))]) ∧ Below w.heap.size w w' := by
  obtain ⟨x0, x1⟩ := hx; obtain ⟨y0, y1⟩ := hy
  obtain ⟨x, rfl⟩ := Int.eq_ofNat_of_zero_le x0
  obtain ⟨y, rfl⟩ := Int.eq_ofNat_of_zero_le y0
  rw [← hi_nat, ← lo_nat]
  exact rmulN x y (by omega) (by omega) w
end Go.Proofs.Ytdmliddihhgfaaa
