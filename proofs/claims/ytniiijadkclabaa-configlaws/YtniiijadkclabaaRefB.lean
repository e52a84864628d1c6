/-
  THE CONTRACTS OF THE REFERENCE's FUNCTIONS: Mul.
-/
import Derived.Test.YtniiijadkclabaaWide
namespace Go.Proofs.Ytniiijadkclabaa
open Go.RowKit Wd

set_option maxHeartbeats 1000000 in
theorem rmul_any (x y : Int) (hx : Word x) (hy : Word y) (w : World) :
    Calls Try.prog 39 #[.int .u64 x, .int .u64 y] w fun e w' => e = .returned (.agg #[.int .u64 (hiW (x * y)), .int .u64 (loW (x * y))]) ∧ Below w.heap.size w w' := by
  have mx := mask32 x hx
  have my := mask32 y hy
  have e := school x y
  obtain ⟨x0, x1⟩ := hx; obtain ⟨y0, y1⟩ := hy
  obtain ⟨hh0, hh1⟩ := halves (a := x / 4294967296) (b := y / 4294967296) (by omega) (by omega) (by omega) (by omega)
  obtain ⟨hl0, hl1⟩ := halves (a := x / 4294967296) (b := y % 4294967296) (by omega) (by omega) (by omega) (by omega)
  obtain ⟨lh0, lh1⟩ := halves (a := x % 4294967296) (b := y / 4294967296) (by omega) (by omega) (by omega) (by omega)
  obtain ⟨ll0, ll1⟩ := halves (a := x % 4294967296) (b := y % 4294967296) (by omega) (by omega) (by omega) (by omega)
  have m1 := mask32 (x / 4294967296 * (y % 4294967296)) ⟨by omega, by omega⟩
  have m2 := mask32 (x % 4294967296 * (y / 4294967296)) ⟨by omega, by omega⟩
  have m3 := mask32 (x % 4294967296 * (y % 4294967296)) ⟨by omega, by omega⟩
  have eh : x / 4294967296 * (y / 4294967296) + x / 4294967296 * (y % 4294967296) / 4294967296 + x % 4294967296 * (y / 4294967296) / 4294967296 + (x % 4294967296 * (y % 4294967296) / 4294967296 + x / 4294967296 * (y % 4294967296) % 4294967296 + x % 4294967296 * (y / 4294967296) % 4294967296) / 4294967296 = hiW (x * y) := by
    rw [e]; unfold hiW; omega
  have el : IntKind.u64.wrap (IntKind.u64.wrap ((x % 4294967296 * (y % 4294967296) / 4294967296 + x / 4294967296 * (y % 4294967296) % 4294967296 + x % 4294967296 * (y / 4294967296) % 4294967296) * 4294967296) + x % 4294967296 * (y % 4294967296) % 4294967296) = loW (x * y) := by
    rw [e, IntKind.wrap_u64, IntKind.wrap_u64]; unfold loW; omega
  have EH : Hid _ := eh
  have EL : Hid _ := el
  clear e eh el
  go_enter Try.func39, Try.ntmps39
  go_wp2
  rw [EH.out, EL.out]
  exact bodyPost_ret (v := .agg #[.int .u64 (hiW (x * y)), .int .u64 (loW (x * y))]) (by simp [results, Try.results39, go_sem]) rfl ⟨rfl, (Below.refl _ _).alloc (Nat.le_refl _) _⟩
end Go.Proofs.Ytniiijadkclabaa
