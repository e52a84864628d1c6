/-
  THE CONTRACTS OF THE REFERENCE's FUNCTIONS: Mul.
  THE CONTRACTS OF THE REFERENCE's CALLS (backfillref04).
  THE CONTRACTS OF THE REFERENCE's FUNCTIONS: Shl, Shr.
-/
import Derived.Test.YtbcinapnnlfnbaaGreatWid
import Derived.Test.YtbcinapnnlfnbaaGreatMth
namespace Go.Proofs.YtbcinapnnlfnbaaGreat
open Go.RowKit Wd

set_option maxHeartbeats 1000000 in
theorem rmul_any (x y : Int) (hx : Word x) (hy : Word y) (w : World) :
    Calls Tryz.prog 76 #[.int .u64 x, .int .u64 y] w fun e w' => e = .returned (.agg #[.int .u64 (hiW (x * y)), .int .u64 (loW (x * y))]) ∧ Below w.heap.size w w' := by
  have mx := mask32 x hx
  have my := mask32 y hy
  have e := school x y
  obtain ⟨x0, x1⟩ := hx; obtain ⟨y0, y1⟩ := hy
  obtain ⟨hh0, hh1⟩ := halves (a := x / 4294967296) (b := y / 4294967296) (by omega) (by omega) (by omega) (by omega)
  obtain ⟨hl0, hl1⟩ := halves (a := x / 4294967296) (b := y % 4294967296) (by omega) (by omega) (by omega) (by omega)
  obtain ⟨lh0, lh1⟩ := halves (a := x % 4294967296) (b := y / 4294967296) (by omega) (by omega) (by omega) (by omega)
  obtain ⟨ll0, ll1⟩ := halves (a := x % 4294967296) (b := y % 4294967296) (by omega) (by omega) (by omega) (by omega)
  have m1 := mask32 (x / 4294967296 * (y % 4294967296)) ⟨by omega, by omega⟩
  have m2 := mask32 (x % 4294967296 * (y / 4294967296)) ⟨by omega, by omega⟩
  have m3 := mask32 (x % 4294967296 * (y % 4294967296)) ⟨by omega, by omega⟩
  have eh : x / 4294967296 * (y / 4294967296) + x / 4294967296 * (y % 4294967296) / 4294967296 + x % 4294967296 * (y / 4294967296) / 4294967296 + (x % 4294967296 * (y % 4294967296) / 4294967296 + x / 4294967296 * (y % 4294967296) % 4294967296 + x % 4294967296 * (y / 4294967296) % 4294967296) / 4294967296 = hiW (x * y) := by
    rw [e]; unfold hiW; omega
  have el : IntKind.u64.wrap (IntKind.u64.wrap ((x % 4294967296 * (y % 4294967296) / 4294967296 + x / 4294967296 * (y % 4294967296) % 4294967296 + x % 4294967296 * (y / 4294967296) % 4294967296) * 4294967296) + x % 4294967296 * (y % 4294967296) % 4294967296) = loW (x * y) := by
    rw [e, IntKind.wrap_u64, IntKind.wrap_u64]; unfold loW; omega
  have EH : Hid _ := eh
  have EL : Hid _ := el
  clear e eh el
  go_enter Tryz.func76, Tryz.ntmps76
  go_wp2
  rw [EH.out, EL.out]
  exact bodyPost_ret (v := .agg #[.int .u64 (hiW (x * y)), .int .u64 (loW (x * y))]) (by simp [results, Tryz.results76, go_sem]) rfl ⟨rfl, (Below.refl _ _).alloc (Nat.le_refl _) _⟩
end Go.Proofs.YtbcinapnnlfnbaaGreat
namespace Go.Proofs.YtbcinapnnlfnbaaGreat
open Go.RowKit Wd

theorem rof_num (n : Int) (hn : Word n) (w : World) : Calls Tryz.prog 75 #[.int .u64 n] w fun e w' => e = .returned (.agg #[.int .u64 (hiW n), .int .u64 (loW n)]) ∧ Below w.heap.size w w' := by
  rw [(hi_small hn).1, (hi_small hn).2]
  go_enter Tryz.func75, Tryz.ntmps75
  go_wp2
  exact bodyPost_ret (v := .agg #[.int .u64 0, .int .u64 n]) (by simp [results, Tryz.results75, go_sem]) rfl ⟨rfl, (Below.refl _ _).alloc (Nat.le_refl _) _⟩
end Go.Proofs.YtbcinapnnlfnbaaGreat
namespace Go.Proofs.YtbcinapnnlfnbaaGreat
open Go.RowKit Wd
namespace Wd
theorem shl_128 (ah al n : Int) (hn : 128 ≤ n) : 0 = hiW (shlV (val ah al) n) ∧ 0 = loW (shlV (val ah al) n) := by
  obtain ⟨e1, e2⟩ := shl_great ah al n (by omega)
  refine ⟨?_, e2⟩
  rw [← e1, ← min_great, Nat.min_eq_right (by omega), IntKind.wrap_u64]
  omega
theorem shr_128 (ah al n : Int) (h1 : Word ah) (h2 : Word al) (hn : 128 ≤ n) : 0 = hiW (shrV (val ah al) n) ∧ 0 = loW (shrV (val ah al) n) := by
  obtain ⟨e1, e2⟩ := shr_great ah al n h1 h2 (by omega)
  refine ⟨e2, ?_⟩
  rw [← e1, ← min_great_r ah n h1, Nat.min_eq_right (by omega)]
  obtain ⟨_, _⟩ := h1
  omega
end Wd

end Go.Proofs.YtbcinapnnlfnbaaGreat
