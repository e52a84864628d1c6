/-
  THE CONTRACTS OF THE REFERENCE's FUNCTIONS: Mul.
  THE CONTRACTS OF THE REFERENCE's CALLS (backfillref04).
  THE CONTRACTS OF THE REFERENCE's FUNCTIONS: Shl, Shr.
-/
import Derived.Test.YtjgllfpnmmopdaaGreatDoorWid
import Derived.Test.YtjgllfpnmmopdaaGreatDoorMth
namespace Go.Proofs.YtjgllfpnmmopdaaGreatDoor
open Go.RowKit Wd

set_option maxHeartbeats 1000000 in
theorem rmul_any (x y : Int) (hx : Word x) (hy : Word y) (w : World) :
    Calls Tryz.prog 50 #[.int .u64 x, .int .u64 y] w fun e w' => e = .returned (.agg #[.int .u64 (hiW (x * y)), .int .u64 (loW (x * y))]) ∧ Below w.heap.size w w' := by
  have mx := mask32 x hx
  have my := mask32 y hy
  have e := school x y
  obtain ⟨x0, x1⟩ := hx; obtain ⟨y0, y1⟩ := hy
  obtain ⟨hh0, hh1⟩ := halves (a := x / 4294967296) (b := y / 4294967296) (by omega) (by omega) (by omega) (by omega)
  obtain ⟨hl0, hl1⟩ := halves (a := x / 4294967296) (b := y % 4294967296) (by omega) (by omega) (by omega) (by omega)
  obtain ⟨lh0, lh1⟩ := halves (a := x % 4294967296) (b := y / 4294967296) (by omega) (by omega) (by omega) (by omega)
  obtain ⟨ll0, ll1⟩ := halves (a := x % 4294967296) (b := y % 4294967296) (by omega) (by omega) (by omega) (by omega)
  have m1 := mask32 (x / 4294967296 * (y % 4294967296)) ⟨by omega, by omega⟩
  have m2 := mask32 (x % 4294967296 * (y / 4294967296)) ⟨by omega, by omega⟩
  have m3 := mask32 (x % 4294967296 * (y % 4294967296)) ⟨by omega, by omega⟩
  have eh : x / 4294967296 * (y / 4294967296) + x / 4294967296 * (y % 4294967296) / 4294967296 + x % 4294967296 * (y / 4294967296) / 4294967296 + (x % 4294967296 * (y % 4294967296) / 4294967296 + x / 4294967296 * (y % 4294967296) % 4294967296 + x % 4294967296 * (y / 4294967296) % 4294967296) / 4294967296 = hiW (x * y) := by
    rw [e]; unfold hiW; omega
  have el : IntKind.u64.wrap (IntKind.u64.wrap ((x % 4294967296 * (y % 4294967296) / 4294967296 + x / 4294967296 * (y % 4294967296) % 4294967296 + x % 4294967296 * (y / 4294967296) % 4294967296) * 4294967296) + x % 4294967296 * (y % 4294967296) % 4294967296) = loW (x * y) := by
    rw [e, IntKind.wrap_u64, IntKind.wrap_u64]; unfold loW; omega
  have EH : Hid _ := eh
  have EL : Hid _ := el
  clear e eh el
  go_enter Tryz.func50, Tryz.ntmps50
  go_wp2
  rw [EH.out, EL.out]
  exact bodyPost_ret (v := .agg #[.int .u64 (hiW (x * y)), .int .u64 (loW (x * y))]) (by simp [results, Tryz.results50, go_sem]) rfl ⟨rfl, (Below.refl _ _).alloc (Nat.le_refl _) _⟩
end Go.Proofs.YtjgllfpnmmopdaaGreatDoor
namespace Go.Proofs.YtjgllfpnmmopdaaGreatDoor
open Go.RowKit Wd

theorem rof_num (n : Int) (hn : Word n) (w : World) : Calls Tryz.prog 51 #[.int .u64 n] w fun e w' => e = .returned (.agg #[.int .u64 (hiW n), .int .u64 (loW n)]) ∧ Below w.heap.size w w' := by
  rw [(hi_small hn).1, (hi_small hn).2]
  go_enter Tryz.func51, Tryz.ntmps51
  go_wp2
  exact bodyPost_ret (v := .agg #[.int .u64 0, .int .u64 n]) (by simp [results, Tryz.results51, go_sem]) rfl ⟨rfl, (Below.refl _ _).alloc (Nat.le_refl _) _⟩
end Go.Proofs.YtjgllfpnmmopdaaGreatDoor
namespace Go.Proofs.YtjgllfpnmmopdaaGreatDoor
open Go.RowKit Wd
namespace Wd
theorem shl_128 (ah al n : Int) (hn : 128 ≤ n) : 0 = hiW (shlV (val ah al) n) ∧ 0 = loW (shlV (val ah al) n) := by
  obtain ⟨e1, e2⟩ := shl_great ah al n (by omega)
  refine ⟨?_, e2⟩
  rw [← e1, ← min_great, Nat.min_eq_right (by omega), IntKind.wrap_u64]
  omega
theorem shr_128 (ah al n : Int) (h1 : Word ah) (h2 : Word al) (hn : 128 ≤ n) : 0 = hiW (shrV (val ah al) n) ∧ 0 = loW (shrV (val ah al) n) := by
  obtain ⟨e1, e2⟩ := shr_great ah al n h1 h2 (by omega)
  refine ⟨e2, ?_⟩
  rw [← e1, ← min_great_r ah n h1, Nat.min_eq_right (by omega)]
  obtain ⟨_, _⟩ := h1
  omega
end Wd

set_option maxHeartbeats 400000 in
theorem rshl_any (ah al n : Int) (h1 : Word ah) (h2 : Word al) (hm : n < 9223372036854775808) (w : World) :
    Calls Tryz.prog 84 #[.agg #[.int .u64 ah, .int .u64 al], .int .i64 n] w fun e w' =>
      e = .returned (.agg #[.int .u64 (hiW (shlV (val ah al) n)), .int .u64 (loW (shlV (val ah al) n))]) ∧ Below w.heap.size w w' := by
  by_cases hn : n < 1
  · have es : shlV (val ah al) n = val ah al := by
      by_cases z : n = 0
      · subst z; exact shl_zero _ (val_num h1 h2)
      · exact shl_neg _ _ (by omega)
    rw [es, hi_val h2, lo_val h2]
    clear es
    go_enter Tryz.func84, Tryz.ntmps84
    go_wp2
    exact bodyPost_ret (v := .agg #[.int .u64 ah, .int .u64 al]) (by simp [results, Tryz.results84, go_sem]) rfl ⟨rfl, ((Below.refl _ _).alloc (Nat.le_refl _) _).alloc (by simp) _⟩
  · by_cases hk : n < 64
    · obtain ⟨_, e1, e2⟩ := shl_small ah al n h1 h2 (by omega) hk
      rw [← e1, ← e2]
      clear e1 e2
      go_enter Tryz.func84, Tryz.ntmps84
      go_wp2
      go_region
      go_wp2
      exact bodyPost_ret (v := .agg #[.int .u64 (IntKind.u64.wrap (IntKind.u64.wrap (ah * 2 ^ n.toNat) + al / 2 ^ (64 - n).toNat)), .int .u64 (IntKind.u64.wrap (al * 2 ^ n.toNat))]) (by simp [results, Tryz.results84, go_sem]) rfl ⟨rfl, (((Below.refl _ _).alloc (Nat.le_refl _) _).alloc (by simp) _).drew⟩
    · by_cases hj : n < 128
      · obtain ⟨e1, e2⟩ := shl_great ah al n (by omega)
        rw [← e1, ← e2]
        clear e1 e2
        have hk' : 64 ≤ n := by omega
        go_enter Tryz.func84, Tryz.ntmps84
        go_wp2
        exact bodyPost_ret (v := .agg #[.int .u64 (IntKind.u64.wrap (al * 2 ^ (n - 64).toNat)), .int .u64 0]) (by simp [results, Tryz.results84, go_sem]) rfl ⟨rfl, ((Below.refl _ _).alloc (Nat.le_refl _) _).alloc (by simp) _⟩
      · obtain ⟨e1, e2⟩ := shl_128 ah al n (by omega)
        rw [← e1, ← e2]
        clear e1 e2
        go_enter Tryz.func84, Tryz.ntmps84
        go_wp2
        exact bodyPost_ret (v := .agg #[.int .u64 0, .int .u64 0]) (by simp [results, Tryz.results84, go_sem]) rfl ⟨rfl, ((Below.refl _ _).alloc (Nat.le_refl _) _).alloc (by simp) _⟩

end Go.Proofs.YtjgllfpnmmopdaaGreatDoor
