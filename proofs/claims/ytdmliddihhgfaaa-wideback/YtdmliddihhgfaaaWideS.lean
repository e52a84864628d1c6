/-
  THE CONTRACTS OF PACKAGE wide: Shl, Shr.
-/
import Derived.Test.YtdmliddihhgfaaaWide
import Derived.Test.YtdmliddihhgfaaaMathS
namespace Go.Proofs.Ytdmliddihhgfaaa
open Go.RowKit Wd

set_option maxHeartbeats 400000 in
theorem shl_any (ah al n : Int) (h1 : Word ah) (h2 : Word al) (hm : n < 9223372036854775808) (w : World) :
    Calls Try.prog 22 #[.agg #[.int .u64 ah, .int .u64 al], .int .i64 n] w fun e w' =>
      e = .returned (.agg #[.int .u64 (hiW (shlV (val ah al) n)), .int .u64 (loW (shlV (val ah al) n))]) ∧ Below w.heap.size w w' := by
  by_cases hn : n < 0
  · rw [shl_neg _ _ hn, hi_val h2, lo_val h2]
    go_enter Try.func22, Try.ntmps22
    go_wp2
    exact bodyPost_ret (v := .agg #[.int .u64 ah, .int .u64 al]) (by simp [results, Try.results22, go_sem]) rfl ⟨rfl, ((Below.refl _ _).alloc (Nat.le_refl _) _).alloc (by simp) _⟩
  · by_cases hk : n < 64
    · obtain ⟨e1, _, e2⟩ := shl_small ah al n h1 h2 (by omega) hk
      rw [← e1, ← e2]
      clear e1 e2
      go_enter Try.func22, Try.ntmps22
      go_wp2
      go_region
      go_wp2
      exact bodyPost_ret (v := .agg #[.int .u64 (bits .or .u64 (IntKind.u64.wrap (ah * 2 ^ n.toNat)) (al / 2 ^ (64 - n).toNat)), .int .u64 (IntKind.u64.wrap (al * 2 ^ n.toNat))]) (by simp [results, Try.results22, go_sem]) rfl ⟨rfl, (((Below.refl _ _).alloc (Nat.le_refl _) _).alloc (by simp) _).drew⟩
    · obtain ⟨e1, e2⟩ := shl_great ah al n (by omega)
      rw [← e1, ← e2, ← min_great al n]
      clear e1 e2
      have hk' : 64 ≤ n := by omega
      go_enter Try.func22, Try.ntmps22
      go_wp2
      exact bodyPost_ret (v := .agg #[.int .u64 (IntKind.u64.wrap (al * 2 ^ min (n - 64).toNat 64)), .int .u64 0]) (by simp [results, Try.results22, go_sem]) rfl ⟨rfl, ((Below.refl _ _).alloc (Nat.le_refl _) _).alloc (by simp) _⟩

set_option maxHeartbeats 400000 in
theorem shr_any (ah al n : Int) (h1 : Word ah) (h2 : Word al) (hm : n < 9223372036854775808) (w : World) :
    Calls Try.prog 24 #[.agg #[.int .u64 ah, .int .u64 al], .int .i64 n] w fun e w' =>
      e = .returned (.agg #[.int .u64 (hiW (shrV (val ah al) n)), .int .u64 (loW (shrV (val ah al) n))]) ∧ Below w.heap.size w w' := by
  by_cases hn : n < 0
  · rw [shr_neg _ _ hn, hi_val h2, lo_val h2]
    go_enter Try.func24, Try.ntmps24
    go_wp2
    exact bodyPost_ret (v := .agg #[.int .u64 ah, .int .u64 al]) (by simp [results, Try.results24, go_sem]) rfl ⟨rfl, ((Below.refl _ _).alloc (Nat.le_refl _) _).alloc (by simp) _⟩
  · by_cases hk : n < 64
    · obtain ⟨e1, _, e2⟩ := shr_small ah al n h1 h2 (by omega) hk
      rw [← e1, ← e2]
      clear e1 e2
      go_enter Try.func24, Try.ntmps24
      go_wp2
      go_region
      go_wp2
      exact bodyPost_ret (v := .agg #[.int .u64 (ah / 2 ^ n.toNat), .int .u64 (bits .or .u64 (al / 2 ^ n.toNat) (IntKind.u64.wrap (ah * 2 ^ (64 - n).toNat)))]) (by simp [results, Try.results24, go_sem]) rfl ⟨rfl, (((Below.refl _ _).alloc (Nat.le_refl _) _).alloc (by simp) _).drew⟩
    · obtain ⟨e1, e2⟩ := shr_great ah al n h1 h2 (by omega)
      rw [← e1, ← e2, ← min_great_r ah n h1]
      clear e1 e2
      have hk' : 64 ≤ n := by omega
      go_enter Try.func24, Try.ntmps24
      go_wp2
      exact bodyPost_ret (v := .agg #[.int .u64 0, .int .u64 (ah / 2 ^ min (n - 64).toNat 64)]) (by simp [results, Try.results24, go_sem]) rfl ⟨rfl, ((Below.refl _ _).alloc (Nat.le_refl _) _).alloc (by simp) _⟩
end Go.Proofs.Ytdmliddihhgfaaa
