/-
  math/bits.Len64, LeadingZeros64.
-/
import Derived.Test.YtjgllfpnmmopdaaWid
import Derived.Lib.BitFns
namespace Go.Proofs.Ytjgllfpnmmopdaa
open Go.RowKit Wd

namespace Wd
theorem len8_all : ∀ n : Fin 256, 0 ≤ Lib.len8 (n.val : Int) ∧ Lib.len8 (n.val : Int) ≤ 8 ∧ ((n.val : Int) ≠ 0 → 2 ^ (Lib.len8 (n.val : Int)).toNat ≤ 2 * n.val ∧ n.val < 2 ^ (Lib.len8 (n.val : Int)).toNat) := by decide +kernel
/-- Of a number from 1 to 255: 2^len is above it, at most twice it. -/
theorem len8_pow (b : Int) (h0 : 1 ≤ b) (h1 : b ≤ 255) : 0 ≤ Lib.len8 b ∧ Lib.len8 b ≤ 8 ∧ (2 : Int) ^ (Lib.len8 b).toNat ≤ 2 * b ∧ b < (2 : Int) ^ (Lib.len8 b).toNat := by
  have h := len8_all ⟨b.toNat, by omega⟩
  simp only [Int.toNat_of_nonneg (show 0 ≤ b by omega)] at h
  obtain ⟨h1, h2, h3⟩ := h
  obtain ⟨h4, h5⟩ := h3 (by omega)
  have e : ((2 ^ (Lib.len8 b).toNat : Nat) : Int) = (2 : Int) ^ (Lib.len8 b).toNat := by simp
  refine ⟨h1, h2, ?_, ?_⟩ <;> omega
/-- Len of x is n. -/
def Len (x n : Int) : Prop := 1 ≤ n ∧ n ≤ 64 ∧ (2 : Int) ^ n.toNat ≤ 2 * x ∧ x < (2 : Int) ^ n.toNat
theorem len_of (x b : Int) (d : Nat) (D : Int) (hd : d ≤ 56) (hD : (2 : Int) ^ d = D) (hb : b = x / D) (_hx : 0 ≤ x) (h0 : 1 ≤ b) (h1 : b ≤ 255) : Len x (d + Lib.len8 b) := by
  obtain ⟨l0, l1, p0, p1⟩ := len8_pow b h0 h1
  have lp : 1 ≤ Lib.len8 b := by
    by_cases z : Lib.len8 b = 0
    · rw [z] at p1; simp at p1; omega
    · omega
  have e : (2 : Int) ^ ((d : Int) + Lib.len8 b).toNat = D * 2 ^ (Lib.len8 b).toNat := by
    rw [show ((d : Int) + Lib.len8 b).toNat = d + (Lib.len8 b).toNat by omega, Int.pow_add, hD]
  have hDp : 0 < D := by
    have : 0 < (2 : Nat) ^ d := Nat.two_pow_pos d
    have h : ((2 ^ d : Nat) : Int) = (2 : Int) ^ d := by simp
    omega
  have q0 := Int.mul_ediv_add_emod x D
  have q1 := Int.emod_nonneg x (show D ≠ 0 by omega)
  have q2 := Int.emod_lt_of_pos x hDp
  rw [← hb] at q0
  have m0 := Int.mul_le_mul_of_nonneg_left p0 (show 0 ≤ D by omega)
  have m1 := Int.mul_le_mul_of_nonneg_left (show b + 1 ≤ 2 ^ (Lib.len8 b).toNat by omega) (show 0 ≤ D by omega)
  refine ⟨by omega, by omega, ?_, ?_⟩
  · rw [e]
    calc D * 2 ^ (Lib.len8 b).toNat ≤ D * (2 * b) := m0
      _ = 2 * (D * b) := by rw [← Int.mul_assoc, Int.mul_comm D 2, Int.mul_assoc]
      _ ≤ 2 * x := by omega
  · rw [e]
    calc x < D * b + D := by omega
      _ = D * (b + 1) := by rw [Int.mul_add, Int.mul_one]
      _ ≤ _ := m1
end Wd

set_option maxHeartbeats 4000000 in
set_option maxRecDepth 100000 in
theorem len64_any (x : Int) (h0 : 1 ≤ x) (h1 : x < 18446744073709551616) (w : World) :
    Calls Try.prog 79 #[.int .u64 x] w fun e w' => ∃ n : Int, e = .returned (.int .i64 n) ∧ Len x n ∧ w' = w := by
  by_cases c1 : 4294967296 ≤ x
  · by_cases c2 : 65536 ≤ x / 4294967296
    · by_cases c3 : 256 ≤ x / 4294967296 / 65536
      · have hl := len_of x (x / 4294967296 / 65536 / 256) 56 72057594037927936 (by omega) (by rfl) (by omega) (by omega) (by omega) (by omega)
        obtain ⟨l0, l1, _, _⟩ := len8_pow (x / 4294967296 / 65536 / 256) (by omega) (by omega)
        have hix := fun wx => Lib.run_index_len8tab (P := Try.prog) wx 9 .u8 (x / 4294967296 / 65536 / 256) Try.underlying9 (by omega) (by omega)
        have HL : Hid (Len x (56 + Lib.len8 (x / 4294967296 / 65536 / 256))) := hl
        clear hl
        go_enter Try.func79, Try.ntmps79
        go_wp2
        go_ret
        exact ⟨_, rfl, HL.out, rfl⟩
      · have hl := len_of x (x / 4294967296 / 65536) 48 281474976710656 (by omega) (by rfl) (by omega) (by omega) (by omega) (by omega)
        obtain ⟨l0, l1, _, _⟩ := len8_pow (x / 4294967296 / 65536) (by omega) (by omega)
        have hix := fun wx => Lib.run_index_len8tab (P := Try.prog) wx 9 .u8 (x / 4294967296 / 65536) Try.underlying9 (by omega) (by omega)
        have HL : Hid (Len x (48 + Lib.len8 (x / 4294967296 / 65536))) := hl
        clear hl
        go_enter Try.func79, Try.ntmps79
        go_wp2
        go_ret
        exact ⟨_, rfl, HL.out, rfl⟩
    · by_cases c3 : 256 ≤ x / 4294967296
      · have hl := len_of x (x / 4294967296 / 256) 40 1099511627776 (by omega) (by rfl) (by omega) (by omega) (by omega) (by omega)
        obtain ⟨l0, l1, _, _⟩ := len8_pow (x / 4294967296 / 256) (by omega) (by omega)
        have hix := fun wx => Lib.run_index_len8tab (P := Try.prog) wx 9 .u8 (x / 4294967296 / 256) Try.underlying9 (by omega) (by omega)
        have HL : Hid (Len x (40 + Lib.len8 (x / 4294967296 / 256))) := hl
        clear hl
        go_enter Try.func79, Try.ntmps79
        go_wp2
        go_ret
        exact ⟨_, rfl, HL.out, rfl⟩
      · have hl := len_of x (x / 4294967296) 32 4294967296 (by omega) (by rfl) (by omega) (by omega) (by omega) (by omega)
        obtain ⟨l0, l1, _, _⟩ := len8_pow (x / 4294967296) (by omega) (by omega)
        have hix := fun wx => Lib.run_index_len8tab (P := Try.prog) wx 9 .u8 (x / 4294967296) Try.underlying9 (by omega) (by omega)
        have HL : Hid (Len x (32 + Lib.len8 (x / 4294967296))) := hl
        clear hl
        go_enter Try.func79, Try.ntmps79
        go_wp2
        go_ret
        exact ⟨_, rfl, HL.out, rfl⟩
  · by_cases c2 : 65536 ≤ x
    · by_cases c3 : 256 ≤ x / 65536
      · have hl := len_of x (x / 65536 / 256) 24 16777216 (by omega) (by rfl) (by omega) (by omega) (by omega) (by omega)
        obtain ⟨l0, l1, _, _⟩ := len8_pow (x / 65536 / 256) (by omega) (by omega)
        have hix := fun wx => Lib.run_index_len8tab (P := Try.prog) wx 9 .u8 (x / 65536 / 256) Try.underlying9 (by omega) (by omega)
        have HL : Hid (Len x (24 + Lib.len8 (x / 65536 / 256))) := hl
        clear hl
        go_enter Try.func79, Try.ntmps79
        go_wp2
        go_ret
        exact ⟨_, rfl, HL.out, rfl⟩
      · have hl := len_of x (x / 65536) 16 65536 (by omega) (by rfl) (by omega) (by omega) (by omega) (by omega)
        obtain ⟨l0, l1, _, _⟩ := len8_pow (x / 65536) (by omega) (by omega)
        have hix := fun wx => Lib.run_index_len8tab (P := Try.prog) wx 9 .u8 (x / 65536) Try.underlying9 (by omega) (by omega)
        have HL : Hid (Len x (16 + Lib.len8 (x / 65536))) := hl
        clear hl
        go_enter Try.func79, Try.ntmps79
        go_wp2
        go_ret
        exact ⟨_, rfl, HL.out, rfl⟩
    · by_cases c3 : 256 ≤ x
      · have hl := len_of x (x / 256) 8 256 (by omega) (by rfl) (by omega) (by omega) (by omega) (by omega)
        obtain ⟨l0, l1, _, _⟩ := len8_pow (x / 256) (by omega) (by omega)
        have hix := fun wx => Lib.run_index_len8tab (P := Try.prog) wx 9 .u8 (x / 256) Try.underlying9 (by omega) (by omega)
        have HL : Hid (Len x (8 + Lib.len8 (x / 256))) := hl
        clear hl
        go_enter Try.func79, Try.ntmps79
        go_wp2
        go_ret
        exact ⟨_, rfl, HL.out, rfl⟩
      · have hl := len_of x (x) 0 1 (by omega) (by rfl) (by omega) (by omega) (by omega) (by omega)
        obtain ⟨l0, l1, _, _⟩ := len8_pow (x) (by omega) (by omega)
        have hix := fun wx => Lib.run_index_len8tab (P := Try.prog) wx 9 .u8 (x) Try.underlying9 (by omega) (by omega)
        have HL : Hid (Len x (Lib.len8 (x))) := by { have h2 := hl; simp only [Int.natCast_zero, Int.zero_add] at h2; exact h2 }
        clear hl
        go_enter Try.func79, Try.ntmps79
        go_wp2
        go_ret
        exact ⟨_, rfl, HL.out, rfl⟩

set_option maxHeartbeats 400000 in
/-- LeadingZeros64 of y, at least 1: shifted up by that much its highest bit is set. -/
theorem lz_any (y : Int) (h0 : 1 ≤ y) (h1 : y < 18446744073709551616) (w : World) :
    Calls Try.prog 78 #[.int .u64 y] w fun e w' => ∃ s : Int, e = .returned (.int .i64 s) ∧ 0 ≤ s ∧ s ≤ 63 ∧ 9223372036854775808 ≤ y * 2 ^ s.toNat ∧ y * 2 ^ s.toNat < 18446744073709551616 ∧ w' = w := by
  go_enter Try.func78, Try.ntmps78
  go_wp2_with fail
  refine (len64_any y h0 h1 _).mono ?_
  rintro e w1 ⟨n, rfl, hn, rfl⟩
  obtain ⟨n0, n1, n2, n3⟩ := hn
  have N2 : Hid ((2 : Int) ^ n.toNat ≤ 2 * y ∧ y < 2 ^ n.toNat) := ⟨n2, n3⟩
  clear n2 n3
  go_wp2
  go_ret
  refine ⟨_, rfl, by omega, by omega, ?_, ?_, rfl⟩
  · obtain ⟨n2, n3⟩ := N2.out
    have e : (2 : Int) ^ n.toNat * 2 ^ (64 - n).toNat = 18446744073709551616 := by
      rw [← Int.pow_add, show n.toNat + (64 - n).toNat = 64 by omega]; rfl
    have hp : (0 : Int) ≤ 2 ^ (64 - n).toNat := Int.pow_nonneg (by decide)
    have m := Int.mul_le_mul_of_nonneg_right n2 hp
    rw [e, Int.mul_assoc] at m
    omega
  · obtain ⟨n2, n3⟩ := N2.out
    have e : (2 : Int) ^ n.toNat * 2 ^ (64 - n).toNat = 18446744073709551616 := by
      rw [← Int.pow_add, show n.toNat + (64 - n).toNat = 64 by omega]; rfl
    have hp : (0 : Int) < 2 ^ (64 - n).toNat := Int.pow_pos (by decide)
    have m := Int.mul_lt_mul_of_pos_right n3 hp
    rw [e] at m
    exact m
end Go.Proofs.Ytjgllfpnmmopdaa
