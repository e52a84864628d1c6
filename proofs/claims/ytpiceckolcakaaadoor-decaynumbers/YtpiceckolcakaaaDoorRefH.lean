/-
  THE CONTRACTS OF THE REFERENCE's FUNCTIONS: Half, Bounds.
-/
import Derived.Test.YtpiceckolcakaaaDoorLadH
import Derived.Test.YtpiceckolcakaaaDoorRefL
import Derived.Test.YtpiceckolcakaaaDoorRefB
namespace Go.Proofs.YtpiceckolcakaaaDoor
open Go.RowKit Wd Ld
namespace Ld
theorem rbit (e k : Nat) (he : e < 18446744073709551616) : bits .and .u64 ((e : Int) / 2 ^ k) 1 = ((e / 2 ^ k % 2 : Nat) : Int) := by
  have hl : e / 2 ^ k ≤ e := Nat.div_le_self _ _
  have e1 : (e : Int) / 2 ^ k = ((e / 2 ^ k : Nat) : Int) := by rw [Int.natCast_ediv, Int.natCast_pow]; rfl
  rw [e1]
  refine (bits_and_u64_nat (e / 2 ^ k) 1 (by omega) (by decide)).trans ?_
  rw [Nat.and_one_is_mod]
theorem bit_mod (e k : Nat) (hk : k < 32) : e % 4294967296 / 2 ^ (31 - k) % 2 = e / 2 ^ (31 - k) % 2 := by
  have h1 : (e % 2 ^ 32).testBit (31 - k) = e.testBit (31 - k) := by
    rw [Nat.testBit_mod_two_pow]; simp; omega
  rw [Nat.testBit_eq_decide_div_mod_eq, Nat.testBit_eq_decide_div_mod_eq] at h1
  have h2 := decide_eq_decide.1 h1
  have h3 : (2 : Nat) ^ 32 = 4294967296 := by rfl
  rw [h3] at h2
  omega
end Ld

set_option maxHeartbeats 1000000 in
theorem rhalf_any (e : Nat) (he : e < 18446744073709551616) (w : World) : Calls Tryd.prog 19 #[.int .u64 e] w fun r w' => r = .returned (.int .u64 (halfN e : Nat)) ∧ Below w.heap.size w w' := by
  have hq : (e : Int) / 4294967296 = ((e / 4294967296 : Nat) : Int) := by omega
  have hn : e / 4294967296 < 4294967296 := by omega
  by_cases h : 63 ≤ e / 4294967296
  · rw [half_zero h]
    generalize e / 4294967296 = n at *
    go_enter Tryd.func19, Tryd.ntmps19
    go_wp2
    go_ret
    exact ⟨rfl, Below.refl _ _⟩
  · rw [half_some h]
    have hB : ∀ k, k < 32 → e % 4294967296 / 2 ^ (31 - k) % 2 = e / 2 ^ (31 - k) % 2 := fun k hk => bit_mod e k hk
    have hA : ∀ k, bits .and .u64 ((e : Int) / 2 ^ k) 1 = ((e / 2 ^ k % 2 : Nat) : Int) := fun k => rbit e k he
    generalize e / 4294967296 = n at *
    generalize e % 4294967296 = f at *
    go_enter Tryd.func19, Tryd.ntmps19
    go_wp2_with (go_at_call 30; refine (rrungs_any _).mono ?_; rintro e w1 ⟨rfl, hb1, hr1⟩)
    go_loopw [5, 6] (fun r i wr => ∃ k : Nat, k ≤ 32 ∧ i = .int .i64 (k + 1 : Int) ∧ r = .int .u64 (steps f k : Nat) ∧ Below w1.heap.size w1 wr) (fun _ i _ => 33 - (intOf i).toNat)
    case atStart => exact ⟨0, by omega, rfl, rfl, Below.refl _ _⟩
    case round =>
      obtain ⟨k, hk, rfl, rfl, hb⟩ := hrel
      by_cases hlt : k < 32
      · have hc := hr1.below hb k hlt
        have hz : w.heap.size < wr.heap.size := World.block_lt_of_cell? wr _ hc
        have hI : (e : Int) / 2 ^ (31 - k) % 2 = ((f / 2 ^ (31 - k) % 2 : Nat) : Int) := by
          rw [hB k hlt, Int.natCast_emod, Int.natCast_ediv, Int.natCast_pow]; rfl
        by_cases hbit : f / 2 ^ (31 - k) % 2 = 1
        · have ht : ((e : Int) / 2 ^ (31 - k) % 2 == 1) = true := by rw [hI, hbit]; rfl
          have ES : Hid _ := steps_yes hbit
          clear hbit hI hB
          go_wp2_with (go_at_call 31; refine (rmul_any _ _ (steps_word f k hk) (R_word k hlt) _).mono ?_; rintro e w2 ⟨rfl, hb2⟩)
          rename_i K hK
          change K (Act.put _ (some 29) (.int .u64 (hiW ((steps f k : Nat) * (R k : Nat) : Int)))) w2
          go_wp2
          go_roundw
          case rel =>
            refine ⟨k + 1, by omega, by go_num, by rw [← ES.out], hb.trans (hb2.mono hb.size)⟩
          case measure => simp [intOf]; omega
        · have ht : ((e : Int) / 2 ^ (31 - k) % 2 == 1) = false := by
            rcases Nat.mod_two_eq_zero_or_one (f / 2 ^ (31 - k)) with h0 | h0
            · rw [hI, h0]; rfl
            · exact absurd h0 hbit
          have ES : Hid _ := steps_no hbit
          clear hbit hI hB
          go_wp2
          go_roundw
          case rel =>
            exact ⟨k + 1, by omega, by go_num, by rw [ES.out], hb⟩
          case measure => simp [intOf]; omega
      · obtain rfl : k = 32 := by omega
        go_wp2
        go_ret
        exact ⟨rfl, hb1.trans (hb.mono hb1.size)⟩

end Go.Proofs.YtpiceckolcakaaaDoor
