/-
 THE CONTRACTS OF PACKAGE ladder: Rung.
 THE CONTRACTS OF PACKAGE ladder: stepped.
 THE CONTRACTS OF PACKAGE ladder: Half, Bounds.
 THE CONTRACTS OF THE REFERENCE's FUNCTIONS: rungs, Rung.
 THE CONTRACTS OF THE REFERENCE's FUNCTIONS: Half, Bounds.
-/
import Derived.Test.YtdkbmligaodpmaaGreatDoorWidz
import Derived.Test.YtdkbmligaodpmaaGreatDoorMthz
import Derived.Test.YtdkbmligaodpmaaGreatDoorXfxz
import Derived.WalkMore
import Derived.Deep.LoopGhost
namespace Go.Proofs.YtdkbmligaodpmaaGreatDoor
open Go.RowKit Wd Ld

def Tab (w : World) : Prop := ∀ j, j < 32 → w.cell? ⟨0, j, none⟩ = some (.int .u64 (R j : Nat))
theorem Tab.below {w w' : World} (h : Below w.heap.size w w') (hT : Tab w) : Tab w' := fun j hj => keepC h (hT j hj)
end Go.Proofs.YtdkbmligaodpmaaGreatDoor
namespace Go.Proofs.YtdkbmligaodpmaaGreatDoor
open Go.RowKit Wd Ld
namespace Ld
theorem mask_int (k : Nat) (hk : k < 32) : (4294967296 : Int) / 2 ^ (k + 1) = ((2 ^ (31 - k) : Nat) : Int) := by
 have e : (4294967296 : Nat) / 2 ^ (k + 1) = 2 ^ (31 - k) := by
  rw [show (4294967296 : Nat) = 2 ^ (31 - k) * 2 ^ (k + 1) by rw [← Nat.pow_add, show 31 - k + (k + 1) = 32 by omega]]
  exact Nat.mul_div_cancel _ (Nat.pow_pos (by decide))
 rw [← e, Int.natCast_ediv, Int.natCast_pow]
 rfl
theorem and_pow (f k : Nat) : f &&& 2 ^ k = if f.testBit k = true then 2 ^ k else 0 := by
 apply Nat.eq_of_testBit_eq
 intro i
 rw [Nat.testBit_and, Nat.testBit_two_pow]
 by_cases hi : k = i
 ·subst hi; split <;> simp_all
 ·split <;> simp_all
theorem bit_and (f k : Nat) (hf : f < 4294967296) (hk : k < 32) : bits .and .u64 (f : Int) (4294967296 / 2 ^ (k + 1)) = (if f / 2 ^ (31 - k) % 2 = 1 then ((2 ^ (31 - k) : Nat) : Int) else 0) := by
 have h31 : 2 ^ (31 - k) ≤ 2 ^ 31 := two_pow_le (by omega)
 rw [mask_int k hk]
 refine (bits_and_u64_nat f (2 ^ (31 - k)) (by omega) (by omega)).trans ?_
 rw [and_pow, Nat.testBit_eq_decide_div_mod_eq]
 by_cases h : f / 2 ^ (31 - k) % 2 = 1
 ·rw [if_pos (by simp [h]), if_pos h]
 ·rw [if_neg (by simpa using h), if_neg h]; rfl
theorem bit_yes {f k : Nat} (hf : f < 4294967296) (hk : k < 32) (h : f / 2 ^ (31 - k) % 2 = 1) : (bits .and .u64 (f : Int) (4294967296 / 2 ^ (k + 1)) != 0) = true := by
 rw [bit_and f k hf hk, if_pos h]
 have : 0 < 2 ^ (31 - k) := Nat.pow_pos (by decide)
 simp only [bne_iff_ne, ne_eq]
 omega
theorem bit_no {f k : Nat} (hf : f < 4294967296) (hk : k < 32) (h : ¬ f / 2 ^ (31 - k) % 2 = 1) : (bits .and .u64 (f : Int) (4294967296 / 2 ^ (k + 1)) != 0) = false := by
 rw [bit_and f k hf hk, if_neg h]; rfl
theorem steps_yes {f k : Nat} (h : f / 2 ^ (31 - k) % 2 = 1) : hiW ((steps f k : Nat) * (R k : Nat) : Int) = (steps f (k + 1) : Nat) := by
 simp only [steps, if_pos h, hiW]
 rw [Int.natCast_ediv, Int.natCast_mul]
 rfl
theorem steps_no {f k : Nat} (h : ¬ f / 2 ^ (31 - k) % 2 = 1) : steps f (k + 1) = steps f k := by
 simp only [steps, if_neg h]
theorem steps_word (f k : Nat) (hk : k ≤ 32) : Word (steps f k : Nat) := by
 have := steps_top f k hk
 exact ⟨by omega, by omega⟩
theorem R_word (k : Nat) (hk : k < 32) : Word (R k : Nat) := by
 have := rung_top k hk
 exact ⟨by omega, by omega⟩
end Ld

set_option maxRecDepth 20000 in
set_option maxHeartbeats 1000000 in
theorem stepped_any (f : Nat) (hf : f < 4294967296) (w : World) (hT : Tab w) : Calls Tryz.prog 130 #[.int .u64 f] w fun e w' => e = .returned (.int .u64 (steps f 32 : Nat)) ∧ Below w.heap.size w w' := by
 go_enter Tryz.func130, Tryz.ntmps130
 go_wp2
 go_loopw [3, 5] (fun r i wr => ∃ k : Nat, k ≤ 32 ∧ i = .int .i64 k ∧ r = .int .u64 (steps f k : Nat) ∧ Below w.heap.size w wr) (fun _ i _ => 32 - (intOf i).toNat)
 case atStart => exact ⟨0, by omega, rfl, rfl, Below.refl _ _⟩
 case round =>
  obtain ⟨k, hk, rfl, rfl, hb⟩ := hrel
  by_cases hlt : k < 32
  ·by_cases hbit : f / 2 ^ (31 - k) % 2 = 1
   ·have ht := bit_yes hf hlt hbit
    have hc := Tab.below hb hT k hlt
    have es := steps_yes hbit
    have ES : Hid _ := es
    have HB : Hid _ := hbit
    clear es hbit
    go_wp2_with (go_at_call 64; refine (mul_any _ _ (steps_word f k hk) (R_word k hlt) _).mono ?_; rintro e w1 ⟨rfl, hb1⟩)
    rename_i K hK
    change K (Act.put _ (some 19) (.int .u64 (hiW ((steps f k : Nat) * (R k : Nat) : Int)))) w1
    go_wp2
    go_roundw
    case rel =>
     refine ⟨k + 1, by omega, by go_num, by rw [← ES.out], hb.trans (hb1.mono hb.size)⟩
    case measure => simp [intOf]; omega
   ·have ht := bit_no hf hlt hbit
    have ES : Hid _ := steps_no hbit
    clear hbit
    go_wp2
    go_roundw
    case rel =>
     exact ⟨k + 1, by omega, by go_num, by rw [ES.out], hb⟩
    case measure => simp [intOf]; omega
  ·obtain rfl : k = 32 := by omega
   go_wp2
   go_ret
   exact ⟨rfl, hb⟩
end Go.Proofs.YtdkbmligaodpmaaGreatDoor
namespace Go.Proofs.YtdkbmligaodpmaaGreatDoor
open Go.RowKit Wd Ld

namespace Ld
theorem half_zero {e : Nat} (h : 63 ≤ e / 4294967296) : halfN e = 0 := by unfold halfN; rw [if_pos h]
theorem half_some {e : Nat} (h : ¬ 63 ≤ e / 4294967296) : ((halfN e : Nat) : Int) = ((steps (e % 4294967296) 32 : Nat) : Int) / 2 ^ (e / 4294967296) := by
 unfold halfN; rw [if_neg h, Int.natCast_ediv, Int.natCast_pow]; rfl
end Ld

set_option maxHeartbeats 1000000 in
theorem half_any (e : Nat) (he : e < 18446744073709551616) (w : World) (hT : Tab w) : Calls Tryz.prog 82 #[.int .u64 e] w fun r w' => r = .returned (.int .u64 (halfN e : Nat)) ∧ Below w.heap.size w w' := by
 have hq : (e : Int) / 4294967296 = ((e / 4294967296 : Nat) : Int) := by omega
 have hm : (e : Int) % 4294967296 = ((e % 4294967296 : Nat) : Int) := by omega
 have hn : e / 4294967296 < 4294967296 := by omega
 have hf : e % 4294967296 < 4294967296 := Nat.mod_lt _ (by decide)
 by_cases h : 63 ≤ e / 4294967296
 ·rw [half_zero h]
  clear hf hm
  generalize e / 4294967296 = n at *
  go_enter Tryz.func82, Tryz.ntmps82
  go_wp2
  go_ret
  exact ⟨rfl, Below.refl _ _⟩
 ·rw [half_some h]
  generalize e / 4294967296 = n at *
  generalize e % 4294967296 = f at *
  go_enter Tryz.func82, Tryz.ntmps82
  go_wp2_with (go_at_call 130; refine (stepped_any f hf _ hT).mono ?_; rintro e w1 ⟨rfl, hb1⟩)
  go_ret
  exact ⟨rfl, hb1⟩

end Go.Proofs.YtdkbmligaodpmaaGreatDoor
namespace Go.Proofs.YtdkbmligaodpmaaGreatDoor
open Go.RowKit Wd Ld

def Row (w : World) (g : Nat) : Prop := ∀ j, j < 32 → w.cell? ⟨g, j, none⟩ = some (.int .u64 (R j : Nat))
theorem Row.below {w w' : World} {g : Nat} (h : Below w.heap.size w w') (hT : Row w g) : Row w' g := fun j hj => keepC h (hT j hj)

abbrev rowCells : Array Value := (rungs.map fun n : Nat => Value.int .u64 (n : Int)).toArray
theorem row_new (w : World) (t : TypeId) : Row (w.alloc (.cells rowCells t)) w.heap.size := by
 intro j hj
 have e : (w.alloc (.cells rowCells t)).cell? ⟨w.heap.size, j, none⟩ = rowCells[j]? := by simp [go_sem]
 have hl : j < rungs.length := hj
 rw [e]
 simp only [rowCells, List.getElem?_toArray, List.getElem?_map, R, List.getD_eq_getElem?_getD]
 rw [List.getElem?_eq_getElem hl]
 rfl
set_option maxHeartbeats 1000000 in
theorem rrungs_any (w : World) : Calls Tryz.prog 122 #[] w fun e w' => e = .returned (.slice (some ⟨w.heap.size, 0, none⟩) 32 32) ∧ Below w.heap.size w w' ∧ Row w' w.heap.size := by
 go_enter Tryz.func122, Tryz.ntmps122
 go_wp2
 go_ret
 exact ⟨rfl, (Below.refl _ _).alloc (Nat.le_refl _) _, row_new w _⟩

end Go.Proofs.YtdkbmligaodpmaaGreatDoor
namespace Go.Proofs.YtdkbmligaodpmaaGreatDoor
open Go.RowKit Wd Ld
namespace Ld
theorem rbit (e k : Nat) (he : e < 18446744073709551616) : bits .and .u64 ((e : Int) / 2 ^ k) 1 = ((e / 2 ^ k % 2 : Nat) : Int) := by
 have hl : e / 2 ^ k ≤ e := Nat.div_le_self _ _
 have e1 : (e : Int) / 2 ^ k = ((e / 2 ^ k : Nat) : Int) := by rw [Int.natCast_ediv, Int.natCast_pow]; rfl
 rw [e1]
 refine (bits_and_u64_nat (e / 2 ^ k) 1 (by omega) (by decide)).trans ?_
 rw [Nat.and_one_is_mod]
theorem bit_mod (e k : Nat) (hk : k < 32) : e % 4294967296 / 2 ^ (31 - k) % 2 = e / 2 ^ (31 - k) % 2 := by
 have h1 : (e % 2 ^ 32).testBit (31 - k) = e.testBit (31 - k) := by
  rw [Nat.testBit_mod_two_pow]; simp; omega
 rw [Nat.testBit_eq_decide_div_mod_eq, Nat.testBit_eq_decide_div_mod_eq] at h1
 have h2 := decide_eq_decide.1 h1
 have h3 : (2 : Nat) ^ 32 = 4294967296 := by rfl
 rw [h3] at h2
 omega
end Ld

set_option maxRecDepth 20000 in
set_option maxHeartbeats 1000000 in
set_option maxRecDepth 20000 in
theorem rhalf_any (e : Nat) (he : e < 18446744073709551616) (w : World) : Calls Tryz.prog 71 #[.int .u64 e] w fun r w' => r = .returned (.int .u64 (halfN e : Nat)) ∧ Below w.heap.size w w' := by
 have hq : (e : Int) / 4294967296 = ((e / 4294967296 : Nat) : Int) := by omega
 have hn : e / 4294967296 < 4294967296 := by omega
 by_cases h : 63 ≤ e / 4294967296
 ·rw [half_zero h]
  generalize e / 4294967296 = n at *
  go_enter Tryz.func71, Tryz.ntmps71
  go_wp2
  go_ret
  exact ⟨rfl, Below.refl _ _⟩
 ·rw [half_some h]
  have hB : ∀ k, k < 32 → e % 4294967296 / 2 ^ (31 - k) % 2 = e / 2 ^ (31 - k) % 2 := fun k hk => bit_mod e k hk
  have hA : ∀ k, bits .and .u64 ((e : Int) / 2 ^ k) 1 = ((e / 2 ^ k % 2 : Nat) : Int) := fun k => rbit e k he
  generalize e / 4294967296 = n at *
  generalize e % 4294967296 = f at *
  go_enter Tryz.func71, Tryz.ntmps71
  go_wp2_with (go_at_call 122; refine (rrungs_any _).mono ?_; rintro e w1 ⟨rfl, hb1, hr1⟩)
  go_loopw [5, 6] (fun r i wr => ∃ k : Nat, k ≤ 32 ∧ i = .int .i64 (k + 1 : Int) ∧ r = .int .u64 (steps f k : Nat) ∧ Below w1.heap.size w1 wr) (fun _ i _ => 33 - (intOf i).toNat)
  case atStart => exact ⟨0, by omega, rfl, rfl, Below.refl _ _⟩
  case round =>
   obtain ⟨k, hk, rfl, rfl, hb⟩ := hrel
   by_cases hlt : k < 32
   ·have hc := hr1.below hb k hlt
    have hz : w.heap.size < wr.heap.size := World.block_lt_of_cell? wr _ hc
    have hI : (e : Int) / 2 ^ (31 - k) % 2 = ((f / 2 ^ (31 - k) % 2 : Nat) : Int) := by
     rw [hB k hlt, Int.natCast_emod, Int.natCast_ediv, Int.natCast_pow]; rfl
    by_cases hbit : f / 2 ^ (31 - k) % 2 = 1
    ·have ht : ((e : Int) / 2 ^ (31 - k) % 2 == 1) = true := by rw [hI, hbit]; rfl
     have ES : Hid _ := steps_yes hbit
     clear hbit hI hB
     go_wp2_with (go_at_call 25; refine (rmul_any _ _ (steps_word f k hk) (R_word k hlt) _).mono ?_; rintro e w2 ⟨rfl, hb2⟩)
     rename_i K hK
     change K (Act.put _ (some 29) (.int .u64 (hiW ((steps f k : Nat) * (R k : Nat) : Int)))) w2
     go_wp2
     go_roundw
     case rel =>
      refine ⟨k + 1, by omega, by go_num, by rw [← ES.out], hb.trans (hb2.mono hb.size)⟩
     case measure => simp [intOf]; omega
    ·have ht : ((e : Int) / 2 ^ (31 - k) % 2 == 1) = false := by
      rcases Nat.mod_two_eq_zero_or_one (f / 2 ^ (31 - k)) with h0 | h0
      ·rw [hI, h0]; rfl
      ·exact absurd h0 hbit
     have ES : Hid _ := steps_no hbit
     clear hbit hI hB
     go_wp2
     go_roundw
     case rel =>
      exact ⟨k + 1, by omega, by go_num, by rw [ES.out], hb⟩
     case measure => simp [intOf]; omega
   ·obtain rfl : k = 32 := by omega
    go_wp2
    go_ret
    exact ⟨rfl, hb1.trans (hb.mono hb1.size)⟩

end Go.Proofs.YtdkbmligaodpmaaGreatDoor
