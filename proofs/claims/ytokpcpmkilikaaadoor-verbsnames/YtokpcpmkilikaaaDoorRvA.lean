/-
  Layer 8's reference: word, named, text, value.
-/
import Derived.Test.YtokpcpmkilikaaaDoorRows
import Derived.Test.YtokpcpmkilikaaaDoorVbD
import Derived.WalkKit
import Derived.WalkSpells
import Derived.WalkLawsBesides
import Derived.Deep.LoopGhost
import Derived.Deep.RegionHeld3
import Derived.Deep.QuietTactic
import Derived.BigQuiet
import Derived.RowKit3
import Derived.Lib.Strings
namespace Go.Proofs.YtokpcpmkilikaaaDoor
open Go.RowKit Vb

/-- Bytes as a text; a command as a value. -/
def str (s : Bs) : ByteArray := ⟨s.toArray⟩
def cmV (c : Cm) : Value := .agg #[.int .i64 c.kind, .string (str c.nm), .string (str c.pa), .int .i64 c.sh, .int .i64 c.nd, .int .i64 c.lm, .int .i64 c.jb, .int .i64 c.tk]

theorem word_no (k : Int) (h : k < 1 ∨ 13 < k) (w : World) : Calls Tryd.prog 21 #[.int .i64 k] w fun e w' => e = .returned (.tuple #[.string ⟨#[]⟩, .string ⟨#[]⟩]) ∧ w' = w := by
  have e1 : (k == 1) = false := by rw [beq_eq_false_iff_ne]; omega
  have e2 : (k == 2) = false := by rw [beq_eq_false_iff_ne]; omega
  have e3 : (k == 3) = false := by rw [beq_eq_false_iff_ne]; omega
  have e4 : (k == 4) = false := by rw [beq_eq_false_iff_ne]; omega
  have e5 : (k == 5) = false := by rw [beq_eq_false_iff_ne]; omega
  have e6 : (k == 6) = false := by rw [beq_eq_false_iff_ne]; omega
  have e7 : (k == 7) = false := by rw [beq_eq_false_iff_ne]; omega
  have e8 : (k == 8) = false := by rw [beq_eq_false_iff_ne]; omega
  have e9 : (k == 9) = false := by rw [beq_eq_false_iff_ne]; omega
  have e10 : (k == 10) = false := by rw [beq_eq_false_iff_ne]; omega
  have e11 : (k == 11) = false := by rw [beq_eq_false_iff_ne]; omega
  have e12 : (k == 12) = false := by rw [beq_eq_false_iff_ne]; omega
  have e13 : (k == 13) = false := by rw [beq_eq_false_iff_ne]; omega
  clear h
  go_enter Tryd.func21, Tryd.ntmps21
  go_wp2
  go_ret2
  exact ⟨rfl, rfl⟩
theorem word_at_1 (w : World) : Calls Tryd.prog 21 #[.int .i64 1] w fun e w' => e = .returned (.tuple #[.string (str (wordV 1).1), .string (str (wordV 1).2)]) ∧ w' = w := by
  rw [word_1]
  go_enter Tryd.func21, Tryd.ntmps21
  go_wp2
  go_ret2
  exact ⟨rfl, rfl⟩
theorem word_at_2 (w : World) : Calls Tryd.prog 21 #[.int .i64 2] w fun e w' => e = .returned (.tuple #[.string (str (wordV 2).1), .string (str (wordV 2).2)]) ∧ w' = w := by
  rw [word_2]
  go_enter Tryd.func21, Tryd.ntmps21
  go_wp2
  go_ret2
  exact ⟨rfl, rfl⟩
theorem word_at_3 (w : World) : Calls Tryd.prog 21 #[.int .i64 3] w fun e w' => e = .returned (.tuple #[.string (str (wordV 3).1), .string (str (wordV 3).2)]) ∧ w' = w := by
  rw [word_3]
  go_enter Tryd.func21, Tryd.ntmps21
  go_wp2
  go_ret2
  exact ⟨rfl, rfl⟩
theorem word_at_4 (w : World) : Calls Tryd.prog 21 #[.int .i64 4] w fun e w' => e = .returned (.tuple #[.string (str (wordV 4).1), .string (str (wordV 4).2)]) ∧ w' = w := by
  rw [word_4]
  go_enter Tryd.func21, Tryd.ntmps21
  go_wp2
  go_ret2
  exact ⟨rfl, rfl⟩
theorem word_at_5 (w : World) : Calls Tryd.prog 21 #[.int .i64 5] w fun e w' => e = .returned (.tuple #[.string (str (wordV 5).1), .string (str (wordV 5).2)]) ∧ w' = w := by
  rw [word_5]
  go_enter Tryd.func21, Tryd.ntmps21
  go_wp2
  go_ret2
  exact ⟨rfl, rfl⟩
theorem word_at_6 (w : World) : Calls Tryd.prog 21 #[.int .i64 6] w fun e w' => e = .returned (.tuple #[.string (str (wordV 6).1), .string (str (wordV 6).2)]) ∧ w' = w := by
  rw [word_6]
  go_enter Tryd.func21, Tryd.ntmps21
  go_wp2
  go_ret2
  exact ⟨rfl, rfl⟩
theorem word_at_7 (w : World) : Calls Tryd.prog 21 #[.int .i64 7] w fun e w' => e = .returned (.tuple #[.string (str (wordV 7).1), .string (str (wordV 7).2)]) ∧ w' = w := by
  rw [word_7]
  go_enter Tryd.func21, Tryd.ntmps21
  go_wp2
  go_ret2
  exact ⟨rfl, rfl⟩
theorem word_at_8 (w : World) : Calls Tryd.prog 21 #[.int .i64 8] w fun e w' => e = .returned (.tuple #[.string (str (wordV 8).1), .string (str (wordV 8).2)]) ∧ w' = w := by
  rw [word_8]
  go_enter Tryd.func21, Tryd.ntmps21
  go_wp2
  go_ret2
  exact ⟨rfl, rfl⟩
theorem word_at_9 (w : World) : Calls Tryd.prog 21 #[.int .i64 9] w fun e w' => e = .returned (.tuple #[.string (str (wordV 9).1), .string (str (wordV 9).2)]) ∧ w' = w := by
  rw [word_9]
  go_enter Tryd.func21, Tryd.ntmps21
  go_wp2
  go_ret2
  exact ⟨rfl, rfl⟩
theorem word_at_10 (w : World) : Calls Tryd.prog 21 #[.int .i64 10] w fun e w' => e = .returned (.tuple #[.string (str (wordV 10).1), .string (str (wordV 10).2)]) ∧ w' = w := by
  rw [word_10]
  go_enter Tryd.func21, Tryd.ntmps21
  go_wp2
  go_ret2
  exact ⟨rfl, rfl⟩
theorem word_at_11 (w : World) : Calls Tryd.prog 21 #[.int .i64 11] w fun e w' => e = .returned (.tuple #[.string (str (wordV 11).1), .string (str (wordV 11).2)]) ∧ w' = w := by
  rw [word_11]
  go_enter Tryd.func21, Tryd.ntmps21
  go_wp2
  go_ret2
  exact ⟨rfl, rfl⟩
theorem word_at_12 (w : World) : Calls Tryd.prog 21 #[.int .i64 12] w fun e w' => e = .returned (.tuple #[.string (str (wordV 12).1), .string (str (wordV 12).2)]) ∧ w' = w := by
  rw [word_12]
  go_enter Tryd.func21, Tryd.ntmps21
  go_wp2
  go_ret2
  exact ⟨rfl, rfl⟩
theorem word_at_13 (w : World) : Calls Tryd.prog 21 #[.int .i64 13] w fun e w' => e = .returned (.tuple #[.string (str (wordV 13).1), .string (str (wordV 13).2)]) ∧ w' = w := by
  rw [word_13]
  go_enter Tryd.func21, Tryd.ntmps21
  go_wp2
  go_ret2
  exact ⟨rfl, rfl⟩
theorem word_any (k : Int) (w : World) : Calls Tryd.prog 21 #[.int .i64 k] w fun e w' => e = .returned (.tuple #[.string (str (wordV k).1), .string (str (wordV k).2)]) ∧ w' = w := by
  by_cases h : k < 1 ∨ 13 < k
  · have e : wordV k = ([], []) := by unfold wordV; rw [if_neg (by omega)]
    rw [e]
    exact word_no k h w
  · have hr : k = 1 ∨ k = 2 ∨ k = 3 ∨ k = 4 ∨ k = 5 ∨ k = 6 ∨ k = 7 ∨ k = 8 ∨ k = 9 ∨ k = 10 ∨ k = 11 ∨ k = 12 ∨ k = 13 := by omega
    clear h
    rcases hr with rfl | rfl | rfl | rfl | rfl | rfl | rfl | rfl | rfl | rfl | rfl | rfl | rfl
    · exact word_at_1 w
    · exact word_at_2 w
    · exact word_at_3 w
    · exact word_at_4 w
    · exact word_at_5 w
    · exact word_at_6 w
    · exact word_at_7 w
    · exact word_at_8 w
    · exact word_at_9 w
    · exact word_at_10 w
    · exact word_at_11 w
    · exact word_at_12 w
    · exact word_at_13 w

theorem byte_ne {x : UInt8} {n : Nat} (h : x ≠ UInt8.ofNat n) : ((x.toNat : Int) == (n : Int)) = false := by
  rw [beq_eq_false_iff_ne]
  intro e
  have e' : x.toNat = n := by omega
  exact h (by rw [← e']; simp)
theorem named_any (x : UInt8) (w : World) : Calls Tryd.prog 22 #[.int .u8 (x.toNat : Int)] w fun e w' => e = .returned (.bool (isNm x)) ∧ w' = w := by
  by_cases h1 : x = 78
  · subst h1
    go_enter Tryd.func22, Tryd.ntmps22
    go_wp2
    go_ret
    exact ⟨rfl, rfl⟩
  · by_cases h2 : x = 80
    · subst h2
      go_enter Tryd.func22, Tryd.ntmps22
      go_wp2
      go_ret
      exact ⟨rfl, rfl⟩
    · have e1 : ((x.toNat : Int) == 78) = false := byte_ne (n := 78) h1
      have e2 : ((x.toNat : Int) == 80) = false := byte_ne (n := 80) h2
      have e : isNm x = false := by unfold isNm; simp [h1, h2]
      rw [e]
      go_enter Tryd.func22, Tryd.ntmps22
      go_wp2
      go_ret
      exact ⟨rfl, rfl⟩
/-- Where a letter's field stands. -/
def offS (x : UInt8) : Nat := if x = 78 then 1 else 2
def offI (x : UInt8) : Nat := if x = 104 then 3 else if x = 110 then 4 else if x = 108 then 5 else if x = 106 then 6 else 7
theorem text_any (x : UInt8) (g : Nat) (w : World) : Calls Tryd.prog 23 #[.pointer (some ⟨g, 0, none⟩), .int .u8 (x.toNat : Int)] w fun e w' => e = .returned (.pointer (some ⟨g, offS x, none⟩)) ∧ w' = w := by
  unfold offS
  by_cases h1 : x = 78
  · subst h1
    go_enter Tryd.func23, Tryd.ntmps23
    go_wp2
    go_ret
    exact ⟨rfl, rfl⟩
  · have e1 : ((x.toNat : Int) == 78) = false := byte_ne (n := 78) h1
    rw [if_neg h1]
    go_enter Tryd.func23, Tryd.ntmps23
    go_wp2
    go_ret
    exact ⟨rfl, rfl⟩
theorem value_any (x : UInt8) (g : Nat) (w : World) : Calls Tryd.prog 25 #[.pointer (some ⟨g, 0, none⟩), .int .u8 (x.toNat : Int)] w fun e w' => e = .returned (.pointer (some ⟨g, offI x, none⟩)) ∧ w' = w := by
  unfold offI
  by_cases h1 : x = 104
  · subst h1
    go_enter Tryd.func25, Tryd.ntmps25
    go_wp2
    go_ret
    exact ⟨rfl, rfl⟩
  · by_cases h2 : x = 110
    · subst h2
      go_enter Tryd.func25, Tryd.ntmps25
      go_wp2
      go_ret
      exact ⟨rfl, rfl⟩
    · by_cases h3 : x = 108
      · subst h3
        go_enter Tryd.func25, Tryd.ntmps25
        go_wp2
        go_ret
        exact ⟨rfl, rfl⟩
      · by_cases h4 : x = 106
        · subst h4
          go_enter Tryd.func25, Tryd.ntmps25
          go_wp2
          go_ret
          exact ⟨rfl, rfl⟩
        · have e1 : ((x.toNat : Int) == 104) = false := byte_ne (n := 104) h1
          have e2 : ((x.toNat : Int) == 110) = false := byte_ne (n := 110) h2
          have e3 : ((x.toNat : Int) == 108) = false := byte_ne (n := 108) h3
          have e4 : ((x.toNat : Int) == 106) = false := byte_ne (n := 106) h4
          rw [if_neg h1, if_neg h2, if_neg h3, if_neg h4]
          go_enter Tryd.func25, Tryd.ntmps25
          go_wp2
          go_ret
          exact ⟨rfl, rfl⟩
end Go.Proofs.YtokpcpmkilikaaaDoor
