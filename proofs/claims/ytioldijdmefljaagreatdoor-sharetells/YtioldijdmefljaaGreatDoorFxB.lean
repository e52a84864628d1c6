/-
  THE CONTRACTS OF PACKAGE fixq: its nine calls.
  THE CONTRACTS OF PACKAGE fixq: its nine calls.
-/
import Derived.Test.YtioldijdmefljaaGreatDoorFix
namespace Go.Proofs.YtioldijdmefljaaGreatDoor
open Go.RowKit Wd

namespace Wd
theorem word32 : Word 4294967296 := ⟨by omega, by omega⟩
theorem word63 : Word 9223372036854775808 := ⟨by omega, by omega⟩
theorem add_words {a b : Int} (ha : Word a) (hb : Word b) : addV a b = a + b ∧ Num (a + b) := by
  obtain ⟨_, _⟩ := ha; obtain ⟨_, _⟩ := hb
  have h : a + b ≤ top := by unfold top; omega
  exact ⟨by unfold addV; rw [if_pos h], by omega, h⟩
theorem sub_words {a b : Int} (ha : Word a) (hb : Word b) : Word (subV a b) := by
  obtain ⟨_, _⟩ := ha; obtain ⟨_, _⟩ := hb
  unfold subV Word; split <;> omega
end Wd

theorem divDown_any (a b : Int) (ha : Word a) (hb : Word b) (w : World) :
    Calls Tryz.prog 111 #[.int .u64 a, .int .u64 b] w fun e w' => e = .returned (.tuple #[.int .u64 (dnV (a * 4294967296) b), .bool (dnB (a * 4294967296) b)]) ∧ Below w.heap.size w w' := by
  go_enter Tryz.func111, Tryz.ntmps111
  go_wp2_with fail
  refine (mul_any a 4294967296 ha word32 _).mono ?_
  rintro e w1 ⟨rfl, hb1⟩
  go_wp2_with fail
  refine (down_num (a * 4294967296) b (mul_num ha word32) hb _).mono ?_
  rintro e w2 ⟨rfl, hb2⟩
  go_wp2
  go_ret2
  exact ⟨rfl, hb1.trans (hb2.mono hb1.size)⟩
theorem divUp_any (a b : Int) (ha : Word a) (hb : Word b) (w : World) :
    Calls Tryz.prog 112 #[.int .u64 a, .int .u64 b] w fun e w' => e = .returned (.tuple #[.int .u64 (upV (a * 4294967296) b), .bool (upB (a * 4294967296) b)]) ∧ Below w.heap.size w w' := by
  go_enter Tryz.func112, Tryz.ntmps112
  go_wp2_with fail
  refine (mul_any a 4294967296 ha word32 _).mono ?_
  rintro e w1 ⟨rfl, hb1⟩
  go_wp2_with fail
  refine (up_num (a * 4294967296) b (mul_num ha word32) hb _).mono ?_
  rintro e w2 ⟨rfl, hb2⟩
  go_wp2
  go_ret2
  exact ⟨rfl, hb1.trans (hb2.mono hb1.size)⟩

theorem qof_any (n : Int) (hn : n < 9223372036854775808) (w : World) :
    Calls Tryz.prog 84 #[.int .i64 n] w fun e w' => e = .returned (.tuple #[.int .u64 (ofV n), .bool (ofB n)]) ∧ Below w.heap.size w w' := by
  by_cases h : n < 0
  · rw [show ofV n = 0 by unfold ofV; rw [if_pos h], show ofB n = false by unfold ofB; rw [if_pos h]]
    go_enter Tryz.func84, Tryz.ntmps84
    go_wp2
    go_ret2
    exact ⟨rfl, Below.refl _ _⟩
  · have hw : Word n := ⟨by omega, by omega⟩
    rw [show ofV n = narV (n * 4294967296) by unfold ofV; rw [if_neg h], show ofB n = narB (n * 4294967296) by unfold ofB; rw [if_neg h]]
    have h0 : 0 ≤ n := by omega
    have ew : IntKind.u64.wrap n = n := by rw [IntKind.wrap_u64]; omega
    go_enter Tryz.func84, Tryz.ntmps84
    go_wp2_with fail
    refine (mul_any n 4294967296 hw word32 _).mono ?_
    rintro e w1 ⟨rfl, hb1⟩
    go_wp2_with fail
    refine (narrowed_num (n * 4294967296) (mul_num hw word32) _).mono ?_
    rintro e w2 ⟨rfl, hb2⟩
    go_wp2
    go_ret2
    exact ⟨rfl, hb1.trans (hb2.mono hb1.size)⟩

end Go.Proofs.YtioldijdmefljaaGreatDoor
namespace Go.Proofs.YtioldijdmefljaaGreatDoor
open Go.RowKit Wd

namespace Wd
end Wd

theorem qadd_any (a b : Int) (ha : Word a) (hb : Word b) (w : World) :
    Calls Tryz.prog 83 #[.int .u64 a, .int .u64 b] w fun e w' => e = .returned (.tuple #[.int .u64 (narV (a + b)), .bool (narB (a + b))]) ∧ Below w.heap.size w w' := by
  obtain ⟨ea, na⟩ := add_words ha hb
  go_enter Tryz.func83, Tryz.ntmps83
  go_wp2_with fail
  refine (of_num a ha _).mono ?_
  rintro e w1 ⟨rfl, hb1⟩
  go_wp2_with fail
  refine (of_num b hb _).mono ?_
  rintro e w2 ⟨rfl, hb2⟩
  go_wp2_with fail
  refine (add_num a b (num_small ha) (num_small hb) _).mono ?_
  rw [ea]
  rintro e w3 ⟨rfl, hb3⟩
  go_wp2_with fail
  refine (narrowed_num (a + b) na _).mono ?_
  rintro e w4 ⟨rfl, hb4⟩
  go_wp2
  go_ret2
  have z1 := hb1.size
  have z2 := hb2.size
  have z3 := hb3.size
  exact ⟨rfl, (((hb1.trans (hb2.mono z1)).trans (hb3.mono (by omega))).alloc (by omega) _).trans (hb4.mono (by simp; omega))⟩

end Go.Proofs.YtioldijdmefljaaGreatDoor
