/-
 THE CONTRACTS OF PACKAGE fixq, leaves first: what each call answers, over the functions of ..MathF; of old memory nothing turns.
 THE CONTRACTS OF PACKAGE fixq: its nine calls.
 THE CONTRACTS OF PACKAGE fixq: its nine calls.
 THE CONTRACTS OF THE REFERENCE's FUNCTIONS: Mul.
 THE CONTRACTS OF THE REFERENCE's CALLS (backfillref04).
 THE CONTRACTS OF THE REFERENCE's FUNCTIONS: Shl, Shr.
 wide.Sub, fixq.Sub; the reference's Shr: ported from stages 4 and 1.
-/
import Derived.Test.YtdkbmligaodpmaaGreatDoorXnuz
import Derived.Test.YtdkbmligaodpmaaGreatDoorWidz
import Derived.Test.YtdkbmligaodpmaaGreatDoorMthz
namespace Go.Proofs.YtdkbmligaodpmaaGreatDoor
open Go.RowKit Wd

theorem keep2 {W w w0 : World} {a0 a1 : Addr} {v0 v1 : Value} (hb : Below W.heap.size W w) (h : W.cell? a0 = some v0 ∧ W.cell? a1 = some v1 ∧ Below w0.heap.size w0 W ∧ w0.heap.size ≤ W.heap.size) : w.cell? a0 = some v0 ∧ w.cell? a1 = some v1 ∧ Below w0.heap.size w0 w ∧ w0.heap.size ≤ w.heap.size := by
 obtain ⟨h0, h1, hB, hz⟩ := h
 exact ⟨keepC hb h0, keepC hb h1, hB.trans (hb.mono hz), Nat.le_trans hz hb.size⟩

set_option maxHeartbeats 400000 in
theorem narrowed_num (u : Int) (hu : Num u) (w : World) :
  Calls Tryz.prog 129 #[.agg #[.int .u64 (hiW u), .int .u64 (loW u)]] w fun e w' => e = .returned (.tuple #[.int .u64 (narV u), .bool (narB u)]) ∧ Below w.heap.size w w' := by
 by_cases h : hiW u = 0
 ·obtain ⟨e1, e2⟩ := nar_hi hu h
  rw [e1, e2, h]
  go_enter Tryz.func129, Tryz.ntmps129
  go_wp2_with fail
  have HS : Hid ((w.alloc (.cells #[.int .u64 0, .int .u64 (loW u)] 64)).drew.cell? ⟨w.heap.size, 0, none⟩ = some (.int .u64 0) ∧ (w.alloc (.cells #[.int .u64 0, .int .u64 (loW u)] 64)).drew.cell? ⟨w.heap.size, 1, none⟩ = some (.int .u64 (loW u)) ∧ Below w.heap.size w (w.alloc (.cells #[.int .u64 0, .int .u64 (loW u)] 64)).drew ∧ w.heap.size ≤ (w.alloc (.cells #[.int .u64 0, .int .u64 (loW u)] 64)).drew.heap.size) := ⟨by simp, by simp, ((Below.refl _ _).alloc (Nat.le_refl _) _).drew, by simp⟩
  go_region_held3 (fun w' => w'.cell? ⟨w.heap.size, 0, none⟩ = some (.int .u64 0) ∧ w'.cell? ⟨w.heap.size, 1, none⟩ = some (.int .u64 (loW u)) ∧ Below w.heap.size w w' ∧ w.heap.size ≤ w'.heap.size) (first | exact HS.out | exact keep2 (by assumption) (by assumption))
   (first | (go_at_call 68; refine (of_any (loW u) _).mono ?_; rintro e x ⟨rfl, hx⟩))
  have hS : x.cell? ⟨w.heap.size, 0, none⟩ = some (.int .u64 0) ∧ x.cell? ⟨w.heap.size, 1, none⟩ = some (.int .u64 (loW u)) ∧ Below w.heap.size w x ∧ w.heap.size ≤ x.heap.size := by assumption
  obtain ⟨c0, c1, hB, hz⟩ := hS
  go_wp2
  go_ret2
  exact ⟨rfl, hB⟩
 ·obtain ⟨e1, e2⟩ := nar_no hu h
  rw [e1, e2]
  have k : (hiW u == 0) = false := by simp [h]
  go_enter Tryz.func129, Tryz.ntmps129
  go_wp2_with fail
  have HS : Hid ((w.alloc (.cells #[.int .u64 (hiW u), .int .u64 (loW u)] 64)).drew.cell? ⟨w.heap.size, 0, none⟩ = some (.int .u64 (hiW u)) ∧ (w.alloc (.cells #[.int .u64 (hiW u), .int .u64 (loW u)] 64)).drew.cell? ⟨w.heap.size, 1, none⟩ = some (.int .u64 (loW u)) ∧ Below w.heap.size w (w.alloc (.cells #[.int .u64 (hiW u), .int .u64 (loW u)] 64)).drew ∧ w.heap.size ≤ (w.alloc (.cells #[.int .u64 (hiW u), .int .u64 (loW u)] 64)).drew.heap.size) := ⟨by simp, by simp, ((Below.refl _ _).alloc (Nat.le_refl _) _).drew, by simp⟩
  go_region_held3 (fun w' => w'.cell? ⟨w.heap.size, 0, none⟩ = some (.int .u64 (hiW u)) ∧ w'.cell? ⟨w.heap.size, 1, none⟩ = some (.int .u64 (loW u)) ∧ Below w.heap.size w w' ∧ w.heap.size ≤ w'.heap.size) (first | exact HS.out | exact keep2 (by assumption) (by assumption))
   (first | (go_at_call 68; refine (of_any (loW u) _).mono ?_; rintro e x ⟨rfl, hx⟩))
  have hS : x.cell? ⟨w.heap.size, 0, none⟩ = some (.int .u64 (hiW u)) ∧ x.cell? ⟨w.heap.size, 1, none⟩ = some (.int .u64 (loW u)) ∧ Below w.heap.size w x ∧ w.heap.size ≤ x.heap.size := by assumption
  obtain ⟨c0, c1, hB, hz⟩ := hS
  go_wp2
  go_ret2
  exact ⟨rfl, hB⟩

theorem div_yes (u b : Int) (hu : Num u) (hb : Word b) (h : b ≠ 0) (w : World) :
  Calls Tryz.prog 128 #[.agg #[.int .u64 (hiW u), .int .u64 (loW u)], .int .u64 b] w fun e w' =>
   e = .returned (.tuple #[.agg #[.int .u64 (hiW (u / b)), .int .u64 (loW (u / b))], .int .u64 (u % b), .bool true]) ∧ Below w.heap.size w w' := by
 have c := div_num u b hu hb w
 obtain ⟨e1, e2, e3, _⟩ := div_facts hu hb h
 rw [e1, e2, e3] at c
 exact c
theorem div_no (u : Int) (hu : Num u) (w : World) :
  Calls Tryz.prog 128 #[.agg #[.int .u64 (hiW u), .int .u64 (loW u)], .int .u64 0] w fun e w' =>
   e = .returned (.tuple #[.agg #[.int .u64 0, .int .u64 0], .int .u64 0, .bool false]) ∧ Below w.heap.size w w' :=
 div_num u 0 hu ⟨by omega, by omega⟩ w
theorem mul_num' (x y : Int) (hx : Word x) (hy : Word y) (w : World) :
  Calls Tryz.prog 64 #[.int .u64 x, .int .u64 y] w fun e w' => e = .returned (.agg #[.int .u64 (hiW (x * y)), .int .u64 (loW (x * y))]) ∧ Below w.heap.size w w' := mul_any x y hx hy w
theorem times_yes (u b : Int) (hu : Num u) (hb : Word b) (h : b ≠ 0) (w : World) :
  Calls Tryz.prog 126 #[.agg #[.int .u64 (hiW (u / b)), .int .u64 (loW (u / b))], .int .u64 b] w fun e w' =>
   e = .returned (.tuple #[.agg #[.int .u64 (hiW (u / b * b)), .int .u64 (loW (u / b * b))], .bool (timB (u / b) b)]) ∧ Below w.heap.size w w' := by
 obtain ⟨_, _, _, nq, _, _, _, e⟩ := div_facts hu hb h
 have c := times_num (u / b) b nq hb w
 rw [e] at c
 exact c

set_option maxHeartbeats 400000 in
theorem down_num (u b : Int) (hu : Num u) (hb : Word b) (w : World) :
  Calls Tryz.prog 81 #[.agg #[.int .u64 (hiW u), .int .u64 (loW u)], .int .u64 b] w fun e w' => e = .returned (.tuple #[.int .u64 (dnV u b), .bool (dnB u b)]) ∧ Below w.heap.size w w' := by
 by_cases z : b = 0
 ·subst z
  rw [show dnV u 0 = 18446744073709551615 from rfl, show dnB u 0 = false from rfl]
  go_enter Tryz.func81, Tryz.ntmps81
  go_wp2_with fail
  refine (div_no u hu _).mono ?_
  rintro e w1 ⟨rfl, hb1⟩
  go_wp2
  go_ret2
  exact ⟨rfl, (((Below.refl _ _).alloc (Nat.le_refl _) _).trans (hb1.mono (by simp))).alloc (by have := hb1.size; simp at this; omega) _⟩
 ·obtain ⟨_, _, _, nq, _⟩ := div_facts hu hb z
  rw [show dnV u b = narV (u / b) by unfold dnV; rw [if_neg z], show dnB u b = narB (u / b) by unfold dnB; rw [if_neg z]]
  go_enter Tryz.func81, Tryz.ntmps81
  go_wp2_with fail
  refine (div_yes u b hu hb z _).mono ?_
  rintro e w1 ⟨rfl, hb1⟩
  go_wp2_with fail
  refine (narrowed_num (u / b) nq _).mono ?_
  rintro e w2 ⟨rfl, hb2⟩
  go_wp2
  go_ret2
  have z1 := hb1.size
  simp at z1
  exact ⟨rfl, ((((Below.refl _ _).alloc (Nat.le_refl _) _).trans (hb1.mono (by simp))).alloc (by omega) _).trans (hb2.mono (by simp; omega))⟩

set_option maxHeartbeats 400000 in
theorem up_num (u b : Int) (hu : Num u) (hb : Word b) (w : World) :
  Calls Tryz.prog 174 #[.agg #[.int .u64 (hiW u), .int .u64 (loW u)], .int .u64 b] w fun e w' => e = .returned (.tuple #[.int .u64 (upV u b), .bool (upB u b)]) ∧ Below w.heap.size w w' := by
 by_cases z : b = 0
 ·subst z
  rw [show upV u 0 = 18446744073709551615 from rfl, show upB u 0 = false from rfl]
  go_enter Tryz.func174, Tryz.ntmps174
  go_wp2_with fail
  refine (div_no u hu _).mono ?_
  rintro e w1 ⟨rfl, hb1⟩
  go_wp2
  go_ret2
  exact ⟨rfl, (((Below.refl _ _).alloc (Nat.le_refl _) _).trans (hb1.mono (by simp))).alloc (by have := hb1.size; simp at this; omega) _⟩
 ·obtain ⟨_, _, _, nq, m0, m1, em, _⟩ := div_facts hu hb z
  rw [show upV u b = narV (ceilV u b) by unfold upV; rw [if_neg z], show upB u b = narB (ceilV u b) by unfold upB; rw [if_neg z]]
  by_cases m : u % b = 0
  ·have e5 : ceilV u b = u / b := by unfold ceilV; rw [if_pos m]
   have e6 : u / b * b = u := by omega
   rw [e5]
   go_enter Tryz.func174, Tryz.ntmps174
   go_wp2_with fail
   refine (div_yes u b hu hb z _).mono ?_
   rintro e w1 ⟨rfl, hb1⟩
   have c0 : w1.cell? ⟨w.heap.size, 0, none⟩ = some (.int .u64 (hiW u)) := keepC hb1 (by simp)
   have c1 : w1.cell? ⟨w.heap.size, 1, none⟩ = some (.int .u64 (loW u)) := keepC hb1 (by simp)
   have z1 := hb1.size
   simp at z1
   go_wp2_with fail
   refine (times_yes u b hu hb z _).mono ?_
   rw [e6]
   rintro e w2 ⟨rfl, hb2⟩
   have z2 := hb2.size
   simp at z2
   have n2 : w.heap.size < w2.heap.size := by omega
   have n3 : w1.heap.size < w2.heap.size := by omega
   replace c0 := keepC hb2 (allocC _ c0)
   replace c1 := keepC hb2 (allocC _ c1)
   have q0 : w2.cell? ⟨w1.heap.size, 0, none⟩ = some (.int .u64 (hiW (u / b))) := keepC hb2 (by simp)
   have q1 : w2.cell? ⟨w1.heap.size, 1, none⟩ = some (.int .u64 (loW (u / b))) := keepC hb2 (by simp)
   go_wp2_with fail
   refine (narrowed_num (u / b) nq _).mono ?_
   rintro e w3 ⟨rfl, hb3⟩
   go_wp2
   go_ret2
   exact ⟨rfl, ((((((Below.refl _ _).alloc (Nat.le_refl _) _).trans (hb1.mono (by simp))).alloc (by omega) _).trans (hb2.mono (by simp; omega))).alloc (by omega) _).trans (hb3.mono (by simp; omega))⟩
  ·have e5 : ceilV u b = u / b + 1 := by unfold ceilV; rw [if_neg m]
   obtain ⟨ea, na⟩ := div_more hu hb z m
   rw [e5]
   have hne := words_ne (show u / b * b ≠ u by omega)
   have k2 : (hiW (u / b * b) == hiW u && loW (u / b * b) == loW u) = false := by simpa using hne
   go_enter Tryz.func174, Tryz.ntmps174
   go_wp2_with fail
   refine (div_yes u b hu hb z _).mono ?_
   rintro e w1 ⟨rfl, hb1⟩
   have c0 : w1.cell? ⟨w.heap.size, 0, none⟩ = some (.int .u64 (hiW u)) := keepC hb1 (by simp)
   have c1 : w1.cell? ⟨w.heap.size, 1, none⟩ = some (.int .u64 (loW u)) := keepC hb1 (by simp)
   have z1 := hb1.size
   simp at z1
   go_wp2_with fail
   refine (times_yes u b hu hb z _).mono ?_
   rintro e w2 ⟨rfl, hb2⟩
   have z2 := hb2.size
   simp at z2
   have n2 : w.heap.size < w2.heap.size := by omega
   have n3 : w1.heap.size < w2.heap.size := by omega
   replace c0 := keepC hb2 (allocC _ c0)
   replace c1 := keepC hb2 (allocC _ c1)
   have q0 : w2.cell? ⟨w1.heap.size, 0, none⟩ = some (.int .u64 (hiW (u / b))) := keepC hb2 (by simp)
   have q1 : w2.cell? ⟨w1.heap.size, 1, none⟩ = some (.int .u64 (loW (u / b))) := keepC hb2 (by simp)
   have f0 : w2.frozen? ⟨w1.heap.size, 0, none⟩ = false := by rw [(bcell hb2).2 _ _ (by simp)]; simp [go_sem]
   have f1 : w2.frozen? ⟨w1.heap.size, 1, none⟩ = false := by rw [(bcell hb2).2 _ _ (by simp)]; simp [go_sem]
   go_wp2_with fail
   all_goals
    clear c0 c1
    go_region_with (first
     | (go_at_call 68; refine (of_num 1 ⟨by omega, by omega⟩ _).mono ?_; rintro e x ⟨rfl, hx⟩; have x0 : x.cell? ⟨w1.heap.size, 0, none⟩ = some (.int .u64 (hiW (u / b))) := keepC hx (allocC _ q0); have x1 : x.cell? ⟨w1.heap.size, 1, none⟩ = some (.int .u64 (loW (u / b))) := keepC hx (allocC _ q1); have y0 : x.frozen? ⟨w1.heap.size, 0, none⟩ = false := keepF hx (allocC _ q0) (allocF _ _ f0); have y1 : x.frozen? ⟨w1.heap.size, 1, none⟩ = false := keepF hx (allocC _ q1) (allocF _ _ f1))
     | (go_at_call 67; refine (add_num (u / b) 1 nq ⟨by omega, by unfold top; omega⟩ _).mono ?_; rw [ea]; rintro e y ⟨rfl, hy⟩; have u0 := keepC hy x0; have u1 := keepC hy x1; have v0 := keepF hy x0 y0; have v1 := keepF hy x1 y1))
    all_goals
     have s1 := hx.size
     have s2 := hy.size
     simp at s1
     have HY : Hid (Below w.heap.size w y) := (((((((Below.refl _ _).alloc (Nat.le_refl _) _).trans (hb1.mono (by simp))).alloc (by omega) _).trans (hb2.mono (by simp; omega))).alloc (by omega) _).drew.trans (hx.mono (by simp; omega))).trans (hy.mono (by omega))
     go_wp2_with fail
     refine (narrowed_num (u / b + 1) na _).mono ?_
     rintro e w3 ⟨rfl, hb3⟩
     go_wp2
     go_ret2
     exact ⟨rfl, ((HY.out.setCell (by simp; omega) _).setCell (by simp; omega) _).trans (hb3.mono (by simp; omega))⟩
end Go.Proofs.YtdkbmligaodpmaaGreatDoor
namespace Go.Proofs.YtdkbmligaodpmaaGreatDoor
open Go.RowKit Wd

namespace Wd
theorem word32 : Word 4294967296 := ⟨by omega, by omega⟩
theorem word63 : Word 9223372036854775808 := ⟨by omega, by omega⟩
theorem add_words {a b : Int} (ha : Word a) (hb : Word b) : addV a b = a + b ∧ Num (a + b) := by
 obtain ⟨_, _⟩ := ha; obtain ⟨_, _⟩ := hb
 have h : a + b ≤ top := by unfold top; omega
 exact ⟨by unfold addV; rw [if_pos h], by omega, h⟩
theorem sub_words {a b : Int} (ha : Word a) (hb : Word b) : Word (subV a b) := by
 obtain ⟨_, _⟩ := ha; obtain ⟨_, _⟩ := hb
 unfold subV Word; split <;> omega
end Wd

theorem divDown_any (a b : Int) (ha : Word a) (hb : Word b) (w : World) :
  Calls Tryz.prog 38 #[.int .u64 a, .int .u64 b] w fun e w' => e = .returned (.tuple #[.int .u64 (dnV (a * 4294967296) b), .bool (dnB (a * 4294967296) b)]) ∧ Below w.heap.size w w' := by
 go_enter Tryz.func38, Tryz.ntmps38
 go_wp2_with fail
 refine (mul_any a 4294967296 ha word32 _).mono ?_
 rintro e w1 ⟨rfl, hb1⟩
 go_wp2_with fail
 refine (down_num (a * 4294967296) b (mul_num ha word32) hb _).mono ?_
 rintro e w2 ⟨rfl, hb2⟩
 go_wp2
 go_ret2
 exact ⟨rfl, hb1.trans (hb2.mono hb1.size)⟩
theorem divUp_any (a b : Int) (ha : Word a) (hb : Word b) (w : World) :
  Calls Tryz.prog 167 #[.int .u64 a, .int .u64 b] w fun e w' => e = .returned (.tuple #[.int .u64 (upV (a * 4294967296) b), .bool (upB (a * 4294967296) b)]) ∧ Below w.heap.size w w' := by
 go_enter Tryz.func167, Tryz.ntmps167
 go_wp2_with fail
 refine (mul_any a 4294967296 ha word32 _).mono ?_
 rintro e w1 ⟨rfl, hb1⟩
 go_wp2_with fail
 refine (up_num (a * 4294967296) b (mul_num ha word32) hb _).mono ?_
 rintro e w2 ⟨rfl, hb2⟩
 go_wp2
 go_ret2
 exact ⟨rfl, hb1.trans (hb2.mono hb1.size)⟩

theorem qof_any (n : Int) (hn : n < 9223372036854775808) (w : World) :
  Calls Tryz.prog 131 #[.int .i64 n] w fun e w' => e = .returned (.tuple #[.int .u64 (ofV n), .bool (ofB n)]) ∧ Below w.heap.size w w' := by
 by_cases h : n < 0
 ·rw [show ofV n = 0 by unfold ofV; rw [if_pos h], show ofB n = false by unfold ofB; rw [if_pos h]]
  go_enter Tryz.func131, Tryz.ntmps131
  go_wp2
  go_ret2
  exact ⟨rfl, Below.refl _ _⟩
 ·have hw : Word n := ⟨by omega, by omega⟩
  rw [show ofV n = narV (n * 4294967296) by unfold ofV; rw [if_neg h], show ofB n = narB (n * 4294967296) by unfold ofB; rw [if_neg h]]
  have h0 : 0 ≤ n := by omega
  have ew : IntKind.u64.wrap n = n := by rw [IntKind.wrap_u64]; omega
  go_enter Tryz.func131, Tryz.ntmps131
  go_wp2_with fail
  refine (mul_any n 4294967296 hw word32 _).mono ?_
  rintro e w1 ⟨rfl, hb1⟩
  go_wp2_with fail
  refine (narrowed_num (n * 4294967296) (mul_num hw word32) _).mono ?_
  rintro e w2 ⟨rfl, hb2⟩
  go_wp2
  go_ret2
  exact ⟨rfl, hb1.trans (hb2.mono hb1.size)⟩

end Go.Proofs.YtdkbmligaodpmaaGreatDoor
namespace Go.Proofs.YtdkbmligaodpmaaGreatDoor
open Go.RowKit Wd

namespace Wd
end Wd

theorem qadd_any (a b : Int) (ha : Word a) (hb : Word b) (w : World) :
  Calls Tryz.prog 171 #[.int .u64 a, .int .u64 b] w fun e w' => e = .returned (.tuple #[.int .u64 (narV (a + b)), .bool (narB (a + b))]) ∧ Below w.heap.size w w' := by
 obtain ⟨ea, na⟩ := add_words ha hb
 go_enter Tryz.func171, Tryz.ntmps171
 go_wp2_with fail
 refine (of_num a ha _).mono ?_
 rintro e w1 ⟨rfl, hb1⟩
 go_wp2_with fail
 refine (of_num b hb _).mono ?_
 rintro e w2 ⟨rfl, hb2⟩
 go_wp2_with fail
 refine (add_num a b (num_small ha) (num_small hb) _).mono ?_
 rw [ea]
 rintro e w3 ⟨rfl, hb3⟩
 go_wp2_with fail
 refine (narrowed_num (a + b) na _).mono ?_
 rintro e w4 ⟨rfl, hb4⟩
 go_wp2
 go_ret2
 have z1 := hb1.size
 have z2 := hb2.size
 have z3 := hb3.size
 exact ⟨rfl, (((hb1.trans (hb2.mono z1)).trans (hb3.mono (by omega))).alloc (by omega) _).trans (hb4.mono (by simp; omega))⟩

end Go.Proofs.YtdkbmligaodpmaaGreatDoor
namespace Go.Proofs.YtdkbmligaodpmaaGreatDoor
open Go.RowKit Wd

set_option maxHeartbeats 1000000 in
theorem rmul_any (x y : Int) (hx : Word x) (hy : Word y) (w : World) :
  Calls Tryz.prog 25 #[.int .u64 x, .int .u64 y] w fun e w' => e = .returned (.agg #[.int .u64 (hiW (x * y)), .int .u64 (loW (x * y))]) ∧ Below w.heap.size w w' := by
 have mx := mask32 x hx
 have my := mask32 y hy
 have e := school x y
 obtain ⟨x0, x1⟩ := hx; obtain ⟨y0, y1⟩ := hy
 obtain ⟨hh0, hh1⟩ := halves (a := x / 4294967296) (b := y / 4294967296) (by omega) (by omega) (by omega) (by omega)
 obtain ⟨hl0, hl1⟩ := halves (a := x / 4294967296) (b := y % 4294967296) (by omega) (by omega) (by omega) (by omega)
 obtain ⟨lh0, lh1⟩ := halves (a := x % 4294967296) (b := y / 4294967296) (by omega) (by omega) (by omega) (by omega)
 obtain ⟨ll0, ll1⟩ := halves (a := x % 4294967296) (b := y % 4294967296) (by omega) (by omega) (by omega) (by omega)
 have m1 := mask32 (x / 4294967296 * (y % 4294967296)) ⟨by omega, by omega⟩
 have m2 := mask32 (x % 4294967296 * (y / 4294967296)) ⟨by omega, by omega⟩
 have m3 := mask32 (x % 4294967296 * (y % 4294967296)) ⟨by omega, by omega⟩
 have eh : x / 4294967296 * (y / 4294967296) + x / 4294967296 * (y % 4294967296) / 4294967296 + x % 4294967296 * (y / 4294967296) / 4294967296 + (x % 4294967296 * (y % 4294967296) / 4294967296 + x / 4294967296 * (y % 4294967296) % 4294967296 + x % 4294967296 * (y / 4294967296) % 4294967296) / 4294967296 = hiW (x * y) := by
  rw [e]; unfold hiW; omega
 have el : IntKind.u64.wrap (IntKind.u64.wrap ((x % 4294967296 * (y % 4294967296) / 4294967296 + x / 4294967296 * (y % 4294967296) % 4294967296 + x % 4294967296 * (y / 4294967296) % 4294967296) * 4294967296) + x % 4294967296 * (y % 4294967296) % 4294967296) = loW (x * y) := by
  rw [e, IntKind.wrap_u64, IntKind.wrap_u64]; unfold loW; omega
 have EH : Hid _ := eh
 have EL : Hid _ := el
 clear e eh el
 go_enter Tryz.func25, Tryz.ntmps25
 go_wp2
 rw [EH.out, EL.out]
 exact bodyPost_ret (v := .agg #[.int .u64 (hiW (x * y)), .int .u64 (loW (x * y))]) (by simp [results, Tryz.results25, go_sem]) rfl ⟨rfl, (Below.refl _ _).alloc (Nat.le_refl _) _⟩
end Go.Proofs.YtdkbmligaodpmaaGreatDoor
namespace Go.Proofs.YtdkbmligaodpmaaGreatDoor
open Go.RowKit Wd

theorem rof_num (n : Int) (hn : Word n) (w : World) : Calls Tryz.prog 30 #[.int .u64 n] w fun e w' => e = .returned (.agg #[.int .u64 (hiW n), .int .u64 (loW n)]) ∧ Below w.heap.size w w' := by
 rw [(hi_small hn).1, (hi_small hn).2]
 go_enter Tryz.func30, Tryz.ntmps30
 go_wp2
 exact bodyPost_ret (v := .agg #[.int .u64 0, .int .u64 n]) (by simp [results, Tryz.results30, go_sem]) rfl ⟨rfl, (Below.refl _ _).alloc (Nat.le_refl _) _⟩
end Go.Proofs.YtdkbmligaodpmaaGreatDoor
namespace Go.Proofs.YtdkbmligaodpmaaGreatDoor
open Go.RowKit Wd
namespace Wd
theorem shl_128 (ah al n : Int) (hn : 128 ≤ n) : 0 = hiW (shlV (val ah al) n) ∧ 0 = loW (shlV (val ah al) n) := by
 obtain ⟨e1, e2⟩ := shl_great ah al n (by omega)
 refine ⟨?_, e2⟩
 rw [← e1, ← min_great, Nat.min_eq_right (by omega), IntKind.wrap_u64]
 omega
theorem shr_128 (ah al n : Int) (h1 : Word ah) (h2 : Word al) (hn : 128 ≤ n) : 0 = hiW (shrV (val ah al) n) ∧ 0 = loW (shrV (val ah al) n) := by
 obtain ⟨e1, e2⟩ := shr_great ah al n h1 h2 (by omega)
 refine ⟨e2, ?_⟩
 rw [← e1, ← min_great_r ah n h1, Nat.min_eq_right (by omega)]
 obtain ⟨_, _⟩ := h1
 omega
end Wd

set_option maxHeartbeats 400000 in
theorem rshl_any (ah al n : Int) (h1 : Word ah) (h2 : Word al) (hm : n < 9223372036854775808) (w : World) :
  Calls Tryz.prog 29 #[.agg #[.int .u64 ah, .int .u64 al], .int .i64 n] w fun e w' =>
   e = .returned (.agg #[.int .u64 (hiW (shlV (val ah al) n)), .int .u64 (loW (shlV (val ah al) n))]) ∧ Below w.heap.size w w' := by
 by_cases hn : n < 1
 ·have es : shlV (val ah al) n = val ah al := by
   by_cases z : n = 0
   ·subst z; exact shl_zero _ (val_num h1 h2)
   ·exact shl_neg _ _ (by omega)
  rw [es, hi_val h2, lo_val h2]
  clear es
  go_enter Tryz.func29, Tryz.ntmps29
  go_wp2
  exact bodyPost_ret (v := .agg #[.int .u64 ah, .int .u64 al]) (by simp [results, Tryz.results29, go_sem]) rfl ⟨rfl, ((Below.refl _ _).alloc (Nat.le_refl _) _).alloc (by simp) _⟩
 ·by_cases hk : n < 64
  ·obtain ⟨_, e1, e2⟩ := shl_small ah al n h1 h2 (by omega) hk
   rw [← e1, ← e2]
   clear e1 e2
   go_enter Tryz.func29, Tryz.ntmps29
   go_wp2
   go_region
   go_wp2
   exact bodyPost_ret (v := .agg #[.int .u64 (IntKind.u64.wrap (IntKind.u64.wrap (ah * 2 ^ n.toNat) + al / 2 ^ (64 - n).toNat)), .int .u64 (IntKind.u64.wrap (al * 2 ^ n.toNat))]) (by simp [results, Tryz.results29, go_sem]) rfl ⟨rfl, (((Below.refl _ _).alloc (Nat.le_refl _) _).alloc (by simp) _).drew⟩
  ·by_cases hj : n < 128
   ·obtain ⟨e1, e2⟩ := shl_great ah al n (by omega)
    rw [← e1, ← e2]
    clear e1 e2
    have hk' : 64 ≤ n := by omega
    go_enter Tryz.func29, Tryz.ntmps29
    go_wp2
    exact bodyPost_ret (v := .agg #[.int .u64 (IntKind.u64.wrap (al * 2 ^ (n - 64).toNat)), .int .u64 0]) (by simp [results, Tryz.results29, go_sem]) rfl ⟨rfl, ((Below.refl _ _).alloc (Nat.le_refl _) _).alloc (by simp) _⟩
   ·obtain ⟨e1, e2⟩ := shl_128 ah al n (by omega)
    rw [← e1, ← e2]
    clear e1 e2
    go_enter Tryz.func29, Tryz.ntmps29
    go_wp2
    exact bodyPost_ret (v := .agg #[.int .u64 0, .int .u64 0]) (by simp [results, Tryz.results29, go_sem]) rfl ⟨rfl, ((Below.refl _ _).alloc (Nat.le_refl _) _).alloc (by simp) _⟩

end Go.Proofs.YtdkbmligaodpmaaGreatDoor
namespace Go.Proofs.YtdkbmligaodpmaaGreatDoor
open Go.RowKit Wd

theorem sub64N (x y b : Nat) (hb : b ≤ 1) (w : World) : (callFunc 179 #[.int .u64 x, .int .u64 y, .int .u64 b]).run Tryz.prog w =
  .ok (.value (.tuple #[.int .u64 (((x + 18446744073709551616 - y - b) % 18446744073709551616 : Nat) : Int), .int .u64 ((if x < y + b then 1 else 0 : Nat) : Int)])) w := by
 rw [run_callFunc_extern Tryz.func179 (by kernel_rfl) (by kernel_rfl) (by kernel_rfl) (e := sub64Entry) (by kernel_rfl), run_sub64 x y b hb]
 rfl
theorem sub64 (x y b : Int) (hx : 0 ≤ x) (hy : 0 ≤ y) (hy' : y < 18446744073709551616) (hb0 : 0 ≤ b) (hb : b ≤ 1) (w : World) : (callFunc 179 #[.int .u64 x, .int .u64 y, .int .u64 b]).run Tryz.prog w =
  .ok (.value (.tuple #[.int .u64 ((x - y - b) % 18446744073709551616), .int .u64 (bor x (y + b))])) w := by
 obtain ⟨x, rfl⟩ := Int.eq_ofNat_of_zero_le hx
 obtain ⟨y, rfl⟩ := Int.eq_ofNat_of_zero_le hy
 obtain ⟨b, rfl⟩ := Int.eq_ofNat_of_zero_le hb0
 have e1 : (((x + 18446744073709551616 - y - b) % 18446744073709551616 : Nat) : Int) = ((x : Int) - y - b) % 18446744073709551616 := by omega
 have e2 : ((if x < y + b then 1 else 0 : Nat) : Int) = bor (x : Int) (y + b) := by unfold bor; split <;> split <;> omega
 rw [← e1, ← e2]
 exact sub64N x y b (by omega) w
theorem sub64_0 (x y : Int) (hx : 0 ≤ x) (hy : 0 ≤ y) (hy' : y < 18446744073709551616) (w : World) : (callFunc 179 #[.int .u64 x, .int .u64 y, .int .u64 0]).run Tryz.prog w =
  .ok (.value (.tuple #[.int .u64 ((x - y) % 18446744073709551616), .int .u64 (bor x y)])) w := by
 simpa using sub64 x y 0 hx hy hy' (Int.le_refl 0) (by decide) w

theorem sub_yes {ah al bh bl : Int} (h1 : Word ah) (h2 : Word al) (h3 : Word bh) (h4 : Word bl) (h : bh + bor al bl ≤ ah) :
  (ah - bh - bor al bl) % 18446744073709551616 = hiW (subV (val ah al) (val bh bl)) ∧ (al - bl) % 18446744073709551616 = loW (subV (val ah al) (val bh bl)) ∧ subB (val ah al) (val bh bl) = true := by
 obtain ⟨_, _⟩ := h1; obtain ⟨_, _⟩ := h2; obtain ⟨_, _⟩ := h3; obtain ⟨_, _⟩ := h4
 have hle : val bh bl ≤ val ah al := by unfold bor at h; unfold val; split at h <;> omega
 have e : subV (val ah al) (val bh bl) = val ah al - val bh bl := by unfold subV; rw [if_pos hle]
 refine ⟨?_, ?_, by simp [subB, hle]⟩ <;> rw [e] <;> simp only [hiW, loW, val, bor] at * <;> (try split at h) <;> (try rw [if_pos ‹_›]) <;> (try rw [if_neg ‹_›]) <;> omega
theorem sub_no {ah al bh bl : Int} (h1 : Word ah) (h2 : Word al) (h3 : Word bh) (h4 : Word bl) (h : ah < bh + bor al bl) :
  0 = hiW (subV (val ah al) (val bh bl)) ∧ 0 = loW (subV (val ah al) (val bh bl)) ∧ subB (val ah al) (val bh bl) = false := by
 obtain ⟨_, _⟩ := h1; obtain ⟨_, _⟩ := h2; obtain ⟨_, _⟩ := h3; obtain ⟨_, _⟩ := h4
 have hle : ¬ val bh bl ≤ val ah al := by unfold bor at h; unfold val; split at h <;> omega
 have e : subV (val ah al) (val bh bl) = 0 := by unfold subV; rw [if_neg hle]
 refine ⟨?_, ?_, by simp [subB, hle]⟩ <;> rw [e] <;> simp [hiW, loW]
set_option maxHeartbeats 400000 in
theorem sub_any (ah al bh bl : Int) (h1 : Word ah) (h2 : Word al) (h3 : Word bh) (h4 : Word bl) (w : World) :
  Calls Tryz.prog 176 #[.agg #[.int .u64 ah, .int .u64 al], .agg #[.int .u64 bh, .int .u64 bl]] w fun e w' =>
   e = .returned (.tuple #[.agg #[.int .u64 (hiW (subV (val ah al) (val bh bl))), .int .u64 (loW (subV (val ah al) (val bh bl)))], .bool (subB (val ah al) (val bh bl))]) ∧ Below w.heap.size w w' := by
 obtain ⟨k0, k1⟩ := bor_01 al bl
 by_cases h : bh + bor al bl ≤ ah
 ·obtain ⟨e1, e2, e3⟩ := sub_yes h1 h2 h3 h4 h
  rw [← e1, ← e2, e3]; clear e1 e2 e3
  obtain ⟨a1, a2⟩ := h1; obtain ⟨b1, b2⟩ := h2; obtain ⟨c1, c2⟩ := h3; obtain ⟨d1, d2⟩ := h4
  have k2 : (bor ah (bh + bor al bl) != 0) = false := by rw [show bor ah (bh + bor al bl) = 0 by rw [bor, if_neg (by omega)]]; rfl
  go_enter Tryz.func176, Tryz.ntmps176
  go_wp2_with (first | simp only [sub64_0 al bl b1 d1 d2] | simp only [sub64 ah bh _ a1 c1 c2 k0 k1])
  exact bodyPost_ret (v := .tuple #[.agg #[.int .u64 ((ah - bh - bor al bl) % 18446744073709551616), .int .u64 ((al - bl) % 18446744073709551616)], .bool true]) (by simp [results, Tryz.results176, go_sem]) rfl ⟨rfl, (((Below.refl _ _).alloc (Nat.le_refl _) _).alloc (by simp) _).alloc (by simp; omega) _⟩
 ·obtain ⟨e1, e2, e3⟩ := sub_no h1 h2 h3 h4 (by omega)
  rw [← e1, ← e2, e3]; clear e1 e2 e3
  obtain ⟨a1, a2⟩ := h1; obtain ⟨b1, b2⟩ := h2; obtain ⟨c1, c2⟩ := h3; obtain ⟨d1, d2⟩ := h4
  have k2 : (bor ah (bh + bor al bl) != 0) = true := by rw [show bor ah (bh + bor al bl) = 1 by rw [bor, if_pos (by omega)]]; rfl
  go_enter Tryz.func176, Tryz.ntmps176
  go_wp2_with (first | simp only [sub64_0 al bl b1 d1 d2] | simp only [sub64 ah bh _ a1 c1 c2 k0 k1])
  exact bodyPost_ret (v := .tuple #[.agg #[.int .u64 0, .int .u64 0], .bool false]) (by simp [results, Tryz.results176, go_sem]) rfl ⟨rfl, (((Below.refl _ _).alloc (Nat.le_refl _) _).alloc (by simp) _).alloc (by simp; omega) _⟩

theorem sub_num (u v : Int) (hu : Num u) (hv : Num v) (w : World) :
  Calls Tryz.prog 176 #[.agg #[.int .u64 (hiW u), .int .u64 (loW u)], .agg #[.int .u64 (hiW v), .int .u64 (loW v)]] w fun e w' =>
   e = .returned (.tuple #[.agg #[.int .u64 (hiW (subV u v)), .int .u64 (loW (subV u v))], .bool (subB u v)]) ∧ Below w.heap.size w w' := by
 have c := sub_any (hiW u) (loW u) (hiW v) (loW v) (hi_word hu) (lo_word u) (hi_word hv) (lo_word v) w
 rw [val_words, val_words] at c
 exact c
theorem qsub_any (a b : Int) (ha : Word a) (hb : Word b) (w : World) :
  Calls Tryz.prog 172 #[.int .u64 a, .int .u64 b] w fun e w' => e = .returned (.tuple #[.int .u64 (subV a b), .bool (subB a b)]) ∧ Below w.heap.size w w' := by
 rw [← (hi_small (sub_words ha hb)).2]
 go_enter Tryz.func172, Tryz.ntmps172
 go_wp2_with fail
 refine (of_num a ha _).mono ?_
 rintro e w1 ⟨rfl, hb1⟩
 go_wp2_with fail
 refine (of_num b hb _).mono ?_
 rintro e w2 ⟨rfl, hb2⟩
 go_wp2_with fail
 refine (sub_num a b (num_small ha) (num_small hb) _).mono ?_
 rintro e w3 ⟨rfl, hb3⟩
 go_wp2
 go_ret2
 have z1 := hb1.size
 have z2 := hb2.size
 have z3 := hb3.size
 exact ⟨rfl, ((hb1.trans (hb2.mono z1)).trans (hb3.mono (by omega))).alloc (by omega) _⟩

set_option maxHeartbeats 400000 in
theorem rshr_any (ah al n : Int) (h1 : Word ah) (h2 : Word al) (hm : n < 9223372036854775808) (w : World) :
  Calls Tryz.prog 76 #[.agg #[.int .u64 ah, .int .u64 al], .int .i64 n] w fun e w' =>
   e = .returned (.agg #[.int .u64 (hiW (shrV (val ah al) n)), .int .u64 (loW (shrV (val ah al) n))]) ∧ Below w.heap.size w w' := by
 by_cases hn : n < 1
 ·have es : shrV (val ah al) n = val ah al := by
   by_cases z : n = 0
   ·subst z; exact shr_zero _
   ·exact shr_neg _ _ (by omega)
  rw [es, hi_val h2, lo_val h2]
  clear es
  go_enter Tryz.func76, Tryz.ntmps76
  go_wp2
  exact bodyPost_ret (v := .agg #[.int .u64 ah, .int .u64 al]) (by simp [results, Tryz.results76, go_sem]) rfl ⟨rfl, ((Below.refl _ _).alloc (Nat.le_refl _) _).alloc (by simp) _⟩
 ·by_cases hk : n < 64
  ·obtain ⟨_, e1, e2⟩ := shr_small ah al n h1 h2 (by omega) hk
   rw [← e1, ← e2]
   clear e1 e2
   go_enter Tryz.func76, Tryz.ntmps76
   go_wp2
   go_region
   go_wp2
   exact bodyPost_ret (v := .agg #[.int .u64 (ah / 2 ^ n.toNat), .int .u64 (IntKind.u64.wrap (al / 2 ^ n.toNat + IntKind.u64.wrap (ah * 2 ^ (64 - n).toNat)))]) (by simp [results, Tryz.results76, go_sem]) rfl ⟨rfl, (((Below.refl _ _).alloc (Nat.le_refl _) _).alloc (by simp) _).drew⟩
  ·by_cases hj : n < 128
   ·obtain ⟨e1, e2⟩ := shr_great ah al n h1 h2 (by omega)
    rw [← e1, ← e2]
    clear e1 e2
    have hk' : 64 ≤ n := by omega
    go_enter Tryz.func76, Tryz.ntmps76
    go_wp2
    exact bodyPost_ret (v := .agg #[.int .u64 0, .int .u64 (ah / 2 ^ (n - 64).toNat)]) (by simp [results, Tryz.results76, go_sem]) rfl ⟨rfl, ((Below.refl _ _).alloc (Nat.le_refl _) _).alloc (by simp) _⟩
   ·obtain ⟨e1, e2⟩ := shr_128 ah al n h1 h2 (by omega)
    rw [← e1, ← e2]
    clear e1 e2
    go_enter Tryz.func76, Tryz.ntmps76
    go_wp2
    exact bodyPost_ret (v := .agg #[.int .u64 0, .int .u64 0]) (by simp [results, Tryz.results76, go_sem]) rfl ⟨rfl, ((Below.refl _ _).alloc (Nat.le_refl _) _).alloc (by simp) _⟩
end Go.Proofs.YtdkbmligaodpmaaGreatDoor
