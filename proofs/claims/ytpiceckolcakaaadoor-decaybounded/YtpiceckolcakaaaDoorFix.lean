/-
  THE CONTRACTS OF PACKAGE fixq, leaves first: what each call answers, over the functions of ..MathF; of old memory nothing turns.
-/
import Derived.Test.YtpiceckolcakaaaDoorNums
namespace Go.Proofs.YtpiceckolcakaaaDoor
open Go.RowKit Wd

theorem keep2 {W w w0 : World} {a0 a1 : Addr} {v0 v1 : Value} (hb : Below W.heap.size W w) (h : W.cell? a0 = some v0 ∧ W.cell? a1 = some v1 ∧ Below w0.heap.size w0 W ∧ w0.heap.size ≤ W.heap.size) : w.cell? a0 = some v0 ∧ w.cell? a1 = some v1 ∧ Below w0.heap.size w0 w ∧ w0.heap.size ≤ w.heap.size := by
  obtain ⟨h0, h1, hB, hz⟩ := h
  exact ⟨keepC hb h0, keepC hb h1, hB.trans (hb.mono hz), Nat.le_trans hz hb.size⟩

set_option maxHeartbeats 400000 in
theorem narrowed_num (u : Int) (hu : Num u) (w : World) :
    Calls Tryd.prog 32 #[.agg #[.int .u64 (hiW u), .int .u64 (loW u)]] w fun e w' => e = .returned (.tuple #[.int .u64 (narV u), .bool (narB u)]) ∧ Below w.heap.size w w' := by
  by_cases h : hiW u = 0
  · obtain ⟨e1, e2⟩ := nar_hi hu h
    rw [e1, e2, h]
    go_enter Tryd.func32, Tryd.ntmps32
    go_wp2_with fail
    have HS : Hid ((w.alloc (.cells #[.int .u64 0, .int .u64 (loW u)] 43)).drew.cell? ⟨w.heap.size, 0, none⟩ = some (.int .u64 0) ∧ (w.alloc (.cells #[.int .u64 0, .int .u64 (loW u)] 43)).drew.cell? ⟨w.heap.size, 1, none⟩ = some (.int .u64 (loW u)) ∧ Below w.heap.size w (w.alloc (.cells #[.int .u64 0, .int .u64 (loW u)] 43)).drew ∧ w.heap.size ≤ (w.alloc (.cells #[.int .u64 0, .int .u64 (loW u)] 43)).drew.heap.size) := ⟨by simp, by simp, ((Below.refl _ _).alloc (Nat.le_refl _) _).drew, by simp⟩
    go_region_held3 (fun w' => w'.cell? ⟨w.heap.size, 0, none⟩ = some (.int .u64 0) ∧ w'.cell? ⟨w.heap.size, 1, none⟩ = some (.int .u64 (loW u)) ∧ Below w.heap.size w w' ∧ w.heap.size ≤ w'.heap.size) (first | exact HS.out | exact keep2 (by assumption) (by assumption))
      (first | (go_at_call 34; refine (of_any (loW u) _).mono ?_; rintro e x ⟨rfl, hx⟩))
    have hS : x.cell? ⟨w.heap.size, 0, none⟩ = some (.int .u64 0) ∧ x.cell? ⟨w.heap.size, 1, none⟩ = some (.int .u64 (loW u)) ∧ Below w.heap.size w x ∧ w.heap.size ≤ x.heap.size := by assumption
    obtain ⟨c0, c1, hB, hz⟩ := hS
    go_wp2
    go_ret2
    exact ⟨rfl, hB⟩
  · obtain ⟨e1, e2⟩ := nar_no hu h
    rw [e1, e2]
    have k : (hiW u == 0) = false := by simp [h]
    go_enter Tryd.func32, Tryd.ntmps32
    go_wp2_with fail
    have HS : Hid ((w.alloc (.cells #[.int .u64 (hiW u), .int .u64 (loW u)] 43)).drew.cell? ⟨w.heap.size, 0, none⟩ = some (.int .u64 (hiW u)) ∧ (w.alloc (.cells #[.int .u64 (hiW u), .int .u64 (loW u)] 43)).drew.cell? ⟨w.heap.size, 1, none⟩ = some (.int .u64 (loW u)) ∧ Below w.heap.size w (w.alloc (.cells #[.int .u64 (hiW u), .int .u64 (loW u)] 43)).drew ∧ w.heap.size ≤ (w.alloc (.cells #[.int .u64 (hiW u), .int .u64 (loW u)] 43)).drew.heap.size) := ⟨by simp, by simp, ((Below.refl _ _).alloc (Nat.le_refl _) _).drew, by simp⟩
    go_region_held3 (fun w' => w'.cell? ⟨w.heap.size, 0, none⟩ = some (.int .u64 (hiW u)) ∧ w'.cell? ⟨w.heap.size, 1, none⟩ = some (.int .u64 (loW u)) ∧ Below w.heap.size w w' ∧ w.heap.size ≤ w'.heap.size) (first | exact HS.out | exact keep2 (by assumption) (by assumption))
      (first | (go_at_call 34; refine (of_any (loW u) _).mono ?_; rintro e x ⟨rfl, hx⟩))
    have hS : x.cell? ⟨w.heap.size, 0, none⟩ = some (.int .u64 (hiW u)) ∧ x.cell? ⟨w.heap.size, 1, none⟩ = some (.int .u64 (loW u)) ∧ Below w.heap.size w x ∧ w.heap.size ≤ x.heap.size := by assumption
    obtain ⟨c0, c1, hB, hz⟩ := hS
    go_wp2
    go_ret2
    exact ⟨rfl, hB⟩

theorem div_yes (u b : Int) (hu : Num u) (hb : Word b) (h : b ≠ 0) (w : World) :
    Calls Tryd.prog 39 #[.agg #[.int .u64 (hiW u), .int .u64 (loW u)], .int .u64 b] w fun e w' =>
      e = .returned (.tuple #[.agg #[.int .u64 (hiW (u / b)), .int .u64 (loW (u / b))], .int .u64 (u % b), .bool true]) ∧ Below w.heap.size w w' := by
  have c := div_num u b hu hb w
  obtain ⟨e1, e2, e3, _⟩ := div_facts hu hb h
  rw [e1, e2, e3] at c
  exact c
theorem div_no (u : Int) (hu : Num u) (w : World) :
    Calls Tryd.prog 39 #[.agg #[.int .u64 (hiW u), .int .u64 (loW u)], .int .u64 0] w fun e w' =>
      e = .returned (.tuple #[.agg #[.int .u64 0, .int .u64 0], .int .u64 0, .bool false]) ∧ Below w.heap.size w w' :=
  div_num u 0 hu ⟨by omega, by omega⟩ w
theorem mul_num' (x y : Int) (hx : Word x) (hy : Word y) (w : World) :
    Calls Tryd.prog 28 #[.int .u64 x, .int .u64 y] w fun e w' => e = .returned (.agg #[.int .u64 (hiW (x * y)), .int .u64 (loW (x * y))]) ∧ Below w.heap.size w w' := mul_any x y hx hy w
set_option maxHeartbeats 400000 in
theorem down_num (u b : Int) (hu : Num u) (hb : Word b) (w : World) :
    Calls Tryd.prog 27 #[.agg #[.int .u64 (hiW u), .int .u64 (loW u)], .int .u64 b] w fun e w' => e = .returned (.tuple #[.int .u64 (dnV u b), .bool (dnB u b)]) ∧ Below w.heap.size w w' := by
  by_cases z : b = 0
  · subst z
    rw [show dnV u 0 = 18446744073709551615 from rfl, show dnB u 0 = false from rfl]
    go_enter Tryd.func27, Tryd.ntmps27
    go_wp2_with fail
    refine (div_no u hu _).mono ?_
    rintro e w1 ⟨rfl, hb1⟩
    go_wp2
    go_ret2
    exact ⟨rfl, (((Below.refl _ _).alloc (Nat.le_refl _) _).trans (hb1.mono (by simp))).alloc (by have := hb1.size; simp at this; omega) _⟩
  · obtain ⟨_, _, _, nq, _⟩ := div_facts hu hb z
    rw [show dnV u b = narV (u / b) by unfold dnV; rw [if_neg z], show dnB u b = narB (u / b) by unfold dnB; rw [if_neg z]]
    go_enter Tryd.func27, Tryd.ntmps27
    go_wp2_with fail
    refine (div_yes u b hu hb z _).mono ?_
    rintro e w1 ⟨rfl, hb1⟩
    go_wp2_with fail
    refine (narrowed_num (u / b) nq _).mono ?_
    rintro e w2 ⟨rfl, hb2⟩
    go_wp2
    go_ret2
    have z1 := hb1.size
    simp at z1
    exact ⟨rfl, ((((Below.refl _ _).alloc (Nat.le_refl _) _).trans (hb1.mono (by simp))).alloc (by omega) _).trans (hb2.mono (by simp; omega))⟩

end Go.Proofs.YtpiceckolcakaaaDoor
