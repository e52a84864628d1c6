/-
  THE CONTRACTS OF PACKAGE fixq, leaves first: what each call answers, over the functions of ..MathF; of old memory nothing turns.
  THE CONTRACTS OF PACKAGE fixq: its nine calls.
  THE CONTRACTS OF PACKAGE fixq: its nine calls.
-/
import Derived.Test.YtbcinapnnlfnbaaGreatXnu
namespace Go.Proofs.YtbcinapnnlfnbaaGreat
open Go.RowKit Wd

theorem keep2 {W w w0 : World} {a0 a1 : Addr} {v0 v1 : Value} (hb : Below W.heap.size W w) (h : W.cell? a0 = some v0 ∧ W.cell? a1 = some v1 ∧ Below w0.heap.size w0 W ∧ w0.heap.size ≤ W.heap.size) : w.cell? a0 = some v0 ∧ w.cell? a1 = some v1 ∧ Below w0.heap.size w0 w ∧ w0.heap.size ≤ w.heap.size := by
  obtain ⟨h0, h1, hB, hz⟩ := h
  exact ⟨keepC hb h0, keepC hb h1, hB.trans (hb.mono hz), Nat.le_trans hz hb.size⟩

set_option maxHeartbeats 400000 in
theorem narrowed_num (u : Int) (hu : Num u) (w : World) :
    Calls Tryz.prog 126 #[.agg #[.int .u64 (hiW u), .int .u64 (loW u)]] w fun e w' => e = .returned (.tuple #[.int .u64 (narV u), .bool (narB u)]) ∧ Below w.heap.size w w' := by
  by_cases h : hiW u = 0
  · obtain ⟨e1, e2⟩ := nar_hi hu h
    rw [e1, e2, h]
    go_enter Tryz.func126, Tryz.ntmps126
    go_wp2_with fail
    have HS : Hid ((w.alloc (.cells #[.int .u64 0, .int .u64 (loW u)] 111)).drew.cell? ⟨w.heap.size, 0, none⟩ = some (.int .u64 0) ∧ (w.alloc (.cells #[.int .u64 0, .int .u64 (loW u)] 111)).drew.cell? ⟨w.heap.size, 1, none⟩ = some (.int .u64 (loW u)) ∧ Below w.heap.size w (w.alloc (.cells #[.int .u64 0, .int .u64 (loW u)] 111)).drew ∧ w.heap.size ≤ (w.alloc (.cells #[.int .u64 0, .int .u64 (loW u)] 111)).drew.heap.size) := ⟨by simp, by simp, ((Below.refl _ _).alloc (Nat.le_refl _) _).drew, by simp⟩
    go_region_held3 (fun w' => w'.cell? ⟨w.heap.size, 0, none⟩ = some (.int .u64 0) ∧ w'.cell? ⟨w.heap.size, 1, none⟩ = some (.int .u64 (loW u)) ∧ Below w.heap.size w w' ∧ w.heap.size ≤ w'.heap.size) (first | exact HS.out | exact keep2 (by assumption) (by assumption))
      (first | (go_at_call 107; refine (of_any (loW u) _).mono ?_; rintro e x ⟨rfl, hx⟩))
    have hS : x.cell? ⟨w.heap.size, 0, none⟩ = some (.int .u64 0) ∧ x.cell? ⟨w.heap.size, 1, none⟩ = some (.int .u64 (loW u)) ∧ Below w.heap.size w x ∧ w.heap.size ≤ x.heap.size := by assumption
    obtain ⟨c0, c1, hB, hz⟩ := hS
    go_wp2
    go_ret2
    exact ⟨rfl, hB⟩
  · obtain ⟨e1, e2⟩ := nar_no hu h
    rw [e1, e2]
    have k : (hiW u == 0) = false := by simp [h]
    go_enter Tryz.func126, Tryz.ntmps126
    go_wp2_with fail
    have HS : Hid ((w.alloc (.cells #[.int .u64 (hiW u), .int .u64 (loW u)] 111)).drew.cell? ⟨w.heap.size, 0, none⟩ = some (.int .u64 (hiW u)) ∧ (w.alloc (.cells #[.int .u64 (hiW u), .int .u64 (loW u)] 111)).drew.cell? ⟨w.heap.size, 1, none⟩ = some (.int .u64 (loW u)) ∧ Below w.heap.size w (w.alloc (.cells #[.int .u64 (hiW u), .int .u64 (loW u)] 111)).drew ∧ w.heap.size ≤ (w.alloc (.cells #[.int .u64 (hiW u), .int .u64 (loW u)] 111)).drew.heap.size) := ⟨by simp, by simp, ((Below.refl _ _).alloc (Nat.le_refl _) _).drew, by simp⟩
    go_region_held3 (fun w' => w'.cell? ⟨w.heap.size, 0, none⟩ = some (.int .u64 (hiW u)) ∧ w'.cell? ⟨w.heap.size, 1, none⟩ = some (.int .u64 (loW u)) ∧ Below w.heap.size w w' ∧ w.heap.size ≤ w'.heap.size) (first | exact HS.out | exact keep2 (by assumption) (by assumption))
      (first | (go_at_call 107; refine (of_any (loW u) _).mono ?_; rintro e x ⟨rfl, hx⟩))
    have hS : x.cell? ⟨w.heap.size, 0, none⟩ = some (.int .u64 (hiW u)) ∧ x.cell? ⟨w.heap.size, 1, none⟩ = some (.int .u64 (loW u)) ∧ Below w.heap.size w x ∧ w.heap.size ≤ x.heap.size := by assumption
    obtain ⟨c0, c1, hB, hz⟩ := hS
    go_wp2
    go_ret2
    exact ⟨rfl, hB⟩

theorem div_yes (u b : Int) (hu : Num u) (hb : Word b) (h : b ≠ 0) (w : World) :
    Calls Tryz.prog 125 #[.agg #[.int .u64 (hiW u), .int .u64 (loW u)], .int .u64 b] w fun e w' =>
      e = .returned (.tuple #[.agg #[.int .u64 (hiW (u / b)), .int .u64 (loW (u / b))], .int .u64 (u % b), .bool true]) ∧ Below w.heap.size w w' := by
  have c := div_num u b hu hb w
  obtain ⟨e1, e2, e3, _⟩ := div_facts hu hb h
  rw [e1, e2, e3] at c
  exact c
theorem div_no (u : Int) (hu : Num u) (w : World) :
    Calls Tryz.prog 125 #[.agg #[.int .u64 (hiW u), .int .u64 (loW u)], .int .u64 0] w fun e w' =>
      e = .returned (.tuple #[.agg #[.int .u64 0, .int .u64 0], .int .u64 0, .bool false]) ∧ Below w.heap.size w w' :=
  div_num u 0 hu ⟨by omega, by omega⟩ w
theorem mul_num' (x y : Int) (hx : Word x) (hy : Word y) (w : World) :
    Calls Tryz.prog 108 #[.int .u64 x, .int .u64 y] w fun e w' => e = .returned (.agg #[.int .u64 (hiW (x * y)), .int .u64 (loW (x * y))]) ∧ Below w.heap.size w w' := mul_any x y hx hy w
theorem times_yes (u b : Int) (hu : Num u) (hb : Word b) (h : b ≠ 0) (w : World) :
    Calls Tryz.prog 87 #[.agg #[.int .u64 (hiW (u / b)), .int .u64 (loW (u / b))], .int .u64 b] w fun e w' =>
      e = .returned (.tuple #[.agg #[.int .u64 (hiW (u / b * b)), .int .u64 (loW (u / b * b))], .bool (timB (u / b) b)]) ∧ Below w.heap.size w w' := by
  obtain ⟨_, _, _, nq, _, _, _, e⟩ := div_facts hu hb h
  have c := times_num (u / b) b nq hb w
  rw [e] at c
  exact c

set_option maxHeartbeats 400000 in
theorem down_num (u b : Int) (hu : Num u) (hb : Word b) (w : World) :
    Calls Tryz.prog 122 #[.agg #[.int .u64 (hiW u), .int .u64 (loW u)], .int .u64 b] w fun e w' => e = .returned (.tuple #[.int .u64 (dnV u b), .bool (dnB u b)]) ∧ Below w.heap.size w w' := by
  by_cases z : b = 0
  · subst z
    rw [show dnV u 0 = 18446744073709551615 from rfl, show dnB u 0 = false from rfl]
    go_enter Tryz.func122, Tryz.ntmps122
    go_wp2_with fail
    refine (div_no u hu _).mono ?_
    rintro e w1 ⟨rfl, hb1⟩
    go_wp2
    go_ret2
    exact ⟨rfl, (((Below.refl _ _).alloc (Nat.le_refl _) _).trans (hb1.mono (by simp))).alloc (by have := hb1.size; simp at this; omega) _⟩
  · obtain ⟨_, _, _, nq, _⟩ := div_facts hu hb z
    rw [show dnV u b = narV (u / b) by unfold dnV; rw [if_neg z], show dnB u b = narB (u / b) by unfold dnB; rw [if_neg z]]
    go_enter Tryz.func122, Tryz.ntmps122
    go_wp2_with fail
    refine (div_yes u b hu hb z _).mono ?_
    rintro e w1 ⟨rfl, hb1⟩
    go_wp2_with fail
    refine (narrowed_num (u / b) nq _).mono ?_
    rintro e w2 ⟨rfl, hb2⟩
    go_wp2
    go_ret2
    have z1 := hb1.size
    simp at z1
    exact ⟨rfl, ((((Below.refl _ _).alloc (Nat.le_refl _) _).trans (hb1.mono (by simp))).alloc (by omega) _).trans (hb2.mono (by simp; omega))⟩

set_option maxHeartbeats 400000 in
theorem up_num (u b : Int) (hu : Num u) (hb : Word b) (w : World) :
    Calls Tryz.prog 123 #[.agg #[.int .u64 (hiW u), .int .u64 (loW u)], .int .u64 b] w fun e w' => e = .returned (.tuple #[.int .u64 (upV u b), .bool (upB u b)]) ∧ Below w.heap.size w w' := by
  by_cases z : b = 0
  · subst z
    rw [show upV u 0 = 18446744073709551615 from rfl, show upB u 0 = false from rfl]
    go_enter Tryz.func123, Tryz.ntmps123
    go_wp2_with fail
    refine (div_no u hu _).mono ?_
    rintro e w1 ⟨rfl, hb1⟩
    go_wp2
    go_ret2
    exact ⟨rfl, (((Below.refl _ _).alloc (Nat.le_refl _) _).trans (hb1.mono (by simp))).alloc (by have := hb1.size; simp at this; omega) _⟩
  · obtain ⟨_, _, _, nq, m0, m1, em, _⟩ := div_facts hu hb z
    rw [show upV u b = narV (ceilV u b) by unfold upV; rw [if_neg z], show upB u b = narB (ceilV u b) by unfold upB; rw [if_neg z]]
    by_cases m : u % b = 0
    · have e5 : ceilV u b = u / b := by unfold ceilV; rw [if_pos m]
      have e6 : u / b * b = u := by omega
      rw [e5]
      go_enter Tryz.func123, Tryz.ntmps123
      go_wp2_with fail
      refine (div_yes u b hu hb z _).mono ?_
      rintro e w1 ⟨rfl, hb1⟩
      have c0 : w1.cell? ⟨w.heap.size, 0, none⟩ = some (.int .u64 (hiW u)) := keepC hb1 (by simp)
      have c1 : w1.cell? ⟨w.heap.size, 1, none⟩ = some (.int .u64 (loW u)) := keepC hb1 (by simp)
      have z1 := hb1.size
      simp at z1
      go_wp2_with fail
      refine (times_yes u b hu hb z _).mono ?_
      rw [e6]
      rintro e w2 ⟨rfl, hb2⟩
      have z2 := hb2.size
      simp at z2
      have n2 : w.heap.size < w2.heap.size := by omega
      have n3 : w1.heap.size < w2.heap.size := by omega
      replace c0 := keepC hb2 (allocC _ c0)
      replace c1 := keepC hb2 (allocC _ c1)
      have q0 : w2.cell? ⟨w1.heap.size, 0, none⟩ = some (.int .u64 (hiW (u / b))) := keepC hb2 (by simp)
      have q1 : w2.cell? ⟨w1.heap.size, 1, none⟩ = some (.int .u64 (loW (u / b))) := keepC hb2 (by simp)
      go_wp2_with fail
      refine (narrowed_num (u / b) nq _).mono ?_
      rintro e w3 ⟨rfl, hb3⟩
      go_wp2
      go_ret2
      exact ⟨rfl, ((((((Below.refl _ _).alloc (Nat.le_refl _) _).trans (hb1.mono (by simp))).alloc (by omega) _).trans (hb2.mono (by simp; omega))).alloc (by omega) _).trans (hb3.mono (by simp; omega))⟩
    · have e5 : ceilV u b = u / b + 1 := by unfold ceilV; rw [if_neg m]
      obtain ⟨ea, na⟩ := div_more hu hb z m
      rw [e5]
      have hne := words_ne (show u / b * b ≠ u by omega)
      have k2 : (hiW (u / b * b) == hiW u && loW (u / b * b) == loW u) = false := by simpa using hne
      go_enter Tryz.func123, Tryz.ntmps123
      go_wp2_with fail
      refine (div_yes u b hu hb z _).mono ?_
      rintro e w1 ⟨rfl, hb1⟩
      have c0 : w1.cell? ⟨w.heap.size, 0, none⟩ = some (.int .u64 (hiW u)) := keepC hb1 (by simp)
      have c1 : w1.cell? ⟨w.heap.size, 1, none⟩ = some (.int .u64 (loW u)) := keepC hb1 (by simp)
      have z1 := hb1.size
      simp at z1
      go_wp2_with fail
      refine (times_yes u b hu hb z _).mono ?_
      rintro e w2 ⟨rfl, hb2⟩
      have z2 := hb2.size
      simp at z2
      have n2 : w.heap.size < w2.heap.size := by omega
      have n3 : w1.heap.size < w2.heap.size := by omega
      replace c0 := keepC hb2 (allocC _ c0)
      replace c1 := keepC hb2 (allocC _ c1)
      have q0 : w2.cell? ⟨w1.heap.size, 0, none⟩ = some (.int .u64 (hiW (u / b))) := keepC hb2 (by simp)
      have q1 : w2.cell? ⟨w1.heap.size, 1, none⟩ = some (.int .u64 (loW (u / b))) := keepC hb2 (by simp)
      have f0 : w2.frozen? ⟨w1.heap.size, 0, none⟩ = false := by rw [(bcell hb2).2 _ _ (by simp)]; simp [go_sem]
      have f1 : w2.frozen? ⟨w1.heap.size, 1, none⟩ = false := by rw [(bcell hb2).2 _ _ (by simp)]; simp [go_sem]
      go_wp2_with fail
      all_goals
        clear c0 c1
        go_region_with (first
          | (go_at_call 107; refine (of_num 1 ⟨by omega, by omega⟩ _).mono ?_; rintro e x ⟨rfl, hx⟩; have x0 : x.cell? ⟨w1.heap.size, 0, none⟩ = some (.int .u64 (hiW (u / b))) := keepC hx (allocC _ q0); have x1 : x.cell? ⟨w1.heap.size, 1, none⟩ = some (.int .u64 (loW (u / b))) := keepC hx (allocC _ q1); have y0 : x.frozen? ⟨w1.heap.size, 0, none⟩ = false := keepF hx (allocC _ q0) (allocF _ _ f0); have y1 : x.frozen? ⟨w1.heap.size, 1, none⟩ = false := keepF hx (allocC _ q1) (allocF _ _ f1))
          | (go_at_call 110; refine (add_num (u / b) 1 nq ⟨by omega, by unfold top; omega⟩ _).mono ?_; rw [ea]; rintro e y ⟨rfl, hy⟩; have u0 := keepC hy x0; have u1 := keepC hy x1; have v0 := keepF hy x0 y0; have v1 := keepF hy x1 y1))
        all_goals
          have s1 := hx.size
          have s2 := hy.size
          simp at s1
          have HY : Hid (Below w.heap.size w y) := (((((((Below.refl _ _).alloc (Nat.le_refl _) _).trans (hb1.mono (by simp))).alloc (by omega) _).trans (hb2.mono (by simp; omega))).alloc (by omega) _).drew.trans (hx.mono (by simp; omega))).trans (hy.mono (by omega))
          go_wp2_with fail
          refine (narrowed_num (u / b + 1) na _).mono ?_
          rintro e w3 ⟨rfl, hb3⟩
          go_wp2
          go_ret2
          exact ⟨rfl, ((HY.out.setCell (by simp; omega) _).setCell (by simp; omega) _).trans (hb3.mono (by simp; omega))⟩
end Go.Proofs.YtbcinapnnlfnbaaGreat
namespace Go.Proofs.YtbcinapnnlfnbaaGreat
open Go.RowKit Wd

namespace Wd
theorem word32 : Word 4294967296 := ⟨by omega, by omega⟩
theorem word63 : Word 9223372036854775808 := ⟨by omega, by omega⟩
theorem add_words {a b : Int} (ha : Word a) (hb : Word b) : addV a b = a + b ∧ Num (a + b) := by
  obtain ⟨_, _⟩ := ha; obtain ⟨_, _⟩ := hb
  have h : a + b ≤ top := by unfold top; omega
  exact ⟨by unfold addV; rw [if_pos h], by omega, h⟩
theorem sub_words {a b : Int} (ha : Word a) (hb : Word b) : Word (subV a b) := by
  obtain ⟨_, _⟩ := ha; obtain ⟨_, _⟩ := hb
  unfold subV Word; split <;> omega
end Wd

theorem divDown_any (a b : Int) (ha : Word a) (hb : Word b) (w : World) :
    Calls Tryz.prog 117 #[.int .u64 a, .int .u64 b] w fun e w' => e = .returned (.tuple #[.int .u64 (dnV (a * 4294967296) b), .bool (dnB (a * 4294967296) b)]) ∧ Below w.heap.size w w' := by
  go_enter Tryz.func117, Tryz.ntmps117
  go_wp2_with fail
  refine (mul_any a 4294967296 ha word32 _).mono ?_
  rintro e w1 ⟨rfl, hb1⟩
  go_wp2_with fail
  refine (down_num (a * 4294967296) b (mul_num ha word32) hb _).mono ?_
  rintro e w2 ⟨rfl, hb2⟩
  go_wp2
  go_ret2
  exact ⟨rfl, hb1.trans (hb2.mono hb1.size)⟩
theorem divUp_any (a b : Int) (ha : Word a) (hb : Word b) (w : World) :
    Calls Tryz.prog 118 #[.int .u64 a, .int .u64 b] w fun e w' => e = .returned (.tuple #[.int .u64 (upV (a * 4294967296) b), .bool (upB (a * 4294967296) b)]) ∧ Below w.heap.size w w' := by
  go_enter Tryz.func118, Tryz.ntmps118
  go_wp2_with fail
  refine (mul_any a 4294967296 ha word32 _).mono ?_
  rintro e w1 ⟨rfl, hb1⟩
  go_wp2_with fail
  refine (up_num (a * 4294967296) b (mul_num ha word32) hb _).mono ?_
  rintro e w2 ⟨rfl, hb2⟩
  go_wp2
  go_ret2
  exact ⟨rfl, hb1.trans (hb2.mono hb1.size)⟩

end Go.Proofs.YtbcinapnnlfnbaaGreat
namespace Go.Proofs.YtbcinapnnlfnbaaGreat
open Go.RowKit Wd

namespace Wd
end Wd

end Go.Proofs.YtbcinapnnlfnbaaGreat
