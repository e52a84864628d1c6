/-
  THE STATEMENT LadderRungs, walked.
-/
import Derived.Test.YtbnokceagaodkaaDoorShown
import Derived.Test.YtbnokceagaodkaaDoorRefL
import Derived.Test.YtbnokceagaodkaaDoorRefB
import Derived.Test.YtbnokceagaodkaaDoorRefC
import Derived.Deep.DrawnRows
import Derived.Deep.CutBlock
import Derived.Deep.DeepCutAuto
namespace Go.Proofs.YtbnokceagaodkaaDoor
open Go.RowKit Wd Ld

theorem keepS {w x y : World} {s : Nat} {a b : Value} (h : x.cell? ⟨s, 0, none⟩ = some a ∧ x.cell? ⟨s, 1, none⟩ = some b ∧ Below w.heap.size w x ∧ w.heap.size ≤ x.heap.size) (hy : Below x.heap.size x y) :
    y.cell? ⟨s, 0, none⟩ = some a ∧ y.cell? ⟨s, 1, none⟩ = some b ∧ Below w.heap.size w y ∧ w.heap.size ≤ y.heap.size :=
  ⟨keepC hy h.1, keepC hy h.2.1, h.2.2.1.trans (hy.mono h.2.2.2), Nat.le_trans h.2.2.2 hy.size⟩

set_option maxHeartbeats 1000000 in
theorem rungs_no (i : Int) (h : i < 1 ∨ 32 < i) (w : World) (hT : Tab w) : Calls Tryd.prog 3 #[.int .i64 i] w fun r w' => r = .returned (.bool true) ∧ Below w.heap.size w w' := by
  rcases h with h | h
  · go_enter Tryd.func3, Tryd.ntmps3
    go_wp2_with fail
    refine (shown_any w hT).mono ?_
    rintro q w1 ⟨rfl, hb1⟩
    have hT1 := hT.below hb1
    go_wp2_with fail
    refine (rung_no i (.inl h) w1).mono ?_
    rintro q w2 ⟨rfl, rfl⟩
    go_wp2_with fail
    refine (rrung_no i (.inl h) w2).mono ?_
    rintro q w3 ⟨rfl, hb3⟩
    go_wp2
    go_ret
    exact ⟨rfl, hb1.trans (hb3.mono hb1.size)⟩
  · have h' : ¬ i < 1 := by omega
    go_enter Tryd.func3, Tryd.ntmps3
    go_wp2_with fail
    refine (shown_any w hT).mono ?_
    rintro q w1 ⟨rfl, hb1⟩
    have hT1 := hT.below hb1
    go_wp2_with fail
    refine (rung_no i (.inr h) w1).mono ?_
    rintro q w2 ⟨rfl, rfl⟩
    go_wp2_with fail
    refine (rrung_no i (.inr h) w2).mono ?_
    rintro q w3 ⟨rfl, hb3⟩
    go_wp2
    go_ret
    exact ⟨rfl, hb1.trans (hb3.mono hb1.size)⟩

namespace Ld
theorem cmp_low {v a : Int} (h : v ≤ a * 18446744073709551616) : cmpV (val (hiW v) (loW v)) (val a 0) ≤ 0 := by
  rw [val_words]; unfold cmpV val; split <;> (try split) <;> omega
theorem cmp_high {v a : Int} (h : a * 18446744073709551616 < v) : 0 < cmpV (val (hiW v) (loW v)) (val a 0) := by
  rw [val_words]; unfold cmpV val; split <;> (try split) <;> omega
end Ld
theorem rmul_at (x : Int) (hx : Word x) (w : World) : Calls Tryd.prog 11 #[.int .u64 x, .int .u64 x] w fun e w' => e = .returned (.agg #[.int .u64 (hiW (x * x)), .int .u64 (loW (x * x))]) ∧ Below w.heap.size w w' := rmul_any x x hx hx w

set_option maxHeartbeats 2000000 in
theorem rungs_one (w : World) (hT : Tab w) : Calls Tryd.prog 3 #[.int .i64 1] w fun r w' => r = .returned (.bool true) ∧ Below w.heap.size w w' := by
  obtain ⟨r, hr⟩ : ∃ r : Int, r = ((R 0 : Nat) : Int) := ⟨_, rfl⟩
  have hw : Word r := by rw [hr]; exact R_word 0 (by omega)
  have hlt : r < 18446744073709551615 := by have := rung_top 0 (by omega); omega
  obtain ⟨t, et⟩ : ∃ t, IntKind.u64.wrap (r + 1) = t := ⟨_, rfl⟩
  have ht : t = r + 1 := by obtain ⟨_, _⟩ := hw; rw [← et, IntKind.wrap_u64]; omega
  have hw1 : Word t := by obtain ⟨_, _⟩ := hw; exact ⟨by omega, by omega⟩
  have k1 := cmp_low (v := r * r) (a := 9223372036854775808) (by rw [hr]; decide)
  have k2 := cmp_high (v := t * t) (a := 9223372036854775808) (by rw [ht, hr]; decide)
  generalize e1 : cmpV (val (hiW (r * r)) (loW (r * r))) (val 9223372036854775808 0) = c1 at k1
  generalize e2 : cmpV (val (hiW (t * t)) (loW (t * t))) (val 9223372036854775808 0) = c2 at k2
  have hr0 := rung_yes 0 (by decide)
  have hr0' := rrung_yes 0 (by decide)
  rw [← hr] at hr0 hr0'
  have x0 : 0 ≤ r := hw.1
  clear hr ht
  go_enter Tryd.func3, Tryd.ntmps3
  go_wp2_with fail
  refine (shown_any w hT).mono ?_
  rintro q w1 ⟨rfl, hb1⟩
  have hT1 := hT.below hb1
  go_wp2_with fail
  refine (hr0 w1 hT1).mono ?_
  rintro q w2 ⟨rfl, rfl⟩
  go_wp2_with fail
  refine (hr0' w2).mono ?_
  rintro q w3 ⟨rfl, hb3⟩
  have zb1 := hb1.size
  have zb3 := hb3.size
  go_upto_region 10 with fail
  clear hr0 hr0' hT1
  have HS : Hid ((w3.alloc (.cells #[.int .u64 9223372036854775808, .int .u64 0] 26)).drew.cell? ⟨w3.heap.size, 0, none⟩ = some (.int .u64 9223372036854775808) ∧ (w3.alloc (.cells #[.int .u64 9223372036854775808, .int .u64 0] 26)).drew.cell? ⟨w3.heap.size, 1, none⟩ = some (.int .u64 0) ∧ Below w.heap.size w (w3.alloc (.cells #[.int .u64 9223372036854775808, .int .u64 0] 26)).drew ∧ w.heap.size ≤ (w3.alloc (.cells #[.int .u64 9223372036854775808, .int .u64 0] 26)).drew.heap.size) :=
    ⟨by simp, by simp, Below.drew (Below.alloc (hb1.trans (hb3.mono hb1.size)) (by omega) _), by simp; omega⟩
  have hl1 := lo_word (r * r)
  have hl2 := lo_word (t * t)
  have hl0 : Word 0 := ⟨by decide, by decide⟩
  go_region_held3 (fun w' => w'.cell? ⟨w3.heap.size, 0, none⟩ = some (.int .u64 9223372036854775808) ∧ w'.cell? ⟨w3.heap.size, 1, none⟩ = some (.int .u64 0) ∧ Below w.heap.size w w' ∧ w.heap.size ≤ w'.heap.size) (first | exact HS.out | exact keepS (by assumption) (by assumption))
    (first
      | (go_at_call_of 11 (Value.int IntKind.u64 r); refine (rmul_at r hw _).mono ?_; rintro e x ⟨rfl, hx⟩)
      | (go_at_call_of 11 (Value.int IntKind.u64 t); refine (rmul_at t hw1 _).mono ?_; rintro e x ⟨rfl, hx⟩)
      | (go_at_call_of 10 (Value.agg #[Value.int IntKind.u64 (hiW (r * r)), Value.int IntKind.u64 (loW (r * r))]); refine (rcmp_any _ _ 9223372036854775808 0 hl1 hl0 _).mono ?_; rintro e x ⟨rfl, hx⟩; rw [e1])
      | (go_at_call_of 10 (Value.agg #[Value.int IntKind.u64 (hiW (t * t)), Value.int IntKind.u64 (loW (t * t))]); refine (rcmp_any _ _ 9223372036854775808 0 hl2 hl0 _).mono ?_; rintro e x ⟨rfl, hx⟩; rw [e2]))
  have hS : x.cell? ⟨w3.heap.size, 0, none⟩ = some (.int .u64 9223372036854775808) ∧ x.cell? ⟨w3.heap.size, 1, none⟩ = some (.int .u64 0) ∧ Below w.heap.size w x ∧ w.heap.size ≤ x.heap.size := by assumption
  have hB' : Below w.heap.size w x := hS.2.2.1
  clear hS HS
  go_wp2
  go_ret
  exact ⟨rfl, hB'⟩

set_option maxHeartbeats 2000000 in
theorem rungs_more (k : Nat) (hk : k + 1 < 32) (w : World) (hT : Tab w) : Calls Tryd.prog 3 #[.int .i64 ((k : Int) + 2)] w fun r w' => r = .returned (.bool true) ∧ Below w.heap.size w w' := by
  have cl := chain_low (k + 1) hk
  have cn := chain_next (k + 1) hk
  rw [if_neg (by omega), Nat.add_sub_cancel] at cl cn
  obtain ⟨a, ha⟩ : ∃ a : Int, a = ((R k : Nat) : Int) := ⟨_, rfl⟩
  have ha0 : Word a := by rw [ha]; exact R_word k (by omega)
  obtain ⟨r, hr⟩ : ∃ r : Int, r = ((R (k + 1) : Nat) : Int) := ⟨_, rfl⟩
  have hw : Word r := by rw [hr]; exact R_word (k + 1) (by omega)
  have hlt : r < 18446744073709551615 := by have := rung_top (k + 1) (by omega); omega
  obtain ⟨t, et⟩ : ∃ t, IntKind.u64.wrap (r + 1) = t := ⟨_, rfl⟩
  have ht : t = r + 1 := by obtain ⟨_, _⟩ := hw; rw [← et, IntKind.wrap_u64]; omega
  have hw1 : Word t := by obtain ⟨_, _⟩ := hw; exact ⟨by omega, by omega⟩
  have k1 := cmp_low (v := r * r) (a := a) (by rw [hr, ha]; omega)
  have k2 := cmp_high (v := t * t) (a := a) (by rw [ht, hr, ha]; have h' := Int.ofNat_lt.2 cn; rw [Int.natCast_mul, Int.natCast_mul, Int.natCast_add] at h'; exact h')
  generalize e1 : cmpV (val (hiW (r * r)) (loW (r * r))) (val a 0) = c1 at k1
  generalize e2 : cmpV (val (hiW (t * t)) (loW (t * t))) (val a 0) = c2 at k2
  have hr0 := rung_yes (k + 1) (by omega)
  have hr0' := rrung_yes (k + 1) (by omega)
  have hq0 := rung_yes k (by omega)
  rw [← hr, show (((k + 1 : Nat) : Int) + 1) = (k : Int) + 2 by omega] at hr0 hr0'
  rw [← ha, show (k : Int) + 1 = (k : Int) + 2 - 1 by omega] at hq0
  have x0 : 0 ≤ r := hw.1
  have n1 : ¬ ((k : Int) + 2 < 1) := by omega
  have n2 : ¬ (32 < (k : Int) + 2) := by omega
  have n3 : 1 < (k : Int) + 2 := by omega
  clear hr ht ha cl cn
  go_enter Tryd.func3, Tryd.ntmps3
  go_wp2_with fail
  refine (shown_any w hT).mono ?_
  rintro q w1 ⟨rfl, hb1⟩
  have hT1 := hT.below hb1
  go_wp2_with fail
  refine (hr0 w1 hT1).mono ?_
  rintro q w2 ⟨rfl, rfl⟩
  go_wp2_with fail
  refine (hr0' w2).mono ?_
  rintro q w3 ⟨rfl, hb3⟩
  have zb1 := hb1.size
  have zb3 := hb3.size
  have hT3 := (hT1.below hb3).alloc (.cells #[.int .u64 9223372036854775808, .int .u64 0] 26)
  go_wp2_with fail
  refine (hq0 _ hT3).mono ?_
  rintro q w4 ⟨rfl, rfl⟩
  go_upto_region 10 with fail
  clear hr0 hr0' hq0 hT1 hT3
  have HS : Hid ((w3.alloc (.cells #[.int .u64 a, .int .u64 0] 26)).drew.cell? ⟨w3.heap.size, 0, none⟩ = some (.int .u64 a) ∧ (w3.alloc (.cells #[.int .u64 a, .int .u64 0] 26)).drew.cell? ⟨w3.heap.size, 1, none⟩ = some (.int .u64 0) ∧ Below w.heap.size w (w3.alloc (.cells #[.int .u64 a, .int .u64 0] 26)).drew ∧ w.heap.size ≤ (w3.alloc (.cells #[.int .u64 a, .int .u64 0] 26)).drew.heap.size) :=
    ⟨by simp, by simp, Below.drew (Below.alloc (hb1.trans (hb3.mono hb1.size)) (by omega) _), by simp; omega⟩
  have hl1 := lo_word (r * r)
  have hl2 := lo_word (t * t)
  have hl0 : Word 0 := ⟨by decide, by decide⟩
  go_region_held3 (fun w' => w'.cell? ⟨w3.heap.size, 0, none⟩ = some (.int .u64 a) ∧ w'.cell? ⟨w3.heap.size, 1, none⟩ = some (.int .u64 0) ∧ Below w.heap.size w w' ∧ w.heap.size ≤ w'.heap.size) (first | exact HS.out | exact keepS (by assumption) (by assumption))
    (first
      | (go_at_call_of 11 (Value.int IntKind.u64 r); refine (rmul_at r hw _).mono ?_; rintro e x ⟨rfl, hx⟩)
      | (go_at_call_of 11 (Value.int IntKind.u64 t); refine (rmul_at t hw1 _).mono ?_; rintro e x ⟨rfl, hx⟩)
      | (go_at_call_of 10 (Value.agg #[Value.int IntKind.u64 (hiW (r * r)), Value.int IntKind.u64 (loW (r * r))]); refine (rcmp_any _ _ a 0 hl1 hl0 _).mono ?_; rintro e x ⟨rfl, hx⟩; rw [e1])
      | (go_at_call_of 10 (Value.agg #[Value.int IntKind.u64 (hiW (t * t)), Value.int IntKind.u64 (loW (t * t))]); refine (rcmp_any _ _ a 0 hl2 hl0 _).mono ?_; rintro e x ⟨rfl, hx⟩; rw [e2]))
  have hS : x.cell? ⟨w3.heap.size, 0, none⟩ = some (.int .u64 a) ∧ x.cell? ⟨w3.heap.size, 1, none⟩ = some (.int .u64 0) ∧ Below w.heap.size w x ∧ w.heap.size ≤ x.heap.size := by assumption
  have hB' : Below w.heap.size w x := hS.2.2.1
  clear hS HS
  go_wp2
  go_ret
  exact ⟨rfl, hB'⟩

theorem rungs_walk (i : Int) (w : World) (hT : Tab w) : Calls Tryd.prog 3 #[.int .i64 i] w fun r w' => r = .returned (.bool true) ∧ Below w.heap.size w w' := by
  by_cases h : i < 1 ∨ 32 < i
  · exact rungs_no i h w hT
  · by_cases h1 : i = 1
    · subst h1; exact rungs_one w hT
    · obtain ⟨k, rfl⟩ : ∃ k : Nat, i = (k : Int) + 2 := ⟨(i - 2).toNat, by omega⟩
      exact rungs_more k (by omega) w hT
end Go.Proofs.YtbnokceagaodkaaDoor
