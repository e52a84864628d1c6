/-
  THE STATEMENT LadderFalls, walked: e at most f. Numbers are told apart from how they are made.
-/
import Derived.Test.YtbnokceagaodkaaDoorShown
import Derived.Test.YtbnokceagaodkaaDoorRefB
import Derived.Test.YtbnokceagaodkaaDoorRefC
import Derived.Deep.CutBlock
import Derived.Deep.DeepCutAuto
namespace Go.Proofs.YtbnokceagaodkaaDoor
open Go.RowKit Wd Ld

/-- What Half, and Bounds, answers at e. -/
def HalfAt (e a : Int) : Prop := ∀ w, Tab w → Calls Tryd.prog 14 #[.int .u64 e] w fun r w' => r = .returned (.int .u64 a) ∧ Below w.heap.size w w'
def BoundsAt (e a b : Int) : Prop := ∀ w, Tab w → Calls Tryd.prog 12 #[.int .u64 e] w fun r w' => r = .returned (.tuple #[.int .u64 a, .int .u64 b]) ∧ Below w.heap.size w w'

set_option maxHeartbeats 4000000 in
set_option maxRecDepth 20000 in
theorem falls_last (ha : HalfAt 18446744073709551615 0) (hd : HalfAt 12884901888 1152921504606846976) (w : World) (hT : Tab w) :
    Calls Tryd.prog 5 #[.int .u64 18446744073709551615, .int .u64 18446744073709551615] w fun r w' => r = .returned (.bool true) ∧ Below w.heap.size w w' := by
  go_enter Tryd.func5, Tryd.ntmps5
  go_wp2_with fail
  refine (shown_any w hT).mono ?_
  rintro r w1 ⟨rfl, hb1⟩
  have hT1 := hT.below hb1
  go_wp2_with fail
  refine (ha w1 hT1).mono ?_
  rintro r w2 ⟨rfl, hb2⟩
  have hT2 := hT1.below hb2
  go_wp2_with fail
  refine (ha w2 hT2).mono ?_
  rintro r w3 ⟨rfl, hb3⟩
  have hT3 := hT2.below hb3
  have hB3 : Below w.heap.size w w3 := (hb1.trans (hb2.mono hb1.size)).trans (hb3.mono (Nat.le_trans hb1.size hb2.size))
  have hz3 : w.heap.size ≤ w3.heap.size := Nat.le_trans (Nat.le_trans hb1.size hb2.size) hb3.size
  clear hb1 hb2 hb3 hT1 hT2
  have hB5 := hB3
  have hz5 := hz3
  have hT5 := hT3
  clear hB3 hz3 hT3
  go_wp2_with fail
  refine (hd w3 hT5).mono ?_
  rintro r w6 ⟨rfl, hb6⟩
  have hT6 := hT5.below hb6
  have hB6 : Below w.heap.size w w6 := hB5.trans (hb6.mono hz5)
  have hz6 : w.heap.size ≤ w6.heap.size := Nat.le_trans hz5 hb6.size
  clear hb6 hT5 hB5 hz5
  go_wp2
  go_ret
  exact ⟨rfl, hB6⟩

set_option maxHeartbeats 4000000 in
set_option maxRecDepth 20000 in
theorem falls_great (e f a b n : Int) (he0 : 0 ≤ e) (he : e < 18446744073709551616) (hef : e ≤ f) (ha : HalfAt e a) (hb : HalfAt f b) (hab : b ≤ a) (hn : e / 4294967296 % 63 = n) (hd : HalfAt (n * 4294967296) (9223372036854775808 / 2 ^ n.toNat)) (c : Int) (hc : HalfAt (e + 1) c) (hac : c ≤ a) (hl : e < 18446744073709551615) (hg : 9223372036854775808 ≤ e) (w : World) (hT : Tab w) :
    Calls Tryd.prog 5 #[.int .u64 e, .int .u64 f] w fun r w' => r = .returned (.bool true) ∧ Below w.heap.size w w' := by
  go_enter Tryd.func5, Tryd.ntmps5
  go_wp2_with fail
  refine (shown_any w hT).mono ?_
  rintro r w1 ⟨rfl, hb1⟩
  have hT1 := hT.below hb1
  go_wp2_with fail
  refine (ha w1 hT1).mono ?_
  rintro r w2 ⟨rfl, hb2⟩
  have hT2 := hT1.below hb2
  go_wp2_with fail
  refine (hb w2 hT2).mono ?_
  rintro r w3 ⟨rfl, hb3⟩
  have hT3 := hT2.below hb3
  have hB3 : Below w.heap.size w w3 := (hb1.trans (hb2.mono hb1.size)).trans (hb3.mono (Nat.le_trans hb1.size hb2.size))
  have hz3 : w.heap.size ≤ w3.heap.size := Nat.le_trans (Nat.le_trans hb1.size hb2.size) hb3.size
  clear hb1 hb2 hb3 hT1 hT2
  go_wp2_with fail
  refine (ha w3 hT3).mono ?_
  rintro r w4 ⟨rfl, hb4⟩
  have hT4 := hT3.below hb4
  go_wp2_with fail
  refine (hc w4 hT4).mono ?_
  rintro r w5 ⟨rfl, hb5⟩
  have hT5 := hT4.below hb5
  have hB5 : Below w.heap.size w w5 := (hB3.trans (hb4.mono hz3)).trans (hb5.mono (Nat.le_trans hz3 hb4.size))
  have hz5 : w.heap.size ≤ w5.heap.size := Nat.le_trans (Nat.le_trans hz3 hb4.size) hb5.size
  clear hb4 hb5 hT3 hT4 hB3 hz3
  go_wp2_with fail
  refine (hd w5 hT5).mono ?_
  rintro r w6 ⟨rfl, hb6⟩
  have hT6 := hT5.below hb6
  have hB6 : Below w.heap.size w w6 := hB5.trans (hb6.mono hz5)
  have hz6 : w.heap.size ≤ w6.heap.size := Nat.le_trans hz5 hb6.size
  clear hb6 hT5 hB5 hz5
  go_wp2
  go_ret
  exact ⟨rfl, hB6⟩

set_option maxHeartbeats 4000000 in
set_option maxRecDepth 20000 in
theorem falls_small (e f a b n : Int) (he0 : 0 ≤ e) (he : e < 18446744073709551616) (hef : e ≤ f) (ha : HalfAt e a) (hb : HalfAt f b) (hab : b ≤ a) (hn : e / 4294967296 % 63 = n) (hd : HalfAt (n * 4294967296) (9223372036854775808 / 2 ^ n.toNat)) (c : Int) (hc : HalfAt (e + 1) c) (hac : c ≤ a) (hg : e < 9223372036854775808) (u x y c1 c2 : Int) (hu : BoundsAt e a u) (hx : BoundsAt (2 * e) x y) (hau : a ≤ u) (wa : Word a) (wu : Word u) (wx : Word x) (wy : Word y)
    (e1 : cmpV (val (hiW (a * a)) (loW (a * a))) (val (hiW (9223372036854775808 * y)) (loW (9223372036854775808 * y))) = c1) (h1 : c1 ≤ 0)
    (e2 : cmpV (val (hiW (u * u)) (loW (u * u))) (val (hiW (9223372036854775808 * x)) (loW (9223372036854775808 * x))) = c2) (h2 : 0 ≤ c2) (w : World) (hT : Tab w) :
    Calls Tryd.prog 5 #[.int .u64 e, .int .u64 f] w fun r w' => r = .returned (.bool true) ∧ Below w.heap.size w w' := by
  have hl : e < 18446744073709551615 := by omega
  have wo : Word 9223372036854775808 := ⟨by decide, by decide⟩
  have E1 : Hid _ := e1
  have E2 : Hid _ := e2
  clear e1 e2
  go_enter Tryd.func5, Tryd.ntmps5
  go_wp2_with fail
  refine (shown_any w hT).mono ?_
  rintro r w1 ⟨rfl, hb1⟩
  have hT1 := hT.below hb1
  go_wp2_with fail
  refine (ha w1 hT1).mono ?_
  rintro r w2 ⟨rfl, hb2⟩
  have hT2 := hT1.below hb2
  go_wp2_with fail
  refine (hb w2 hT2).mono ?_
  rintro r w3 ⟨rfl, hb3⟩
  have hT3 := hT2.below hb3
  have hB3 : Below w.heap.size w w3 := (hb1.trans (hb2.mono hb1.size)).trans (hb3.mono (Nat.le_trans hb1.size hb2.size))
  have hz3 : w.heap.size ≤ w3.heap.size := Nat.le_trans (Nat.le_trans hb1.size hb2.size) hb3.size
  clear hb1 hb2 hb3 hT1 hT2
  go_wp2_with fail
  refine (ha w3 hT3).mono ?_
  rintro r w4 ⟨rfl, hb4⟩
  have hT4 := hT3.below hb4
  go_wp2_with fail
  refine (hc w4 hT4).mono ?_
  rintro r w5 ⟨rfl, hb5⟩
  have hT5 := hT4.below hb5
  have hB5 : Below w.heap.size w w5 := (hB3.trans (hb4.mono hz3)).trans (hb5.mono (Nat.le_trans hz3 hb4.size))
  have hz5 : w.heap.size ≤ w5.heap.size := Nat.le_trans (Nat.le_trans hz3 hb4.size) hb5.size
  clear hb4 hb5 hT3 hT4 hB3 hz3
  go_wp2_with fail
  refine (hd w5 hT5).mono ?_
  rintro r w6 ⟨rfl, hb6⟩
  have hT6 := hT5.below hb6
  have hB6 : Below w.heap.size w w6 := hB5.trans (hb6.mono hz5)
  have hz6 : w.heap.size ≤ w6.heap.size := Nat.le_trans hz5 hb6.size
  clear hb6 hT5 hB5 hz5
  go_wp2_with fail
  refine (hu w6 hT6).mono ?_
  rintro r w7 ⟨rfl, hb7⟩
  have hT7 := hT6.below hb7
  go_wp2_with fail
  refine (hx w7 hT7).mono ?_
  rintro r w8 ⟨rfl, hb8⟩
  have hB8 : Below w.heap.size w w8 := (hB6.trans (hb7.mono hz6)).trans (hb8.mono (Nat.le_trans hz6 hb7.size))
  have hz8 : w.heap.size ≤ w8.heap.size := Nat.le_trans (Nat.le_trans hz6 hb7.size) hb8.size
  clear hb7 hb8 hT6 hT7 hB6 hz6
  go_wp2_with fail
  refine (rmul_any a a wa wa w8).mono ?_
  rintro r v1 ⟨rfl, q1⟩
  go_wp2_with fail
  refine (rmul_any _ y wo wy v1).mono ?_
  rintro r v2 ⟨rfl, q2⟩
  go_wp2_with fail
  refine (rcmp_any _ _ _ _ (lo_word _) (lo_word _) v2).mono ?_
  rintro r v3 ⟨rfl, q3⟩
  rw [E1.out]
  have hB9 : Below w.heap.size w v3 := ((hB8.trans (q1.mono hz8)).trans (q2.mono (Nat.le_trans hz8 q1.size))).trans (q3.mono (Nat.le_trans (Nat.le_trans hz8 q1.size) q2.size))
  have hz9 : w.heap.size ≤ v3.heap.size := Nat.le_trans (Nat.le_trans (Nat.le_trans hz8 q1.size) q2.size) q3.size
  clear q1 q2 q3 hB8 hz8
  go_wp2_with fail
  refine (rmul_any u u wu wu v3).mono ?_
  rintro r v4 ⟨rfl, q4⟩
  go_wp2_with fail
  refine (rmul_any _ x wo wx v4).mono ?_
  rintro r v5 ⟨rfl, q5⟩
  go_wp2_with fail
  refine (rcmp_any _ _ _ _ (lo_word _) (lo_word _) v5).mono ?_
  rintro r v6 ⟨rfl, q6⟩
  rw [E2.out]
  have hB : Below w.heap.size w v6 := ((hB9.trans (q4.mono hz9)).trans (q5.mono (Nat.le_trans hz9 q4.size))).trans (q6.mono (Nat.le_trans (Nat.le_trans hz9 q4.size) q5.size))
  clear q4 q5 q6 hB9 hz9
  go_wp2
  go_ret
  exact ⟨rfl, hB⟩

set_option maxHeartbeats 4000000 in
set_option maxRecDepth 20000 in
theorem falls_greatS (e f a b n : Int) (he0 : 0 ≤ e) (he : e < 18446744073709551616) (hef : e < f) (ha : HalfAt e a) (hb : HalfAt f b) (hab : b ≤ a) (hn : e / 4294967296 % 63 = n) (hd : HalfAt (n * 4294967296) (9223372036854775808 / 2 ^ n.toNat)) (c : Int) (hc : HalfAt (e + 1) c) (hac : c ≤ a) (hl : e < 18446744073709551615) (hg : 9223372036854775808 ≤ e) (w : World) (hT : Tab w) :
    Calls Tryd.prog 5 #[.int .u64 f, .int .u64 e] w fun r w' => r = .returned (.bool true) ∧ Below w.heap.size w w' := by
  go_enter Tryd.func5, Tryd.ntmps5
  go_wp2_with fail
  refine (shown_any w hT).mono ?_
  rintro r w1 ⟨rfl, hb1⟩
  have hT1 := hT.below hb1
  go_wp2_with fail
  refine (ha w1 hT1).mono ?_
  rintro r w2 ⟨rfl, hb2⟩
  have hT2 := hT1.below hb2
  go_wp2_with fail
  refine (hb w2 hT2).mono ?_
  rintro r w3 ⟨rfl, hb3⟩
  have hT3 := hT2.below hb3
  have hB3 : Below w.heap.size w w3 := (hb1.trans (hb2.mono hb1.size)).trans (hb3.mono (Nat.le_trans hb1.size hb2.size))
  have hz3 : w.heap.size ≤ w3.heap.size := Nat.le_trans (Nat.le_trans hb1.size hb2.size) hb3.size
  clear hb1 hb2 hb3 hT1 hT2
  go_wp2_with fail
  refine (ha w3 hT3).mono ?_
  rintro r w4 ⟨rfl, hb4⟩
  have hT4 := hT3.below hb4
  go_wp2_with fail
  refine (hc w4 hT4).mono ?_
  rintro r w5 ⟨rfl, hb5⟩
  have hT5 := hT4.below hb5
  have hB5 : Below w.heap.size w w5 := (hB3.trans (hb4.mono hz3)).trans (hb5.mono (Nat.le_trans hz3 hb4.size))
  have hz5 : w.heap.size ≤ w5.heap.size := Nat.le_trans (Nat.le_trans hz3 hb4.size) hb5.size
  clear hb4 hb5 hT3 hT4 hB3 hz3
  go_wp2_with fail
  refine (hd w5 hT5).mono ?_
  rintro r w6 ⟨rfl, hb6⟩
  have hT6 := hT5.below hb6
  have hB6 : Below w.heap.size w w6 := hB5.trans (hb6.mono hz5)
  have hz6 : w.heap.size ≤ w6.heap.size := Nat.le_trans hz5 hb6.size
  clear hb6 hT5 hB5 hz5
  go_wp2
  go_ret
  exact ⟨rfl, hB6⟩

set_option maxHeartbeats 4000000 in
set_option maxRecDepth 20000 in
theorem falls_smallS (e f a b n : Int) (he0 : 0 ≤ e) (he : e < 18446744073709551616) (hef : e < f) (ha : HalfAt e a) (hb : HalfAt f b) (hab : b ≤ a) (hn : e / 4294967296 % 63 = n) (hd : HalfAt (n * 4294967296) (9223372036854775808 / 2 ^ n.toNat)) (c : Int) (hc : HalfAt (e + 1) c) (hac : c ≤ a) (hg : e < 9223372036854775808) (u x y c1 c2 : Int) (hu : BoundsAt e a u) (hx : BoundsAt (2 * e) x y) (hau : a ≤ u) (wa : Word a) (wu : Word u) (wx : Word x) (wy : Word y)
    (e1 : cmpV (val (hiW (a * a)) (loW (a * a))) (val (hiW (9223372036854775808 * y)) (loW (9223372036854775808 * y))) = c1) (h1 : c1 ≤ 0)
    (e2 : cmpV (val (hiW (u * u)) (loW (u * u))) (val (hiW (9223372036854775808 * x)) (loW (9223372036854775808 * x))) = c2) (h2 : 0 ≤ c2) (w : World) (hT : Tab w) :
    Calls Tryd.prog 5 #[.int .u64 f, .int .u64 e] w fun r w' => r = .returned (.bool true) ∧ Below w.heap.size w w' := by
  have hl : e < 18446744073709551615 := by omega
  have wo : Word 9223372036854775808 := ⟨by decide, by decide⟩
  have E1 : Hid _ := e1
  have E2 : Hid _ := e2
  clear e1 e2
  go_enter Tryd.func5, Tryd.ntmps5
  go_wp2_with fail
  refine (shown_any w hT).mono ?_
  rintro r w1 ⟨rfl, hb1⟩
  have hT1 := hT.below hb1
  go_wp2_with fail
  refine (ha w1 hT1).mono ?_
  rintro r w2 ⟨rfl, hb2⟩
  have hT2 := hT1.below hb2
  go_wp2_with fail
  refine (hb w2 hT2).mono ?_
  rintro r w3 ⟨rfl, hb3⟩
  have hT3 := hT2.below hb3
  have hB3 : Below w.heap.size w w3 := (hb1.trans (hb2.mono hb1.size)).trans (hb3.mono (Nat.le_trans hb1.size hb2.size))
  have hz3 : w.heap.size ≤ w3.heap.size := Nat.le_trans (Nat.le_trans hb1.size hb2.size) hb3.size
  clear hb1 hb2 hb3 hT1 hT2
  go_wp2_with fail
  refine (ha w3 hT3).mono ?_
  rintro r w4 ⟨rfl, hb4⟩
  have hT4 := hT3.below hb4
  go_wp2_with fail
  refine (hc w4 hT4).mono ?_
  rintro r w5 ⟨rfl, hb5⟩
  have hT5 := hT4.below hb5
  have hB5 : Below w.heap.size w w5 := (hB3.trans (hb4.mono hz3)).trans (hb5.mono (Nat.le_trans hz3 hb4.size))
  have hz5 : w.heap.size ≤ w5.heap.size := Nat.le_trans (Nat.le_trans hz3 hb4.size) hb5.size
  clear hb4 hb5 hT3 hT4 hB3 hz3
  go_wp2_with fail
  refine (hd w5 hT5).mono ?_
  rintro r w6 ⟨rfl, hb6⟩
  have hT6 := hT5.below hb6
  have hB6 : Below w.heap.size w w6 := hB5.trans (hb6.mono hz5)
  have hz6 : w.heap.size ≤ w6.heap.size := Nat.le_trans hz5 hb6.size
  clear hb6 hT5 hB5 hz5
  go_wp2_with fail
  refine (hu w6 hT6).mono ?_
  rintro r w7 ⟨rfl, hb7⟩
  have hT7 := hT6.below hb7
  go_wp2_with fail
  refine (hx w7 hT7).mono ?_
  rintro r w8 ⟨rfl, hb8⟩
  have hB8 : Below w.heap.size w w8 := (hB6.trans (hb7.mono hz6)).trans (hb8.mono (Nat.le_trans hz6 hb7.size))
  have hz8 : w.heap.size ≤ w8.heap.size := Nat.le_trans (Nat.le_trans hz6 hb7.size) hb8.size
  clear hb7 hb8 hT6 hT7 hB6 hz6
  go_wp2_with fail
  refine (rmul_any a a wa wa w8).mono ?_
  rintro r v1 ⟨rfl, q1⟩
  go_wp2_with fail
  refine (rmul_any _ y wo wy v1).mono ?_
  rintro r v2 ⟨rfl, q2⟩
  go_wp2_with fail
  refine (rcmp_any _ _ _ _ (lo_word _) (lo_word _) v2).mono ?_
  rintro r v3 ⟨rfl, q3⟩
  rw [E1.out]
  have hB9 : Below w.heap.size w v3 := ((hB8.trans (q1.mono hz8)).trans (q2.mono (Nat.le_trans hz8 q1.size))).trans (q3.mono (Nat.le_trans (Nat.le_trans hz8 q1.size) q2.size))
  have hz9 : w.heap.size ≤ v3.heap.size := Nat.le_trans (Nat.le_trans (Nat.le_trans hz8 q1.size) q2.size) q3.size
  clear q1 q2 q3 hB8 hz8
  go_wp2_with fail
  refine (rmul_any u u wu wu v3).mono ?_
  rintro r v4 ⟨rfl, q4⟩
  go_wp2_with fail
  refine (rmul_any _ x wo wx v4).mono ?_
  rintro r v5 ⟨rfl, q5⟩
  go_wp2_with fail
  refine (rcmp_any _ _ _ _ (lo_word _) (lo_word _) v5).mono ?_
  rintro r v6 ⟨rfl, q6⟩
  rw [E2.out]
  have hB : Below w.heap.size w v6 := ((hB9.trans (q4.mono hz9)).trans (q5.mono (Nat.le_trans hz9 q4.size))).trans (q6.mono (Nat.le_trans (Nat.le_trans hz9 q4.size) q5.size))
  clear q4 q5 q6 hB9 hz9
  go_wp2
  go_ret
  exact ⟨rfl, hB⟩

namespace Ld
theorem cmp_mul_le {a b c : Int} (h : a * a ≤ b * c) : cmpV (val (hiW (a * a)) (loW (a * a))) (val (hiW (b * c)) (loW (b * c))) ≤ 0 := by
  rw [val_words, val_words]; unfold cmpV; split <;> (try split) <;> omega
theorem cmp_mul_ge {a b c : Int} (h : b * c ≤ a * a) : 0 ≤ cmpV (val (hiW (a * a)) (loW (a * a))) (val (hiW (b * c)) (loW (b * c))) := by
  rw [val_words, val_words]; unfold cmpV; split <;> (try split) <;> omega
theorem upp_top (e : Nat) : uppN e ≤ 9223372036854775808 := Nat.min_le_right _ _
end Ld
theorem halfAt (e : Nat) (he : e < 18446744073709551616) : HalfAt (e : Int) (halfN e : Nat) := fun w hT => half_any e he w hT
theorem boundsAt (e : Nat) (he : e < 18446744073709551616) : BoundsAt (e : Int) (halfN e : Nat) (uppN e : Nat) := fun w hT => bounds_any e he w hT
theorem half_word (e : Nat) : Word (halfN e : Nat) := by have := half_top e; exact ⟨by omega, by omega⟩
theorem upp_word (e : Nat) : Word (uppN e : Nat) := by have := upp_top e; exact ⟨by omega, by omega⟩
/-- What the walks ask of e, the lesser one. -/
theorem falls_n (e : Nat) : ∃ n : Int, (e : Int) / 4294967296 % 63 = n ∧ HalfAt (n * 4294967296) (9223372036854775808 / 2 ^ n.toNat) := by
  refine ⟨((e / 4294967296 % 63 : Nat) : Int), by omega, ?_⟩
  have hlt : e / 4294967296 % 63 < 63 := Nat.mod_lt _ (by decide)
  generalize e / 4294967296 % 63 = n at *
  have h := halfAt (n * 4294967296) (by omega)
  rw [half_whole hlt, Int.natCast_ediv, Int.natCast_pow, Int.natCast_mul] at h
  exact h
theorem falls_two (e : Nat) (he : e < 9223372036854775808) : ∃ x y : Int, BoundsAt (2 * (e : Int)) x y ∧ Word x ∧ Word y ∧ ((halfN e : Nat) : Int) * (halfN e : Nat) ≤ 9223372036854775808 * y ∧ 9223372036854775808 * x ≤ ((uppN e : Nat) : Int) * (uppN e : Nat) := by
  refine ⟨(halfN (2 * e) : Nat), (uppN (2 * e) : Nat), ?_, half_word _, upp_word _, ?_, ?_⟩
  · have h := boundsAt (2 * e) (by omega)
    rw [Int.natCast_mul] at h
    exact h
  · have h := Int.ofNat_le.2 (twice_low e)
    rw [Int.natCast_mul, Int.natCast_mul] at h
    exact h
  · have h := Int.ofNat_le.2 (twice_upp e)
    rw [Int.natCast_mul, Int.natCast_mul] at h
    exact h
theorem falls_le (e f : Nat) (he : e < 18446744073709551616) (hf : f < 18446744073709551616) (hef : e ≤ f) (w : World) (hT : Tab w) : Calls Tryd.prog 5 #[.int .u64 (e : Int), .int .u64 (f : Int)] w fun r w' => r = .returned (.bool true) ∧ Below w.heap.size w w' := by
  obtain ⟨n, hn, hd⟩ := falls_n e
  have hab := half_falls hef
  by_cases hl : e = 18446744073709551615
  · obtain rfl : f = e := by omega
    subst hl
    have h1 := halfAt 18446744073709551615 (by decide)
    rw [half_d] at h1
    have h2 := halfAt 12884901888 (by decide)
    rw [show halfN 12884901888 = 1152921504606846976 by decide] at h2
    exact falls_last h1 h2 w hT
  · have hc : HalfAt ((e : Int) + 1) (halfN (e + 1) : Nat) := halfAt (e + 1) (by omega)
    have hac : halfN (e + 1) ≤ halfN e := half_falls (Nat.le_succ e)
    by_cases hg : e < 9223372036854775808
    · obtain ⟨x, y, hxy, wx, wy, q1, q2⟩ := falls_two e hg
      have hau := half_upper e
      exact falls_small e f (halfN e : Nat) (halfN f : Nat) n (by omega) (by omega) (by omega) (halfAt e he) (halfAt f hf) (by omega) hn hd (halfN (e + 1) : Nat) hc (by omega) (by omega) (uppN e : Nat) x y _ _ (boundsAt e he) hxy (by omega) (half_word e) (upp_word e) wx wy rfl (cmp_mul_le q1) rfl (cmp_mul_ge q2) w hT
    · exact falls_great e f (halfN e : Nat) (halfN f : Nat) n (by omega) (by omega) (by omega) (halfAt e he) (halfAt f hf) (by omega) hn hd (halfN (e + 1) : Nat) hc (by omega) (by omega) (by omega) w hT
theorem falls_gt (e f : Nat) (he : e < 18446744073709551616) (hf : f < 18446744073709551616) (hef : e < f) (w : World) (hT : Tab w) : Calls Tryd.prog 5 #[.int .u64 (f : Int), .int .u64 (e : Int)] w fun r w' => r = .returned (.bool true) ∧ Below w.heap.size w w' := by
  obtain ⟨n, hn, hd⟩ := falls_n e
  have hab := half_falls (Nat.le_of_lt hef)
  have hc : HalfAt ((e : Int) + 1) (halfN (e + 1) : Nat) := halfAt (e + 1) (by omega)
  have hac : halfN (e + 1) ≤ halfN e := half_falls (Nat.le_succ e)
  by_cases hg : e < 9223372036854775808
  · obtain ⟨x, y, hxy, wx, wy, q1, q2⟩ := falls_two e hg
    have hau := half_upper e
    exact falls_smallS e f (halfN e : Nat) (halfN f : Nat) n (by omega) (by omega) (by omega) (halfAt e he) (halfAt f hf) (by omega) hn hd (halfN (e + 1) : Nat) hc (by omega) (by omega) (uppN e : Nat) x y _ _ (boundsAt e he) hxy (by omega) (half_word e) (upp_word e) wx wy rfl (cmp_mul_le q1) rfl (cmp_mul_ge q2) w hT
  · exact falls_greatS e f (halfN e : Nat) (halfN f : Nat) n (by omega) (by omega) (by omega) (halfAt e he) (halfAt f hf) (by omega) hn hd (halfN (e + 1) : Nat) hc (by omega) (by omega) (by omega) w hT
theorem falls_int (x y : Int) (hx : Word x) (hy : Word y) (w : World) (hT : Tab w) : Calls Tryd.prog 5 #[.int .u64 x, .int .u64 y] w fun r w' => r = .returned (.bool true) ∧ Below w.heap.size w w' := by
  obtain ⟨x0, x1⟩ := hx
  obtain ⟨y0, y1⟩ := hy
  obtain ⟨e, rfl⟩ := Int.eq_ofNat_of_zero_le x0
  obtain ⟨f, rfl⟩ := Int.eq_ofNat_of_zero_le y0
  by_cases h : e ≤ f
  · exact falls_le e f (by omega) (by omega) h w hT
  · exact falls_gt f e (by omega) (by omega) (by omega) w hT
end Go.Proofs.YtbnokceagaodkaaDoor
