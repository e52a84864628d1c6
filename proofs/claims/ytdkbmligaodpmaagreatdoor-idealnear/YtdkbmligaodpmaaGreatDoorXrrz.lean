/-
 THE CONTRACTS OF THE REFERENCE's FUNCTIONS (backfillref01) and of the statements' own two turners: Mul, Cmp, Add, Sub, Shl, Shr.
 THE CONTRACTS OF THE REFERENCE's FUNCTIONS: Times.
 THE CONTRACTS OF THE REFERENCE's FUNCTIONS: Div.
 THE CONTRACTS OF THE REFERENCE's CALLS (backfillref04).
-/
import Derived.Test.YtdkbmligaodpmaaGreatDoorWidz
import Derived.Test.YtdkbmligaodpmaaGreatDoorMthz
import Derived.Test.YtdkbmligaodpmaaGreatDoorXfxz
namespace Go.Proofs.YtdkbmligaodpmaaGreatDoor
open Go.RowKit Wd

theorem rgreatest_any (w : World) : Calls Tryz.prog 73 #[] w fun e w' => e = .returned (.agg #[.int .u64 18446744073709551615, .int .u64 18446744073709551615]) ∧ Below w.heap.size w w' := by
 go_enter Tryz.func73, Tryz.ntmps73
 go_wp2
 exact bodyPost_ret (v := .agg #[.int .u64 18446744073709551615, .int .u64 18446744073709551615]) (by simp [results, Tryz.results73, go_sem]) rfl ⟨rfl, (Below.refl _ _).alloc (Nat.le_refl _) _⟩
set_option maxHeartbeats 1000000 in
theorem rcmp_any (ah al bh bl : Int) (h2 : Word al) (h4 : Word bl) (w : World) :
  Calls Tryz.prog 32 #[.agg #[.int .u64 ah, .int .u64 al], .agg #[.int .u64 bh, .int .u64 bl]] w fun e w' =>
   e = .returned (.int .i64 (cmpV (val ah al) (val bh bl))) ∧ Below w.heap.size w w' := by
 by_cases h : ah = bh
 ·subst h
  rw [← cmp_lo]
  unfold cmpV
  by_cases l : al < bl
  ·go_enter Tryz.func32, Tryz.ntmps32
   go_wp2
   go_ret
   exact ⟨by simp, ((Below.refl _ _).alloc (Nat.le_refl _) _).alloc (by simp) _⟩
  ·by_cases q : al = bl
   ·subst q
    go_enter Tryz.func32, Tryz.ntmps32
    go_wp2
    go_ret
    exact ⟨by simp, ((Below.refl _ _).alloc (Nat.le_refl _) _).alloc (by simp) _⟩
   ·have q' : (al == bl) = false := by simp [q]
    go_enter Tryz.func32, Tryz.ntmps32
    go_wp2
    go_ret
    exact ⟨by first | (simp; done) | (simp [q]; done) | (simp [l, q]; done), ((Below.refl _ _).alloc (Nat.le_refl _) _).alloc (by simp) _⟩
 ·rw [← cmp_hi h2 h4 h]
  have k : (ah == bh) = false := by simp [h]
  unfold cmpV
  by_cases l : ah < bh
  ·go_enter Tryz.func32, Tryz.ntmps32
   go_wp2
   go_ret
   exact ⟨by first | (simp; done) | (simp [l]; done), ((Below.refl _ _).alloc (Nat.le_refl _) _).alloc (by simp) _⟩
  ·go_enter Tryz.func32, Tryz.ntmps32
   go_wp2
   go_ret
   exact ⟨by first | (simp; done) | (simp [l, h]; done), ((Below.refl _ _).alloc (Nat.le_refl _) _).alloc (by simp) _⟩

namespace Wd
theorem add1 {ah al bh bl : Int} (h1 : Word ah) (h2 : Word al) (h3 : Word bh) (h4 : Word bl) (c : al + bl < 18446744073709551616) (h : ah + bh < 18446744073709551616) :
  ah + bh = hiW (addV (val ah al) (val bh bl)) ∧ al + bl = loW (addV (val ah al) (val bh bl)) ∧ addB (val ah al) (val bh bl) = true := by
 obtain ⟨e1, e2, e3⟩ := add_yes h1 h2 h3 h4 (by obtain ⟨_, _⟩ := h2; obtain ⟨_, _⟩ := h4; omega)
 obtain ⟨_, _⟩ := h1; obtain ⟨_, _⟩ := h2; obtain ⟨_, _⟩ := h3; obtain ⟨_, _⟩ := h4
 exact ⟨by rw [← e1]; omega, by rw [← e2]; omega, e3⟩
theorem add2 {ah al bh bl : Int} (h1 : Word ah) (h2 : Word al) (h3 : Word bh) (h4 : Word bl) (c : 18446744073709551616 ≤ al + bl) (h : ah + bh + 1 < 18446744073709551616) :
  ah + bh + 1 = hiW (addV (val ah al) (val bh bl)) ∧ IntKind.u64.wrap (al + bl) = loW (addV (val ah al) (val bh bl)) ∧ addB (val ah al) (val bh bl) = true := by
 obtain ⟨e1, e2, e3⟩ := add_yes h1 h2 h3 h4 (by obtain ⟨_, _⟩ := h2; obtain ⟨_, _⟩ := h4; omega)
 obtain ⟨_, _⟩ := h1; obtain ⟨_, _⟩ := h2; obtain ⟨_, _⟩ := h3; obtain ⟨_, _⟩ := h4
 exact ⟨by rw [← e1]; omega, by rw [← e2, IntKind.wrap_u64], e3⟩
theorem wrap_lt1 (a b : Int) (h1 : Word a) (h2 : Word b) (h : 18446744073709551616 ≤ a + b) : IntKind.u64.wrap (a + b) < a := by
 obtain ⟨_, _⟩ := h1; obtain ⟨_, _⟩ := h2; rw [IntKind.wrap_u64]; omega
end Wd

set_option maxHeartbeats 1000000 in
theorem radd_any (ah al bh bl : Int) (h1 : Word ah) (h2 : Word al) (h3 : Word bh) (h4 : Word bl) (w : World) :
  Calls Tryz.prog 28 #[.agg #[.int .u64 ah, .int .u64 al], .agg #[.int .u64 bh, .int .u64 bl]] w fun e w' =>
   e = .returned (.tuple #[.agg #[.int .u64 (hiW (addV (val ah al) (val bh bl))), .int .u64 (loW (addV (val ah al) (val bh bl)))], .bool (addB (val ah al) (val bh bl))]) ∧ Below w.heap.size w w' := by
 by_cases c : al + bl < 18446744073709551616
 ·by_cases h : ah + bh < 18446744073709551616
  ·obtain ⟨e1, e2, e3⟩ := add1 h1 h2 h3 h4 c h
   rw [← e1, ← e2, e3]; clear e1 e2 e3
   obtain ⟨a1, a2⟩ := h1; obtain ⟨b1, b2⟩ := h2; obtain ⟨c1, c2⟩ := h3; obtain ⟨d1, d2⟩ := h4
   have k : decide (ah ≤ ah + bh) = true := by simp; omega
   go_enter Tryz.func28, Tryz.ntmps28
   go_wp2
   exact bodyPost_ret (v := .tuple #[.agg #[.int .u64 (ah + bh), .int .u64 (al + bl)], .bool true]) (by simp [results, Tryz.results28, go_sem]) rfl ⟨rfl, ((((Below.refl _ _).alloc (Nat.le_refl _) _).alloc (by simp) _).alloc (by simp; omega) _).alloc (by simp; omega) _⟩
  ·obtain ⟨e1, e2, e3⟩ := add_no h1 h2 h3 h4 (by obtain ⟨_, _⟩ := h2; obtain ⟨_, _⟩ := h4; omega)
   rw [← e1, ← e2, e3]; clear e1 e2 e3
   have k := wrap_lt1 ah bh h1 h3 (by omega)
   have k' : decide (ah ≤ IntKind.u64.wrap (ah + bh)) = false := by simp; omega
   obtain ⟨a1, a2⟩ := h1; obtain ⟨b1, b2⟩ := h2; obtain ⟨c1, c2⟩ := h3; obtain ⟨d1, d2⟩ := h4
   go_enter Tryz.func28, Tryz.ntmps28
   go_wp2_with (go_at_call 73; refine (rgreatest_any _).mono ?_; rintro e w1 ⟨rfl, hb⟩; obtain ⟨hc, hf⟩ := bcell hb)
   have hz := hb.size
   simp at hz
   refine bodyPost_ret (v := .tuple #[.agg #[.int .u64 18446744073709551615, .int .u64 18446744073709551615], .bool false]) (by simp [results, Tryz.results28, go_sem, hc]) rfl ⟨rfl, ?_⟩
   exact (((((((Below.refl _ _).alloc (Nat.le_refl _) _).alloc (by simp) _).alloc (by simp; omega) _).alloc (by simp; omega) _).trans (hb.mono (by simp; omega))).setCell (by simp; omega) _).setCell (by simp; omega) _
 ·have kl := wrap_lt1 al bl h2 h4 (by omega)
  by_cases h : ah + bh + 1 < 18446744073709551616
  ·obtain ⟨e1, e2, e3⟩ := add2 h1 h2 h3 h4 (by omega) h
   rw [← e1, ← e2, e3]; clear e1 e2 e3
   obtain ⟨a1, a2⟩ := h1; obtain ⟨b1, b2⟩ := h2; obtain ⟨c1, c2⟩ := h3; obtain ⟨d1, d2⟩ := h4
   have k : decide (ah ≤ ah + bh) = true := by simp; omega
   have k' : decide (0 < ah + bh + 1) = true := by simp; omega
   go_enter Tryz.func28, Tryz.ntmps28
   go_wp2
   exact bodyPost_ret (v := .tuple #[.agg #[.int .u64 (ah + bh + 1), .int .u64 (IntKind.u64.wrap (al + bl))], .bool true]) (by simp [results, Tryz.results28, go_sem]) rfl ⟨rfl, ((((Below.refl _ _).alloc (Nat.le_refl _) _).alloc (by simp) _).alloc (by simp; omega) _).alloc (by simp; omega) _⟩
  ·obtain ⟨e1, e2, e3⟩ := add_no h1 h2 h3 h4 (by obtain ⟨_, _⟩ := h2; obtain ⟨_, _⟩ := h4; omega)
   rw [← e1, ← e2, e3]; clear e1 e2 e3
   by_cases g : ah + bh < 18446744073709551616
   ·have k : (decide (0 < IntKind.u64.wrap (ah + bh + 1))) = false := by rw [IntKind.wrap_u64]; simp; omega
    have k' : ¬ 0 < IntKind.u64.wrap (ah + bh + 1) := by rw [IntKind.wrap_u64]; omega
    have k2 : decide (ah ≤ ah + bh) = true := by obtain ⟨_, _⟩ := h3; simp; omega
    obtain ⟨a1, a2⟩ := h1; obtain ⟨b1, b2⟩ := h2; obtain ⟨c1, c2⟩ := h3; obtain ⟨d1, d2⟩ := h4
    go_enter Tryz.func28, Tryz.ntmps28
    go_wp2_with (go_at_call 73; refine (rgreatest_any _).mono ?_; rintro e w1 ⟨rfl, hb⟩; obtain ⟨hc, hf⟩ := bcell hb)
    have hz := hb.size
    simp at hz
    refine bodyPost_ret (v := .tuple #[.agg #[.int .u64 18446744073709551615, .int .u64 18446744073709551615], .bool false]) (by simp [results, Tryz.results28, go_sem, hc]) rfl ⟨rfl, ?_⟩
    exact (((((((Below.refl _ _).alloc (Nat.le_refl _) _).alloc (by simp) _).alloc (by simp; omega) _).alloc (by simp; omega) _).trans (hb.mono (by simp; omega))).setCell (by simp; omega) _).setCell (by simp; omega) _
   ·have k := wrap_lt1 ah bh h1 h3 (by omega)
    have k' : decide (ah ≤ IntKind.u64.wrap (ah + bh)) = false := by simp; omega
    obtain ⟨a1, a2⟩ := h1; obtain ⟨b1, b2⟩ := h2; obtain ⟨c1, c2⟩ := h3; obtain ⟨d1, d2⟩ := h4
    go_enter Tryz.func28, Tryz.ntmps28
    go_wp2_with (go_at_call 73; refine (rgreatest_any _).mono ?_; rintro e w1 ⟨rfl, hb⟩; obtain ⟨hc, hf⟩ := bcell hb)
    have hz := hb.size
    simp at hz
    refine bodyPost_ret (v := .tuple #[.agg #[.int .u64 18446744073709551615, .int .u64 18446744073709551615], .bool false]) (by simp [results, Tryz.results28, go_sem, hc]) rfl ⟨rfl, ?_⟩
    exact (((((((Below.refl _ _).alloc (Nat.le_refl _) _).alloc (by simp) _).alloc (by simp; omega) _).alloc (by simp; omega) _).trans (hb.mono (by simp; omega))).setCell (by simp; omega) _).setCell (by simp; omega) _
end Go.Proofs.YtdkbmligaodpmaaGreatDoor
namespace Go.Proofs.YtdkbmligaodpmaaGreatDoor
open Go.RowKit Wd

namespace Wd
theorem add_comm' (a b : Int) : addV a b = addV b a ∧ addB a b = addB b a := by unfold addV addB; rw [Int.add_comm]; exact ⟨rfl, rfl⟩
end Wd

set_option maxHeartbeats 1000000 in
theorem rtimes_any (ah al b : Int) (h1 : Word ah) (h2 : Word al) (h3 : Word b) (w : World) :
  Calls Tryz.prog 56 #[.agg #[.int .u64 ah, .int .u64 al], .int .u64 b] w fun e w' =>
   e = .returned (.tuple #[.agg #[.int .u64 (hiW (timV (val ah al) b)), .int .u64 (loW (timV (val ah al) b))], .bool (timB (val ah al) b)]) ∧ Below w.heap.size w w' := by
 by_cases h : hiW (ah * b) = 0
 ·obtain ⟨e1, e3⟩ := tim_yes (al := al) h
  rw [← e1, ← e3, (add_comm' _ _).1, (add_comm' _ _).2]; clear e1 e3
  have k2 : decide (0 < hiW (ah * b)) = false := by simp [h]
  have k3 : ¬ 0 < hiW (ah * b) := by simp [h]
  have hw0 := word0; have hwl := lo_word (ah * b); have hwh := hi_word (mul_num h2 h3); have hwk := lo_word (al * b)
  clear h
  go_enter Tryz.func56, Tryz.ntmps56
  go_wp2_with fail
  refine (rmul_any al b h2 h3 _).mono ?_
  rintro e w1 ⟨rfl, hb⟩
  have hz := hb.size
  simp at hz
  have q0 : w1.cell? ⟨w.heap.size, 0, none⟩ = some (.int .u64 ah) := keepC hb (by simp [go_sem])
  have q4 : w1.cell? ⟨w.heap.size + 1, 0, none⟩ = some (.int .u64 0) := keepC hb (by simp [go_sem])
  have q5 : w1.cell? ⟨w.heap.size + 1, 1, none⟩ = some (.int .u64 0) := keepC hb (by simp [go_sem])
  have f4 : w1.frozen? ⟨w.heap.size + 1, 0, none⟩ = false := by rw [(bcell hb).2 _ _ (by simp)]; simp [go_sem]
  have f5 : w1.frozen? ⟨w.heap.size + 1, 1, none⟩ = false := by rw [(bcell hb).2 _ _ (by simp)]; simp [go_sem]
  have z0 : w.heap.size < w1.heap.size := by omega
  have z1 : w.heap.size + 1 < w1.heap.size := by omega
  go_wp2_with fail
  refine (rmul_any ah b h1 h3 _).mono ?_
  rintro e w2 ⟨rfl, hb2⟩
  have hz2 := hb2.size
  simp at hz2
  have r4 := keepC hb2 (allocC _ q4)
  have r5 := keepC hb2 (allocC _ q5)
  have g4 := keepF hb2 (allocC _ q4) (allocF _ _ f4)
  have g5 := keepF hb2 (allocC _ q5) (allocF _ _ f5)
  have r6 : w2.cell? ⟨w1.heap.size, 0, none⟩ = some (.int .u64 (hiW (al * b))) := keepC hb2 (by simp)
  have r7 : w2.cell? ⟨w1.heap.size, 1, none⟩ = some (.int .u64 (loW (al * b))) := keepC hb2 (by simp)
  have y0 : w.heap.size < w2.heap.size := by omega
  have y1 : w.heap.size + 1 < w2.heap.size := by omega
  have y2 : w1.heap.size < w2.heap.size := by omega
  clear q0 q4 q5 f4 f5 z0
  go_wp2_with fail
  refine (radd_any (hiW (al * b)) (loW (al * b)) (loW (ah * b)) 0 hwh hwk hwl hw0 _).mono ?_
  rintro e w3 ⟨rfl, hb3⟩
  have hz3 := hb3.size
  simp at hz3
  have s4 := keepC hb3 (allocC _ r4)
  have s5 := keepC hb3 (allocC _ r5)
  have t4 := keepF hb3 (allocC _ r4) (allocF _ _ g4)
  have t5 := keepF hb3 (allocC _ r5) (allocF _ _ g5)
  clear r4 r5 g4 g5 r6 r7
  go_wp2
  refine bodyPost_ret (v := .tuple #[.agg #[.int .u64 (hiW (addV (val (hiW (al * b)) (loW (al * b))) (val (loW (ah * b)) 0))), .int .u64 (loW (addV (val (hiW (al * b)) (loW (al * b))) (val (loW (ah * b)) 0)))], .bool (addB (val (hiW (al * b)) (loW (al * b))) (val (loW (ah * b)) 0))]) (by simp [results, Tryz.results56, go_sem, s4, s5]) rfl ⟨rfl, ?_⟩
  exact (((((((Below.refl _ _).alloc (Nat.le_refl _) _).alloc (by simp) _).trans (hb.mono (by simp; omega))).alloc (by omega) _).trans (hb2.mono (by simp; omega))).alloc (by omega) _ |>.trans (hb3.mono (by simp; omega))).setCell (by simp) _ |>.setCell (by simp) _
 ·obtain ⟨e1, e2, e3⟩ := tim_no h1 h2 h3 h
  rw [← e1, ← e2, e3]; clear e1 e2 e3
  have hpos : 0 < hiW (ah * b) := by
   have := hi_word (mul_num h1 h3)
   obtain ⟨_, _⟩ := this; omega
  have k2 : decide (0 < hiW (ah * b)) = true := by simp [hpos]
  clear h
  go_enter Tryz.func56, Tryz.ntmps56
  go_wp2_with fail
  refine (rmul_any al b h2 h3 _).mono ?_
  rintro e w1 ⟨rfl, hb⟩
  have hz := hb.size
  simp at hz
  have q0 : w1.cell? ⟨w.heap.size, 0, none⟩ = some (.int .u64 ah) := keepC hb (by simp [go_sem])
  have q4 : w1.cell? ⟨w.heap.size + 1, 0, none⟩ = some (.int .u64 0) := keepC hb (by simp [go_sem])
  have q5 : w1.cell? ⟨w.heap.size + 1, 1, none⟩ = some (.int .u64 0) := keepC hb (by simp [go_sem])
  have f4 : w1.frozen? ⟨w.heap.size + 1, 0, none⟩ = false := by rw [(bcell hb).2 _ _ (by simp)]; simp [go_sem]
  have f5 : w1.frozen? ⟨w.heap.size + 1, 1, none⟩ = false := by rw [(bcell hb).2 _ _ (by simp)]; simp [go_sem]
  have z0 : w.heap.size < w1.heap.size := by omega
  have z1 : w.heap.size + 1 < w1.heap.size := by omega
  go_wp2_with fail
  refine (rmul_any ah b h1 h3 _).mono ?_
  rintro e w2 ⟨rfl, hb2⟩
  have hz2 := hb2.size
  simp at hz2
  have r4 := keepC hb2 (allocC _ q4)
  have r5 := keepC hb2 (allocC _ q5)
  have g4 := keepF hb2 (allocC _ q4) (allocF _ _ f4)
  have g5 := keepF hb2 (allocC _ q5) (allocF _ _ f5)
  have y1 : w.heap.size + 1 < w2.heap.size := by omega
  clear q0 q4 q5 f4 f5 z0
  go_wp2_with fail
  refine (rgreatest_any _).mono ?_
  rintro e w3 ⟨rfl, hb3⟩
  have hz3 := hb3.size
  simp at hz3
  have s4 := keepC hb3 (allocC _ r4)
  have s5 := keepC hb3 (allocC _ r5)
  have t4 := keepF hb3 (allocC _ r4) (allocF _ _ g4)
  have t5 := keepF hb3 (allocC _ r5) (allocF _ _ g5)
  clear r4 r5 g4 g5
  go_wp2
  refine bodyPost_ret (v := .tuple #[.agg #[.int .u64 18446744073709551615, .int .u64 18446744073709551615], .bool false]) (by simp [results, Tryz.results56, go_sem, s4, s5]) rfl ⟨rfl, ?_⟩
  exact (((((((Below.refl _ _).alloc (Nat.le_refl _) _).alloc (by simp) _).trans (hb.mono (by simp; omega))).alloc (by omega) _).trans (hb2.mono (by simp; omega))).alloc (by omega) _ |>.trans (hb3.mono (by simp; omega))).setCell (by simp) _ |>.setCell (by simp) _
end Go.Proofs.YtdkbmligaodpmaaGreatDoor
namespace Go.Proofs.YtdkbmligaodpmaaGreatDoor
open Go.RowKit Wd

def QMem (w : World) (n : Nat) (a q : Int) : Prop :=
 w.cell? ⟨n, 0, none⟩ = some (.int .u64 (hiW a)) ∧ w.cell? ⟨n, 1, none⟩ = some (.int .u64 (loW a)) ∧
 w.cell? ⟨n + 1, 0, none⟩ = some (.int .u64 0) ∧ w.cell? ⟨n + 1, 1, none⟩ = some (.int .u64 0) ∧
 w.cell? ⟨n + 1 + 1, 0, none⟩ = some (.int .u64 (hiW q)) ∧ w.cell? ⟨n + 1 + 1, 1, none⟩ = some (.int .u64 (loW q)) ∧
 w.frozen? ⟨n, 0, none⟩ = false ∧ w.frozen? ⟨n, 1, none⟩ = false ∧ w.frozen? ⟨n + 1, 0, none⟩ = false ∧ w.frozen? ⟨n + 1, 1, none⟩ = false ∧
 w.frozen? ⟨n + 1 + 1, 0, none⟩ = false ∧ w.frozen? ⟨n + 1 + 1, 1, none⟩ = false
theorem QMem.below {W w : World} {n : Nat} {a q : Int} (h : QMem W n a q) (hb : Below W.heap.size W w) : QMem w n a q := by
 obtain ⟨c0, c1, c2, c3, c4, c5, f0, f1, f2, f3, f4, f5⟩ := h
 exact ⟨keepC hb c0, keepC hb c1, keepC hb c2, keepC hb c3, keepC hb c4, keepC hb c5, keepF hb c0 f0, keepF hb c1 f1, keepF hb c2 f2, keepF hb c3 f3, keepF hb c4 f4, keepF hb c5 f5⟩

theorem QMem.setA {w : World} {n : Nat} {a q : Int} (h : QMem w n a q) (a' : Int) : QMem ((w.setCell ⟨n, 0, none⟩ (.int .u64 (hiW a'))).setCell ⟨n, 1, none⟩ (.int .u64 (loW a'))) n a' q := by
 obtain ⟨c0, c1, c2, c3, c4, c5, f0, f1, f2, f3, f4, f5⟩ := h
 refine ⟨?_, ?_, ?_, ?_, ?_, ?_, ?_, ?_, ?_, ?_, ?_, ?_⟩ <;> simp [go_sem, c0, c1, c2, c3, c4, c5, f0, f1, f2, f3, f4, f5]
theorem QMem.setQ {w : World} {n : Nat} {a q : Int} (h : QMem w n a q) (q' : Int) : QMem ((w.setCell ⟨n + 1 + 1, 0, none⟩ (.int .u64 (hiW q'))).setCell ⟨n + 1 + 1, 1, none⟩ (.int .u64 (loW q'))) n a q' := by
 obtain ⟨c0, c1, c2, c3, c4, c5, f0, f1, f2, f3, f4, f5⟩ := h
 refine ⟨?_, ?_, ?_, ?_, ?_, ?_, ?_, ?_, ?_, ?_, ?_, ?_⟩ <;> simp [go_sem, c0, c1, c2, c3, c4, c5, f0, f1, f2, f3, f4, f5]
theorem QMem.bump {w : World} {n : Nat} {a q : Int} (h : QMem w n a q) (q' : Int) (hq : hiW q = hiW q') : QMem (w.setCell ⟨n + 1 + 1, 1, none⟩ (.int .u64 (loW q'))) n a q' := by
 obtain ⟨c0, c1, c2, c3, c4, c5, f0, f1, f2, f3, f4, f5⟩ := h
 rw [hq] at c4
 refine ⟨?_, ?_, ?_, ?_, ?_, ?_, ?_, ?_, ?_, ?_, ?_, ?_⟩ <;> simp [go_sem, c0, c1, c2, c3, c4, c5, f0, f1, f2, f3, f4, f5]
theorem rshl_num (v n : Int) (h : Num v) (hm : n < 9223372036854775808) (w : World) :
  Calls Tryz.prog 29 #[.agg #[.int .u64 (hiW v), .int .u64 (loW v)], .int .i64 n] w fun e w' =>
   e = .returned (.agg #[.int .u64 (hiW (shlV v n)), .int .u64 (loW (shlV v n))]) ∧ Below w.heap.size w w' := by
 have c := rshl_any (hiW v) (loW v) n (hi_word h) (lo_word v) hm w
 rw [val_words] at c
 exact c

set_option maxHeartbeats 1000000 in
set_option maxRecDepth 20000 in
theorem rdiv_any (ah al b : Int) (h1 : Word ah) (h2 : Word al) (h3 : Word b) (w : World) :
  Calls Tryz.prog 27 #[.agg #[.int .u64 ah, .int .u64 al], .int .u64 b] w fun e w' =>
   e = .returned (.tuple #[.agg #[.int .u64 (hiW (divV (val ah al) b)), .int .u64 (loW (divV (val ah al) b))], .int .u64 (remV (val ah al) b), .bool (divB b)]) ∧ Below w.heap.size w w' := by
 by_cases z : b = 0
 ·subst z
  rw [show divV (val ah al) 0 = 0 from rfl, show remV (val ah al) 0 = 0 from rfl, show divB 0 = false from rfl, show hiW 0 = 0 from rfl, show loW 0 = 0 from rfl]
  go_enter Tryz.func27, Tryz.ntmps27
  go_wp2
  exact bodyPost_ret (v := .tuple #[.agg #[.int .u64 0, .int .u64 0], .int .u64 0, .bool false]) (by simp [results, Tryz.results27, go_sem]) rfl ⟨rfl, ((Below.refl _ _).alloc (Nat.le_refl _) _).alloc (by simp) _⟩
 ·have hA := val_num h1 h2
  obtain ⟨b0, b1⟩ := h3
  have bp : 0 < b := by omega
  have ed : divB b = true := by simp [divB, z]
  rw [ed]
  have k0 : (b == 0) = false := by simp [z]
  have ea := hi_val (h := ah) h2
  have el := lo_val (h := ah) h2
  have HE : Hid (hiW (val ah al) = ah ∧ loW (val ah al) = al) := ⟨ea, el⟩
  clear ea el ed
  go_enter Tryz.func27, Tryz.ntmps27
  go_wp2
  go_loopw [8, 9] (fun r i wr => ∃ k : Nat, ∃ a q s : Int, k ≤ 128 ∧ i = .int .i64 k ∧ r = .int .u64 s ∧ Part (val ah al) b k a q s ∧ QMem wr w.heap.size a q ∧ w.heap.size + 1 + 1 < wr.heap.size ∧ Below w.heap.size w wr) (fun _ i _ => 128 - (intOf i).toNat)
  case atStart =>
   refine ⟨0, val ah al, 0, 0, by omega, rfl, rfl, part_start hA, ?_, by simp, ?_⟩
   ·rw [QMem, HE.out.1, HE.out.2, show hiW 0 = 0 from rfl, show loW 0 = 0 from rfl]
    refine ⟨?_, ?_, ?_, ?_, ?_, ?_, ?_, ?_, ?_, ?_, ?_, ?_⟩ <;> simp [go_sem]
   ·exact (((Below.refl _ _).alloc (Nat.le_refl _) _).alloc (by simp) _).alloc (by simp; omega) _
  case round =>
   obtain ⟨k, a, q, s, hk, rfl, rfl, hp, hq, hz, hb⟩ := hrel
   by_cases hlt : k < 128
   ·obtain ⟨na, s0, s1, q0, q1⟩ := part_bounds hA bp hlt hp
    have hwa := hi_word na
    obtain ⟨g0, g1⟩ := hwa
    have HN : Hid _ := part_next hA bp hlt hp
    have EQ : Hid _ := shl_one q0 q1
    have HP : Hid (Part (val ah al) b k a q s) := hp
    have QM : Hid (QMem wr w.heap.size a q) := hq
    obtain ⟨c0, c1, c2, c3, c4, c5, f0, f1, f2, f3, f4, f5⟩ := hq
    clear hp
    have nq : Num q := ⟨q0, by omega⟩
    have lq : loW (shlV q 1) + 1 < 18446744073709551616 := by
     have := lo_word (2 * q + 1)
     obtain ⟨_, _⟩ := this
     rw [EQ.out.1, EQ.out.2.2]; omega
    have lq0 : 0 ≤ loW (shlV q 1) := (lo_word _).1
    by_cases ho : 9223372036854775808 ≤ s
    ·have ob : (s / 9223372036854775808 == 1) = true := by simp; omega
     go_wp2_with fail
     refine (rshl_num a 1 na (by omega) _).mono ?_
     rintro e w1 ⟨rfl, hb1⟩
     have HQA : Hid (QMem w1 w.heap.size a q) := QM.out.below hb1
     obtain ⟨c0', c1', c2', c3', c4', c5', f0', f1', f2', f3', f4', f5'⟩ := HQA.out
     have z1 := hb1.size
     clear c0 c1 c2 c3 c4 c5 f0 f1 f2 f3 f4 f5
     go_wp2_with fail
     refine (rshl_num q 1 nq (by omega) _).mono ?_
     rintro e w2 ⟨rfl, hb2⟩
     have HQB : Hid (QMem w2 w.heap.size (shlV a 1) q) := (HQA.out.setA (shlV a 1)).below hb2
     obtain ⟨c0, c1, c2, c3, c4, c5, f0, f1, f2, f3, f4, f5⟩ := HQB.out
     have z2 := hb2.size
     simp [World.setCell] at z2
     clear c0' c1' c2' c3' c4' c5' f0' f1' f2' f3' f4' f5'
     go_wp2
     go_roundw
     case rel =>
      refine ⟨k + 1, shlV a 1, 2 * q + 1, 2 * s + hiW a / 9223372036854775808 - b, by omega, by go_num, ?_, HN.out.1 (by omega), ?_, ?_, ?_⟩
      ·refine congrArg (Value.int IntKind.u64) ?_; simp only [IntKind.wrap_u64]; omega
      ·rw [EQ.out.1, EQ.out.2.2]; exact (HQB.out.setQ (2 * q)).bump (2 * q + 1) EQ.out.2.1
      ·simp [World.setCell]; omega
      ·exact ((((hb.trans (hb1.mono (by omega))).setCell (by simp) _).setCell (by simp) _).trans (hb2.mono (by simp [World.setCell]; omega))).setCell (by simp; omega) _ |>.setCell (by simp; omega) _ |>.setCell (by simp; omega) _
     case measure => simp [intOf]; omega
    ·have ob : (s / 9223372036854775808 == 1) = false := by simp; omega
     by_cases hg : b ≤ s * 2 + hiW a / 9223372036854775808
     ·have gb : decide (b ≤ s * 2 + hiW a / 9223372036854775808) = true := by simp [hg]
      go_wp2_with fail
      refine (rshl_num a 1 na (by omega) _).mono ?_
      rintro e w1 ⟨rfl, hb1⟩
      have HQA : Hid (QMem w1 w.heap.size a q) := QM.out.below hb1
      obtain ⟨c0', c1', c2', c3', c4', c5', f0', f1', f2', f3', f4', f5'⟩ := HQA.out
      have z1 := hb1.size
      clear c0 c1 c2 c3 c4 c5 f0 f1 f2 f3 f4 f5
      go_wp2_with fail
      refine (rshl_num q 1 nq (by omega) _).mono ?_
      rintro e w2 ⟨rfl, hb2⟩
      have HQB : Hid (QMem w2 w.heap.size (shlV a 1) q) := (HQA.out.setA (shlV a 1)).below hb2
      obtain ⟨c0, c1, c2, c3, c4, c5, f0, f1, f2, f3, f4, f5⟩ := HQB.out
      have z2 := hb2.size
      simp [World.setCell] at z2
      clear c0' c1' c2' c3' c4' c5' f0' f1' f2' f3' f4' f5'
      go_wp2
      go_roundw
      case rel =>
       refine ⟨k + 1, shlV a 1, 2 * q + 1, 2 * s + hiW a / 9223372036854775808 - b, by omega, by go_num, ?_, HN.out.1 (by omega), ?_, ?_, ?_⟩
       ·exact congrArg (Value.int IntKind.u64) (by omega)
       ·rw [EQ.out.1, EQ.out.2.2]; exact (HQB.out.setQ (2 * q)).bump (2 * q + 1) EQ.out.2.1
       ·simp [World.setCell]; omega
       ·exact ((((hb.trans (hb1.mono (by omega))).setCell (by simp) _).setCell (by simp) _).trans (hb2.mono (by simp [World.setCell]; omega))).setCell (by simp; omega) _ |>.setCell (by simp; omega) _ |>.setCell (by simp; omega) _
      case measure => simp [intOf]; omega
     ·have gb : decide (b ≤ s * 2 + hiW a / 9223372036854775808) = false := by simp; omega
      go_wp2_with fail
      refine (rshl_num a 1 na (by omega) _).mono ?_
      rintro e w1 ⟨rfl, hb1⟩
      have HQA : Hid (QMem w1 w.heap.size a q) := QM.out.below hb1
      obtain ⟨c0', c1', c2', c3', c4', c5', f0', f1', f2', f3', f4', f5'⟩ := HQA.out
      have z1 := hb1.size
      clear c0 c1 c2 c3 c4 c5 f0 f1 f2 f3 f4 f5
      go_wp2_with fail
      refine (rshl_num q 1 nq (by omega) _).mono ?_
      rintro e w2 ⟨rfl, hb2⟩
      have HQB : Hid (QMem w2 w.heap.size (shlV a 1) q) := (HQA.out.setA (shlV a 1)).below hb2
      obtain ⟨c0, c1, c2, c3, c4, c5, f0, f1, f2, f3, f4, f5⟩ := HQB.out
      have z2 := hb2.size
      simp [World.setCell] at z2
      clear c0' c1' c2' c3' c4' c5' f0' f1' f2' f3' f4' f5'
      go_wp2
      go_roundw
      case rel =>
       refine ⟨k + 1, shlV a 1, 2 * q, 2 * s + hiW a / 9223372036854775808, by omega, by go_num, ?_, HN.out.2 (by omega), ?_, ?_, ?_⟩
       ·exact congrArg (Value.int IntKind.u64) (by omega)
       ·rw [EQ.out.1]; exact HQB.out.setQ (2 * q)
       ·simp [World.setCell]; omega
       ·exact ((((hb.trans (hb1.mono (by omega))).setCell (by simp) _).setCell (by simp) _).trans (hb2.mono (by simp [World.setCell]; omega))).setCell (by simp; omega) _ |>.setCell (by simp; omega) _
      case measure => simp [intOf]; omega
   ·obtain rfl : k = 128 := by omega
    have HP : Hid (Part (val ah al) b 128 a q s) := hp
    have QM : Hid (QMem wr w.heap.size a q) := hq
    obtain ⟨c0, c1, c2, c3, c4, c5, f0, f1, f2, f3, f4, f5⟩ := hq
    clear hp
    go_wp2
    obtain ⟨u1, u2⟩ := part_end HP.out bp
    rw [← u1, ← u2]
    refine bodyPost_ret (v := .tuple #[.agg #[.int .u64 (hiW q), .int .u64 (loW q)], .int .u64 s, .bool true]) (by simp [results, Tryz.results27, go_sem, c2, c3]) rfl ⟨rfl, ?_⟩
    exact (hb.setCell (by simp) _).setCell (by simp) _
end Go.Proofs.YtdkbmligaodpmaaGreatDoor
namespace Go.Proofs.YtdkbmligaodpmaaGreatDoor
open Go.RowKit Wd

theorem radd_num (u v : Int) (hu : Num u) (hv : Num v) (w : World) :
  Calls Tryz.prog 28 #[.agg #[.int .u64 (hiW u), .int .u64 (loW u)], .agg #[.int .u64 (hiW v), .int .u64 (loW v)]] w fun e w' =>
   e = .returned (.tuple #[.agg #[.int .u64 (hiW (addV u v)), .int .u64 (loW (addV u v))], .bool (addB u v)]) ∧ Below w.heap.size w w' := by
 have c := radd_any (hiW u) (loW u) (hiW v) (loW v) (hi_word hu) (lo_word u) (hi_word hv) (lo_word v) w
 rw [val_words, val_words] at c
 exact c
theorem rdiv_yes (u b : Int) (hu : Num u) (hb : Word b) (h : b ≠ 0) (w : World) :
  Calls Tryz.prog 27 #[.agg #[.int .u64 (hiW u), .int .u64 (loW u)], .int .u64 b] w fun e w' =>
   e = .returned (.tuple #[.agg #[.int .u64 (hiW (u / b)), .int .u64 (loW (u / b))], .int .u64 (u % b), .bool true]) ∧ Below w.heap.size w w' := by
 have c := rdiv_any (hiW u) (loW u) b (hi_word hu) (lo_word u) hb w
 obtain ⟨e1, e2, e3, _⟩ := div_facts hu hb h
 rw [val_words, e1, e2, e3] at c
 exact c
theorem rdiv_no (u : Int) (hu : Num u) (w : World) :
  Calls Tryz.prog 27 #[.agg #[.int .u64 (hiW u), .int .u64 (loW u)], .int .u64 0] w fun e w' =>
   e = .returned (.tuple #[.agg #[.int .u64 0, .int .u64 0], .int .u64 0, .bool false]) ∧ Below w.heap.size w w' := by
 have c := rdiv_any (hiW u) (loW u) 0 (hi_word hu) (lo_word u) ⟨by omega, by omega⟩ w
 rw [val_words] at c
 exact c

theorem small_num (u : Int) (hu : Num u) (w : World) :
  Calls Tryz.prog 136 #[.agg #[.int .u64 (hiW u), .int .u64 (loW u)]] w fun e w' => e = .returned (.tuple #[.int .u64 (narV u), .bool (narB u)]) ∧ Below w.heap.size w w' := by
 by_cases h : hiW u = 0
 ·obtain ⟨e1, e2⟩ := nar_hi hu h
  rw [e1, e2, h]
  go_enter Tryz.func136, Tryz.ntmps136
  go_wp2
  go_ret2
  exact ⟨rfl, (Below.refl _ _).alloc (Nat.le_refl _) _⟩
 ·obtain ⟨e1, e2⟩ := nar_no hu h
  rw [e1, e2]
  have k : 0 < hiW u := by have := (hi_word hu).1; omega
  go_enter Tryz.func136, Tryz.ntmps136
  go_wp2
  go_ret2
  exact ⟨rfl, (Below.refl _ _).alloc (Nat.le_refl _) _⟩

theorem one_num : Num 1 := ⟨by omega, by unfold top; omega⟩
def Twoq (w : World) (g : Nat) (x y : Int) : Prop := w.cell? ⟨g, 0, none⟩ = some (.int .u64 x) ∧ w.cell? ⟨g, 1, none⟩ = some (.int .u64 y)
theorem trans_keepq {P w1 w2 : World} (h1 : ∀ a, (P.cell? a).isSome = true → w1.cell? a = P.cell? a) (h2 : ∀ a, (w1.cell? a).isSome = true → w2.cell? a = w1.cell? a) : ∀ a, (P.cell? a).isSome = true → w2.cell? a = P.cell? a :=
 fun a h => (h2 a (by rw [h1 a h]; exact h)).trans (h1 a h)
theorem trans_keepFq {P w1 w2 : World} (h1 : ∀ a, (P.cell? a).isSome = true → w1.cell? a = P.cell? a) (f1 : ∀ a, (P.cell? a).isSome = true → w1.frozen? a = P.frozen? a) (f2 : ∀ a, (w1.cell? a).isSome = true → w2.frozen? a = w1.frozen? a) : ∀ a, (P.cell? a).isSome = true → w2.frozen? a = P.frozen? a :=
 fun a h => (f2 a (by rw [h1 a h]; exact h)).trans (f1 a h)

set_option maxHeartbeats 2000000 in
set_option maxRecDepth 20000 in
theorem rup_num (u : Int) (hu : Num u) (w : World) :
  Calls Tryz.prog 157 #[.agg #[.int .u64 (hiW u), .int .u64 (loW u)]] w fun e w' => e = .returned (.agg #[.int .u64 (hiW (addV u 1)), .int .u64 (loW (addV u 1))]) ∧ Below w.heap.size w w' := by
 go_enter Tryz.func157, Tryz.ntmps157
 go_upto_region 1 with fail
 have A0 : ((w.alloc (.cells #[.int .u64 (hiW u), .int .u64 (loW u)] 68)).alloc (.cells #[.int .u64 0, .int .u64 0] 68)).cell? ⟨w.heap.size, 0, none⟩ = some (.int .u64 (hiW u)) := by simp [go_sem]
 have A1 : ((w.alloc (.cells #[.int .u64 (hiW u), .int .u64 (loW u)] 68)).alloc (.cells #[.int .u64 0, .int .u64 0] 68)).cell? ⟨w.heap.size, 1, none⟩ = some (.int .u64 (loW u)) := by simp [go_sem]
 have B0 : ((w.alloc (.cells #[.int .u64 (hiW u), .int .u64 (loW u)] 68)).alloc (.cells #[.int .u64 0, .int .u64 0] 68)).cell? ⟨w.heap.size + 1, 0, none⟩ = some (.int .u64 0) := by simp [go_sem]
 have B1 : ((w.alloc (.cells #[.int .u64 (hiW u), .int .u64 (loW u)] 68)).alloc (.cells #[.int .u64 0, .int .u64 0] 68)).cell? ⟨w.heap.size + 1, 1, none⟩ = some (.int .u64 0) := by simp [go_sem]
 have F0 : ((w.alloc (.cells #[.int .u64 (hiW u), .int .u64 (loW u)] 68)).alloc (.cells #[.int .u64 0, .int .u64 0] 68)).frozen? ⟨w.heap.size + 1, 0, none⟩ = false := by simp [go_sem]
 have F1 : ((w.alloc (.cells #[.int .u64 (hiW u), .int .u64 (loW u)] 68)).alloc (.cells #[.int .u64 0, .int .u64 0] 68)).frozen? ⟨w.heap.size + 1, 1, none⟩ = false := by simp [go_sem]
 have hb5 : Below w.heap.size w ((w.alloc (.cells #[.int .u64 (hiW u), .int .u64 (loW u)] 68)).alloc (.cells #[.int .u64 0, .int .u64 0] 68)) := ((Below.refl _ _).alloc (Nat.le_refl _) _).alloc (by simp) _
 have z5 : w.heap.size + 1 < ((w.alloc (.cells #[.int .u64 (hiW u), .int .u64 (loW u)] 68)).alloc (.cells #[.int .u64 0, .int .u64 0] 68)).heap.size := by simp
 generalize (w.alloc (.cells #[.int .u64 (hiW u), .int .u64 (loW u)] 68)).alloc (.cells #[.int .u64 0, .int .u64 0] 68) = v0 at *
 have y0 : ¬ v0.heap.size = w.heap.size := by omega
 go_cut [3, 4] (fun p o wc => ∃ g : Nat, p = .pointer (some ⟨g, 0, none⟩) ∧ o = .bool (addB u 1) ∧ Twoq wc g (hiW (addV u 1)) (loW (addV u 1)) ∧ Below v0.heap.size v0 wc)
 case first =>
  go_region_held3 (fun w' => w'.cell? ⟨w.heap.size, 0, none⟩ = some (.int .u64 (hiW u)) ∧ w'.cell? ⟨w.heap.size, 1, none⟩ = some (.int .u64 (loW u))) (simp (maxDischargeDepth := 12) [*, World.cell?_alloc_some, World.cell?_setCell_far])
   (first
    | (go_at_call 30; refine (rof_num 1 ⟨by omega, by omega⟩ _).mono ?_; rintro e x1 ⟨rfl, hx1⟩; obtain ⟨hc1, hf1⟩ := bkeep hx1; have s1 := hx1.size; (try rw [World.size_drew] at s1); (try rw [World.size_alloc] at s1); (try rw [World.size_drew] at s1); have y1 : ¬ x1.heap.size = w.heap.size := by { omega })
    | (go_at_call 28; refine (radd_num u 1 hu one_num _).mono ?_; rintro e x3 ⟨rfl, hx3⟩; obtain ⟨hc3, hf3⟩ := bkeep hx3; have s3 := hx3.size; (try rw [World.size_drew] at s3); (try rw [World.size_alloc] at s3); (try rw [World.size_drew] at s3); have y3 : ¬ x3.heap.size = w.heap.size := by { omega }; (first | (have g3 := trans_keepq hc1 hc3; have j3 := trans_keepFq hc1 hf1 hf3) | skip)))
  all_goals go_wp2_with fail
  all_goals go_meet
  all_goals refine ⟨_, rfl, rfl, ⟨?_, ?_⟩, ?_⟩
  all_goals first | (simp (maxDischargeDepth := 12) [*, go_sem]; done) | (repeat first | exact Below.refl _ _ | refine Below.drew ?_ | refine Below.setCell ?_ (by first | (simp; done) | (simp; omega) | omega) _ | refine Below.alloc ?_ (by first | (simp; done) | (simp; omega) | omega) _ | refine Below.trans ?_ (hx3.mono (by first | (simp; done) | (simp; omega) | omega)) | refine Below.trans ?_ (hx1.mono (by first | (simp; done) | (simp; omega) | omega)))
 case rest =>
  obtain ⟨g1, rfl, rfl, tn1, hv⟩ := hcut
  obtain ⟨c0, c1⟩ := tn1
  obtain ⟨v1, rfl⟩ : ∃ v1 : World, v1 = wc := ⟨_, rfl⟩
  have zv := hv.size
  have f0 := keepF hv B0 F0
  have f1 := keepF hv B1 F1
  replace B0 := keepC hv B0
  replace B1 := keepC hv B1
  clear A0 A1 F0 F1
  go_wp2
  refine bodyPost_ret (v := .agg #[.int .u64 (hiW (addV u 1)), .int .u64 (loW (addV u 1))]) (by simp [results, Tryz.results157, go_sem, B0, B1]) rfl ⟨rfl, ?_⟩
  exact ((hb5.trans (hv.mono (by omega))).setCell (by simp) _).setCell (by simp) _

set_option maxHeartbeats 400000 in
theorem quo_dn (u b : Int) (hu : Num u) (hb : Word b) (w : World) :
  Calls Tryz.prog 137 #[.agg #[.int .u64 (hiW u), .int .u64 (loW u)], .int .u64 b, .bool false] w fun e w' => e = .returned (.tuple #[.int .u64 (dnV u b), .bool (dnB u b)]) ∧ Below w.heap.size w w' := by
 by_cases z : b = 0
 ·subst z
  rw [show dnV u 0 = 18446744073709551615 from rfl, show dnB u 0 = false from rfl]
  go_enter Tryz.func137, Tryz.ntmps137
  go_wp2_with fail
  refine (rdiv_no u hu _).mono ?_
  rintro e w1 ⟨rfl, hb1⟩
  go_wp2
  go_ret2
  exact ⟨rfl, (((Below.refl _ _).alloc (Nat.le_refl _) _).trans (hb1.mono (by simp))).alloc (by have := hb1.size; simp at this; omega) _⟩
 ·obtain ⟨_, _, _, nq, _⟩ := div_facts hu hb z
  rw [show dnV u b = narV (u / b) by unfold dnV; rw [if_neg z], show dnB u b = narB (u / b) by unfold dnB; rw [if_neg z]]
  go_enter Tryz.func137, Tryz.ntmps137
  go_wp2_with fail
  refine (rdiv_yes u b hu hb z _).mono ?_
  rintro e w1 ⟨rfl, hb1⟩
  go_wp2_with fail
  refine (small_num (u / b) nq _).mono ?_
  rintro e w2 ⟨rfl, hb2⟩
  go_wp2
  go_ret2
  have z1 := hb1.size
  simp at z1
  exact ⟨rfl, ((((Below.refl _ _).alloc (Nat.le_refl _) _).trans (hb1.mono (by simp))).alloc (by omega) _).trans (hb2.mono (by simp; omega))⟩

theorem rqadd_any (a b : Int) (ha : Word a) (hb : Word b) (w : World) :
  Calls Tryz.prog 101 #[.int .u64 a, .int .u64 b] w fun e w' => e = .returned (.tuple #[.int .u64 (narV (a + b)), .bool (narB (a + b))]) ∧ Below w.heap.size w w' := by
 obtain ⟨ea, na⟩ := add_words ha hb
 go_enter Tryz.func101, Tryz.ntmps101
 go_wp2_with fail
 refine (rof_num a ha _).mono ?_
 rintro e w1 ⟨rfl, hb1⟩
 go_wp2_with fail
 refine (rof_num b hb _).mono ?_
 rintro e w2 ⟨rfl, hb2⟩
 go_wp2_with fail
 refine (radd_num a b (num_small ha) (num_small hb) _).mono ?_
 rw [ea]
 rintro e w3 ⟨rfl, hb3⟩
 go_wp2_with fail
 refine (small_num (a + b) na _).mono ?_
 rintro e w4 ⟨rfl, hb4⟩
 go_wp2
 go_ret2
 have z1 := hb1.size
 have z2 := hb2.size
 have z3 := hb3.size
 exact ⟨rfl, (((hb1.trans (hb2.mono z1)).trans (hb3.mono (by omega))).alloc (by omega) _).trans (hb4.mono (by simp; omega))⟩

theorem rqof_any (n : Int) (hn : n < 9223372036854775808) (w : World) :
  Calls Tryz.prog 100 #[.int .i64 n] w fun e w' => e = .returned (.tuple #[.int .u64 (ofV n), .bool (ofB n)]) ∧ Below w.heap.size w w' := by
 by_cases h : n < 0
 ·rw [show ofV n = 0 by unfold ofV; rw [if_pos h], show ofB n = false by unfold ofB; rw [if_pos h]]
  go_enter Tryz.func100, Tryz.ntmps100
  go_wp2
  go_ret2
  exact ⟨rfl, Below.refl _ _⟩
 ·rw [show ofV n = narV (n * 4294967296) by unfold ofV; rw [if_neg h], show ofB n = narB (n * 4294967296) by unfold ofB; rw [if_neg h]]
  have h0 : 0 ≤ n := by omega
  have ew : IntKind.u64.wrap n = n := by rw [IntKind.wrap_u64]; omega
  by_cases g : n < 4294967296
  ·rw [show narV (n * 4294967296) = n * 4294967296 by unfold narV; rw [if_pos (by omega)], show narB (n * 4294967296) = true by simp [narB]; omega]
   have ew2 : IntKind.u64.wrap (n * 4294967296) = n * 4294967296 := by rw [IntKind.wrap_u64]; omega
   go_enter Tryz.func100, Tryz.ntmps100
   go_wp2
   go_ret2
   exact ⟨rfl, Below.refl _ _⟩
  ·rw [show narV (n * 4294967296) = 18446744073709551615 by unfold narV; rw [if_neg (by omega)], show narB (n * 4294967296) = false by simp [narB]; omega]
   go_enter Tryz.func100, Tryz.ntmps100
   go_wp2
   go_ret2
   exact ⟨rfl, Below.refl _ _⟩

theorem rpart_any (a f : Int) (ha : Word a) (hf : Word f) (w : World) :
  Calls Tryz.prog 102 #[.int .u64 a, .int .u64 f] w fun e w' => e = .returned (.int .u64 (partV a f)) ∧ Below w.heap.size w w' := by
 obtain ⟨e1, e2⟩ := part_dn (f := f) ha
 by_cases h : f ≤ 9223372036854775808
 ·have em : minV f = f := by unfold minV; split <;> omega
  rw [em] at e1 e2
  go_enter Tryz.func102, Tryz.ntmps102
  go_wp2_with fail
  refine (rmul_any a f ha hf _).mono ?_
  rintro e w1 ⟨rfl, hb1⟩
  go_wp2_with fail
  refine (quo_dn (a * f) 9223372036854775808 (mul_num ha hf) word63 _).mono ?_
  rw [e1, e2]
  rintro e w2 ⟨rfl, hb2⟩
  go_wp2
  go_ret
  exact ⟨rfl, hb1.trans (hb2.mono hb1.size)⟩
 ·have em : partV a f = a := by unfold partV minV; rw [if_neg (by omega)]; exact part_big
  rw [em]
  have h' : 9223372036854775808 < f := by omega
  go_enter Tryz.func102, Tryz.ntmps102
  go_wp2
  go_ret
  exact ⟨rfl, Below.refl _ _⟩
end Go.Proofs.YtdkbmligaodpmaaGreatDoor
