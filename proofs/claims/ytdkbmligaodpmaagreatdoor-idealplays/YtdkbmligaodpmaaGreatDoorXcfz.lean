/-
 LAYER 11: the reference's ranges (backfillref11).
 LAYER 11: the reference's K, C, M, G, lead, bound (backfillref11).
 LAYER 11: ref01's calls over numbers that fit; the reference's off (backfillref11).
-/
import Derived.Test.YtdkbmligaodpmaaGreatDoorXrrz
import Derived.Test.YtdkbmligaodpmaaGreatDoorXfxz
import Derived.Test.YtdkbmligaodpmaaGreatDoorMthz
import Derived.Deep.CutBlock
import Derived.Deep.DeepCutAuto
namespace Go.Proofs.YtdkbmligaodpmaaGreatDoor
open Go.RowKit Wd Cg

def cfV (c : Cf) : Value := .agg #[.int .i64 c.nodes, .int .i64 c.queue, .int .i64 c.limit, .int .i64 c.age, .int .i64 c.fair, .int .i64 c.size, .int .i64 c.period, .int .i64 c.half]
def inB (n a b : Int) : Bool := decide (a ≤ n) && decide (n ≤ b)
theorem rwithin_any (n a b : Int) (w : World) : Calls Tryz.prog 97 #[.int .i64 n, .int .i64 a, .int .i64 b] w fun e w' => e = .returned (.bool (inB n a b)) ∧ w' = w := by
 unfold inB
 by_cases h1 : a ≤ n
 ·rw [decide_eq_true h1]
  by_cases h2 : n ≤ b
  ·rw [decide_eq_true h2]
   go_enter Tryz.func97, Tryz.ntmps97
   go_wp2
   go_ret
   exact ⟨rfl, rfl⟩
  ·rw [decide_eq_false h2]
   go_enter Tryz.func97, Tryz.ntmps97
   go_wp2
   go_ret
   exact ⟨rfl, rfl⟩
 ·rw [decide_eq_false h1]
  go_enter Tryz.func97, Tryz.ntmps97
  go_wp2
  go_ret
  exact ⟨rfl, rfl⟩
theorem rup_any {a b : Int} (h0 : 0 ≤ a) (h1 : 1 ≤ b) (h2 : a + b < 9223372036854775808) (w : World) : Calls Tryz.prog 75 #[.int .i64 a, .int .i64 b] w fun e w' => e = .returned (.int .i64 (upZ a b)) ∧ w' = w := by
 have e1 : Int.tdiv (a + b - 1) b = upZ a b := Int.tdiv_eq_ediv_of_nonneg (by omega)
 have e2 : upZ a b ≤ a + b - 1 := Int.ediv_le_self _ (by omega)
 have e3 : 0 ≤ upZ a b := Int.ediv_nonneg (by omega) (by omega)
 have w1 : wrap64 (a + b) = a + b := by unfold wrap64; omega
 have w2 : wrap64 (a + b - 1) = a + b - 1 := by unfold wrap64; omega
 have w3 : wrap64 (upZ a b) = upZ a b := by unfold wrap64; omega
 have nz : ¬ b = 0 := by omega
 go_enter Tryz.func75, Tryz.ntmps75
 go_wp2
 go_ret
 exact ⟨by simp [*], rfl⟩
theorem rexp_any {p h : Int} (hp : 1 ≤ p) (hp' : p ≤ 1048576) (hh : 1 ≤ h) (hh' : h ≤ 1073741824) (w : World) :
  Calls Tryz.prog 45 #[.int .i64 p, .int .i64 h] w fun e w' => e = .returned (.int .u64 (p * 4294967296 / h)) ∧ w' = w := by
 have e1 : IntKind.u64.wrap p = p := by rw [IntKind.wrap_u64]; omega
 have e2 : IntKind.u64.wrap h = h := by rw [IntKind.wrap_u64]; omega
 have e3 : IntKind.u64.wrap (p * 4294967296) = p * 4294967296 := by rw [IntKind.wrap_u64]; omega
 have e4 : 0 ≤ p * 4294967296 / h := Int.ediv_nonneg (by omega) (by omega)
 have e5 : p * 4294967296 / h ≤ p * 4294967296 := Int.ediv_le_self _ (by omega)
 have e6 : IntKind.u64.wrap (p * 4294967296 / h) = p * 4294967296 / h := by rw [IntKind.wrap_u64]; omega
 have e7 : ¬ h = 0 := by omega
 go_enter Tryz.func45, Tryz.ntmps45
 go_wp2
 go_ret
 exact ⟨by simp [*], rfl⟩
def rngB (c : Cf) : Bool := inB c.nodes 1 256 && inB c.queue 1 128 && inB c.limit 1 1048576 && inB c.age 1 1048576 && inB c.fair 0 1048576 && inB c.size 0 1048576 && inB c.period 1 1048576 && inB c.half 1 1073741824
theorem rng_iff (c : Cf) : rngB c = true ↔ Rng c := by
 unfold rngB inB
 simp only [Bool.and_eq_true, decide_eq_true_eq]
 constructor
 ·rintro ⟨⟨⟨⟨⟨⟨⟨⟨_, _⟩, _, _⟩, _, _⟩, _, _⟩, _, _⟩, _, _⟩, _, _⟩, _, _⟩
  constructor <;> assumption
 ·rintro ⟨_, _, _, _, _, _, _, _, _, _, _, _, _, _, _, _⟩
  refine ⟨⟨⟨⟨⟨⟨⟨⟨?_, ?_⟩, ?_, ?_⟩, ?_, ?_⟩, ?_, ?_⟩, ?_, ?_⟩, ?_, ?_⟩, ?_, ?_⟩, ?_, ?_⟩ <;> assumption
set_option maxHeartbeats 4000000 in
theorem rranges_ints (x0 x1 x2 x3 x4 x5 x6 x7 : Int) (w : World) : Calls Tryz.prog 53 #[.agg #[.int .i64 x0, .int .i64 x1, .int .i64 x2, .int .i64 x3, .int .i64 x4, .int .i64 x5, .int .i64 x6, .int .i64 x7]] w fun e w' =>
  e = .returned (.bool (inB x0 1 256 && inB x1 1 128 && inB x2 1 1048576 && inB x3 1 1048576 && inB x4 0 1048576 && inB x5 0 1048576 && inB x6 1 1048576 && inB x7 1 1073741824)) ∧ Below w.heap.size w w' := by
 cases b0 : inB x0 1 256
 ·cases b3 : inB x3 1 1048576
  ·go_enter Tryz.func53, Tryz.ntmps53
   go_wp2_with fail
   refine (rwithin_any x0 1 256 _).mono ?_
   rw [b0]
   rintro e w0 ⟨rfl, rfl⟩
   go_wp2_with fail
   refine (rwithin_any x3 1 1048576 _).mono ?_
   rw [b3]
   rintro e w3 ⟨rfl, rfl⟩
   go_wp2
   go_ret
   exact ⟨rfl, (Below.refl _ _).alloc (Nat.le_refl _) _⟩
  ·cases b4 : inB x4 0 1048576
   ·go_enter Tryz.func53, Tryz.ntmps53
    go_wp2_with fail
    refine (rwithin_any x0 1 256 _).mono ?_
    rw [b0]
    rintro e w0 ⟨rfl, rfl⟩
    go_wp2_with fail
    refine (rwithin_any x3 1 1048576 _).mono ?_
    rw [b3]
    rintro e w3 ⟨rfl, rfl⟩
    go_wp2_with fail
    refine (rwithin_any x4 0 1048576 _).mono ?_
    rw [b4]
    rintro e w4 ⟨rfl, rfl⟩
    go_wp2
    go_ret
    exact ⟨rfl, (Below.refl _ _).alloc (Nat.le_refl _) _⟩
   ·cases b5 : inB x5 0 1048576
    ·go_enter Tryz.func53, Tryz.ntmps53
     go_wp2_with fail
     refine (rwithin_any x0 1 256 _).mono ?_
     rw [b0]
     rintro e w0 ⟨rfl, rfl⟩
     go_wp2_with fail
     refine (rwithin_any x3 1 1048576 _).mono ?_
     rw [b3]
     rintro e w3 ⟨rfl, rfl⟩
     go_wp2_with fail
     refine (rwithin_any x4 0 1048576 _).mono ?_
     rw [b4]
     rintro e w4 ⟨rfl, rfl⟩
     go_wp2_with fail
     refine (rwithin_any x5 0 1048576 _).mono ?_
     rw [b5]
     rintro e w5 ⟨rfl, rfl⟩
     go_wp2
     go_ret
     exact ⟨rfl, (Below.refl _ _).alloc (Nat.le_refl _) _⟩
    ·go_enter Tryz.func53, Tryz.ntmps53
     go_wp2_with fail
     refine (rwithin_any x0 1 256 _).mono ?_
     rw [b0]
     rintro e w0 ⟨rfl, rfl⟩
     go_wp2_with fail
     refine (rwithin_any x3 1 1048576 _).mono ?_
     rw [b3]
     rintro e w3 ⟨rfl, rfl⟩
     go_wp2_with fail
     refine (rwithin_any x4 0 1048576 _).mono ?_
     rw [b4]
     rintro e w4 ⟨rfl, rfl⟩
     go_wp2_with fail
     refine (rwithin_any x5 0 1048576 _).mono ?_
     rw [b5]
     rintro e w5 ⟨rfl, rfl⟩
     go_wp2
     go_ret
     exact ⟨rfl, (Below.refl _ _).alloc (Nat.le_refl _) _⟩
 ·cases b1 : inB x1 1 128
  ·cases b3 : inB x3 1 1048576
   ·go_enter Tryz.func53, Tryz.ntmps53
    go_wp2_with fail
    refine (rwithin_any x0 1 256 _).mono ?_
    rw [b0]
    rintro e w0 ⟨rfl, rfl⟩
    go_wp2_with fail
    refine (rwithin_any x1 1 128 _).mono ?_
    rw [b1]
    rintro e w1 ⟨rfl, rfl⟩
    go_wp2_with fail
    refine (rwithin_any x3 1 1048576 _).mono ?_
    rw [b3]
    rintro e w3 ⟨rfl, rfl⟩
    go_wp2
    go_ret
    exact ⟨rfl, (Below.refl _ _).alloc (Nat.le_refl _) _⟩
   ·cases b4 : inB x4 0 1048576
    ·go_enter Tryz.func53, Tryz.ntmps53
     go_wp2_with fail
     refine (rwithin_any x0 1 256 _).mono ?_
     rw [b0]
     rintro e w0 ⟨rfl, rfl⟩
     go_wp2_with fail
     refine (rwithin_any x1 1 128 _).mono ?_
     rw [b1]
     rintro e w1 ⟨rfl, rfl⟩
     go_wp2_with fail
     refine (rwithin_any x3 1 1048576 _).mono ?_
     rw [b3]
     rintro e w3 ⟨rfl, rfl⟩
     go_wp2_with fail
     refine (rwithin_any x4 0 1048576 _).mono ?_
     rw [b4]
     rintro e w4 ⟨rfl, rfl⟩
     go_wp2
     go_ret
     exact ⟨rfl, (Below.refl _ _).alloc (Nat.le_refl _) _⟩
    ·cases b5 : inB x5 0 1048576
     ·go_enter Tryz.func53, Tryz.ntmps53
      go_wp2_with fail
      refine (rwithin_any x0 1 256 _).mono ?_
      rw [b0]
      rintro e w0 ⟨rfl, rfl⟩
      go_wp2_with fail
      refine (rwithin_any x1 1 128 _).mono ?_
      rw [b1]
      rintro e w1 ⟨rfl, rfl⟩
      go_wp2_with fail
      refine (rwithin_any x3 1 1048576 _).mono ?_
      rw [b3]
      rintro e w3 ⟨rfl, rfl⟩
      go_wp2_with fail
      refine (rwithin_any x4 0 1048576 _).mono ?_
      rw [b4]
      rintro e w4 ⟨rfl, rfl⟩
      go_wp2_with fail
      refine (rwithin_any x5 0 1048576 _).mono ?_
      rw [b5]
      rintro e w5 ⟨rfl, rfl⟩
      go_wp2
      go_ret
      exact ⟨rfl, (Below.refl _ _).alloc (Nat.le_refl _) _⟩
     ·go_enter Tryz.func53, Tryz.ntmps53
      go_wp2_with fail
      refine (rwithin_any x0 1 256 _).mono ?_
      rw [b0]
      rintro e w0 ⟨rfl, rfl⟩
      go_wp2_with fail
      refine (rwithin_any x1 1 128 _).mono ?_
      rw [b1]
      rintro e w1 ⟨rfl, rfl⟩
      go_wp2_with fail
      refine (rwithin_any x3 1 1048576 _).mono ?_
      rw [b3]
      rintro e w3 ⟨rfl, rfl⟩
      go_wp2_with fail
      refine (rwithin_any x4 0 1048576 _).mono ?_
      rw [b4]
      rintro e w4 ⟨rfl, rfl⟩
      go_wp2_with fail
      refine (rwithin_any x5 0 1048576 _).mono ?_
      rw [b5]
      rintro e w5 ⟨rfl, rfl⟩
      go_wp2
      go_ret
      exact ⟨rfl, (Below.refl _ _).alloc (Nat.le_refl _) _⟩
  ·cases b2 : inB x2 1 1048576
   ·cases b3 : inB x3 1 1048576
    ·go_enter Tryz.func53, Tryz.ntmps53
     go_wp2_with fail
     refine (rwithin_any x0 1 256 _).mono ?_
     rw [b0]
     rintro e w0 ⟨rfl, rfl⟩
     go_wp2_with fail
     refine (rwithin_any x1 1 128 _).mono ?_
     rw [b1]
     rintro e w1 ⟨rfl, rfl⟩
     go_wp2_with fail
     refine (rwithin_any x2 1 1048576 _).mono ?_
     rw [b2]
     rintro e w2 ⟨rfl, rfl⟩
     go_wp2_with fail
     refine (rwithin_any x3 1 1048576 _).mono ?_
     rw [b3]
     rintro e w3 ⟨rfl, rfl⟩
     go_wp2
     go_ret
     exact ⟨rfl, (Below.refl _ _).alloc (Nat.le_refl _) _⟩
    ·cases b4 : inB x4 0 1048576
     ·go_enter Tryz.func53, Tryz.ntmps53
      go_wp2_with fail
      refine (rwithin_any x0 1 256 _).mono ?_
      rw [b0]
      rintro e w0 ⟨rfl, rfl⟩
      go_wp2_with fail
      refine (rwithin_any x1 1 128 _).mono ?_
      rw [b1]
      rintro e w1 ⟨rfl, rfl⟩
      go_wp2_with fail
      refine (rwithin_any x2 1 1048576 _).mono ?_
      rw [b2]
      rintro e w2 ⟨rfl, rfl⟩
      go_wp2_with fail
      refine (rwithin_any x3 1 1048576 _).mono ?_
      rw [b3]
      rintro e w3 ⟨rfl, rfl⟩
      go_wp2_with fail
      refine (rwithin_any x4 0 1048576 _).mono ?_
      rw [b4]
      rintro e w4 ⟨rfl, rfl⟩
      go_wp2
      go_ret
      exact ⟨rfl, (Below.refl _ _).alloc (Nat.le_refl _) _⟩
     ·cases b5 : inB x5 0 1048576
      ·go_enter Tryz.func53, Tryz.ntmps53
       go_wp2_with fail
       refine (rwithin_any x0 1 256 _).mono ?_
       rw [b0]
       rintro e w0 ⟨rfl, rfl⟩
       go_wp2_with fail
       refine (rwithin_any x1 1 128 _).mono ?_
       rw [b1]
       rintro e w1 ⟨rfl, rfl⟩
       go_wp2_with fail
       refine (rwithin_any x2 1 1048576 _).mono ?_
       rw [b2]
       rintro e w2 ⟨rfl, rfl⟩
       go_wp2_with fail
       refine (rwithin_any x3 1 1048576 _).mono ?_
       rw [b3]
       rintro e w3 ⟨rfl, rfl⟩
       go_wp2_with fail
       refine (rwithin_any x4 0 1048576 _).mono ?_
       rw [b4]
       rintro e w4 ⟨rfl, rfl⟩
       go_wp2_with fail
       refine (rwithin_any x5 0 1048576 _).mono ?_
       rw [b5]
       rintro e w5 ⟨rfl, rfl⟩
       go_wp2
       go_ret
       exact ⟨rfl, (Below.refl _ _).alloc (Nat.le_refl _) _⟩
      ·go_enter Tryz.func53, Tryz.ntmps53
       go_wp2_with fail
       refine (rwithin_any x0 1 256 _).mono ?_
       rw [b0]
       rintro e w0 ⟨rfl, rfl⟩
       go_wp2_with fail
       refine (rwithin_any x1 1 128 _).mono ?_
       rw [b1]
       rintro e w1 ⟨rfl, rfl⟩
       go_wp2_with fail
       refine (rwithin_any x2 1 1048576 _).mono ?_
       rw [b2]
       rintro e w2 ⟨rfl, rfl⟩
       go_wp2_with fail
       refine (rwithin_any x3 1 1048576 _).mono ?_
       rw [b3]
       rintro e w3 ⟨rfl, rfl⟩
       go_wp2_with fail
       refine (rwithin_any x4 0 1048576 _).mono ?_
       rw [b4]
       rintro e w4 ⟨rfl, rfl⟩
       go_wp2_with fail
       refine (rwithin_any x5 0 1048576 _).mono ?_
       rw [b5]
       rintro e w5 ⟨rfl, rfl⟩
       go_wp2
       go_ret
       exact ⟨rfl, (Below.refl _ _).alloc (Nat.le_refl _) _⟩
   ·cases b3 : inB x3 1 1048576
    ·go_enter Tryz.func53, Tryz.ntmps53
     go_wp2_with fail
     refine (rwithin_any x0 1 256 _).mono ?_
     rw [b0]
     rintro e w0 ⟨rfl, rfl⟩
     go_wp2_with fail
     refine (rwithin_any x1 1 128 _).mono ?_
     rw [b1]
     rintro e w1 ⟨rfl, rfl⟩
     go_wp2_with fail
     refine (rwithin_any x2 1 1048576 _).mono ?_
     rw [b2]
     rintro e w2 ⟨rfl, rfl⟩
     go_wp2_with fail
     refine (rwithin_any x3 1 1048576 _).mono ?_
     rw [b3]
     rintro e w3 ⟨rfl, rfl⟩
     go_wp2
     go_ret
     exact ⟨rfl, (Below.refl _ _).alloc (Nat.le_refl _) _⟩
    ·cases b4 : inB x4 0 1048576
     ·go_enter Tryz.func53, Tryz.ntmps53
      go_wp2_with fail
      refine (rwithin_any x0 1 256 _).mono ?_
      rw [b0]
      rintro e w0 ⟨rfl, rfl⟩
      go_wp2_with fail
      refine (rwithin_any x1 1 128 _).mono ?_
      rw [b1]
      rintro e w1 ⟨rfl, rfl⟩
      go_wp2_with fail
      refine (rwithin_any x2 1 1048576 _).mono ?_
      rw [b2]
      rintro e w2 ⟨rfl, rfl⟩
      go_wp2_with fail
      refine (rwithin_any x3 1 1048576 _).mono ?_
      rw [b3]
      rintro e w3 ⟨rfl, rfl⟩
      go_wp2_with fail
      refine (rwithin_any x4 0 1048576 _).mono ?_
      rw [b4]
      rintro e w4 ⟨rfl, rfl⟩
      go_wp2
      go_ret
      exact ⟨rfl, (Below.refl _ _).alloc (Nat.le_refl _) _⟩
     ·cases b5 : inB x5 0 1048576
      ·go_enter Tryz.func53, Tryz.ntmps53
       go_wp2_with fail
       refine (rwithin_any x0 1 256 _).mono ?_
       rw [b0]
       rintro e w0 ⟨rfl, rfl⟩
       go_wp2_with fail
       refine (rwithin_any x1 1 128 _).mono ?_
       rw [b1]
       rintro e w1 ⟨rfl, rfl⟩
       go_wp2_with fail
       refine (rwithin_any x2 1 1048576 _).mono ?_
       rw [b2]
       rintro e w2 ⟨rfl, rfl⟩
       go_wp2_with fail
       refine (rwithin_any x3 1 1048576 _).mono ?_
       rw [b3]
       rintro e w3 ⟨rfl, rfl⟩
       go_wp2_with fail
       refine (rwithin_any x4 0 1048576 _).mono ?_
       rw [b4]
       rintro e w4 ⟨rfl, rfl⟩
       go_wp2_with fail
       refine (rwithin_any x5 0 1048576 _).mono ?_
       rw [b5]
       rintro e w5 ⟨rfl, rfl⟩
       go_wp2
       go_ret
       exact ⟨rfl, (Below.refl _ _).alloc (Nat.le_refl _) _⟩
      ·cases b6 : inB x6 1 1048576
       ·go_enter Tryz.func53, Tryz.ntmps53
        go_wp2_with fail
        refine (rwithin_any x0 1 256 _).mono ?_
        rw [b0]
        rintro e w0 ⟨rfl, rfl⟩
        go_wp2_with fail
        refine (rwithin_any x1 1 128 _).mono ?_
        rw [b1]
        rintro e w1 ⟨rfl, rfl⟩
        go_wp2_with fail
        refine (rwithin_any x2 1 1048576 _).mono ?_
        rw [b2]
        rintro e w2 ⟨rfl, rfl⟩
        go_wp2_with fail
        refine (rwithin_any x3 1 1048576 _).mono ?_
        rw [b3]
        rintro e w3 ⟨rfl, rfl⟩
        go_wp2_with fail
        refine (rwithin_any x4 0 1048576 _).mono ?_
        rw [b4]
        rintro e w4 ⟨rfl, rfl⟩
        go_wp2_with fail
        refine (rwithin_any x5 0 1048576 _).mono ?_
        rw [b5]
        rintro e w5 ⟨rfl, rfl⟩
        go_wp2_with fail
        refine (rwithin_any x6 1 1048576 _).mono ?_
        rw [b6]
        rintro e w6 ⟨rfl, rfl⟩
        go_wp2
        go_ret
        exact ⟨rfl, (Below.refl _ _).alloc (Nat.le_refl _) _⟩
       ·cases b7 : inB x7 1 1073741824
        ·go_enter Tryz.func53, Tryz.ntmps53
         go_wp2_with fail
         refine (rwithin_any x0 1 256 _).mono ?_
         rw [b0]
         rintro e w0 ⟨rfl, rfl⟩
         go_wp2_with fail
         refine (rwithin_any x1 1 128 _).mono ?_
         rw [b1]
         rintro e w1 ⟨rfl, rfl⟩
         go_wp2_with fail
         refine (rwithin_any x2 1 1048576 _).mono ?_
         rw [b2]
         rintro e w2 ⟨rfl, rfl⟩
         go_wp2_with fail
         refine (rwithin_any x3 1 1048576 _).mono ?_
         rw [b3]
         rintro e w3 ⟨rfl, rfl⟩
         go_wp2_with fail
         refine (rwithin_any x4 0 1048576 _).mono ?_
         rw [b4]
         rintro e w4 ⟨rfl, rfl⟩
         go_wp2_with fail
         refine (rwithin_any x5 0 1048576 _).mono ?_
         rw [b5]
         rintro e w5 ⟨rfl, rfl⟩
         go_wp2_with fail
         refine (rwithin_any x6 1 1048576 _).mono ?_
         rw [b6]
         rintro e w6 ⟨rfl, rfl⟩
         go_wp2_with fail
         refine (rwithin_any x7 1 1073741824 _).mono ?_
         rw [b7]
         rintro e w7 ⟨rfl, rfl⟩
         go_wp2
         go_ret
         exact ⟨rfl, (Below.refl _ _).alloc (Nat.le_refl _) _⟩
        ·go_enter Tryz.func53, Tryz.ntmps53
         go_wp2_with fail
         refine (rwithin_any x0 1 256 _).mono ?_
         rw [b0]
         rintro e w0 ⟨rfl, rfl⟩
         go_wp2_with fail
         refine (rwithin_any x1 1 128 _).mono ?_
         rw [b1]
         rintro e w1 ⟨rfl, rfl⟩
         go_wp2_with fail
         refine (rwithin_any x2 1 1048576 _).mono ?_
         rw [b2]
         rintro e w2 ⟨rfl, rfl⟩
         go_wp2_with fail
         refine (rwithin_any x3 1 1048576 _).mono ?_
         rw [b3]
         rintro e w3 ⟨rfl, rfl⟩
         go_wp2_with fail
         refine (rwithin_any x4 0 1048576 _).mono ?_
         rw [b4]
         rintro e w4 ⟨rfl, rfl⟩
         go_wp2_with fail
         refine (rwithin_any x5 0 1048576 _).mono ?_
         rw [b5]
         rintro e w5 ⟨rfl, rfl⟩
         go_wp2_with fail
         refine (rwithin_any x6 1 1048576 _).mono ?_
         rw [b6]
         rintro e w6 ⟨rfl, rfl⟩
         go_wp2_with fail
         refine (rwithin_any x7 1 1073741824 _).mono ?_
         rw [b7]
         rintro e w7 ⟨rfl, rfl⟩
         go_wp2
         go_ret
         exact ⟨rfl, (Below.refl _ _).alloc (Nat.le_refl _) _⟩
theorem rranges_any (c : Cf) (w : World) : Calls Tryz.prog 53 #[cfV c] w fun e w' => e = .returned (.bool (rngB c)) ∧ Below w.heap.size w w' :=
 rranges_ints _ _ _ _ _ _ _ _ w
end Go.Proofs.YtdkbmligaodpmaaGreatDoor
namespace Go.Proofs.YtdkbmligaodpmaaGreatDoor
open Go.RowKit Wd Cg

def St (w : World) (g : Nat) (c : Cf) (x : World) : Prop := x.cell? ⟨g, 0, none⟩ = some (.int .i64 c.nodes) ∧ x.cell? ⟨g, 1, none⟩ = some (.int .i64 c.queue) ∧ x.cell? ⟨g, 2, none⟩ = some (.int .i64 c.limit) ∧ x.cell? ⟨g, 3, none⟩ = some (.int .i64 c.age) ∧ x.cell? ⟨g, 4, none⟩ = some (.int .i64 c.fair) ∧ x.cell? ⟨g, 5, none⟩ = some (.int .i64 c.size) ∧ x.cell? ⟨g, 6, none⟩ = some (.int .i64 c.period) ∧ x.cell? ⟨g, 7, none⟩ = some (.int .i64 c.half) ∧ Below w.heap.size w x ∧ w.heap.size ≤ x.heap.size
theorem St.new (w : World) (c : Cf) : St w w.heap.size c (w.alloc (.cells #[.int .i64 c.nodes, .int .i64 c.queue, .int .i64 c.limit, .int .i64 c.age, .int .i64 c.fair, .int .i64 c.size, .int .i64 c.period, .int .i64 c.half] 23)) :=
 ⟨by simp, by simp, by simp, by simp, by simp, by simp, by simp, by simp, (Below.refl _ _).alloc (Nat.le_refl _) _, by simp⟩
theorem keepW {w x y : World} {g : Nat} {c : Cf} (h : St w g c x) (b : Below x.heap.size x y) : St w g c y := by
 obtain ⟨h0, h1, h2, h3, h4, h5, h6, h7, h8, h9⟩ := h
 exact ⟨keepC b h0, keepC b h1, keepC b h2, keepC b h3, keepC b h4, keepC b h5, keepC b h6, keepC b h7, h8.trans (b.mono h9), Nat.le_trans h9 b.size⟩
theorem St.bel {w x : World} {g : Nat} {c : Cf} (h : St w g c x) : Below w.heap.size w x := h.2.2.2.2.2.2.2.2.1

theorem rC_any {c : Cf} (r : Rng c) (w : World) : Calls Tryz.prog 98 #[cfV c] w fun e w' => e = .returned (.int .i64 (cZ c)) ∧ Below w.heap.size w w' := by
 have hb := c_box r
 have e1 : wrap64 (c.nodes * c.period) = cZ c := by
  have h : cZ c = c.nodes * c.period := rfl
  rw [← h]
  unfold wrap64
  omega
 unfold cfV
 go_enter Tryz.func98, Tryz.ntmps98
 go_wp2
 go_ret
 exact ⟨by simp [e1], (Below.refl _ _).alloc (Nat.le_refl _) _⟩
theorem rK_any {c : Cf} (r : Rng c) (w : World) : Calls Tryz.prog 74 #[cfV c] w fun e w' => e = .returned (.int .i64 (kZ c)) ∧ Below w.heap.size w w' := by
 have he := e_box r
 have hu := up_box he.1
 have cE := rexp_any r.p0 r.p1 r.h0 r.h1
 rw [show c.period * 4294967296 / c.half = eZ c from rfl] at cE
 have cU := rup_any (a := 8589934592) (b := eZ c) (by omega) (by omega) (by omega)
 have hk : kZ c = if upZ 8589934592 (eZ c) < 2 then 2 else upZ 8589934592 (eZ c) := rfl
 rw [hk]
 clear hk
 have ec : wrap64 (eZ c) = eZ c := by unfold wrap64; omega
 generalize upZ 8589934592 (eZ c) = k at *
 generalize eZ c = ee at *
 unfold cfV
 by_cases h2 : k < 2
 ·rw [if_pos h2]
  go_enter Tryz.func74, Tryz.ntmps74
  go_wp2_with fail
  refine (cE _).mono ?_
  rintro e w1 ⟨rfl, rfl⟩
  go_wp2_with fail
  refine (cU _).mono ?_
  rintro e w1 ⟨rfl, rfl⟩
  go_wp2
  go_ret
  exact ⟨rfl, (Below.refl _ _).alloc (Nat.le_refl _) _⟩
 ·rw [if_neg h2]
  go_enter Tryz.func74, Tryz.ntmps74
  go_wp2_with fail
  refine (cE _).mono ?_
  rintro e w1 ⟨rfl, rfl⟩
  go_wp2_with fail
  refine (cU _).mono ?_
  rintro e w1 ⟨rfl, rfl⟩
  go_wp2
  go_ret
  exact ⟨rfl, (Below.refl _ _).alloc (Nat.le_refl _) _⟩
theorem rlead_any {c : Cf} (r : Rng c) (w : World) : Calls Tryz.prog 99 #[cfV c] w fun e w' => e = .returned (.int .i64 (leadZ c)) ∧ Below w.heap.size w w' := by
 have hb := ahead_box r
 have hl := lead_box r
 have ha := r.a0
 have hf := r.f0
 have hf1 := r.f1
 have e1 : wrap64 (c.size * c.nodes) = c.size * c.nodes := by unfold wrap64; omega
 have e2 : wrap64 (c.fair + c.size * c.nodes) = aheadZ c := by
  have h : aheadZ c = c.fair + c.size * c.nodes := rfl
  rw [← h]
  unfold wrap64
  omega
 have e3 : Int.tdiv (aheadZ c) c.age = leadZ c := Int.tdiv_eq_ediv_of_nonneg (by omega)
 have e4 : wrap64 (leadZ c) = leadZ c := by unfold wrap64; omega
 have nz : ¬ c.age = 0 := by omega
 unfold cfV
 go_enter Tryz.func99, Tryz.ntmps99
 go_wp2
 go_ret
 exact ⟨rfl, (Below.refl _ _).alloc (Nat.le_refl _) _⟩
set_option maxHeartbeats 1000000 in
theorem rM_any {c : Cf} (r : Rng c) (w : World) : Calls Tryz.prog 54 #[cfV c] w fun e w' => e = .returned (.int .i64 (mZ c)) ∧ Below w.heap.size w w' := by
 have hb := m_box r
 have hc := c_box r
 have e1 : IntKind.i64.wrap (cZ c * kZ c) = mZ c := by
  have h : mZ c = cZ c * kZ c := rfl
  rw [← h, IntKind.wrap_i64]
  omega
 have cC := rC_any r
 have cK := rK_any r
 generalize cZ c = C0 at *
 generalize kZ c = K0 at *
 generalize mZ c = M0 at *
 unfold cfV at *
 have HS : Hid (St w w.heap.size c (w.alloc (.cells #[.int .i64 c.nodes, .int .i64 c.queue, .int .i64 c.limit, .int .i64 c.age, .int .i64 c.fair, .int .i64 c.size, .int .i64 c.period, .int .i64 c.half] 23)).drew) := keepW (St.new w c) ((Below.refl _ _).drew)
 clear hb hc
 go_enter Tryz.func54, Tryz.ntmps54
 go_upto_region 1 with fail
 go_region_held3 (fun x => x.cell? ⟨w.heap.size, 0, none⟩ = some (.int .i64 c.nodes) ∧ x.cell? ⟨w.heap.size, 1, none⟩ = some (.int .i64 c.queue) ∧ x.cell? ⟨w.heap.size, 2, none⟩ = some (.int .i64 c.limit) ∧ x.cell? ⟨w.heap.size, 3, none⟩ = some (.int .i64 c.age) ∧ x.cell? ⟨w.heap.size, 4, none⟩ = some (.int .i64 c.fair) ∧ x.cell? ⟨w.heap.size, 5, none⟩ = some (.int .i64 c.size) ∧ x.cell? ⟨w.heap.size, 6, none⟩ = some (.int .i64 c.period) ∧ x.cell? ⟨w.heap.size, 7, none⟩ = some (.int .i64 c.half) ∧ Below w.heap.size w x ∧ w.heap.size ≤ x.heap.size) (first | exact HS.out | exact keepW (by assumption) (by assumption))
  (first
   | (go_at_call 98; refine (cC _).mono ?_; rintro e x ⟨rfl, hx⟩)
   | (go_at_call 74; refine (cK _).mono ?_; rintro e x ⟨rfl, hx⟩))
 have hS : St w w.heap.size c x := by assumption
 have hB := hS.bel
 clear hS HS
 go_wp2
 go_ret
 exact ⟨rfl, hB⟩
set_option maxHeartbeats 1000000 in
theorem rG_any {c : Cf} (r : Rng c) (hm : mZ c ≤ 2147483648) (w : World) : Calls Tryz.prog 34 #[cfV c] w fun e w' => e = .returned (.int .i64 (gZ c)) ∧ Below w.heap.size w w' := by
 have hb := m_box r
 have hc := c_box r
 have hg := g_box r hm
 have e0 : IntKind.i64.wrap (mZ c * 81) = mZ c * 81 := by rw [IntKind.wrap_i64]; omega
 have e1 : IntKind.i64.wrap (1 + upZ (mZ c * 81) 2147483648) = 1 + upZ (mZ c * 81) 2147483648 := by rw [IntKind.wrap_i64]; omega
 have e2 : IntKind.i64.wrap (kZ c * (1 + upZ (mZ c * 81) 2147483648)) = gZ c := by
  have h : gZ c = kZ c * (1 + upZ (mZ c * 81) 2147483648) := rfl
  rw [← h, IntKind.wrap_i64]
  omega
 have cK := rK_any r
 have cM := rM_any r
 have cU : ∀ w, Calls Tryz.prog 75 #[.int .i64 (mZ c * 81), .int .i64 2147483648] w fun e w' => e = .returned (.int .i64 (upZ (mZ c * 81) 2147483648)) ∧ Below w.heap.size w w' := fun w => (rup_any (a := mZ c * 81) (b := 2147483648) (by omega) (by omega) (by omega) w).mono fun e w' h => ⟨h.1, by rw [h.2]; exact Below.refl _ _⟩
 clear hb hc hg hm
 generalize mZ c = M0 at *
 generalize upZ (M0 * 81) 2147483648 = U0 at *
 generalize kZ c = K0 at *
 generalize gZ c = G0 at *
 unfold cfV at *
 have HS : Hid (St w w.heap.size c (w.alloc (.cells #[.int .i64 c.nodes, .int .i64 c.queue, .int .i64 c.limit, .int .i64 c.age, .int .i64 c.fair, .int .i64 c.size, .int .i64 c.period, .int .i64 c.half] 23)).drew) := keepW (St.new w c) ((Below.refl _ _).drew)
 go_enter Tryz.func34, Tryz.ntmps34
 go_upto_region 1 with fail
 go_region_held3 (fun x => x.cell? ⟨w.heap.size, 0, none⟩ = some (.int .i64 c.nodes) ∧ x.cell? ⟨w.heap.size, 1, none⟩ = some (.int .i64 c.queue) ∧ x.cell? ⟨w.heap.size, 2, none⟩ = some (.int .i64 c.limit) ∧ x.cell? ⟨w.heap.size, 3, none⟩ = some (.int .i64 c.age) ∧ x.cell? ⟨w.heap.size, 4, none⟩ = some (.int .i64 c.fair) ∧ x.cell? ⟨w.heap.size, 5, none⟩ = some (.int .i64 c.size) ∧ x.cell? ⟨w.heap.size, 6, none⟩ = some (.int .i64 c.period) ∧ x.cell? ⟨w.heap.size, 7, none⟩ = some (.int .i64 c.half) ∧ Below w.heap.size w x ∧ w.heap.size ≤ x.heap.size) (first | exact HS.out | exact keepW (by assumption) (by assumption))
  (first
   | (go_at_call 74; refine (cK _).mono ?_; rintro e x ⟨rfl, hx⟩)
   | (go_at_call 54; refine (cM _).mono ?_; rintro e x ⟨rfl, hx⟩)
   | (go_at_call 75; refine (cU _).mono ?_; rintro e x ⟨rfl, hx⟩))
 all_goals
  have hS : St w w.heap.size c x := by assumption
  have hB := hS.bel
  clear hS HS
  go_wp2
  go_ret
  exact ⟨rfl, hB⟩
set_option maxHeartbeats 1000000 in
theorem rbound_any {c : Cf} (r : Rng c) (w : World) : Calls Tryz.prog 57 #[cfV c] w fun e w' => e = .returned (.int .i64 (boundZ c)) ∧ Below w.heap.size w w' := by
 have hb := bound_box r
 have hl := lead_box r
 have e0 : IntKind.i64.wrap (leadZ c + 1) = leadZ c + 1 := by rw [IntKind.wrap_i64]; omega
 have e1 : IntKind.i64.wrap (c.queue * c.limit) = c.queue * c.limit := by rw [IntKind.wrap_i64]; omega
 have e2 : IntKind.i64.wrap (leadZ c + 1 + c.queue * c.limit) = boundZ c := by
  have h : boundZ c = leadZ c + 1 + c.queue * c.limit := rfl
  rw [← h, IntKind.wrap_i64]
  omega
 have cL := rlead_any r
 clear hb hl
 generalize leadZ c = L0 at *
 generalize boundZ c = B0 at *
 unfold cfV at *
 have HS : Hid (St w w.heap.size c (w.alloc (.cells #[.int .i64 c.nodes, .int .i64 c.queue, .int .i64 c.limit, .int .i64 c.age, .int .i64 c.fair, .int .i64 c.size, .int .i64 c.period, .int .i64 c.half] 23)).drew) := keepW (St.new w c) ((Below.refl _ _).drew)
 go_enter Tryz.func57, Tryz.ntmps57
 go_upto_region 1 with fail
 go_region_held3 (fun x => x.cell? ⟨w.heap.size, 0, none⟩ = some (.int .i64 c.nodes) ∧ x.cell? ⟨w.heap.size, 1, none⟩ = some (.int .i64 c.queue) ∧ x.cell? ⟨w.heap.size, 2, none⟩ = some (.int .i64 c.limit) ∧ x.cell? ⟨w.heap.size, 3, none⟩ = some (.int .i64 c.age) ∧ x.cell? ⟨w.heap.size, 4, none⟩ = some (.int .i64 c.fair) ∧ x.cell? ⟨w.heap.size, 5, none⟩ = some (.int .i64 c.size) ∧ x.cell? ⟨w.heap.size, 6, none⟩ = some (.int .i64 c.period) ∧ x.cell? ⟨w.heap.size, 7, none⟩ = some (.int .i64 c.half) ∧ Below w.heap.size w x ∧ w.heap.size ≤ x.heap.size) (first | exact HS.out | exact keepW (by assumption) (by assumption))
  (first | (go_at_call 99; refine (cL _).mono ?_; rintro e x ⟨rfl, hx⟩))
 all_goals
  have hS : St w w.heap.size c x := by assumption
  have hB := hS.bel
  clear hS HS
  go_wp2
  go_ret
  exact ⟨rfl, hB⟩
end Go.Proofs.YtdkbmligaodpmaaGreatDoor
namespace Go.Proofs.YtdkbmligaodpmaaGreatDoor
open Go.RowKit Wd Cg

abbrev nu (v : Int) : Value := .agg #[.int .u64 (hiW v), .int .u64 (loW v)]
theorem radd_fit {u v : Int} (hu : 0 ≤ u) (hv : 0 ≤ v) (h : u + v ≤ top) (w : World) :
  Calls Tryz.prog 28 #[nu u, nu v] w fun e w' => e = .returned (.tuple #[nu (u + v), .bool true]) ∧ Below w.heap.size w w' := by
 have c := radd_any (hiW u) (loW u) (hiW v) (loW v) (hi_word ⟨hu, by omega⟩) (lo_word u) (hi_word ⟨hv, by omega⟩) (lo_word v) w
 rw [val_words, val_words, show addV u v = u + v by unfold addV; rw [if_pos h], show addB u v = true by unfold addB; exact decide_eq_true h] at c
 exact c
theorem rtimes_fit {u b : Int} (hu : Num u) (hb : Word b) (h : u * b ≤ top) (w : World) :
  Calls Tryz.prog 56 #[nu u, .int .u64 b] w fun e w' => e = .returned (.tuple #[nu (u * b), .bool true]) ∧ Below w.heap.size w w' := by
 have c := rtimes_any (hiW u) (loW u) b (hi_word hu) (lo_word u) hb w
 rw [val_words, show timV u b = u * b by unfold timV; rw [if_pos h], show timB u b = true by unfold timB; exact decide_eq_true h] at c
 exact c
theorem rcmp_num (u v : Int) (w : World) : Calls Tryz.prog 32 #[nu u, nu v] w fun e w' => e = .returned (.int .i64 (cmpV u v)) ∧ Below w.heap.size w w' := by
 have c := rcmp_any (hiW u) (loW u) (hiW v) (loW v) (lo_word u) (lo_word v) w
 rw [val_words, val_words] at c
 exact c
theorem rof_nu {n : Int} (hn : Word n) (w : World) : Calls Tryz.prog 30 #[.int .u64 n] w fun e w' => e = .returned (nu n) ∧ Below w.heap.size w w' := rof_num n hn w
theorem rmul_nu {x y : Int} (hx : Word x) (hy : Word y) (w : World) : Calls Tryz.prog 25 #[.int .u64 x, .int .u64 y] w fun e w' => e = .returned (nu (x * y)) ∧ Below w.heap.size w w' := rmul_any x y hx hy w

structure Two (w : World) (k : Nat) (v : Int) : Prop where
 c0 : w.cell? ⟨k, 0, none⟩ = some (.int .u64 (hiW v))
 c1 : w.cell? ⟨k, 1, none⟩ = some (.int .u64 (loW v))
 f0 : w.frozen? ⟨k, 0, none⟩ = false
 f1 : w.frozen? ⟨k, 1, none⟩ = false
theorem Two.keep {w w' : World} {k : Nat} {v : Int} (h : Two w k v) (b : Below w.heap.size w w') : Two w' k v :=
 ⟨keepC b h.c0, keepC b h.c1, keepF b h.c0 h.f0, keepF b h.c1 h.f1⟩
theorem Two.new (w : World) (v : Int) : Two (w.alloc (.cells #[.int .u64 (hiW v), .int .u64 (loW v)] 68)) w.heap.size v :=
 ⟨by simp, by simp, by simp [go_sem], by simp [go_sem]⟩
theorem roff_none {c : Cf} (h0 : c.fair = 0) (w : World) : Calls Tryz.prog 55 #[cfV c] w fun e w' => e = .returned (.tuple #[nu (offN c), nu (offD c)]) ∧ Below w.heap.size w w' := by
 have e1 : offN c = 0 := by unfold offN; rw [if_pos h0]
 have e2 : offD c = 1 := by unfold offD; rw [if_pos h0]
 rw [e1, e2]
 have c1 := rof_nu (n := 1) ⟨by omega, by omega⟩
 rw [show nu 0 = .agg #[.int .u64 0, .int .u64 0] from rfl]
 rw [show nu 1 = .agg #[.int .u64 0, .int .u64 1] from rfl] at *
 unfold cfV
 rw [h0]
 go_enter Tryz.func55, Tryz.ntmps55
 go_wp2_with fail
 obtain ⟨v0, hv0⟩ : ∃ v0 : World, v0 = ((w.alloc (.cells #[.int .i64 c.nodes, .int .i64 c.queue, .int .i64 c.limit, .int .i64 c.age, .int .i64 0, .int .i64 c.size, .int .i64 c.period, .int .i64 c.half] 23)).alloc (.cells #[.int .u64 0, .int .u64 0] 68)).alloc (.cells #[.int .u64 0, .int .u64 0] 68) := ⟨_, rfl⟩
 have B0 : Below w.heap.size w v0 := by rw [hv0]; exact (((Below.refl _ _).alloc (Nat.le_refl _) _).alloc (by simp) _).alloc (by simp; omega) _
 have t2 : Two v0 (w.heap.size + 1) 0 := by rw [hv0]; exact ⟨by simp [go_sem]; rfl, by simp [go_sem]; rfl, by simp [go_sem], by simp [go_sem]⟩
 have t3 : Two v0 (w.heap.size + 1 + 1) 0 := by rw [hv0]; exact ⟨by simp [go_sem]; rfl, by simp [go_sem]; rfl, by simp [go_sem], by simp [go_sem]⟩
 rw [← hv0]
 clear hv0
 refine (c1 _).mono ?_
 rintro e w1 ⟨rfl, b1⟩
 obtain ⟨p0, p1, p2, p3⟩ := t2.keep b1
 obtain ⟨q0, q1, q2, q3⟩ := t3.keep b1
 have B1 := B0.trans (b1.mono B0.size)
 clear t2 t3 b1 B0 c1
 go_wp2
 refine bodyPost_ret (v := .tuple #[.agg #[.int .u64 0, .int .u64 0], .agg #[.int .u64 0, .int .u64 1]]) (by simp [results, Tryz.results55, go_sem, p0, p1, q0, q1]) rfl ⟨rfl, ?_⟩
 exact (((B1.setCell (by simp) _).setCell (by simp) _).setCell (by simp; omega) _).setCell (by simp; omega) _
def put (w : World) (k : Nat) (v : Int) : World := (w.setCell ⟨k, 0, none⟩ (.int .u64 (hiW v))).setCell ⟨k, 1, none⟩ (.int .u64 (loW v))
theorem Two.put {w : World} {k : Nat} {u : Int} (h : Two w k u) (v : Int) : Two (put w k v) k v := by
 obtain ⟨a, b, c, d⟩ := h
 unfold Go.Proofs.YtdkbmligaodpmaaGreatDoor.put
 exact ⟨by simp [go_sem, *], by simp [go_sem, *], by simp [go_sem, *], by simp [go_sem, *]⟩
theorem Two.far {w : World} {k j : Nat} {u : Int} (h : Two w k u) (hj : k ≠ j) (v : Int) : Two (Go.Proofs.YtdkbmligaodpmaaGreatDoor.put w j v) k u := by
 obtain ⟨a, b, c, d⟩ := h
 unfold Go.Proofs.YtdkbmligaodpmaaGreatDoor.put
 exact ⟨by simp [go_sem, *], by simp [go_sem, *], by simp [go_sem, *], by simp [go_sem, *]⟩
theorem St.far {w x : World} {g j : Nat} {c : Cf} (h : St w g c x) (hj : g ≠ j) (hw : w.heap.size ≤ j) (v : Int) : St w g c (put x j v) := by
 obtain ⟨a0, a1, a2, a3, a4, a5, a6, a7, b, z⟩ := h
 unfold put
 refine ⟨by simp [go_sem, *], by simp [go_sem, *], by simp [go_sem, *], by simp [go_sem, *], by simp [go_sem, *], by simp [go_sem, *], by simp [go_sem, *], by simp [go_sem, *], ?_, by simp; omega⟩
 exact (b.setCell hw _).setCell hw _
end Go.Proofs.YtdkbmligaodpmaaGreatDoor
