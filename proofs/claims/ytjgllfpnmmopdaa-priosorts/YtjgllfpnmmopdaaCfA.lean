/-
  LAYER 11: the reference's ranges (backfillref11).
-/
import Derived.Test.YtjgllfpnmmopdaaRefD
import Derived.Test.YtjgllfpnmmopdaaRfW
import Derived.Test.YtjgllfpnmmopdaaMth
namespace Go.Proofs.Ytjgllfpnmmopdaa
open Go.RowKit Wd Cg

def cfV (c : Cf) : Value := .agg #[.int .i64 c.nodes, .int .i64 c.queue, .int .i64 c.limit, .int .i64 c.age, .int .i64 c.fair, .int .i64 c.size, .int .i64 c.period, .int .i64 c.half]
def FitN (n : Int) : Prop := -9223372036854775808 ≤ n ∧ n < 9223372036854775808
def inB (n a b : Int) : Bool := decide (a ≤ n) && decide (n ≤ b)
theorem rwithin_any (n a b : Int) (w : World) : Calls Try.prog 42 #[.int .i64 n, .int .i64 a, .int .i64 b] w fun e w' => e = .returned (.bool (inB n a b)) ∧ w' = w := by
  unfold inB
  by_cases h1 : a ≤ n
  · rw [decide_eq_true h1]
    by_cases h2 : n ≤ b
    · rw [decide_eq_true h2]
      go_enter Try.func42, Try.ntmps42
      go_wp2
      go_ret
      exact ⟨rfl, rfl⟩
    · rw [decide_eq_false h2]
      go_enter Try.func42, Try.ntmps42
      go_wp2
      go_ret
      exact ⟨rfl, rfl⟩
  · rw [decide_eq_false h1]
    go_enter Try.func42, Try.ntmps42
    go_wp2
    go_ret
    exact ⟨rfl, rfl⟩
theorem rup_any {a b : Int} (h0 : 0 ≤ a) (h1 : 1 ≤ b) (h2 : a + b < 9223372036854775808) (w : World) : Calls Try.prog 59 #[.int .i64 a, .int .i64 b] w fun e w' => e = .returned (.int .i64 (upZ a b)) ∧ w' = w := by
  have e1 : Int.tdiv (a + b - 1) b = upZ a b := Int.tdiv_eq_ediv_of_nonneg (by omega)
  have e2 : upZ a b ≤ a + b - 1 := Int.ediv_le_self _ (by omega)
  have e3 : 0 ≤ upZ a b := Int.ediv_nonneg (by omega) (by omega)
  have w1 : wrap64 (a + b) = a + b := by unfold wrap64; omega
  have w2 : wrap64 (a + b - 1) = a + b - 1 := by unfold wrap64; omega
  have w3 : wrap64 (upZ a b) = upZ a b := by unfold wrap64; omega
  have nz : ¬ b = 0 := by omega
  go_enter Try.func59, Try.ntmps59
  go_wp2
  go_ret
  exact ⟨by simp [*], rfl⟩
theorem rexp_any {p h : Int} (hp : 1 ≤ p) (hp' : p ≤ 1048576) (hh : 1 ≤ h) (hh' : h ≤ 1073741824) (w : World) :
    Calls Try.prog 58 #[.int .i64 p, .int .i64 h] w fun e w' => e = .returned (.int .u64 (p * 4294967296 / h)) ∧ w' = w := by
  have e1 : IntKind.u64.wrap p = p := by rw [IntKind.wrap_u64]; omega
  have e2 : IntKind.u64.wrap h = h := by rw [IntKind.wrap_u64]; omega
  have e3 : IntKind.u64.wrap (p * 4294967296) = p * 4294967296 := by rw [IntKind.wrap_u64]; omega
  have e4 : 0 ≤ p * 4294967296 / h := Int.ediv_nonneg (by omega) (by omega)
  have e5 : p * 4294967296 / h ≤ p * 4294967296 := Int.ediv_le_self _ (by omega)
  have e6 : IntKind.u64.wrap (p * 4294967296 / h) = p * 4294967296 / h := by rw [IntKind.wrap_u64]; omega
  have e7 : ¬ h = 0 := by omega
  go_enter Try.func58, Try.ntmps58
  go_wp2
  go_ret
  exact ⟨by simp [*], rfl⟩
theorem in_true {n a b : Int} (h0 : a ≤ n) (h1 : n ≤ b) : inB n a b = true := by unfold inB; simp [h0, h1]
def rngB (c : Cf) : Bool := inB c.nodes 1 256 && inB c.queue 1 128 && inB c.limit 1 1048576 && inB c.age 1 1048576 && inB c.fair 0 1048576 && inB c.size 0 1048576 && inB c.period 1 1048576 && inB c.half 1 1073741824
theorem rng_iff (c : Cf) : rngB c = true ↔ Rng c := by
  unfold rngB inB
  simp only [Bool.and_eq_true, decide_eq_true_eq]
  constructor
  · rintro ⟨⟨⟨⟨⟨⟨⟨⟨_, _⟩, _, _⟩, _, _⟩, _, _⟩, _, _⟩, _, _⟩, _, _⟩, _, _⟩
    constructor <;> assumption
  · rintro ⟨_, _, _, _, _, _, _, _, _, _, _, _, _, _, _, _⟩
    refine ⟨⟨⟨⟨⟨⟨⟨⟨?_, ?_⟩, ?_, ?_⟩, ?_, ?_⟩, ?_, ?_⟩, ?_, ?_⟩, ?_, ?_⟩, ?_, ?_⟩, ?_, ?_⟩ <;> assumption
set_option maxHeartbeats 4000000 in
theorem rranges_ints (x0 x1 x2 x3 x4 x5 x6 x7 : Int) (w : World) : Calls Try.prog 26 #[.agg #[.int .i64 x0, .int .i64 x1, .int .i64 x2, .int .i64 x3, .int .i64 x4, .int .i64 x5, .int .i64 x6, .int .i64 x7]] w fun e w' =>
    e = .returned (.bool (inB x0 1 256 && inB x1 1 128 && inB x2 1 1048576 && inB x3 1 1048576 && inB x4 0 1048576 && inB x5 0 1048576 && inB x6 1 1048576 && inB x7 1 1073741824)) ∧ Below w.heap.size w w' := by
  cases b0 : inB x0 1 256
  · cases b3 : inB x3 1 1048576
    · go_enter Try.func26, Try.ntmps26
      go_wp2_with fail
      refine (rwithin_any x0 1 256 _).mono ?_
      rw [b0]
      rintro e w0 ⟨rfl, rfl⟩
      go_wp2_with fail
      refine (rwithin_any x3 1 1048576 _).mono ?_
      rw [b3]
      rintro e w3 ⟨rfl, rfl⟩
      go_wp2
      go_ret
      exact ⟨rfl, (Below.refl _ _).alloc (Nat.le_refl _) _⟩
    · cases b4 : inB x4 0 1048576
      · go_enter Try.func26, Try.ntmps26
        go_wp2_with fail
        refine (rwithin_any x0 1 256 _).mono ?_
        rw [b0]
        rintro e w0 ⟨rfl, rfl⟩
        go_wp2_with fail
        refine (rwithin_any x3 1 1048576 _).mono ?_
        rw [b3]
        rintro e w3 ⟨rfl, rfl⟩
        go_wp2_with fail
        refine (rwithin_any x4 0 1048576 _).mono ?_
        rw [b4]
        rintro e w4 ⟨rfl, rfl⟩
        go_wp2
        go_ret
        exact ⟨rfl, (Below.refl _ _).alloc (Nat.le_refl _) _⟩
      · cases b5 : inB x5 0 1048576
        · go_enter Try.func26, Try.ntmps26
          go_wp2_with fail
          refine (rwithin_any x0 1 256 _).mono ?_
          rw [b0]
          rintro e w0 ⟨rfl, rfl⟩
          go_wp2_with fail
          refine (rwithin_any x3 1 1048576 _).mono ?_
          rw [b3]
          rintro e w3 ⟨rfl, rfl⟩
          go_wp2_with fail
          refine (rwithin_any x4 0 1048576 _).mono ?_
          rw [b4]
          rintro e w4 ⟨rfl, rfl⟩
          go_wp2_with fail
          refine (rwithin_any x5 0 1048576 _).mono ?_
          rw [b5]
          rintro e w5 ⟨rfl, rfl⟩
          go_wp2
          go_ret
          exact ⟨rfl, (Below.refl _ _).alloc (Nat.le_refl _) _⟩
        · go_enter Try.func26, Try.ntmps26
          go_wp2_with fail
          refine (rwithin_any x0 1 256 _).mono ?_
          rw [b0]
          rintro e w0 ⟨rfl, rfl⟩
          go_wp2_with fail
          refine (rwithin_any x3 1 1048576 _).mono ?_
          rw [b3]
          rintro e w3 ⟨rfl, rfl⟩
          go_wp2_with fail
          refine (rwithin_any x4 0 1048576 _).mono ?_
          rw [b4]
          rintro e w4 ⟨rfl, rfl⟩
          go_wp2_with fail
          refine (rwithin_any x5 0 1048576 _).mono ?_
          rw [b5]
          rintro e w5 ⟨rfl, rfl⟩
          go_wp2
          go_ret
          exact ⟨rfl, (Below.refl _ _).alloc (Nat.le_refl _) _⟩
  · cases b1 : inB x1 1 128
    · cases b3 : inB x3 1 1048576
      · go_enter Try.func26, Try.ntmps26
        go_wp2_with fail
        refine (rwithin_any x0 1 256 _).mono ?_
        rw [b0]
        rintro e w0 ⟨rfl, rfl⟩
        go_wp2_with fail
        refine (rwithin_any x1 1 128 _).mono ?_
        rw [b1]
        rintro e w1 ⟨rfl, rfl⟩
        go_wp2_with fail
        refine (rwithin_any x3 1 1048576 _).mono ?_
        rw [b3]
        rintro e w3 ⟨rfl, rfl⟩
        go_wp2
        go_ret
        exact ⟨rfl, (Below.refl _ _).alloc (Nat.le_refl _) _⟩
      · cases b4 : inB x4 0 1048576
        · go_enter Try.func26, Try.ntmps26
          go_wp2_with fail
          refine (rwithin_any x0 1 256 _).mono ?_
          rw [b0]
          rintro e w0 ⟨rfl, rfl⟩
          go_wp2_with fail
          refine (rwithin_any x1 1 128 _).mono ?_
          rw [b1]
          rintro e w1 ⟨rfl, rfl⟩
          go_wp2_with fail
          refine (rwithin_any x3 1 1048576 _).mono ?_
          rw [b3]
          rintro e w3 ⟨rfl, rfl⟩
          go_wp2_with fail
          refine (rwithin_any x4 0 1048576 _).mono ?_
          rw [b4]
          rintro e w4 ⟨rfl, rfl⟩
          go_wp2
          go_ret
          exact ⟨rfl, (Below.refl _ _).alloc (Nat.le_refl _) _⟩
        · cases b5 : inB x5 0 1048576
          · go_enter Try.func26, Try.ntmps26
            go_wp2_with fail
            refine (rwithin_any x0 1 256 _).mono ?_
            rw [b0]
            rintro e w0 ⟨rfl, rfl⟩
            go_wp2_with fail
            refine (rwithin_any x1 1 128 _).mono ?_
            rw [b1]
            rintro e w1 ⟨rfl, rfl⟩
            go_wp2_with fail
            refine (rwithin_any x3 1 1048576 _).mono ?_
            rw [b3]
            rintro e w3 ⟨rfl, rfl⟩
            go_wp2_with fail
            refine (rwithin_any x4 0 1048576 _).mono ?_
            rw [b4]
            rintro e w4 ⟨rfl, rfl⟩
            go_wp2_with fail
            refine (rwithin_any x5 0 1048576 _).mono ?_
            rw [b5]
            rintro e w5 ⟨rfl, rfl⟩
            go_wp2
            go_ret
            exact ⟨rfl, (Below.refl _ _).alloc (Nat.le_refl _) _⟩
          · go_enter Try.func26, Try.ntmps26
            go_wp2_with fail
            refine (rwithin_any x0 1 256 _).mono ?_
            rw [b0]
            rintro e w0 ⟨rfl, rfl⟩
            go_wp2_with fail
            refine (rwithin_any x1 1 128 _).mono ?_
            rw [b1]
            rintro e w1 ⟨rfl, rfl⟩
            go_wp2_with fail
            refine (rwithin_any x3 1 1048576 _).mono ?_
            rw [b3]
            rintro e w3 ⟨rfl, rfl⟩
            go_wp2_with fail
            refine (rwithin_any x4 0 1048576 _).mono ?_
            rw [b4]
            rintro e w4 ⟨rfl, rfl⟩
            go_wp2_with fail
            refine (rwithin_any x5 0 1048576 _).mono ?_
            rw [b5]
            rintro e w5 ⟨rfl, rfl⟩
            go_wp2
            go_ret
            exact ⟨rfl, (Below.refl _ _).alloc (Nat.le_refl _) _⟩
    · cases b2 : inB x2 1 1048576
      · cases b3 : inB x3 1 1048576
        · go_enter Try.func26, Try.ntmps26
          go_wp2_with fail
          refine (rwithin_any x0 1 256 _).mono ?_
          rw [b0]
          rintro e w0 ⟨rfl, rfl⟩
          go_wp2_with fail
          refine (rwithin_any x1 1 128 _).mono ?_
          rw [b1]
          rintro e w1 ⟨rfl, rfl⟩
          go_wp2_with fail
          refine (rwithin_any x2 1 1048576 _).mono ?_
          rw [b2]
          rintro e w2 ⟨rfl, rfl⟩
          go_wp2_with fail
          refine (rwithin_any x3 1 1048576 _).mono ?_
          rw [b3]
          rintro e w3 ⟨rfl, rfl⟩
          go_wp2
          go_ret
          exact ⟨rfl, (Below.refl _ _).alloc (Nat.le_refl _) _⟩
        · cases b4 : inB x4 0 1048576
          · go_enter Try.func26, Try.ntmps26
            go_wp2_with fail
            refine (rwithin_any x0 1 256 _).mono ?_
            rw [b0]
            rintro e w0 ⟨rfl, rfl⟩
            go_wp2_with fail
            refine (rwithin_any x1 1 128 _).mono ?_
            rw [b1]
            rintro e w1 ⟨rfl, rfl⟩
            go_wp2_with fail
            refine (rwithin_any x2 1 1048576 _).mono ?_
            rw [b2]
            rintro e w2 ⟨rfl, rfl⟩
            go_wp2_with fail
            refine (rwithin_any x3 1 1048576 _).mono ?_
            rw [b3]
            rintro e w3 ⟨rfl, rfl⟩
            go_wp2_with fail
            refine (rwithin_any x4 0 1048576 _).mono ?_
            rw [b4]
            rintro e w4 ⟨rfl, rfl⟩
            go_wp2
            go_ret
            exact ⟨rfl, (Below.refl _ _).alloc (Nat.le_refl _) _⟩
          · cases b5 : inB x5 0 1048576
            · go_enter Try.func26, Try.ntmps26
              go_wp2_with fail
              refine (rwithin_any x0 1 256 _).mono ?_
              rw [b0]
              rintro e w0 ⟨rfl, rfl⟩
              go_wp2_with fail
              refine (rwithin_any x1 1 128 _).mono ?_
              rw [b1]
              rintro e w1 ⟨rfl, rfl⟩
              go_wp2_with fail
              refine (rwithin_any x2 1 1048576 _).mono ?_
              rw [b2]
              rintro e w2 ⟨rfl, rfl⟩
              go_wp2_with fail
              refine (rwithin_any x3 1 1048576 _).mono ?_
              rw [b3]
              rintro e w3 ⟨rfl, rfl⟩
              go_wp2_with fail
              refine (rwithin_any x4 0 1048576 _).mono ?_
              rw [b4]
              rintro e w4 ⟨rfl, rfl⟩
              go_wp2_with fail
              refine (rwithin_any x5 0 1048576 _).mono ?_
              rw [b5]
              rintro e w5 ⟨rfl, rfl⟩
              go_wp2
              go_ret
              exact ⟨rfl, (Below.refl _ _).alloc (Nat.le_refl _) _⟩
            · go_enter Try.func26, Try.ntmps26
              go_wp2_with fail
              refine (rwithin_any x0 1 256 _).mono ?_
              rw [b0]
              rintro e w0 ⟨rfl, rfl⟩
              go_wp2_with fail
              refine (rwithin_any x1 1 128 _).mono ?_
              rw [b1]
              rintro e w1 ⟨rfl, rfl⟩
              go_wp2_with fail
              refine (rwithin_any x2 1 1048576 _).mono ?_
              rw [b2]
              rintro e w2 ⟨rfl, rfl⟩
              go_wp2_with fail
              refine (rwithin_any x3 1 1048576 _).mono ?_
              rw [b3]
              rintro e w3 ⟨rfl, rfl⟩
              go_wp2_with fail
              refine (rwithin_any x4 0 1048576 _).mono ?_
              rw [b4]
              rintro e w4 ⟨rfl, rfl⟩
              go_wp2_with fail
              refine (rwithin_any x5 0 1048576 _).mono ?_
              rw [b5]
              rintro e w5 ⟨rfl, rfl⟩
              go_wp2
              go_ret
              exact ⟨rfl, (Below.refl _ _).alloc (Nat.le_refl _) _⟩
      · cases b3 : inB x3 1 1048576
        · go_enter Try.func26, Try.ntmps26
          go_wp2_with fail
          refine (rwithin_any x0 1 256 _).mono ?_
          rw [b0]
          rintro e w0 ⟨rfl, rfl⟩
          go_wp2_with fail
          refine (rwithin_any x1 1 128 _).mono ?_
          rw [b1]
          rintro e w1 ⟨rfl, rfl⟩
          go_wp2_with fail
          refine (rwithin_any x2 1 1048576 _).mono ?_
          rw [b2]
          rintro e w2 ⟨rfl, rfl⟩
          go_wp2_with fail
          refine (rwithin_any x3 1 1048576 _).mono ?_
          rw [b3]
          rintro e w3 ⟨rfl, rfl⟩
          go_wp2
          go_ret
          exact ⟨rfl, (Below.refl _ _).alloc (Nat.le_refl _) _⟩
        · cases b4 : inB x4 0 1048576
          · go_enter Try.func26, Try.ntmps26
            go_wp2_with fail
            refine (rwithin_any x0 1 256 _).mono ?_
            rw [b0]
            rintro e w0 ⟨rfl, rfl⟩
            go_wp2_with fail
            refine (rwithin_any x1 1 128 _).mono ?_
            rw [b1]
            rintro e w1 ⟨rfl, rfl⟩
            go_wp2_with fail
            refine (rwithin_any x2 1 1048576 _).mono ?_
            rw [b2]
            rintro e w2 ⟨rfl, rfl⟩
            go_wp2_with fail
            refine (rwithin_any x3 1 1048576 _).mono ?_
            rw [b3]
            rintro e w3 ⟨rfl, rfl⟩
            go_wp2_with fail
            refine (rwithin_any x4 0 1048576 _).mono ?_
            rw [b4]
            rintro e w4 ⟨rfl, rfl⟩
            go_wp2
            go_ret
            exact ⟨rfl, (Below.refl _ _).alloc (Nat.le_refl _) _⟩
          · cases b5 : inB x5 0 1048576
            · go_enter Try.func26, Try.ntmps26
              go_wp2_with fail
              refine (rwithin_any x0 1 256 _).mono ?_
              rw [b0]
              rintro e w0 ⟨rfl, rfl⟩
              go_wp2_with fail
              refine (rwithin_any x1 1 128 _).mono ?_
              rw [b1]
              rintro e w1 ⟨rfl, rfl⟩
              go_wp2_with fail
              refine (rwithin_any x2 1 1048576 _).mono ?_
              rw [b2]
              rintro e w2 ⟨rfl, rfl⟩
              go_wp2_with fail
              refine (rwithin_any x3 1 1048576 _).mono ?_
              rw [b3]
              rintro e w3 ⟨rfl, rfl⟩
              go_wp2_with fail
              refine (rwithin_any x4 0 1048576 _).mono ?_
              rw [b4]
              rintro e w4 ⟨rfl, rfl⟩
              go_wp2_with fail
              refine (rwithin_any x5 0 1048576 _).mono ?_
              rw [b5]
              rintro e w5 ⟨rfl, rfl⟩
              go_wp2
              go_ret
              exact ⟨rfl, (Below.refl _ _).alloc (Nat.le_refl _) _⟩
            · cases b6 : inB x6 1 1048576
              · go_enter Try.func26, Try.ntmps26
                go_wp2_with fail
                refine (rwithin_any x0 1 256 _).mono ?_
                rw [b0]
                rintro e w0 ⟨rfl, rfl⟩
                go_wp2_with fail
                refine (rwithin_any x1 1 128 _).mono ?_
                rw [b1]
                rintro e w1 ⟨rfl, rfl⟩
                go_wp2_with fail
                refine (rwithin_any x2 1 1048576 _).mono ?_
                rw [b2]
                rintro e w2 ⟨rfl, rfl⟩
                go_wp2_with fail
                refine (rwithin_any x3 1 1048576 _).mono ?_
                rw [b3]
                rintro e w3 ⟨rfl, rfl⟩
                go_wp2_with fail
                refine (rwithin_any x4 0 1048576 _).mono ?_
                rw [b4]
                rintro e w4 ⟨rfl, rfl⟩
                go_wp2_with fail
                refine (rwithin_any x5 0 1048576 _).mono ?_
                rw [b5]
                rintro e w5 ⟨rfl, rfl⟩
                go_wp2_with fail
                refine (rwithin_any x6 1 1048576 _).mono ?_
                rw [b6]
                rintro e w6 ⟨rfl, rfl⟩
                go_wp2
                go_ret
                exact ⟨rfl, (Below.refl _ _).alloc (Nat.le_refl _) _⟩
              · cases b7 : inB x7 1 1073741824
                · go_enter Try.func26, Try.ntmps26
                  go_wp2_with fail
                  refine (rwithin_any x0 1 256 _).mono ?_
                  rw [b0]
                  rintro e w0 ⟨rfl, rfl⟩
                  go_wp2_with fail
                  refine (rwithin_any x1 1 128 _).mono ?_
                  rw [b1]
                  rintro e w1 ⟨rfl, rfl⟩
                  go_wp2_with fail
                  refine (rwithin_any x2 1 1048576 _).mono ?_
                  rw [b2]
                  rintro e w2 ⟨rfl, rfl⟩
                  go_wp2_with fail
                  refine (rwithin_any x3 1 1048576 _).mono ?_
                  rw [b3]
                  rintro e w3 ⟨rfl, rfl⟩
                  go_wp2_with fail
                  refine (rwithin_any x4 0 1048576 _).mono ?_
                  rw [b4]
                  rintro e w4 ⟨rfl, rfl⟩
                  go_wp2_with fail
                  refine (rwithin_any x5 0 1048576 _).mono ?_
                  rw [b5]
                  rintro e w5 ⟨rfl, rfl⟩
                  go_wp2_with fail
                  refine (rwithin_any x6 1 1048576 _).mono ?_
                  rw [b6]
                  rintro e w6 ⟨rfl, rfl⟩
                  go_wp2_with fail
                  refine (rwithin_any x7 1 1073741824 _).mono ?_
                  rw [b7]
                  rintro e w7 ⟨rfl, rfl⟩
                  go_wp2
                  go_ret
                  exact ⟨rfl, (Below.refl _ _).alloc (Nat.le_refl _) _⟩
                · go_enter Try.func26, Try.ntmps26
                  go_wp2_with fail
                  refine (rwithin_any x0 1 256 _).mono ?_
                  rw [b0]
                  rintro e w0 ⟨rfl, rfl⟩
                  go_wp2_with fail
                  refine (rwithin_any x1 1 128 _).mono ?_
                  rw [b1]
                  rintro e w1 ⟨rfl, rfl⟩
                  go_wp2_with fail
                  refine (rwithin_any x2 1 1048576 _).mono ?_
                  rw [b2]
                  rintro e w2 ⟨rfl, rfl⟩
                  go_wp2_with fail
                  refine (rwithin_any x3 1 1048576 _).mono ?_
                  rw [b3]
                  rintro e w3 ⟨rfl, rfl⟩
                  go_wp2_with fail
                  refine (rwithin_any x4 0 1048576 _).mono ?_
                  rw [b4]
                  rintro e w4 ⟨rfl, rfl⟩
                  go_wp2_with fail
                  refine (rwithin_any x5 0 1048576 _).mono ?_
                  rw [b5]
                  rintro e w5 ⟨rfl, rfl⟩
                  go_wp2_with fail
                  refine (rwithin_any x6 1 1048576 _).mono ?_
                  rw [b6]
                  rintro e w6 ⟨rfl, rfl⟩
                  go_wp2_with fail
                  refine (rwithin_any x7 1 1073741824 _).mono ?_
                  rw [b7]
                  rintro e w7 ⟨rfl, rfl⟩
                  go_wp2
                  go_ret
                  exact ⟨rfl, (Below.refl _ _).alloc (Nat.le_refl _) _⟩
theorem rranges_any (c : Cf) (w : World) : Calls Try.prog 26 #[cfV c] w fun e w' => e = .returned (.bool (rngB c)) ∧ Below w.heap.size w w' :=
  rranges_ints _ _ _ _ _ _ _ _ w
end Go.Proofs.Ytjgllfpnmmopdaa
