/-
  math/bits' functions that layer 1 calls, walked over the dump's own text.
  THE CONTRACTS OF PACKAGE wide, leaves first: what each call answers, over the functions of ..Math; of old memory nothing turns.
  THE CONTRACTS OF PACKAGE wide: Sub, Cmp, Times.
  THE CONTRACTS OF PACKAGE wide: Times.
  THE CONTRACTS OF PACKAGE wide: Shl, Shr.
-/
import Derived.Test.YtbcinapnnlfnbaaGreatRows
import Derived.Test.YtbcinapnnlfnbaaGreatMth
import Derived.WalkKit
import Derived.WalkSpells
import Derived.WalkLawsBesides
import Derived.Lib.Tables
import Derived.Laws.Bits64b
import Derived.Laws.Externs
import Derived.Shelf.Spec.BitsCarry
import Derived.Deep.RegionHeld3
import Derived.Deep.QuietTactic
import Derived.BigQuiet
import Derived.RowKit3
namespace Go.Proofs.YtbcinapnnlfnbaaGreat
open Go.RowKit
namespace Wd
/-- The lower half of a word. -/
theorem mask32 (a : Int) (h : Word a) : bits .and .u64 a 4294967295 = a % 4294967296 := by
  obtain ⟨a0, a1⟩ := h
  obtain ⟨m, rfl⟩ := Int.eq_ofNat_of_zero_le a0
  refine (bits_and_u64_nat m 4294967295 (by omega) (by omega)).trans ?_
  rw [show m &&& 4294967295 = m % 4294967296 from Nat.and_two_pow_sub_one_eq_mod m 32]
  omega
/-- The product of two halves. -/
theorem halves {a b : Int} (a0 : 0 ≤ a) (a1 : a < 4294967296) (b0 : 0 ≤ b) (b1 : b < 4294967296) : 0 ≤ a * b ∧ a * b ≤ 18446744065119617025 :=
  have h : a * b ≤ 4294967295 * 4294967295 := Int.mul_le_mul (by omega) (by omega) b0 (by omega)
  ⟨Int.mul_nonneg a0 b0, h⟩
/-- The school's product: of halves, each with each. -/
theorem school (x y : Int) : x * y = x / 4294967296 * (y / 4294967296) * 18446744073709551616 + (x / 4294967296 * (y % 4294967296) + x % 4294967296 * (y / 4294967296)) * 4294967296 + x % 4294967296 * (y % 4294967296) := by
  have ex : x = x / 4294967296 * 4294967296 + x % 4294967296 := by omega
  have ey : y = y / 4294967296 * 4294967296 + y % 4294967296 := by omega
  generalize x / 4294967296 = a at *
  generalize x % 4294967296 = b at *
  generalize y / 4294967296 = c at *
  generalize y % 4294967296 = d at *
  rw [ex, ey, Int.add_mul, Int.mul_add, Int.mul_add, Int.mul_right_comm a 4294967296 (c * 4294967296), ← Int.mul_assoc a c 4294967296, Int.mul_right_comm a 4294967296 d, ← Int.mul_assoc b c 4294967296]
  omega
end Wd
open Wd

set_option maxHeartbeats 1000000 in
/-- math/bits.Mul64. -/
theorem mul64 (x y : Int) (hx : Word x) (hy : Word y) (w : World) :
    Calls Tryz.prog 39 #[.int .u64 x, .int .u64 y] w fun e w' => e = .returned (.tuple #[.int .u64 (hiW (x * y)), .int .u64 (loW (x * y))]) ∧ w' = w := by
  have mx := mask32 x hx
  have my := mask32 y hy
  have e := school x y
  obtain ⟨x0, x1⟩ := hx; obtain ⟨y0, y1⟩ := hy
  obtain ⟨hh0, hh1⟩ := halves (a := x / 4294967296) (b := y / 4294967296) (by omega) (by omega) (by omega) (by omega)
  obtain ⟨hl0, hl1⟩ := halves (a := x / 4294967296) (b := y % 4294967296) (by omega) (by omega) (by omega) (by omega)
  obtain ⟨lh0, lh1⟩ := halves (a := x % 4294967296) (b := y / 4294967296) (by omega) (by omega) (by omega) (by omega)
  obtain ⟨ll0, ll1⟩ := halves (a := x % 4294967296) (b := y % 4294967296) (by omega) (by omega) (by omega) (by omega)
  have mt := mask32 (x / 4294967296 * (y % 4294967296) + x % 4294967296 * (y % 4294967296) / 4294967296) ⟨by omega, by omega⟩
  have eh : x / 4294967296 * (y / 4294967296) + (x / 4294967296 * (y % 4294967296) + x % 4294967296 * (y % 4294967296) / 4294967296) / 4294967296 + ((x / 4294967296 * (y % 4294967296) + x % 4294967296 * (y % 4294967296) / 4294967296) % 4294967296 + x % 4294967296 * (y / 4294967296)) / 4294967296 = hiW (x * y) := by
    rw [e]; unfold hiW; omega
  have el : IntKind.u64.wrap (x * y) = loW (x * y) := IntKind.wrap_u64 _
  have EH : Hid _ := eh
  have EL : Hid _ := el
  clear e eh el
  go_enter Tryz.func39, Tryz.ntmps39
  go_wp2
  rw [EH.out, EL.out]
  go_ret2
  exact ⟨rfl, rfl⟩

/-- cmp.isNaN of a uint64. -/
theorem isnan (x : Int) (w : World) : Calls Tryz.prog 120 #[.int .u64 x] w fun e w' => e = .returned (.bool false) ∧ w' = w := by
  go_enter Tryz.func120, Tryz.ntmps120
  go_wp2
  go_ret
  exact ⟨by simp, rfl⟩
set_option maxHeartbeats 400000 in
/-- cmp.Compare of two uint64. -/
theorem compare (x y : Int) (w : World) : Calls Tryz.prog 112 #[.int .u64 x, .int .u64 y] w fun e w' => e = .returned (.int .i64 (cmpV x y)) ∧ w' = w := by
  unfold cmpV
  by_cases h : x < y
  · go_enter Tryz.func112, Tryz.ntmps112
    go_wp2_with (go_at_call 120; refine (isnan _ _).mono ?_; rintro e w' ⟨rfl, rfl⟩)
    go_ret
    exact ⟨by simp, rfl⟩
  · by_cases h2 : y < x
    · have h3 : ¬ x = y := by omega
      go_enter Tryz.func112, Tryz.ntmps112
      go_wp2_with (go_at_call 120; refine (isnan _ _).mono ?_; rintro e w' ⟨rfl, rfl⟩)
      go_ret
      exact ⟨by first | (simp; done) | (simp [h, h3]; done), rfl⟩
    · have h3 : x = y := by omega
      subst h3
      go_enter Tryz.func112, Tryz.ntmps112
      go_wp2_with (go_at_call 120; refine (isnan _ _).mono ?_; rintro e w' ⟨rfl, rfl⟩)
      go_ret
      exact ⟨by simp, rfl⟩

/-- math/bits.Add64, Sub64: the model stands in for both. -/
theorem add64 (x y c : Int) (hx : 0 ≤ x) (hy : 0 ≤ y) (hc0 : 0 ≤ c) (hc : c ≤ 1) (w : World) : (callFunc 119 #[.int .u64 x, .int .u64 y, .int .u64 c]).run Tryz.prog w =
    .ok (.value (.tuple #[.int .u64 ((x + y + c) % 18446744073709551616), .int .u64 ((x + y + c) / 18446744073709551616)])) w := by
  rw [run_callFunc_extern Tryz.func119 (by kernel_rfl) (by kernel_rfl) (by kernel_rfl) (e := add64Entry) (by kernel_rfl), run_add64 x y c hx hy hc0 hc]
  rfl
def Wd.bor (x y : Int) : Int := if x < y then 1 else 0
theorem add64_0 (x y : Int) (hx : 0 ≤ x) (hy : 0 ≤ y) (w : World) : (callFunc 119 #[.int .u64 x, .int .u64 y, .int .u64 0]).run Tryz.prog w =
    .ok (.value (.tuple #[.int .u64 ((x + y) % 18446744073709551616), .int .u64 ((x + y) / 18446744073709551616)])) w := by
  simpa using add64 x y 0 hx hy (Int.le_refl 0) (by decide) w
end Go.Proofs.YtbcinapnnlfnbaaGreat
namespace Go.Proofs.YtbcinapnnlfnbaaGreat
open Go.RowKit Wd

/-- What was there ahead of a call reads as it did. -/
theorem bcell {W w1 : World} (hb : Below W.heap.size W w1) : (∀ b o, b < W.heap.size → w1.cell? ⟨b, o, none⟩ = W.cell? ⟨b, o, none⟩) ∧ (∀ b o, b < W.heap.size → w1.frozen? ⟨b, o, none⟩ = W.frozen? ⟨b, o, none⟩) :=
  ⟨fun b o h => hb.cell (p := ⟨b, o, none⟩) h, fun b o h => hb.frozen (p := ⟨b, o, none⟩) h⟩
theorem bkeep {W w1 : World} (hb : Below W.heap.size W w1) : (∀ a, (W.cell? a).isSome = true → w1.cell? a = W.cell? a) ∧ (∀ a, (W.cell? a).isSome = true → w1.frozen? a = W.frozen? a) := by
  constructor
  · intro a h
    obtain ⟨u, hu⟩ := Option.isSome_iff_exists.1 h
    exact hb.cell (World.block_lt_of_cell? W a hu)
  · intro a h
    obtain ⟨u, hu⟩ := Option.isSome_iff_exists.1 h
    exact hb.frozen (World.block_lt_of_cell? W a hu)

theorem keepC {W w1 : World} (hb : Below W.heap.size W w1) {a : Addr} {v : Value} (h : W.cell? a = some v) : w1.cell? a = some v :=
  (hb.cell (World.block_lt_of_cell? W a h)).trans h
theorem keepF {W w1 : World} (hb : Below W.heap.size W w1) {a : Addr} {v : Value} (h : W.cell? a = some v) (hf : W.frozen? a = false) : w1.frozen? a = false :=
  (hb.frozen (World.block_lt_of_cell? W a h)).trans hf
theorem allocC {w : World} (o : Obj) {a : Addr} {v : Value} (h : w.cell? a = some v) : (w.alloc o).cell? a = some v :=
  (World.cell?_alloc_some w a o (by rw [h]; rfl)).trans h
theorem allocF {w : World} (c : Array Value) (t : TypeId) {a : Addr} (h : w.frozen? a = false) : (w.alloc (.cells c t)).frozen? a = false :=
  (frozen?_alloc_cells w c t a).trans h

theorem greatest_any (w : World) : Calls Tryz.prog 111 #[] w fun e w' => e = .returned (.agg #[.int .u64 18446744073709551615, .int .u64 18446744073709551615]) ∧ Below w.heap.size w w' := by
  go_enter Tryz.func111, Tryz.ntmps111
  go_wp2
  exact bodyPost_ret (v := .agg #[.int .u64 18446744073709551615, .int .u64 18446744073709551615]) (by simp [results, Tryz.results111, go_sem]) rfl ⟨rfl, (Below.refl _ _).alloc (Nat.le_refl _) _⟩

theorem of_any (n : Int) (w : World) : Calls Tryz.prog 107 #[.int .u64 n] w fun e w' => e = .returned (.agg #[.int .u64 0, .int .u64 n]) ∧ Below w.heap.size w w' := by
  go_enter Tryz.func107, Tryz.ntmps107
  go_wp2
  exact bodyPost_ret (v := .agg #[.int .u64 0, .int .u64 n]) (by simp [results, Tryz.results107, go_sem]) rfl ⟨rfl, (Below.refl _ _).alloc (Nat.le_refl _) _⟩

theorem mul_any (x y : Int) (hx : Word x) (hy : Word y) (w : World) :
    Calls Tryz.prog 108 #[.int .u64 x, .int .u64 y] w fun e w' => e = .returned (.agg #[.int .u64 (hiW (x * y)), .int .u64 (loW (x * y))]) ∧ Below w.heap.size w w' := by
  go_enter Tryz.func108, Tryz.ntmps108
  go_wp2_with (go_at_call 39; refine (mul64 x y hx hy _).mono ?_; rintro e w' ⟨rfl, rfl⟩)
  exact bodyPost_ret (v := .agg #[.int .u64 (hiW (x * y)), .int .u64 (loW (x * y))]) (by simp [results, Tryz.results108, go_sem]) rfl ⟨rfl, (Below.refl _ _).alloc (Nat.le_refl _) _⟩

namespace Wd
theorem add_yes {ah al bh bl : Int} (h1 : Word ah) (h2 : Word al) (h3 : Word bh) (h4 : Word bl) (h : ah + bh + (al + bl) / 18446744073709551616 < 18446744073709551616) :
    (ah + bh + (al + bl) / 18446744073709551616) % 18446744073709551616 = hiW (addV (val ah al) (val bh bl)) ∧ (al + bl) % 18446744073709551616 = loW (addV (val ah al) (val bh bl)) ∧ addB (val ah al) (val bh bl) = true := by
  obtain ⟨_, _⟩ := h1; obtain ⟨_, _⟩ := h2; obtain ⟨_, _⟩ := h3; obtain ⟨_, _⟩ := h4
  have hle : val ah al + val bh bl ≤ top := by unfold val top; omega
  have e : addV (val ah al) (val bh bl) = val ah al + val bh bl := by unfold addV; rw [if_pos hle]
  refine ⟨?_, ?_, by simp [addB, hle]⟩ <;> rw [e] <;> simp only [hiW, loW, val] <;> omega
theorem add_no {ah al bh bl : Int} (h1 : Word ah) (h2 : Word al) (h3 : Word bh) (h4 : Word bl) (h : 18446744073709551616 ≤ ah + bh + (al + bl) / 18446744073709551616) :
    18446744073709551615 = hiW (addV (val ah al) (val bh bl)) ∧ 18446744073709551615 = loW (addV (val ah al) (val bh bl)) ∧ addB (val ah al) (val bh bl) = false := by
  obtain ⟨_, _⟩ := h1; obtain ⟨_, _⟩ := h2; obtain ⟨_, _⟩ := h3; obtain ⟨_, _⟩ := h4
  have hle : ¬ val ah al + val bh bl ≤ top := by unfold val top; omega
  have e : addV (val ah al) (val bh bl) = top := by unfold addV; rw [if_neg hle]
  refine ⟨?_, ?_, by simp [addB, hle]⟩ <;> rw [e] <;> simp only [hiW, loW, top] <;> omega
end Wd

set_option maxHeartbeats 400000 in
theorem add_any (ah al bh bl : Int) (h1 : Word ah) (h2 : Word al) (h3 : Word bh) (h4 : Word bl) (w : World) :
    Calls Tryz.prog 110 #[.agg #[.int .u64 ah, .int .u64 al], .agg #[.int .u64 bh, .int .u64 bl]] w fun e w' =>
      e = .returned (.tuple #[.agg #[.int .u64 (hiW (addV (val ah al) (val bh bl))), .int .u64 (loW (addV (val ah al) (val bh bl)))], .bool (addB (val ah al) (val bh bl))]) ∧ Below w.heap.size w w' := by
  by_cases h : ah + bh + (al + bl) / 18446744073709551616 < 18446744073709551616
  · obtain ⟨e1, e2, e3⟩ := add_yes h1 h2 h3 h4 h
    rw [← e1, ← e2, e3]; clear e1 e2 e3
    obtain ⟨a1, a2⟩ := h1; obtain ⟨b1, b2⟩ := h2; obtain ⟨c1, c2⟩ := h3; obtain ⟨d1, d2⟩ := h4
    have k0 : 0 ≤ (al + bl) / 18446744073709551616 := by omega
    have k1 : (al + bl) / 18446744073709551616 ≤ 1 := by omega
    have k2 : ((ah + bh + (al + bl) / 18446744073709551616) / 18446744073709551616 != 0) = false := by simp; omega
    go_enter Tryz.func110, Tryz.ntmps110
    go_wp2_with (first | simp only [add64_0 al bl b1 d1] | simp only [add64 ah bh _ a1 c1 k0 k1])
    exact bodyPost_ret (v := .tuple #[.agg #[.int .u64 ((ah + bh + (al + bl) / 18446744073709551616) % 18446744073709551616), .int .u64 ((al + bl) % 18446744073709551616)], .bool true]) (by simp [results, Tryz.results110, go_sem]) rfl ⟨rfl, (((Below.refl _ _).alloc (Nat.le_refl _) _).alloc (by simp) _).alloc (by simp; omega) _⟩
  · obtain ⟨e1, e2, e3⟩ := add_no h1 h2 h3 h4 (by omega)
    rw [← e1, ← e2, e3]; clear e1 e2 e3
    obtain ⟨a1, a2⟩ := h1; obtain ⟨b1, b2⟩ := h2; obtain ⟨c1, c2⟩ := h3; obtain ⟨d1, d2⟩ := h4
    have k0 : 0 ≤ (al + bl) / 18446744073709551616 := by omega
    have k1 : (al + bl) / 18446744073709551616 ≤ 1 := by omega
    have k2 : ((ah + bh + (al + bl) / 18446744073709551616) / 18446744073709551616 != 0) = true := by simp; omega
    go_enter Tryz.func110, Tryz.ntmps110
    go_wp2_with (first | simp only [add64_0 al bl b1 d1] | simp only [add64 ah bh _ a1 c1 k0 k1] | (go_at_call 111; refine (greatest_any _).mono ?_; rintro e w1 ⟨rfl, hb⟩; obtain ⟨hc, hf⟩ := bcell hb))
    have hz := hb.size
    simp at hz
    refine bodyPost_ret (v := .tuple #[.agg #[.int .u64 18446744073709551615, .int .u64 18446744073709551615], .bool false]) (by simp [results, Tryz.results110, go_sem, hc]) rfl ⟨rfl, ?_⟩
    exact ((((((Below.refl _ _).alloc (Nat.le_refl _) _).alloc (by simp) _).alloc (by simp; omega) _).trans (hb.mono (by simp; omega))).setCell (by simp; omega) _).setCell (by simp; omega) _
end Go.Proofs.YtbcinapnnlfnbaaGreat
namespace Go.Proofs.YtbcinapnnlfnbaaGreat
open Go.RowKit Wd

namespace Wd
theorem bor_01 (x y : Int) : 0 ≤ bor x y ∧ bor x y ≤ 1 := by unfold bor; split <;> omega
theorem cmp_hi {ah al bh bl : Int} (h2 : Word al) (h4 : Word bl) (h : ah ≠ bh) : cmpV ah bh = cmpV (val ah al) (val bh bl) := by
  obtain ⟨_, _⟩ := h2; obtain ⟨_, _⟩ := h4
  unfold cmpV val; split <;> split <;> (try split) <;> (try split) <;> omega
theorem cmp_lo {ah al bl : Int} : cmpV al bl = cmpV (val ah al) (val ah bl) := by
  unfold cmpV val; split <;> split <;> (try split) <;> (try split) <;> omega
end Wd

set_option maxHeartbeats 400000 in
theorem cmp_any (ah al bh bl : Int) (h2 : Word al) (h4 : Word bl) (w : World) :
    Calls Tryz.prog 89 #[.agg #[.int .u64 ah, .int .u64 al], .agg #[.int .u64 bh, .int .u64 bl]] w fun e w' =>
      e = .returned (.int .i64 (cmpV (val ah al) (val bh bl))) ∧ Below w.heap.size w w' := by
  by_cases h : ah = bh
  · subst h
    rw [← cmp_lo]
    go_enter Tryz.func89, Tryz.ntmps89
    go_wp2_with (go_at_call 112; refine (compare al bl _).mono ?_; rintro e w' ⟨rfl, rfl⟩)
    go_ret
    exact ⟨rfl, ((Below.refl _ _).alloc (Nat.le_refl _) _).alloc (by simp) _⟩
  · rw [← cmp_hi h2 h4 h]
    have k : (ah != bh) = true := by simp [h]
    go_enter Tryz.func89, Tryz.ntmps89
    go_wp2_with (go_at_call 112; refine (compare ah bh _).mono ?_; rintro e w' ⟨rfl, rfl⟩)
    go_ret
    exact ⟨rfl, ((Below.refl _ _).alloc (Nat.le_refl _) _).alloc (by simp) _⟩

end Go.Proofs.YtbcinapnnlfnbaaGreat
namespace Go.Proofs.YtbcinapnnlfnbaaGreat
open Go.RowKit Wd

namespace Wd
theorem word0 : Word 0 := by unfold Word; omega
theorem tim_no {ah al b : Int} (h1 : Word ah) (h2 : Word al) (h3 : Word b) (h : hiW (ah * b) ≠ 0) :
    18446744073709551615 = hiW (timV (val ah al) b) ∧ 18446744073709551615 = loW (timV (val ah al) b) ∧ timB (val ah al) b = false := by
  have hn := mul_num h1 h3
  obtain ⟨_, _⟩ := h1; obtain ⟨_, _⟩ := h2; obtain ⟨_, _⟩ := h3; obtain ⟨_, _⟩ := hn
  have e0 : val ah al * b = ah * b * 18446744073709551616 + al * b := by
    unfold val; rw [Int.add_mul, Int.mul_right_comm]
  have hal : 0 ≤ al * b := Int.mul_nonneg (by assumption) (by assumption)
  have hle : ¬ val ah al * b ≤ top := by
    rw [e0]; unfold hiW at h; unfold top
    generalize ah * b = p at *
    generalize al * b = q at *
    omega
  have e : timV (val ah al) b = top := by unfold timV; rw [if_neg hle]
  refine ⟨?_, ?_, by simp [timB, hle]⟩ <;> rw [e] <;> simp only [hiW, loW, top] <;> omega
theorem tim_yes {ah al b : Int} (h : hiW (ah * b) = 0) :
    addV (val (loW (ah * b)) 0) (val (hiW (al * b)) (loW (al * b))) = timV (val ah al) b ∧ addB (val (loW (ah * b)) 0) (val (hiW (al * b)) (loW (al * b))) = timB (val ah al) b := by
  have e0 : val ah al * b = ah * b * 18446744073709551616 + al * b := by
    unfold val; rw [Int.add_mul, Int.mul_right_comm]
  have e1 : val (loW (ah * b)) 0 + val (hiW (al * b)) (loW (al * b)) = val ah al * b := by
    rw [val_words, e0]; unfold val; unfold hiW at h; unfold loW; omega
  unfold addV timV addB timB
  rw [e1]
  exact ⟨rfl, rfl⟩
end Wd

set_option maxHeartbeats 1000000 in
theorem times_any (ah al b : Int) (h1 : Word ah) (h2 : Word al) (h3 : Word b) (w : World) :
    Calls Tryz.prog 87 #[.agg #[.int .u64 ah, .int .u64 al], .int .u64 b] w fun e w' =>
      e = .returned (.tuple #[.agg #[.int .u64 (hiW (timV (val ah al) b)), .int .u64 (loW (timV (val ah al) b))], .bool (timB (val ah al) b)]) ∧ Below w.heap.size w w' := by
  by_cases h : hiW (ah * b) = 0
  · obtain ⟨e1, e3⟩ := tim_yes (al := al) h
    rw [← e1, ← e3]; clear e1 e3
    have k2 : (hiW (ah * b) != 0) = false := by simp [h]
    clear h
    have hw0 := word0; have hwl := lo_word (ah * b); have hwh := hi_word (mul_num h2 h3); have hwk := lo_word (al * b)
    go_enter Tryz.func87, Tryz.ntmps87
    go_wp2_with fail
    refine (mul_any ah b h1 h3 _).mono ?_
    rintro e w1 ⟨rfl, hb⟩
    have hz := hb.size
    simp at hz
    have hne : ¬ w.heap.size + 1 = w1.heap.size := by omega
    have c0 : w1.cell? ⟨w.heap.size, 0, none⟩ = some (.int .u64 ah) := by rw [(bcell hb).1 _ _ (by simp; omega)]; simp [go_sem]
    have c1 : w1.cell? ⟨w.heap.size, 1, none⟩ = some (.int .u64 al) := by rw [(bcell hb).1 _ _ (by simp; omega)]; simp [go_sem]
    have d0 : w1.cell? ⟨w.heap.size + 1, 0, none⟩ = some (.int .u64 0) := by rw [(bcell hb).1 _ _ (by simp)]; simp
    have d1 : w1.cell? ⟨w.heap.size + 1, 1, none⟩ = some (.int .u64 0) := by rw [(bcell hb).1 _ _ (by simp)]; simp
    have f0 : w1.frozen? ⟨w.heap.size + 1, 0, none⟩ = false := by rw [(bcell hb).2 _ _ (by simp)]; simp
    have f1 : w1.frozen? ⟨w.heap.size + 1, 1, none⟩ = false := by rw [(bcell hb).2 _ _ (by simp)]; simp
    go_wp2_with fail
    go_region_held3 (fun w' => w'.cell? ⟨w.heap.size, 0, none⟩ = some (.int .u64 ah) ∧ w'.cell? ⟨w.heap.size, 1, none⟩ = some (.int .u64 al) ∧ w'.cell? ⟨w1.heap.size, 0, none⟩ = some (.int .u64 (hiW (ah * b))) ∧ w'.cell? ⟨w1.heap.size, 1, none⟩ = some (.int .u64 (loW (ah * b)))) (simp (maxDischargeDepth := 12) [*, World.cell?_alloc_some, World.cell?_setCell_far])
      (first
        | (go_at_call 108; refine (mul_any al b h2 h3 _).mono ?_; rintro e w2 ⟨rfl, hb2⟩; obtain ⟨hc2, hf2⟩ := bkeep hb2; have d2 := keepC hb2 (allocC _ d0); have d3 := keepC hb2 (allocC _ d1); have f2 := keepF hb2 (allocC _ d0) (allocF _ _ f0); have f3 := keepF hb2 (allocC _ d1) (allocF _ _ f1))
        | (go_at_call 110; refine (add_any (loW (ah * b)) 0 (hiW (al * b)) (loW (al * b)) hwl hw0 hwh hwk _).mono ?_; rintro e w3 ⟨rfl, hb3⟩; obtain ⟨hc3, hf3⟩ := bkeep hb3; have d4 := keepC hb3 d2; have d5 := keepC hb3 d3; have f4 := keepF hb3 d2 f2; have f5 := keepF hb3 d3 f3))
    go_wp2_with fail
    refine bodyPost_ret (v := .tuple #[.agg #[.int .u64 (hiW (addV (val (loW (ah * b)) 0) (val (hiW (al * b)) (loW (al * b))))), .int .u64 (loW (addV (val (loW (ah * b)) 0) (val (hiW (al * b)) (loW (al * b)))))], .bool (addB (val (loW (ah * b)) 0) (val (hiW (al * b)) (loW (al * b))))]) (by simp [results, Tryz.results87, go_sem, d4, d5]) rfl ⟨rfl, ?_⟩
    have z2 := hb2.size
    simp at z2
    exact (((((((Below.refl _ _).alloc (Nat.le_refl _) _).alloc (by simp) _).trans (hb.mono (by simp; omega))).alloc (by omega) _).drew.trans (hb2.mono (by simp; omega))).trans (hb3.mono (by omega))).setCell (by simp) _ |>.setCell (by simp) _
  · obtain ⟨e1, e2, e3⟩ := tim_no h1 h2 h3 h
    rw [← e1, ← e2, e3]; clear e1 e2 e3
    have k2 : (hiW (ah * b) != 0) = true := by simp [h]
    go_enter Tryz.func87, Tryz.ntmps87
    go_wp2_with fail
    refine (mul_any ah b h1 h3 _).mono ?_
    rintro e w1 ⟨rfl, hb⟩
    have hz := hb.size
    simp at hz
    have c0 : w1.cell? ⟨w.heap.size + 1, 0, none⟩ = some (.int .u64 0) := by rw [(bcell hb).1 _ _ (by simp)]; simp
    have c1 : w1.cell? ⟨w.heap.size + 1, 1, none⟩ = some (.int .u64 0) := by rw [(bcell hb).1 _ _ (by simp)]; simp
    have f0 : w1.frozen? ⟨w.heap.size + 1, 0, none⟩ = false := by rw [(bcell hb).2 _ _ (by simp)]; simp
    have f1 : w1.frozen? ⟨w.heap.size + 1, 1, none⟩ = false := by rw [(bcell hb).2 _ _ (by simp)]; simp
    go_wp2_with fail
    refine (greatest_any _).mono ?_
    rintro e w2 ⟨rfl, hb2⟩
    have hz2 := hb2.size
    simp at hz2
    have d0 : w2.cell? ⟨w.heap.size + 1, 0, none⟩ = some (.int .u64 0) := by rw [(bcell hb2).1 _ _ (by simp; omega), World.cell?_alloc_past (hn := by omega)]; exact c0
    have d1 : w2.cell? ⟨w.heap.size + 1, 1, none⟩ = some (.int .u64 0) := by rw [(bcell hb2).1 _ _ (by simp; omega), World.cell?_alloc_past (hn := by omega)]; exact c1
    have g0 : w2.frozen? ⟨w.heap.size + 1, 0, none⟩ = false := by rw [(bcell hb2).2 _ _ (by simp; omega), World.frozen?_alloc_past (hn := by omega)]; exact f0
    have g1 : w2.frozen? ⟨w.heap.size + 1, 1, none⟩ = false := by rw [(bcell hb2).2 _ _ (by simp; omega), World.frozen?_alloc_past (hn := by omega)]; exact f1
    clear c0 c1 f0 f1
    go_wp2_with fail
    refine bodyPost_ret (v := .tuple #[.agg #[.int .u64 18446744073709551615, .int .u64 18446744073709551615], .bool false]) (by simp [results, Tryz.results87, go_sem, d0, d1]) rfl ⟨rfl, ?_⟩
    exact ((((((Below.refl _ _).alloc (Nat.le_refl _) _).alloc (by simp) _).trans (hb.mono (by simp; omega))).alloc (by omega) _).trans (hb2.mono (by simp; omega))).setCell (by simp) _ |>.setCell (by simp) _
end Go.Proofs.YtbcinapnnlfnbaaGreat
namespace Go.Proofs.YtbcinapnnlfnbaaGreat
open Go.RowKit Wd

end Go.Proofs.YtbcinapnnlfnbaaGreat
