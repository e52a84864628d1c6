/-
  THE CONTRACTS OF PACKAGE wide, leaves first: what each call answers, over the functions of ..Math; of old memory nothing turns.
-/
import Derived.Test.YtniiijadkclabaaBits
import Derived.Deep.RegionHeld3
import Derived.Deep.QuietTactic
import Derived.BigQuiet
import Derived.RowKit3
namespace Go.Proofs.Ytniiijadkclabaa
open Go.RowKit Wd

/-- What was there ahead of a call reads as it did. -/
theorem bcell {W w1 : World} (hb : Below W.heap.size W w1) : (∀ b o, b < W.heap.size → w1.cell? ⟨b, o, none⟩ = W.cell? ⟨b, o, none⟩) ∧ (∀ b o, b < W.heap.size → w1.frozen? ⟨b, o, none⟩ = W.frozen? ⟨b, o, none⟩) :=
  ⟨fun b o h => hb.cell (p := ⟨b, o, none⟩) h, fun b o h => hb.frozen (p := ⟨b, o, none⟩) h⟩
theorem bkeep {W w1 : World} (hb : Below W.heap.size W w1) : (∀ a, (W.cell? a).isSome = true → w1.cell? a = W.cell? a) ∧ (∀ a, (W.cell? a).isSome = true → w1.frozen? a = W.frozen? a) := by
  constructor
  · intro a h
    obtain ⟨u, hu⟩ := Option.isSome_iff_exists.1 h
    exact hb.cell (World.block_lt_of_cell? W a hu)
  · intro a h
    obtain ⟨u, hu⟩ := Option.isSome_iff_exists.1 h
    exact hb.frozen (World.block_lt_of_cell? W a hu)

theorem keepC {W w1 : World} (hb : Below W.heap.size W w1) {a : Addr} {v : Value} (h : W.cell? a = some v) : w1.cell? a = some v :=
  (hb.cell (World.block_lt_of_cell? W a h)).trans h
theorem keepF {W w1 : World} (hb : Below W.heap.size W w1) {a : Addr} {v : Value} (h : W.cell? a = some v) (hf : W.frozen? a = false) : w1.frozen? a = false :=
  (hb.frozen (World.block_lt_of_cell? W a h)).trans hf
theorem allocC {w : World} (o : Obj) {a : Addr} {v : Value} (h : w.cell? a = some v) : (w.alloc o).cell? a = some v :=
  (World.cell?_alloc_some w a o (by rw [h]; rfl)).trans h
theorem allocF {w : World} (c : Array Value) (t : TypeId) {a : Addr} (h : w.frozen? a = false) : (w.alloc (.cells c t)).frozen? a = false :=
  (frozen?_alloc_cells w c t a).trans h

theorem greatest_any (w : World) : Calls Try.prog 58 #[] w fun e w' => e = .returned (.agg #[.int .u64 18446744073709551615, .int .u64 18446744073709551615]) ∧ Below w.heap.size w w' := by
  go_enter Try.func58, Try.ntmps58
  go_wp2
  exact bodyPost_ret (v := .agg #[.int .u64 18446744073709551615, .int .u64 18446744073709551615]) (by simp [results, Try.results58, go_sem]) rfl ⟨rfl, (Below.refl _ _).alloc (Nat.le_refl _) _⟩

theorem of_any (n : Int) (w : World) : Calls Try.prog 42 #[.int .u64 n] w fun e w' => e = .returned (.agg #[.int .u64 0, .int .u64 n]) ∧ Below w.heap.size w w' := by
  go_enter Try.func42, Try.ntmps42
  go_wp2
  exact bodyPost_ret (v := .agg #[.int .u64 0, .int .u64 n]) (by simp [results, Try.results42, go_sem]) rfl ⟨rfl, (Below.refl _ _).alloc (Nat.le_refl _) _⟩

theorem mul_any (x y : Int) (hx : Word x) (hy : Word y) (w : World) :
    Calls Try.prog 43 #[.int .u64 x, .int .u64 y] w fun e w' => e = .returned (.agg #[.int .u64 (hiW (x * y)), .int .u64 (loW (x * y))]) ∧ Below w.heap.size w w' := by
  go_enter Try.func43, Try.ntmps43
  go_wp2_with (go_at_call 56; refine (mul64 x y hx hy _).mono ?_; rintro e w' ⟨rfl, rfl⟩)
  exact bodyPost_ret (v := .agg #[.int .u64 (hiW (x * y)), .int .u64 (loW (x * y))]) (by simp [results, Try.results43, go_sem]) rfl ⟨rfl, (Below.refl _ _).alloc (Nat.le_refl _) _⟩

namespace Wd
theorem add_yes {ah al bh bl : Int} (h1 : Word ah) (h2 : Word al) (h3 : Word bh) (h4 : Word bl) (h : ah + bh + (al + bl) / 18446744073709551616 < 18446744073709551616) :
    (ah + bh + (al + bl) / 18446744073709551616) % 18446744073709551616 = hiW (addV (val ah al) (val bh bl)) ∧ (al + bl) % 18446744073709551616 = loW (addV (val ah al) (val bh bl)) ∧ addB (val ah al) (val bh bl) = true := by
  obtain ⟨_, _⟩ := h1; obtain ⟨_, _⟩ := h2; obtain ⟨_, _⟩ := h3; obtain ⟨_, _⟩ := h4
  have hle : val ah al + val bh bl ≤ top := by unfold val top; omega
  have e : addV (val ah al) (val bh bl) = val ah al + val bh bl := by unfold addV; rw [if_pos hle]
  refine ⟨?_, ?_, by simp [addB, hle]⟩ <;> rw [e] <;> simp only [hiW, loW, val] <;> omega
theorem add_no {ah al bh bl : Int} (h1 : Word ah) (h2 : Word al) (h3 : Word bh) (h4 : Word bl) (h : 18446744073709551616 ≤ ah + bh + (al + bl) / 18446744073709551616) :
    18446744073709551615 = hiW (addV (val ah al) (val bh bl)) ∧ 18446744073709551615 = loW (addV (val ah al) (val bh bl)) ∧ addB (val ah al) (val bh bl) = false := by
  obtain ⟨_, _⟩ := h1; obtain ⟨_, _⟩ := h2; obtain ⟨_, _⟩ := h3; obtain ⟨_, _⟩ := h4
  have hle : ¬ val ah al + val bh bl ≤ top := by unfold val top; omega
  have e : addV (val ah al) (val bh bl) = top := by unfold addV; rw [if_neg hle]
  refine ⟨?_, ?_, by simp [addB, hle]⟩ <;> rw [e] <;> simp only [hiW, loW, top] <;> omega
end Wd

set_option maxHeartbeats 400000 in
theorem add_any (ah al bh bl : Int) (h1 : Word ah) (h2 : Word al) (h3 : Word bh) (h4 : Word bl) (w : World) :
    Calls Try.prog 45 #[.agg #[.int .u64 ah, .int .u64 al], .agg #[.int .u64 bh, .int .u64 bl]] w fun e w' =>
      e = .returned (.tuple #[.agg #[.int .u64 (hiW (addV (val ah al) (val bh bl))), .int .u64 (loW (addV (val ah al) (val bh bl)))], .bool (addB (val ah al) (val bh bl))]) ∧ Below w.heap.size w w' := by
  by_cases h : ah + bh + (al + bl) / 18446744073709551616 < 18446744073709551616
  · obtain ⟨e1, e2, e3⟩ := add_yes h1 h2 h3 h4 h
    rw [← e1, ← e2, e3]; clear e1 e2 e3
    obtain ⟨a1, a2⟩ := h1; obtain ⟨b1, b2⟩ := h2; obtain ⟨c1, c2⟩ := h3; obtain ⟨d1, d2⟩ := h4
    have k0 : 0 ≤ (al + bl) / 18446744073709551616 := by omega
    have k1 : (al + bl) / 18446744073709551616 ≤ 1 := by omega
    have k2 : ((ah + bh + (al + bl) / 18446744073709551616) / 18446744073709551616 != 0) = false := by simp; omega
    go_enter Try.func45, Try.ntmps45
    go_wp2_with (first | simp only [add64_0 al bl b1 d1] | simp only [add64 ah bh _ a1 c1 k0 k1])
    exact bodyPost_ret (v := .tuple #[.agg #[.int .u64 ((ah + bh + (al + bl) / 18446744073709551616) % 18446744073709551616), .int .u64 ((al + bl) % 18446744073709551616)], .bool true]) (by simp [results, Try.results45, go_sem]) rfl ⟨rfl, (((Below.refl _ _).alloc (Nat.le_refl _) _).alloc (by simp) _).alloc (by simp; omega) _⟩
  · obtain ⟨e1, e2, e3⟩ := add_no h1 h2 h3 h4 (by omega)
    rw [← e1, ← e2, e3]; clear e1 e2 e3
    obtain ⟨a1, a2⟩ := h1; obtain ⟨b1, b2⟩ := h2; obtain ⟨c1, c2⟩ := h3; obtain ⟨d1, d2⟩ := h4
    have k0 : 0 ≤ (al + bl) / 18446744073709551616 := by omega
    have k1 : (al + bl) / 18446744073709551616 ≤ 1 := by omega
    have k2 : ((ah + bh + (al + bl) / 18446744073709551616) / 18446744073709551616 != 0) = true := by simp; omega
    go_enter Try.func45, Try.ntmps45
    go_wp2_with (first | simp only [add64_0 al bl b1 d1] | simp only [add64 ah bh _ a1 c1 k0 k1] | (go_at_call 58; refine (greatest_any _).mono ?_; rintro e w1 ⟨rfl, hb⟩; obtain ⟨hc, hf⟩ := bcell hb))
    have hz := hb.size
    simp at hz
    refine bodyPost_ret (v := .tuple #[.agg #[.int .u64 18446744073709551615, .int .u64 18446744073709551615], .bool false]) (by simp [results, Try.results45, go_sem, hc]) rfl ⟨rfl, ?_⟩
    exact ((((((Below.refl _ _).alloc (Nat.le_refl _) _).alloc (by simp) _).alloc (by simp; omega) _).trans (hb.mono (by simp; omega))).setCell (by simp; omega) _).setCell (by simp; omega) _
end Go.Proofs.Ytniiijadkclabaa
