/-
  THE CONTRACTS OF PACKAGE wide, leaves first: what each call answers, over the functions of ..Math; of old memory nothing turns.
-/
import Derived.Test.YtbnokceagaodkaaDoorBits
import Derived.Deep.RegionHeld3
import Derived.Deep.QuietTactic
import Derived.BigQuiet
import Derived.RowKit3
namespace Go.Proofs.YtbnokceagaodkaaDoor
open Go.RowKit Wd

/-- What was there ahead of a call reads as it did. -/
theorem bcell {W w1 : World} (hb : Below W.heap.size W w1) : (∀ b o, b < W.heap.size → w1.cell? ⟨b, o, none⟩ = W.cell? ⟨b, o, none⟩) ∧ (∀ b o, b < W.heap.size → w1.frozen? ⟨b, o, none⟩ = W.frozen? ⟨b, o, none⟩) :=
  ⟨fun b o h => hb.cell (p := ⟨b, o, none⟩) h, fun b o h => hb.frozen (p := ⟨b, o, none⟩) h⟩
theorem bkeep {W w1 : World} (hb : Below W.heap.size W w1) : (∀ a, (W.cell? a).isSome = true → w1.cell? a = W.cell? a) ∧ (∀ a, (W.cell? a).isSome = true → w1.frozen? a = W.frozen? a) := by
  constructor
  · intro a h
    obtain ⟨u, hu⟩ := Option.isSome_iff_exists.1 h
    exact hb.cell (World.block_lt_of_cell? W a hu)
  · intro a h
    obtain ⟨u, hu⟩ := Option.isSome_iff_exists.1 h
    exact hb.frozen (World.block_lt_of_cell? W a hu)

theorem keepC {W w1 : World} (hb : Below W.heap.size W w1) {a : Addr} {v : Value} (h : W.cell? a = some v) : w1.cell? a = some v :=
  (hb.cell (World.block_lt_of_cell? W a h)).trans h
theorem keepF {W w1 : World} (hb : Below W.heap.size W w1) {a : Addr} {v : Value} (h : W.cell? a = some v) (hf : W.frozen? a = false) : w1.frozen? a = false :=
  (hb.frozen (World.block_lt_of_cell? W a h)).trans hf
theorem allocC {w : World} (o : Obj) {a : Addr} {v : Value} (h : w.cell? a = some v) : (w.alloc o).cell? a = some v :=
  (World.cell?_alloc_some w a o (by rw [h]; rfl)).trans h
theorem allocF {w : World} (c : Array Value) (t : TypeId) {a : Addr} (h : w.frozen? a = false) : (w.alloc (.cells c t)).frozen? a = false :=
  (frozen?_alloc_cells w c t a).trans h

theorem mul_any (x y : Int) (hx : Word x) (hy : Word y) (w : World) :
    Calls Tryd.prog 21 #[.int .u64 x, .int .u64 y] w fun e w' => e = .returned (.agg #[.int .u64 (hiW (x * y)), .int .u64 (loW (x * y))]) ∧ Below w.heap.size w w' := by
  go_enter Tryd.func21, Tryd.ntmps21
  go_wp2_with (go_at_call 22; refine (mul64 x y hx hy _).mono ?_; rintro e w' ⟨rfl, rfl⟩)
  exact bodyPost_ret (v := .agg #[.int .u64 (hiW (x * y)), .int .u64 (loW (x * y))]) (by simp [results, Tryd.results21, go_sem]) rfl ⟨rfl, (Below.refl _ _).alloc (Nat.le_refl _) _⟩

namespace Wd
end Wd

end Go.Proofs.YtbnokceagaodkaaDoor
