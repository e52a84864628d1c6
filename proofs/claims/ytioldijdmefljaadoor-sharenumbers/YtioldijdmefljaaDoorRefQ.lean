/-
  THE CONTRACTS OF THE REFERENCE's FUNCTIONS: Div.
-/
import Derived.Test.YtioldijdmefljaaDoorRfW
import Derived.Test.YtioldijdmefljaaDoorMth
namespace Go.Proofs.YtioldijdmefljaaDoor
open Go.RowKit Wd

/-- What lies in memory at the head of a round of the reference's Div: a's box at n, the result's at n + 1, q's at n + 2. -/
def QMem (w : World) (n : Nat) (a q : Int) : Prop :=
  w.cell? ⟨n, 0, none⟩ = some (.int .u64 (hiW a)) ∧ w.cell? ⟨n, 1, none⟩ = some (.int .u64 (loW a)) ∧
  w.cell? ⟨n + 1, 0, none⟩ = some (.int .u64 0) ∧ w.cell? ⟨n + 1, 1, none⟩ = some (.int .u64 0) ∧
  w.cell? ⟨n + 1 + 1, 0, none⟩ = some (.int .u64 (hiW q)) ∧ w.cell? ⟨n + 1 + 1, 1, none⟩ = some (.int .u64 (loW q)) ∧
  w.frozen? ⟨n, 0, none⟩ = false ∧ w.frozen? ⟨n, 1, none⟩ = false ∧ w.frozen? ⟨n + 1, 0, none⟩ = false ∧ w.frozen? ⟨n + 1, 1, none⟩ = false ∧
  w.frozen? ⟨n + 1 + 1, 0, none⟩ = false ∧ w.frozen? ⟨n + 1 + 1, 1, none⟩ = false
theorem QMem.below {W w : World} {n : Nat} {a q : Int} (h : QMem W n a q) (hb : Below W.heap.size W w) : QMem w n a q := by
  obtain ⟨c0, c1, c2, c3, c4, c5, f0, f1, f2, f3, f4, f5⟩ := h
  exact ⟨keepC hb c0, keepC hb c1, keepC hb c2, keepC hb c3, keepC hb c4, keepC hb c5, keepF hb c0 f0, keepF hb c1 f1, keepF hb c2 f2, keepF hb c3 f3, keepF hb c4 f4, keepF hb c5 f5⟩

theorem QMem.setA {w : World} {n : Nat} {a q : Int} (h : QMem w n a q) (a' : Int) : QMem ((w.setCell ⟨n, 0, none⟩ (.int .u64 (hiW a'))).setCell ⟨n, 1, none⟩ (.int .u64 (loW a'))) n a' q := by
  obtain ⟨c0, c1, c2, c3, c4, c5, f0, f1, f2, f3, f4, f5⟩ := h
  refine ⟨?_, ?_, ?_, ?_, ?_, ?_, ?_, ?_, ?_, ?_, ?_, ?_⟩ <;> simp [go_sem, c0, c1, c2, c3, c4, c5, f0, f1, f2, f3, f4, f5]
theorem QMem.setQ {w : World} {n : Nat} {a q : Int} (h : QMem w n a q) (q' : Int) : QMem ((w.setCell ⟨n + 1 + 1, 0, none⟩ (.int .u64 (hiW q'))).setCell ⟨n + 1 + 1, 1, none⟩ (.int .u64 (loW q'))) n a q' := by
  obtain ⟨c0, c1, c2, c3, c4, c5, f0, f1, f2, f3, f4, f5⟩ := h
  refine ⟨?_, ?_, ?_, ?_, ?_, ?_, ?_, ?_, ?_, ?_, ?_, ?_⟩ <;> simp [go_sem, c0, c1, c2, c3, c4, c5, f0, f1, f2, f3, f4, f5]
theorem QMem.bump {w : World} {n : Nat} {a q : Int} (h : QMem w n a q) (q' : Int) (hq : hiW q = hiW q') : QMem (w.setCell ⟨n + 1 + 1, 1, none⟩ (.int .u64 (loW q'))) n a q' := by
  obtain ⟨c0, c1, c2, c3, c4, c5, f0, f1, f2, f3, f4, f5⟩ := h
  rw [hq] at c4
  refine ⟨?_, ?_, ?_, ?_, ?_, ?_, ?_, ?_, ?_, ?_, ?_, ?_⟩ <;> simp [go_sem, c0, c1, c2, c3, c4, c5, f0, f1, f2, f3, f4, f5]
end Go.Proofs.YtioldijdmefljaaDoor
