/-
  clear of a row's last one; what a heap is when its last one has come to p.
-/
import Derived.Test.YtjmiifgofedcnaaHeap
import Derived.Lib.SliceRun
namespace Go.Proofs.Ytjmiifgofedcnaa
open Go.RowKit Ag
section
variable {te : Nat} {w : World} {g : Nat} {cap l : Nat} {h : Nat → En} {cur : Array Value}
theorem RowAt.pop (r : RowAt w te g cap (l + 1) h cur) : RowAt w te g cap l h cur := ⟨r.blk, r.sz, by have := r.le; omega, r.max, fun k hk d hd => r.at_ k (by omega) d hd⟩
theorem clear_run (sl te : TypeId) (zx : Value) (hu : Try.prog.underlying sl = some (.slice te)) (hz : ∀ w, (zeroValue te).run Try.prog w = .ok (.agg #[.int .i64 0, .int .i64 0, zx]) w) (hx : zx.oneCell' = true) (r : RowAt w te g cap (l + 1) h cur) :
    ∃ w' cur', (Builtin.clear_ #[sl] 0 #[.slice (some ⟨g, l * 3, none⟩) 1 (cap - l)]).run Try.prog w = .ok (.tuple #[]) w' ∧ RowAt w' te g cap l h cur' ∧ w.grownBy w' (some g) := by
  obtain ⟨cur', hr⟩ := r.set3 (i := l) (by omega) ⟨0, 0, zx⟩
  obtain ⟨c0, c1, c2⟩ := r.cell (k := l) (by omega)
  refine ⟨_, cur', ?_, hr.pop.ext (fun k hk => by simp [upd, show k ≠ l by omega]), ?_⟩
  · have hzc : (Builtin.zeroCells (Value.agg #[.int .i64 0, .int .i64 0, zx]).cells 1).toList = [.int .i64 0, .int .i64 0, zx] := by
      simp [Builtin.zeroCells, Value.cells]
      rfl
    have hs := run_storeCells_cells (P := Try.prog) g (l * 3) [.int .i64 0, .int .i64 0, zx] 0 w (fun j hj => by
      have : j = 0 ∨ j = 1 ∨ j = 2 := by simp at hj; omega
      rcases this with rfl | rfl | rfl
      · simp [c0]
      · simp [c1]
      · simp [c2]) (fun j _ => frozen_at r.blk) (fun v hv => by
        simp at hv
        rcases hv with rfl | rfl
        · rfl
        · exact hx)
    simp [Builtin.clear_, run_underlying hu, hz, hzc, hs]
    rfl
  · refine ⟨rfl, rfl, rfl, by simp, fun k _ hk => ?_⟩
    have : k ≠ g := fun e => hk (by rw [e])
    rw [Below.heap_setCell _ _ _ _ this, Below.heap_setCell _ _ _ _ this, Below.heap_setCell _ _ _ _ this]
end
namespace Ag
theorem hole_of {h : Nat → En} {l p : Nat} (d : Heap h (l + 1)) (hp : p < l) : Hole (swp h p l) l p := by
  have at_ : ∀ k, k ≠ p → k < l → swp h p l k = h k := fun k a b => by simp [swp, a, show k ≠ l by omega]
  refine ⟨fun k a b c e => ?_, fun k a b c e => ?_⟩
  · have hk := par_lt a
    rw [at_ k c b, at_ (par k) e (by omega)]
    exact d k a (by omega)
  · have hk := par_lt a
    have hq := par_lt e
    rw [at_ k (by omega) b, at_ (par p) (by omega) (by omega)]
    subst c
    exact (d (par k) e (by omega)).trans (d k a (by omega))
theorem heap_pop {h : Nat → En} {l : Nat} (d : Heap h (l + 1)) : Heap (swp h l l) l := fun k a b => by
  have hk := par_lt a
  have e : swp h l l = h := by funext k; unfold swp; split <;> simp_all
  rw [e]
  exact d k a (by omega)
end Ag
end Go.Proofs.Ytjmiifgofedcnaa
