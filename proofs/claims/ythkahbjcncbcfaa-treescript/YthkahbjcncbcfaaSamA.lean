/-
  same: rows that are written over.
-/
import Derived.Test.YthkahbjcncbcfaaGrA
import Derived.Laws.OwnMore
namespace Go.Proofs.Ythkahbjcncbcfaa
open Go.RowKit Tr

theorem Tr.Wf.deps {l : List Ac} (h : Wf l) : Deps l := fun i hi => by
  obtain ⟨d, _, hd⟩ := h.deep i hi
  exact ⟨d, hd⟩
theorem getA_shape (l : List Ac) (n : Int) : ∃ x b, getA l n = .tuple #[acV x, .bool b] := by
  unfold getA
  cases thereB l n with
  | true => exact ⟨_, true, rfl⟩
  | false => exact ⟨_, false, rfl⟩
/-- A row of one's own, whatever it holds. -/
def RowE (W : World) (B e sz : Nat) (v : Value) (n : Nat) : Prop := ∃ vs, W.ownsRow B e sz v n vs
theorem RowE.below {W W' : World} {B e sz : Nat} {v : Value} {n : Nat} (h : RowE W B e sz v n) (b : Below W.heap.size W W') : RowE W' B e sz v n := by
  obtain ⟨vs, h⟩ := h
  exact ⟨vs, row_kept h b⟩
theorem RowE.set {W : World} {B e sz g n cap : Nat} (h : RowE W B e sz (.slice (some ⟨g, 0, none⟩) n cap) n) (j : Nat) (u : Value) : RowE (W.setCell ⟨g, j, none⟩ u) B e sz (.slice (some ⟨g, 0, none⟩) n cap) n := by
  obtain ⟨vs, h⟩ := h
  exact ⟨_, (h.stored j u).1⟩
theorem RowE.five {W : World} {B g n cap i : Nat} (h : RowE W B 39 5 (.slice (some ⟨g, 0, none⟩) n cap) n) (hi : i < n) :
    B ≤ g ∧ (∃ x0 x1 x2 x3 x4, W.cell? ⟨g, i * 5, none⟩ = some x0 ∧ W.cell? ⟨g, i * 5 + 1, none⟩ = some x1 ∧ W.cell? ⟨g, i * 5 + 2, none⟩ = some x2 ∧ W.cell? ⟨g, i * 5 + 3, none⟩ = some x3 ∧ W.cell? ⟨g, i * 5 + 4, none⟩ = some x4) ∧ ∀ j, W.frozen? ⟨g, j, none⟩ = false := by
  obtain ⟨vs, h⟩ := h
  have hl := h.1
  have hc : ∀ k, k < n * 5 → ∃ x, W.cell? ⟨g, k, none⟩ = some x := fun k hk => by
    obtain ⟨x, hx⟩ : ∃ x, vs[k]? = some x := ⟨_, List.getElem?_eq_getElem (by omega)⟩
    have := h.cells (g := g) rfl k x hx
    have ha : (⟨g, 0, none⟩ : Addr).add k = ⟨g, k, none⟩ := by unfold Addr.add; split <;> simp_all
    rw [ha] at this
    exact ⟨x, this⟩
  obtain ⟨x0, h0⟩ := hc (i * 5) (by omega)
  obtain ⟨x1, h1⟩ := hc (i * 5 + 1) (by omega)
  obtain ⟨x2, h2⟩ := hc (i * 5 + 2) (by omega)
  obtain ⟨x3, h3⟩ := hc (i * 5 + 3) (by omega)
  obtain ⟨x4, h4⟩ := hc (i * 5 + 4) (by omega)
  exact ⟨(h.lt g rfl).1, ⟨x0, x1, x2, x3, x4, h0, h1, h2, h3, h4⟩, fun j => h.frozenAt j⟩
/-- A row of numbers whose first one is m, if it has been written. -/
def RowM (W : World) (B : Nat) (v : Value) (n : Nat) (m : Int) (s : Nat) : Prop := ∃ vs, W.ownsRow B 3 1 v n vs ∧ (0 < s → 0 < n → vs[0]? = some (.int .i64 m))
theorem RowM.kept {W W' : World} {B : Nat} {v : Value} {n : Nat} {m : Int} {s : Nat} (h : RowM W B v n m s) (b : ∀ j, v.ownBlock = some j → W'.heap[j]? = W.heap[j]?) : RowM W' B v n m s := by
  obtain ⟨vs, h1, h2⟩ := h
  exact ⟨vs, row_of h1 b, h2⟩
theorem RowM.below {W W' : World} {B : Nat} {v : Value} {n : Nat} {m : Int} {s : Nat} (h : RowM W B v n m s) (b : Below W.heap.size W W') : RowM W' B v n m s := by
  obtain ⟨vs, h1, h2⟩ := h
  exact ⟨vs, row_kept h1 b, h2⟩
theorem RowM.set {W : World} {B g n cap j : Nat} {m : Int} (h : RowM W B (.slice (some ⟨g, 0, none⟩) n cap) n m j) (hj : j < n) : RowM (W.setCell ⟨g, j, none⟩ (.int .i64 m)) B (.slice (some ⟨g, 0, none⟩) n cap) n m (j + 1) := by
  obtain ⟨vs, h1, h2⟩ := h
  have hl := h1.1
  refine ⟨_, (h1.stored j (.int .i64 m)).1, fun _ hn => ?_⟩
  by_cases e : j = 0
  · subst e
    rw [List.getElem?_set_self (by omega)]
  · rw [List.getElem?_set_ne e]
    exact h2 (by omega) hn
theorem RowM.cell {W : World} {B g n cap j : Nat} {m : Int} {s : Nat} (h : RowM W B (.slice (some ⟨g, 0, none⟩) n cap) n m s) (hj : j < n) : B ≤ g ∧ (∃ x, W.cell? ⟨g, j, none⟩ = some x) ∧ W.frozen? ⟨g, j, none⟩ = false := by
  obtain ⟨vs, h1, h2⟩ := h
  have hl := h1.1
  obtain ⟨x, hx⟩ : ∃ x, vs[j]? = some x := ⟨_, List.getElem?_eq_getElem (by omega)⟩
  have := h1.cells (g := g) rfl j x hx
  have ha : (⟨g, 0, none⟩ : Addr).add j = ⟨g, j, none⟩ := by unfold Addr.add; split <;> simp_all
  rw [ha] at this
  exact ⟨(h1.lt g rfl).1, ⟨x, this⟩, h1.frozenAt j⟩
/-- Behind an append of two more. -/
theorem RowM.app {W : World} {B : Nat} {v : Value} {n : Nat} {m : Int} {vs : List Value} (h : W.ownsRow B 3 1 v (n + 2) (vs ++ [.int .i64 m, .int .i64 m])) (hl : vs.length = n * 1) (h0 : 0 < n → vs[0]? = some (.int .i64 m)) :
    ∃ g cap, v = .slice (some ⟨g, 0, none⟩) (n + 2) cap ∧ W.cell? ⟨g, 0, none⟩ = some (.int .i64 m) := by
  rcases h.2 with ⟨_, hn⟩ | ⟨g, cap, cur, rfl, r⟩
  · omega
  · refine ⟨g, cap, rfl, ?_⟩
    have hv : (vs ++ [Value.int .i64 m, .int .i64 m])[0]? = some (.int .i64 m) := by
      by_cases e : 0 < n
      · rw [List.getElem?_append_left (by omega)]
        exact h0 e
      · have : vs = [] := List.eq_nil_of_length_eq_zero (by omega)
        subst this
        rfl
    have := h.cells (g := g) rfl 0 _ hv
    have ha : (⟨g, 0, none⟩ : Addr).add 0 = ⟨g, 0, none⟩ := by unfold Addr.add; split <;> simp_all
    rw [ha] at this
    exact this
theorem two_new (w : World) (x y : Value) (t : TypeId) : ∀ j u, [x, y][j]? = some u → (w.alloc (.cells #[x, y] t)).cell? ((⟨w.heap.size, 0, none⟩ : Addr).add j) = some u := new_cells w [x, y] t
theorem shape0 {W : World} {B n : Nat} {v : Value} {vs : List Value} (h : W.ownsRow B 3 1 v n vs) : ∃ ao c g, v = .slice ao n c ∧ (0 < n → ao = some ⟨g, 0, none⟩) := by
  rcases h.2 with ⟨rfl, h0⟩ | ⟨g, cap, cur, rfl, r⟩
  · exact ⟨none, 0, 0, by rw [h0], fun h => by omega⟩
  · exact ⟨_, cap, g, rfl, fun _ => rfl⟩
end Go.Proofs.Ythkahbjcncbcfaa
