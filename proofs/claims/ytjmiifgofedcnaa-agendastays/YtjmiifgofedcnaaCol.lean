/-
  A boxed list of numbers that a loop gathers.
-/
import Derived.Test.YtjmiifgofedcnaaRng
import Derived.Test.YtjmiifgofedcnaaDueL
import Derived.RangeFuncBox
import Derived.Maps.AppendAt
namespace Go.Proofs.Ytjmiifgofedcnaa
open Go.RowKit Ag

/-- The box at B0 holds v, a row of its own of xs, laid from B on. -/
structure Col (B0 B : Nat) (v : Value) (xs : List Int) (W : World) : Prop where
  blk : W.heap[B0]? = some (.cells #[v] 38 (0, 0))
  row : W.ownsRow B 3 1 v xs.length (ints xs)
  lo : B0 < B
  hi : B ≤ W.heap.size
section
variable {B0 B : Nat} {v v' : Value} {xs : List Int} {W w1 w2 : World} {K : Nat → Prop}
theorem Col.cell (h : Col B0 B v xs W) : W.cell? ⟨B0, 0, none⟩ = some v := cells_at h.blk rfl
theorem Col.frozen (h : Col B0 B v xs W) : W.frozen? ⟨B0, 0, none⟩ = false := frozen_at h.blk
theorem row_block {e n : Nat} {vs : List Value} (h : W.ownsRow B e 1 v n vs) {k : Nat} (hk : v.ownBlock = some k) : ∃ cs, W.heap[k]? = some (.cells cs e (0, 0)) := by
  rcases h.2 with ⟨rfl, _⟩ | ⟨g, cap, cur, rfl, _, hg, _⟩
  · simp [Value.ownBlock] at hk
  · simp [Value.ownBlock] at hk
    subst hk
    exact ⟨cur, hg⟩
theorem row_kept {e n : Nat} {vs : List Value} (h : W.ownsRow B e 1 v n vs) (hg : ∀ k, v.ownBlock = some k → w1.heap[k]? = W.heap[k]?) : w1.ownsRow B e 1 v n vs := by
  refine ⟨h.1, ?_⟩
  rcases h.2 with h0 | ⟨g, cap, cur, rfl, hb, hgg, r⟩
  · exact .inl h0
  · exact .inr ⟨g, cap, cur, rfl, hb, (hg g rfl).trans hgg, r⟩
/-- It stands while its two blocks stand. -/
theorem Col.kept (h : Col B0 B v xs W) (c : Chg K W w1) (h0 : ¬ K B0) (hv : ∀ k, v.ownBlock = some k → ¬ K k) : Col B0 B v xs w1 := by
  have hlt : B0 < W.heap.size := (Array.getElem?_eq_some_iff.1 h.blk).1
  refine ⟨(c.block B0 hlt h0).trans h.blk, row_kept h.row (fun k hk => ?_), h.lo, Nat.le_trans h.hi c.size⟩
  obtain ⟨cs, hcs⟩ := row_block h.row hk
  exact c.block k (Array.getElem?_eq_some_iff.1 hcs).1 (hv k hk)
theorem Col.own (B0 B : Nat) : OwnFrom B (fun (p : Value × List Int) W => Col B0 B p.1 p.2 W) := by
  rintro ⟨v, xs⟩ W W' row h hg hr
  have hlt : B0 < W.heap.size := (Array.getElem?_eq_some_iff.1 h.blk).1
  refine ⟨(hg.block B0 hlt (fun e => by have := (hr B0 e.symm).1; have := h.lo; omega)).trans h.blk, row_kept h.row (fun k hk => ?_), h.lo, Nat.le_trans h.hi hg.size⟩
  obtain ⟨cs, hcs⟩ := row_block h.row hk
  refine hg.block k (Array.getElem?_eq_some_iff.1 hcs).1 (fun e => ?_)
  obtain ⟨_, o, ho, hc⟩ := hr k e.symm
  rw [hcs] at ho
  injection ho with ho
  subst ho
  cases hc
/-- One more: what append did, and the store into the box. -/
theorem Col.app (h : Col B0 B v xs W) {o : Obj} {x : Int} (hrow : w1.ownsRow B 3 1 v' (xs.length + 1) (ints xs ++ [.int .i64 x])) (hg : (W.alloc o).grownBy w1 v.ownBlock) :
    Col B0 B v' (xs ++ [x]) (w1.setCell ⟨B0, 0, none⟩ v') ∧ KeepsFrom B W (w1.setCell ⟨B0, 0, none⟩ v') ∧ Chg (fun k => k = B0 ∨ B ≤ k) W (w1.setCell ⟨B0, 0, none⟩ v') ∧ w1.cell? ⟨B0, 0, none⟩ = some v ∧ w1.frozen? ⟨B0, 0, none⟩ = false := by
  have hlt : B0 < W.heap.size := (Array.getElem?_eq_some_iff.1 h.blk).1
  have hvB : ∀ k, v.ownBlock = some k → B ≤ k := fun k hk => (h.row.lt k hk).1
  have hz : (W.alloc o).heap.size = W.heap.size + 1 := World.size_alloc _ _
  have b0 : w1.heap[B0]? = some (.cells #[v] 38 (0, 0)) := (hg.block B0 (by omega) (fun e => by have := hvB B0 e.symm; have := h.lo; omega)).trans ((Below.heap_alloc _ _ _ hlt).trans h.blk)
  have b1 := heap_setCell_same w1 B0 0 _ 38 v' b0
  have hs := hg.size
  have hlo := h.lo
  have hhi := h.hi
  have c1 : Chg (fun k => k = B0 ∨ B ≤ k) W w1 := ((Chg.refl _ W).alloc o).trans (K' := fun k => v.ownBlock = some k) (Chg.of_gr hg (fun k e => .inl e)) (fun k _ e => .inr (hvB k e))
  refine ⟨⟨b1, ?_, hlo, by rw [World.size_setCell]; omega⟩, ⟨by rw [World.size_setCell]; omega, fun k o' hk hb hc => ?_⟩, c1.setCell _ _ (.inl (.inl rfl)), cells_at b0 rfl, frozen_at b0⟩
  · have e1 : (xs ++ [x]).length = xs.length + 1 := by simp
    have e2 : ints (xs ++ [x]) = ints xs ++ [.int .i64 x] := by simp [ints]
    rw [e1, e2]
    refine row_kept hrow (fun k hk => Below.heap_setCell _ _ _ _ ?_)
    have := (hrow.lt k hk).1
    exact fun e => by simp at e; omega
  · have hkl := (Array.getElem?_eq_some_iff.1 hb).1
    rw [Below.heap_setCell _ _ _ _ (by simp; omega)]
    refine (hg.block k (by omega) (fun e => ?_)).trans ((Below.heap_alloc _ _ _ hkl).trans hb)
    obtain ⟨cs, hcs⟩ := row_block h.row e.symm
    rw [hcs] at hb
    injection hb with hb
    subst hb
    cases hc
end
theorem own_chg {σ : Type} (B : Nat) (K : Nat → Prop) (hK : ∀ k, B ≤ k → K k) (f : σ → World) : OwnFrom B (fun (s : σ) W => Chg K (f s) W) := fun _ _ _ _ h hg hr =>
  h.trans (K' := fun k => B ≤ k) (Chg.of_gr hg (fun k e => .inl (hr k e).1)) (fun k _ e => hK k e)
theorem own_agn {ts te a m B : Nat} {ao : Option Addr} (hB : ∀ k, Kag a m ao k → k < B) (L : List En) : OwnFrom B (fun (_ : Unit) W => Agn ts te W a m ao L) := fun _ _ _ _ h hg hr =>
  h.kept (K := fun k => B ≤ k) (Chg.of_gr hg (fun k e => .inl (hr k e).1)) (fun k hk hb => by have := hB k hk; omega)
theorem Agn.lt {ts te : Nat} {w : World} {a m : Nat} {ao : Option Addr} {L : List En} (r : Agn ts te w a m ao L) : ∀ k, Kag a m ao k → k < w.heap.size := by
  obtain ⟨cap, n, h, r⟩ := r
  rintro k (rfl | rfl | ⟨g, hg, rfl⟩)
  · exact r.raw.alt
  · exact r.raw.mlt
  · rcases r.raw.row with ⟨h0, _⟩ | ⟨g', cur, h0, hr⟩
    · rw [h0] at hg; cases hg
    · rw [h0] at hg
      injection hg with hg
      injection hg with hg
      subst hg
      exact hr.lt
theorem KeepsFrom.of_chg {B : Nat} {W W' : World} {K : Nat → Prop} (c : Chg K W W') (hK : ∀ k, K k → k < B) : KeepsFrom B W W' := ⟨c.size, fun k _ hk hb _ => (c.block k (Array.getElem?_eq_some_iff.1 hb).1 (fun h => by have := hK k h; omega)).trans hb⟩
theorem own_base {w : World} {B B' e sz n : Nat} {v : Value} {vs : List Value} (h : w.ownsRow B e sz v n vs) (hb : B' ≤ B) : w.ownsRow B' e sz v n vs := by
  refine ⟨h.1, ?_⟩
  rcases h.2 with h0 | ⟨g, cap, cur, rfl, hg, r⟩
  · exact .inl h0
  · exact .inr ⟨g, cap, cur, rfl, Nat.le_trans hb hg, r⟩
end Go.Proofs.Ytjmiifgofedcnaa
