/-
  Two lists of numbers that a loop gathers.
-/
import Derived.Test.YtjmiifgofedcnaaNum
namespace Go.Proofs.Ytjmiifgofedcnaa
open Go.RowKit Ag

/-- What an append to one's own list, and the store into its box, turned: no more than the box and the old row. -/
theorem Col.fine {B0 : Nat} {v v' : Value} {W w1 : World} {o : Obj} (hg : (W.alloc o).grownBy w1 v.ownBlock) : Chg (fun k => k = B0 ∨ v.ownBlock = some k) W (w1.setCell ⟨B0, 0, none⟩ v') :=
  (((Chg.refl _ W).alloc o).trans (K' := fun k => v.ownBlock = some k) (Chg.of_gr hg (fun _ e => .inl e)) (fun _ _ e => .inr e)).setCell _ _ (.inl (.inl rfl))
theorem KeepsFrom.join {B B' B0 : Nat} {W W' : World} (k : KeepsFrom B' W W') (c : Chg (fun j => j = B0 ∨ B' ≤ j) W W') (hB : B0 < B) : KeepsFrom B W W' := ⟨k.size, fun j o hj ho hc => by
  by_cases h : B' ≤ j
  · exact k.same j o h ho hc
  · exact (c.block j (Array.getElem?_eq_some_iff.1 ho).1 (by omega)).trans ho⟩
theorem Col.owned {B0 B Bq : Nat} (hq : B0 < Bq) : OwnFrom Bq (fun (p : Value × List Int) W => Col B0 B p.1 p.2 W) := by
  rintro ⟨v, xs⟩ W W' row h hg hr
  have hlt : B0 < W.heap.size := (Array.getElem?_eq_some_iff.1 h.blk).1
  refine ⟨(hg.block B0 hlt (fun e => by have := (hr B0 e.symm).1; omega)).trans h.blk, row_kept h.row (fun k hk => ?_), h.lo, Nat.le_trans h.hi hg.size⟩
  obtain ⟨cs, hcs⟩ := row_block h.row hk
  refine hg.block k (Array.getElem?_eq_some_iff.1 hcs).1 (fun e => ?_)
  obtain ⟨_, o, ho, hc⟩ := hr k e.symm
  rw [hcs] at ho
  injection ho with ho
  subst ho
  cases hc
/-- Two lists that a loop gathers. -/
structure Col2 (B1 B2 B : Nat) (v1 v2 : Value) (xs ys : List Int) (W : World) : Prop where
  one : Col B1 B v1 xs W
  two : Col B2 B v2 ys W
  apart : ∀ k, v1.ownBlock = some k → v2.ownBlock ≠ some k
  ne : B1 ≠ B2
section
variable {B1 B2 B : Nat} {v1 v2 v' : Value} {xs ys : List Int} {W w1 : World} {x : Int}
theorem Col2.app1 (h : Col2 B1 B2 B v1 v2 xs ys W) {o : Obj} (hrow : w1.ownsRow B 3 1 v' (xs.length + 1) (ints xs ++ [.int .i64 x])) (hg : (W.alloc o).grownBy w1 v1.ownBlock) (hat : v'.ownBlock = v1.ownBlock ∨ v'.ownBlock = some (W.alloc o).heap.size) :
    Col2 B1 B2 B v' v2 (xs ++ [x]) ys (w1.setCell ⟨B1, 0, none⟩ v') := by
  have a := h.one.app hrow hg
  have hlo := h.two.lo
  refine ⟨a.1, h.two.kept (Col.fine hg) ?_ ?_, ?_, h.ne⟩
  · rintro (e | e)
    · exact h.ne e.symm
    · have := (h.one.row.lt _ e).1
      omega
  · rintro k hk (rfl | e)
    · have := (h.two.row.lt _ hk).1
      have := h.one.lo
      omega
    · exact h.apart k e hk
  · intro k hk hk2
    rcases hat with e | e
    · exact h.apart k (e ▸ hk) hk2
    · rw [e] at hk
      injection hk with hk
      have := (h.two.row.lt _ hk2).2
      rw [World.size_alloc] at hk
      omega
theorem Col2.swap (h : Col2 B1 B2 B v1 v2 xs ys W) : Col2 B2 B1 B v2 v1 ys xs W := ⟨h.two, h.one, fun k a b => h.apart k b a, h.ne.symm⟩
theorem Col2.owned {Bq : Nat} (h1 : B1 < Bq) (h2 : B2 < Bq) (h : Col2 B1 B2 B v1 v2 xs ys W) {row : Option Nat} (hg : W.grownBy w1 row) (hr : ∀ r, row = some r → Bq ≤ r ∧ ∃ o : Obj, W.heap[r]? = some o ∧ o.isCells = false) : Col2 B1 B2 B v1 v2 xs ys w1 :=
  ⟨Col.owned h1 (v1, xs) W w1 row h.one hg hr, Col.owned h2 (v2, ys) W w1 row h.two hg hr, h.apart, h.ne⟩
theorem Col2.below (h : Col2 B1 B2 B v1 v2 xs ys W) (b : Below W.heap.size W w1) : Col2 B1 B2 B v1 v2 xs ys w1 :=
  ⟨h.one.kept (Chg.of_below b (fun _ => False)) (fun h => h) (fun _ _ h => h), h.two.kept (Chg.of_below b (fun _ => False)) (fun h => h) (fun _ _ h => h), h.apart, h.ne⟩
end
end Go.Proofs.Ytjmiifgofedcnaa
