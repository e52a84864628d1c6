/-
  An agenda in memory: the heap's row, the map of places; frames.
-/
import Derived.Test.YtjmiifgofedcnaaCmp
import Derived.Maps.OwnSet
import Derived.ArgAppend
import Derived.Laws.AppendOwnNone
namespace Go.Proofs.Ytjmiifgofedcnaa
open Go.RowKit Ag

namespace Ag
/-- One that an agenda has. -/
structure En where
  id : Int
  tm : Int
  x : Value
def En.cells (e : En) : List Value := [.int .i64 e.id, .int .i64 e.tm, e.x]
instance : Inhabited En := ⟨⟨0, 0, .int .i64 0⟩⟩
/-- The cells of the first n. -/
def flat (h : Nat → En) : Nat → List Value
  | 0 => []
  | n + 1 => flat h n ++ (h n).cells
theorem flat_len (h : Nat → En) (n : Nat) : (flat h n).length = n * 3 := by
  induction n with
  | zero => rfl
  | succ n ih => simp [flat, ih, En.cells]; omega
theorem flat_at (h : Nat → En) (n k d : Nat) (hk : k < n) (hd : d < 3) : (flat h n)[k * 3 + d]? = (h k).cells[d]? := by
  induction n with
  | zero => omega
  | succ n ih =>
    by_cases e : k = n
    · subst e
      simp only [flat]
      rw [List.getElem?_append_right (by rw [flat_len]; omega), flat_len]
      congr 1
      omega
    · simp only [flat]
      rw [List.getElem?_append_left (by rw [flat_len]; omega)]
      exact ih (by omega)
theorem flat_ext {h h' : Nat → En} {n : Nat} (e : ∀ k, k < n → h k = h' k) : flat h n = flat h' n := by
  induction n with
  | zero => rfl
  | succ n ih => simp only [flat]; rw [ih (fun k hk => e k (by omega)), e n (by omega)]
/-- A list of cells that has each one's three is that row. -/
theorem flat_of {h : Nat → En} {n : Nat} {l : List Value} (hl : l.length = n * 3) (hc : ∀ k, k < n → ∀ d, d < 3 → l[k * 3 + d]? = (h k).cells[d]?) : l = flat h n := by
  apply List.ext_getElem?
  intro i
  by_cases hi : i < n * 3
  · have := hc (i / 3) (by omega) (i % 3) (by omega)
    have h2 := flat_at h n (i / 3) (i % 3) (by omega) (by omega)
    rw [show i / 3 * 3 + i % 3 = i by omega] at this h2
    rw [this, h2]
  · rw [List.getElem?_eq_none (by omega), List.getElem?_eq_none (by rw [flat_len]; omega)]
end Ag

/-- Of the blocks that were there only those of K may have turned. -/
structure Chg (K : Nat → Prop) (w w' : World) : Prop where
  os : w'.os = w.os
  tape : w'.tape = w.tape
  output : w'.output = w.output
  size : w.heap.size ≤ w'.heap.size
  block : ∀ k, k < w.heap.size → ¬ K k → w'.heap[k]? = w.heap[k]?
theorem Chg.refl (K : Nat → Prop) (w : World) : Chg K w w := ⟨rfl, rfl, rfl, Nat.le_refl _, fun _ _ _ => rfl⟩
theorem Chg.of_gr {w w' : World} {r : Option Nat} (h : w.grownBy w' r) {K : Nat → Prop} (hK : ∀ k, r = some k → K k ∨ w.heap.size ≤ k) : Chg K w w' :=
  ⟨h.os, h.tape, h.output, h.size, fun k hk hn => h.block k hk (fun e => by rcases hK k e.symm with h | h; exact hn h; omega)⟩
theorem Chg.of_below {w w' : World} (h : Below w.heap.size w w') (K : Nat → Prop) : Chg K w w' := ⟨h.os, h.tape, h.output, h.size, fun k hk _ => h.block k hk⟩
theorem Chg.trans {K K' : Nat → Prop} {w w1 w2 : World} (h : Chg K w w1) (k : Chg K' w1 w2) (hK : ∀ i, i < w.heap.size → K' i → K i) : Chg K w w2 :=
  ⟨k.os.trans h.os, k.tape.trans h.tape, k.output.trans h.output, Nat.le_trans h.size k.size, fun i hi hn => (k.block i (Nat.lt_of_lt_of_le hi h.size) (fun e => hn (hK i hi e))).trans (h.block i hi hn)⟩
theorem Chg.mono {K K' : Nat → Prop} {w w1 : World} (h : Chg K w w1) (hK : ∀ i, i < w.heap.size → K i → K' i) : Chg K' w w1 := ⟨h.os, h.tape, h.output, h.size, fun i hi hn => h.block i hi (fun e => hn (hK i hi e))⟩
theorem Chg.cell {K : Nat → Prop} {w w1 : World} (h : Chg K w w1) {a : Addr} {v : Value} (hc : w.cell? a = some v) (hK : ¬ K a.block) : w1.cell? a = some v :=
  (World.cell?_of_block (h.block a.block (World.block_lt_of_cell? w a hc) hK)).trans hc
theorem Chg.setCell {K : Nat → Prop} {w w1 : World} (h : Chg K w w1) (p : Addr) (v : Value) (hK : K p.block ∨ w.heap.size ≤ p.block) : Chg K w (w1.setCell p v) :=
  ⟨h.os, h.tape, h.output, by rw [World.size_setCell]; exact h.size, fun i hi hn => by
    rw [Below.heap_setCell _ _ _ _ (fun e => by subst e; rcases hK with k | k; exact hn k; omega)]
    exact h.block i hi hn⟩
theorem Chg.alloc {K : Nat → Prop} {w w1 : World} (h : Chg K w w1) (o : Obj) : Chg K w (w1.alloc o) :=
  ⟨h.os, h.tape, h.output, by rw [World.size_alloc]; have := h.size; omega, fun i hi hn => (Below.heap_alloc _ _ _ (Nat.lt_of_lt_of_le hi h.size)).trans (h.block i hi hn)⟩
theorem Chg.drew {K : Nat → Prop} {w w1 : World} (h : Chg K w w1) : Chg K w w1.drew := ⟨h.os, h.tape, h.output, h.size, h.block⟩
theorem Chg.turned {K : Nat → Prop} {w w1 w2 : World} {b : Nat} (h : Chg K w w1) (k : w1.mapTurned w2 b) (hK : K b) : Chg K w w2 := h.trans (K' := fun i => i = b) (Chg.of_gr k.grown (fun _ e => .inl (Option.some.inj e).symm)) (fun _ _ e => e ▸ hK)
theorem Grew.below {w w' : World} (h : Grew w w') : Below w.heap.size w w' := by
  obtain ⟨q, os, rfl⟩ := h
  refine ⟨rfl, rfl, rfl, by simp [Sort.grow, World.drewN], fun k hk => ?_⟩
  show (w.heap ++ os)[k]? = w.heap[k]?
  exact Array.getElem?_append_left hk

abbrev wfI (i : Int) : Prop := (Lit.int .i64 i).wf = true

/-- The row of a heap: cap places, the first n of them hold h. -/
structure RowAt (w : World) (te g cap n : Nat) (h : Nat → En) (cur : Array Value) : Prop where
  blk : w.heap[g]? = some (.cells cur te (0, 0))
  sz : cur.size = cap * 3
  le : n ≤ cap
  max : cap ≤ maxLen
  at_ : ∀ k, k < n → ∀ d, d < 3 → cur[k * 3 + d]? = (h k).cells[d]?
def RowIn (w : World) (te : Nat) (ao : Option Addr) (cap n : Nat) (h : Nat → En) : Prop :=
  (ao = none ∧ n = 0 ∧ cap = 0) ∨ ∃ g cur, ao = some ⟨g, 0, none⟩ ∧ RowAt w te g cap n h cur

theorem RowIn.owns {w : World} {te : Nat} {ao : Option Addr} {cap n : Nat} {h : Nat → En} (r : RowIn w te ao cap n h) : w.ownsRow 0 te 3 (.slice ao n cap) n (flat h n) := by
  refine ⟨flat_len h n, ?_⟩
  rcases r with ⟨rfl, rfl, rfl⟩ | ⟨g, cur, rfl, r⟩
  · exact .inl ⟨rfl, rfl⟩
  · refine .inr ⟨g, cap, cur, rfl, Nat.zero_le _, r.blk, r.le, r.max, r.sz, flat_of ?_ ?_⟩
    · have := r.sz; have := r.le; simp; omega
    · intro k hk d hd
      rw [List.getElem?_take_of_lt (by omega), Array.getElem?_toList]
      exact r.at_ k hk d hd
theorem RowIn.of_owns {w : World} {te base : Nat} {ao : Option Addr} {cap n : Nat} {h : Nat → En} (r : w.ownsRow base te 3 (.slice ao n cap) n (flat h n)) : RowIn w te ao cap n h := by
  rcases r.2 with ⟨hv, h0⟩ | ⟨g, cap', cur, hv, _, hb, hn, hm, hs, ht⟩
  · simp at hv
    exact .inl ⟨hv.1, h0, hv.2.2⟩
  · simp at hv
    obtain ⟨rfl, rfl⟩ := hv
    refine .inr ⟨g, cur, rfl, hb, hs, hn, hm, fun k hk d hd => ?_⟩
    have := flat_at h n k d hk hd
    rw [← ht, List.getElem?_take_of_lt (by omega), Array.getElem?_toList] at this
    exact this
end Go.Proofs.Ytjmiifgofedcnaa
