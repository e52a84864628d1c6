/-
  Layer 8's reference: a command in memory; Check.
-/
import Derived.Test.YtokpcpmkilikaaaDoorRvE
namespace Go.Proofs.YtokpcpmkilikaaaDoor
open Go.RowKit Vb

/-- A command as it lies in a block of its own. -/
def cmCells (c : Cm) : Array Value := #[.int .i64 c.kind, .string (str c.nm), .string (str c.pa), .int .i64 c.sh, .int .i64 c.nd, .int .i64 c.lm, .int .i64 c.jb, .int .i64 c.tk]
def CmAt (w : World) (g : Nat) (c : Cm) : Prop := w.heap[g]? = some (.cells (cmCells c) 24 (0, 0))
theorem CmAt.new (w : World) (c : Cm) : CmAt (w.alloc (.cells (cmCells c) 24)) w.heap.size c := heap_alloc_new w _
theorem CmAt.below {w w' : World} {g : Nat} {c : Cm} (h : CmAt w g c) (b : Below w.heap.size w w') : CmAt w' g c := (b.block g (Array.getElem?_eq_some_iff.1 h).1).trans h
theorem CmAt.cells {w : World} {g : Nat} {c : Cm} (h : CmAt w g c) : (w.cell? ⟨g, 0, none⟩ = some (.int .i64 c.kind) ∧ w.cell? ⟨g, 1, none⟩ = some (.string (str c.nm)) ∧ w.cell? ⟨g, 2, none⟩ = some (.string (str c.pa)) ∧ w.cell? ⟨g, 3, none⟩ = some (.int .i64 c.sh) ∧ w.cell? ⟨g, 4, none⟩ = some (.int .i64 c.nd) ∧ w.cell? ⟨g, 5, none⟩ = some (.int .i64 c.lm) ∧ w.cell? ⟨g, 6, none⟩ = some (.int .i64 c.jb) ∧ w.cell? ⟨g, 7, none⟩ = some (.int .i64 c.tk)) ∧ ∀ k, w.frozen? ⟨g, k, none⟩ = false := by
  unfold CmAt at h
  constructor
  · unfold World.cell?
    simp [h, cmCells]
  · intro k
    unfold World.frozen?
    rw [h]
    simp
theorem CmAt.text {w : World} {g : Nat} {c : Cm} (h : CmAt w g c) (x : UInt8) : w.cell? ⟨g, offS x, none⟩ = some (.string (str (getS c x))) := by
  obtain ⟨⟨_, h1, h2, _⟩, _⟩ := h.cells
  unfold offS getS
  split
  · exact h1
  · exact h2
theorem CmAt.num {w : World} {g : Nat} {c : Cm} (h : CmAt w g c) (x : UInt8) : w.cell? ⟨g, offI x, none⟩ = some (.int .i64 (getI c x)) := by
  obtain ⟨⟨_, _, _, h3, h4, h5, h6, h7⟩, _⟩ := h.cells
  unfold offI getI
  split
  · exact h3
  · split
    · exact h4
    · split
      · exact h5
      · split
        · exact h6
        · exact h7
theorem CmAt.setText {w : World} {g : Nat} {c : Cm} (h : CmAt w g c) (x : UInt8) (s : Bs) : CmAt (w.setCell ⟨g, offS x, none⟩ (.string (str s))) g (setS c x s) := by
  unfold CmAt at *
  unfold offS setS
  split
  · exact heap_setCell_same w g 1 _ 24 _ h
  · exact heap_setCell_same w g 2 _ 24 _ h
theorem CmAt.setNum {w : World} {g : Nat} {c : Cm} (h : CmAt w g c) (x : UInt8) (n : Int) : CmAt (w.setCell ⟨g, offI x, none⟩ (.int .i64 n)) g (setI c x n) := by
  unfold CmAt at *
  unfold offI setI
  split
  · exact heap_setCell_same w g 3 _ 24 _ h
  · split
    · exact heap_setCell_same w g 4 _ 24 _ h
    · split
      · exact heap_setCell_same w g 5 _ 24 _ h
      · split
        · exact heap_setCell_same w g 6 _ 24 _ h
        · exact heap_setCell_same w g 7 _ 24 _ h
theorem CmAt.setKind {w : World} {g : Nat} {c : Cm} (h : CmAt w g c) (n : Int) : CmAt (w.setCell ⟨g, 0, none⟩ (.int .i64 n)) g { c with kind := n } :=
  heap_setCell_same w g 0 _ 24 _ h
theorem str_size (s : Bs) : (str s).size = s.length := by unfold str; rw [Lib.size_eq]
theorem str_at (s : Bs) {j : Nat} {x : UInt8} (h : s[j]? = some x) (hj : j < (str s).size) : (str s)[j] = x := by
  obtain ⟨hl, e⟩ := List.getElem?_eq_some_iff.1 h
  exact e
theorem form_len (k : Int) : (wordV k).2.length ≤ 3 := by
  unfold wordV
  split
  · next h =>
    have hr : k = 1 ∨ k = 2 ∨ k = 3 ∨ k = 4 ∨ k = 5 ∨ k = 6 ∨ k = 7 ∨ k = 8 ∨ k = 9 ∨ k = 10 ∨ k = 11 ∨ k = 12 ∨ k = 13 := by omega
    rcases hr with rfl | rfl | rfl | rfl | rfl | rfl | rfl | rfl | rfl | rfl | rfl | rfl | rfl <;> decide
  · decide
end Go.Proofs.YtokpcpmkilikaaaDoor
