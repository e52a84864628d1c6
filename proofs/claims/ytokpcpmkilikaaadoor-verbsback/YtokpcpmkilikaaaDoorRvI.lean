/-
  Layer 8's reference: Parse: what stands while a line is read.
-/
import Derived.Test.YtokpcpmkilikaaaDoorRvH
namespace Go.Proofs.YtokpcpmkilikaaaDoor
open Go.RowKit Vb

/-- What stands while a line is read: the answer (not yet told) at r, the command at g, the pieces at o. -/
structure PS (w wr : World) (r g o : Nat) (l : List Bs) (d : Cm) : Prop where
  res : CmAt wr r zeroC
  cmd : CmAt wr g d
  row : ∀ j p, l[j]? = some p → wr.cell? ⟨o, j, none⟩ = some (.string (str p))
  n1 : r ≠ g
  n2 : o ≠ g
  old : Below w.heap.size w wr
  lr : w.heap.size ≤ r
  lg : w.heap.size ≤ g
  lo : w.heap.size ≤ o
theorem PS.below {w wr w' : World} {r g o : Nat} {l : List Bs} {d : Cm} (h : PS w wr r g o l d) (b : Below wr.heap.size wr w') : PS w w' r g o l d :=
  ⟨h.res.below b, h.cmd.below b, fun j p hp => (b.cell (World.block_lt_of_cell? wr _ (h.row j p hp))).trans (h.row j p hp), h.n1, h.n2, h.old.trans (b.mono h.old.size), h.lr, h.lg, h.lo⟩
theorem PS.set {w wr : World} {r g o : Nat} {l : List Bs} {d d' : Cm} (h : PS w wr r g o l d) (k : Nat) (v : Value) (hd : CmAt (wr.setCell ⟨g, k, none⟩ v) g d') : PS w (wr.setCell ⟨g, k, none⟩ v) r g o l d' :=
  ⟨(heap_setCell_other wr ⟨g, k, none⟩ r v h.n1).trans h.res, hd, fun j p hp => (World.cell?_setCell_far wr ⟨g, k, none⟩ ⟨o, j, none⟩ v (fun e => h.n2 e.symm)).trans (h.row j p hp), h.n1, h.n2, h.old.setCell h.lg _, h.lr, h.lg, h.lo⟩
theorem set8 {w : World} {r : Nat} {u0 u1 u2 u3 u4 u5 u6 u7 : Value} (h : w.heap[r]? = some (.cells #[u0, u1, u2, u3, u4, u5, u6, u7] 24 (0, 0))) (v0 v1 v2 v3 v4 v5 v6 v7 : Value) :
    ((((((((w.setCell ⟨r, 0, none⟩ v0).setCell ⟨r, 1, none⟩ v1).setCell ⟨r, 2, none⟩ v2).setCell ⟨r, 3, none⟩ v3).setCell ⟨r, 4, none⟩ v4).setCell ⟨r, 5, none⟩ v5).setCell ⟨r, 6, none⟩ v6).setCell ⟨r, 7, none⟩ v7).heap[r]? = some (.cells #[v0, v1, v2, v3, v4, v5, v6, v7] 24 (0, 0)) := by
  have h0 := heap_setCell_same _ r 0 _ 24 v0 h
  have h1 := heap_setCell_same _ r 1 _ 24 v1 h0
  have h2 := heap_setCell_same _ r 2 _ 24 v2 h1
  have h3 := heap_setCell_same _ r 3 _ 24 v3 h2
  have h4 := heap_setCell_same _ r 4 _ 24 v4 h3
  have h5 := heap_setCell_same _ r 5 _ 24 v5 h4
  have h6 := heap_setCell_same _ r 6 _ 24 v6 h5
  have h7 := heap_setCell_same _ r 7 _ 24 v7 h6
  simpa using h7
/-- The answer is told: what the block r then holds. -/
theorem told {w : World} {r : Nat} (h : CmAt w r zeroC) (d : Cm) : CmAt ((((((((w.setCell ⟨r, 0, none⟩ (.int .i64 d.kind)).setCell ⟨r, 1, none⟩ (.string (str d.nm))).setCell ⟨r, 2, none⟩ (.string (str d.pa))).setCell ⟨r, 3, none⟩ (.int .i64 d.sh)).setCell ⟨r, 4, none⟩ (.int .i64 d.nd)).setCell ⟨r, 5, none⟩ (.int .i64 d.lm)).setCell ⟨r, 6, none⟩ (.int .i64 d.jb)).setCell ⟨r, 7, none⟩ (.int .i64 d.tk)) r d := by
  unfold CmAt cmCells at h ⊢
  exact set8 h _ _ _ _ _ _ _ _
theorem told_below {B r : Nat} {w w1 : World} (h : Below B w w1) (hb : B ≤ r) (v0 v1 v2 v3 v4 v5 v6 v7 : Value) : Below B w ((((((((w1.setCell ⟨r, 0, none⟩ v0).setCell ⟨r, 1, none⟩ v1).setCell ⟨r, 2, none⟩ v2).setCell ⟨r, 3, none⟩ v3).setCell ⟨r, 4, none⟩ v4).setCell ⟨r, 5, none⟩ v5).setCell ⟨r, 6, none⟩ v6).setCell ⟨r, 7, none⟩ v7) :=
  (((((((h.setCell (p := ⟨r, 0, none⟩) hb v0).setCell (p := ⟨r, 1, none⟩) hb v1).setCell (p := ⟨r, 2, none⟩) hb v2).setCell (p := ⟨r, 3, none⟩) hb v3).setCell (p := ⟨r, 4, none⟩) hb v4).setCell (p := ⟨r, 5, none⟩) hb v5).setCell (p := ⟨r, 6, none⟩) hb v6).setCell (p := ⟨r, 7, none⟩) hb v7

def zCells : Array Value := #[.int .i64 0, .string ⟨#[]⟩, .string ⟨#[]⟩, .int .i64 0, .int .i64 0, .int .i64 0, .int .i64 0, .int .i64 0]
/-- What Parse answers. -/
def parA (p : Cm × Int) : Value := .tuple #[cmV p.1, .int .i64 p.2]
set_option maxHeartbeats 2000000 in
theorem rparse_long (line : Bs) (h : 256 < line.length) (w : World) : Calls Tryd.prog 9 #[.string (str line)] w fun e w' => e = .returned (parA (parseV line)) ∧ Below w.heap.size w w' := by
  unfold parseV
  rw [if_pos h]
  have hs := str_size line
  have h' : (256 : Int) < (str line).size := by omega
  clear hs
  go_enter Tryd.func9, Tryd.ntmps9
  go_wp2
  exact bodyPost_ret (v := parA (zeroC, 80)) (by simp [results, Tryd.results9, go_sem, parA, cmV, zeroC]; rfl) rfl ⟨rfl, (Below.refl _ _).alloc (Nat.le_refl _) _⟩
end Go.Proofs.YtokpcpmkilikaaaDoor
