/-
  THE CONTRACTS OF THE REFERENCE's FUNCTIONS: rungs, Rung.
-/
import Derived.Test.YtpiceckolcakaaaDoorLadS
namespace Go.Proofs.YtpiceckolcakaaaDoor
open Go.RowKit Wd Ld

/-- What lies in the row at g. -/
def Row (w : World) (g : Nat) : Prop := ∀ j, j < 32 → w.cell? ⟨g, j, none⟩ = some (.int .u64 (R j : Nat))
theorem Row.below {w w' : World} {g : Nat} (h : Below w.heap.size w w') (hT : Row w g) : Row w' g := fun j hj => keepC h (hT j hj)

abbrev rowCells : Array Value := (rungs.map fun n : Nat => Value.int .u64 (n : Int)).toArray
theorem row_new (w : World) (t : TypeId) : Row (w.alloc (.cells rowCells t)) w.heap.size := by
  intro j hj
  have e : (w.alloc (.cells rowCells t)).cell? ⟨w.heap.size, j, none⟩ = rowCells[j]? := by simp [go_sem]
  have hl : j < rungs.length := hj
  rw [e]
  simp only [rowCells, List.getElem?_toArray, List.getElem?_map, R, List.getD_eq_getElem?_getD]
  rw [List.getElem?_eq_getElem hl]
  rfl
set_option maxHeartbeats 1000000 in
theorem rrungs_any (w : World) : Calls Tryd.prog 30 #[] w fun e w' => e = .returned (.slice (some ⟨w.heap.size, 0, none⟩) 32 32) ∧ Below w.heap.size w w' ∧ Row w' w.heap.size := by
  go_enter Tryd.func30, Tryd.ntmps30
  go_wp2
  go_ret
  exact ⟨rfl, (Below.refl _ _).alloc (Nat.le_refl _) _, row_new w _⟩

end Go.Proofs.YtpiceckolcakaaaDoor
