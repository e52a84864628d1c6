/-
  THE CONTRACTS OF THE REFERENCE's FUNCTIONS: rungs, Rung.
-/
import Derived.Test.YtbnokceagaodkaaDoorLadS
namespace Go.Proofs.YtbnokceagaodkaaDoor
open Go.RowKit Wd Ld

/-- What lies in the row at g. -/
def Row (w : World) (g : Nat) : Prop := ∀ j, j < 32 → w.cell? ⟨g, j, none⟩ = some (.int .u64 (R j : Nat))
theorem Row.below {w w' : World} {g : Nat} (h : Below w.heap.size w w') (hT : Row w g) : Row w' g := fun j hj => keepC h (hT j hj)

abbrev rowCells : Array Value := (rungs.map fun n : Nat => Value.int .u64 (n : Int)).toArray
theorem row_new (w : World) (t : TypeId) : Row (w.alloc (.cells rowCells t)) w.heap.size := by
  intro j hj
  have e : (w.alloc (.cells rowCells t)).cell? ⟨w.heap.size, j, none⟩ = rowCells[j]? := by simp [go_sem]
  have hl : j < rungs.length := hj
  rw [e]
  simp only [rowCells, List.getElem?_toArray, List.getElem?_map, R, List.getD_eq_getElem?_getD]
  rw [List.getElem?_eq_getElem hl]
  rfl
set_option maxHeartbeats 1000000 in
theorem rrungs_any (w : World) : Calls Tryd.prog 18 #[] w fun e w' => e = .returned (.slice (some ⟨w.heap.size, 0, none⟩) 32 32) ∧ Below w.heap.size w w' ∧ Row w' w.heap.size := by
  go_enter Tryd.func18, Tryd.ntmps18
  go_wp2
  go_ret
  exact ⟨rfl, (Below.refl _ _).alloc (Nat.le_refl _) _, row_new w _⟩

theorem rrung_no (i : Int) (h : i < 1 ∨ 32 < i) (w : World) : Calls Tryd.prog 9 #[.int .i64 i] w fun e w' => e = .returned (.int .u64 0) ∧ Below w.heap.size w w' := by
  rcases h with h | h
  · go_enter Tryd.func9, Tryd.ntmps9
    go_wp2
    go_ret
    exact ⟨rfl, Below.refl _ _⟩
  · by_cases h1 : i < 1
    · omega
    · go_enter Tryd.func9, Tryd.ntmps9
      go_wp2
      go_ret
      exact ⟨rfl, Below.refl _ _⟩
theorem rrung_yes (k : Nat) (hk : k < 32) (w : World) : Calls Tryd.prog 9 #[.int .i64 (k + 1 : Int)] w fun e w' => e = .returned (.int .u64 (R k : Nat)) ∧ Below w.heap.size w w' := by
  have h1 : ¬ ((k : Int) + 1 < 1) := by omega
  have h2 : ¬ (32 < (k : Int) + 1) := by omega
  go_enter Tryd.func9, Tryd.ntmps9
  go_wp2_with (go_at_call 18; refine (rrungs_any _).mono ?_; rintro e w1 ⟨rfl, hb1, hr1⟩; have hc := hr1 k hk)
  go_ret
  exact ⟨rfl, hb1⟩
theorem rrung_any (i : Int) (w : World) : Calls Tryd.prog 9 #[.int .i64 i] w fun e w' => e = .returned (.int .u64 (rungV i)) ∧ Below w.heap.size w w' := by
  unfold rungV
  by_cases h : i < 1 ∨ 32 < i
  · rw [if_pos h]; exact rrung_no i h w
  · rw [if_neg h]
    obtain ⟨k, rfl⟩ : ∃ k : Nat, i = (k : Int) + 1 := ⟨(i - 1).toNat, by omega⟩
    rw [show ((k : Int) + 1 - 1).toNat = k by omega]
    exact rrung_yes k (by omega) w
end Go.Proofs.YtbnokceagaodkaaDoor
