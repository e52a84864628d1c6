/-
  THE CONTRACTS OF PACKAGE ladder: Rung.
-/
import Derived.Test.YtbnokceagaodkaaDoorWide
import Derived.Test.YtbnokceagaodkaaDoorLadN
import Derived.WalkMore
import Derived.Deep.LoopGhost
namespace Go.Proofs.YtbnokceagaodkaaDoor
open Go.RowKit Wd Ld

/-- What the table of Rungs holds. -/
def Tab (w : World) : Prop := ∀ j, j < 32 → w.cell? ⟨0, j, none⟩ = some (.int .u64 (R j : Nat))
theorem Tab.below {w w' : World} (h : Below w.heap.size w w') (hT : Tab w) : Tab w' := fun j hj => keepC h (hT j hj)
theorem Tab.alloc {w : World} (o : Obj) (hT : Tab w) : Tab (w.alloc o) := fun j hj => allocC o (hT j hj)
def rungV (i : Int) : Int := if i < 1 ∨ 32 < i then 0 else (R (i - 1).toNat : Nat)

theorem rung_no (i : Int) (h : i < 1 ∨ 32 < i) (w : World) : Calls Tryd.prog 8 #[.int .i64 i] w fun e w' => e = .returned (.int .u64 0) ∧ w' = w := by
  rcases h with h | h
  · go_enter Tryd.func8, Tryd.ntmps8
    go_wp2
    go_ret
    exact ⟨rfl, rfl⟩
  · by_cases h1 : i < 1
    · omega
    · go_enter Tryd.func8, Tryd.ntmps8
      go_wp2
      go_ret
      exact ⟨rfl, rfl⟩
theorem rung_yes (k : Nat) (hk : k < 32) (w : World) (hT : Tab w) : Calls Tryd.prog 8 #[.int .i64 (k + 1 : Int)] w fun e w' => e = .returned (.int .u64 (R k : Nat)) ∧ w' = w := by
  have hc := hT k hk
  have h1 : ¬ ((k : Int) + 1 < 1) := by omega
  have h2 : ¬ (32 < (k : Int) + 1) := by omega
  go_enter Tryd.func8, Tryd.ntmps8
  go_wp2
  go_ret
  exact ⟨rfl, rfl⟩
theorem rung_any (i : Int) (w : World) (hT : Tab w) : Calls Tryd.prog 8 #[.int .i64 i] w fun e w' => e = .returned (.int .u64 (rungV i)) ∧ w' = w := by
  unfold rungV
  by_cases h : i < 1 ∨ 32 < i
  · rw [if_pos h]; exact rung_no i h w
  · rw [if_neg h]
    obtain ⟨k, rfl⟩ : ∃ k : Nat, i = (k : Int) + 1 := ⟨(i - 1).toNat, by omega⟩
    rw [show ((k : Int) + 1 - 1).toNat = k by omega]
    exact rung_yes k (by omega) w hT
end Go.Proofs.YtbnokceagaodkaaDoor
