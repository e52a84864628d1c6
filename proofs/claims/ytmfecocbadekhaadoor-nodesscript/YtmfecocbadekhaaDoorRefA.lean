/-
  THE REFERENCE's set: which of its nodes are taken, in a slice of bools. New, List, Free, Has.
-/
import Derived.Test.YtmfecocbadekhaaDoorMathL
namespace Go.Proofs.YtmfecocbadekhaaDoor
open Go.RowKit Nd

theorem Tryd.info4 : (Tryd.prog.info? 4).map (fun i => (i.zero, i.size, i.bytes)) = some (some (.bool false), 1, 1) := by kernel_rfl

/-- A machine's row of bools: node k is taken where F's bit is 0. -/
def bvals (F n : Nat) : List Value := (List.range n).map fun k => .bool (!F.testBit k)
/-- In w block d is the reference's set of n nodes, its row in block g. -/
structure RefIn (w : World) (d g cap n F : Nat) : Prop where
  dg : d ≠ g
  blk : w.heap[d]? = some (.cells #[.slice (some ⟨g, 0, none⟩) n cap] 58 (0, 0))
  row : w.ownsRow 0 4 1 (.slice (some ⟨g, 0, none⟩) n cap) n (bvals F n)
  hi : n ≤ 256
  top : F < 2 ^ n

section
variable {w : World} {d g cap n F : Nat}
theorem RefIn.cell (h : RefIn w d g cap n F) : w.cell? ⟨d, 0, none⟩ = some (.slice (some ⟨g, 0, none⟩) n cap) := by simp [World.cell?, h.blk]
theorem RefIn.free (h : RefIn w d g cap n F) : w.frozen? ⟨d, 0, none⟩ = false := by simp [World.frozen?, h.blk]
theorem RefIn.at (h : RefIn w d g cap n F) (k : Nat) (hk : k < n) : w.cell? ⟨g, k, none⟩ = some (.bool (!F.testBit k)) := by
  have := h.row.cells (g := g) rfl k (.bool (!F.testBit k)) (by simp [bvals, hk])
  have ha : (⟨g, 0, none⟩ : Addr).add k = ⟨g, k, none⟩ := by unfold Addr.add; split <;> simp_all
  rwa [ha] at this
theorem RefIn.bit (h : RefIn w d g cap n F) (k : Nat) (hk : n ≤ k) : F.testBit k = false := Nat.testBit_lt_two_pow (Nat.lt_of_lt_of_le h.top (Nat.pow_le_pow_right (by decide) hk))
theorem RefIn.dlt (h : RefIn w d g cap n F) : d < w.heap.size := (Array.getElem?_eq_some_iff.1 h.blk).1
end

theorem rhas_any (d g cap n F : Nat) (k : Int) (w : World) (h : RefIn w d g cap n F) :
    Calls Tryd.prog 27 #[.pointer (some ⟨d, 0, none⟩), .int .i64 k] w fun e w' => e = .returned (.bool (hasB F k)) ∧ w' = w := by
  have hc := h.cell
  by_cases h0 : 0 ≤ k
  · obtain ⟨m, rfl⟩ : ∃ m : Nat, k = m := ⟨k.toNat, by omega⟩
    by_cases hm : m < n
    · have hk := h.at m hm
      go_enter Tryd.func27, Tryd.ntmps27
      go_wp2
      go_ret
      exact ⟨by simp [hasB], rfl⟩
    · have HB : Hid (hasB F (m : Int) = false) := by simp [Hid, hasB, h.bit m (by omega)]
      go_enter Tryd.func27, Tryd.ntmps27
      go_wp2
      go_ret
      exact ⟨ret_b HB.out.symm, rfl⟩
  · have HB : Hid (hasB F k = false) := by simp [Hid, hasB, h0]
    go_enter Tryd.func27, Tryd.ntmps27
    go_wp2
    go_ret
    exact ⟨ret_b HB.out.symm, rfl⟩
end Go.Proofs.YtmfecocbadekhaaDoor
