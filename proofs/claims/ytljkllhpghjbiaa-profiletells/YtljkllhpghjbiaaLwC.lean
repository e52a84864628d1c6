/-
  Layer 5's statements: still: as it was, and then written over.
-/
import Derived.Test.YtljkllhpghjbiaaLwB
import Derived.Test.YtljkllhpghjbiaaCol
namespace Go.Proofs.Ytljkllhpghjbiaa
open Go.RowKit Pr

set_option maxHeartbeats 2000000 in
theorem still_any {w : World} {g cap : Nat} {cur : Array Value} {ao : Option Addr} {l : List Rn} {c : Nat}
    (hg : w.heap[g]? = some (.cells cur 42 (0, 0))) (hcap : l.length + 1 ≤ cap)
    (hcur : ∀ j x, (l ++ [⟨-77, 0⟩])[j]? = some x → cur[j * 2]? = some (.int .i64 x.nd) ∧ cur[j * 2 + 1]? = some (.int .i64 x.en))
    (hA : RunsAt w ao l) (hn : l.length * 16 + 16 ≤ 140737488355328) :
    Calls Try.prog 16 #[.slice (some ⟨g, 0, none⟩) (l.length + 1) cap, .slice ao l.length c] w fun e w' => e = .returned (.bool true) ∧ Chg (fun j => j = g) w w' := by
  obtain ⟨q, hq⟩ : ∃ q, l.length = q := ⟨_, rfl⟩
  have hB : RunsAt w (some ⟨g, 0, none⟩) l := ⟨g, 0, fun _ => rfl, fun k r hr => by
    have := hcur k r (by rw [List.getElem?_append_left (List.getElem?_eq_some_iff.1 hr).1]; exact hr)
    rw [Nat.zero_add]
    exact ⟨cells_at hg this.1, cells_at hg this.2⟩⟩
  have hsz : (q + 1) * 2 ≤ cur.size := by
    have := (Array.getElem?_eq_some_iff.1 (hcur q ⟨-77, 0⟩ (by rw [List.getElem?_append_right (by omega), ← hq]; simp)).2).1
    omega
  have hlast : w.cell? ⟨g, q * 2, none⟩ = some (.int .i64 (-77)) := cells_at hg (hcur q ⟨-77, 0⟩ (by rw [List.getElem?_append_right (by omega), ← hq]; simp)).1
  have hsame := sameRuns_yes (cap1 := cap) (cap2 := c) hB hA (by omega)
  rw [hq] at hsame hcap hn ⊢
  clear hB hA hcur
  go_enter Try.func16, Try.ntmps16
  go_wp2_with fail
  refine hsame.mono ?_
  rintro e w1 ⟨rfl, b1⟩
  have hg1 := (b1.block g (Array.getElem?_eq_some_iff.1 hg).1).trans hg
  have hl1 : w1.cell? ⟨g, q * 2, none⟩ = some (.int .i64 (-77)) := (b1.cell (World.block_lt_of_cell? w _ hlast)).trans hlast
  have HC : Hid (Chg (fun j => j = g) w w1) := Chg.of_below b1 _
  clear hsame hlast
  go_wp2_with fail
  go_loopg [7] (q + 1) (fun gk p wr => ∃ (j : Nat) (cu : Array Value), j + gk = q + 1 ∧ p = .int .i64 j ∧ Chg (fun j => j = g) w wr ∧ wr.heap[g]? = some (.cells cu 42 (0, 0)) ∧ (q + 1) * 2 ≤ cu.size)
  case atStart => exact ⟨0, cur, by omega, rfl, HC.out, hg1, hsz⟩
  case round =>
    obtain ⟨j, cu, hj, rfl, hc, hgu, hsu⟩ := hrel
    by_cases hlt : j < q + 1
    · have c1 : wr.cell? ⟨g, j * 2, none⟩ = some cu[j * 2] := cells_at hgu (Array.getElem?_eq_getElem (by omega))
      have c2 : wr.cell? ⟨g, j * 2 + 1, none⟩ = some cu[j * 2 + 1] := cells_at hgu (Array.getElem?_eq_getElem (by omega))
      have f1 : ∀ k, wr.frozen? ⟨g, k, none⟩ = false := fun k => frozen_at hgu
      have HG : Hid _ := hgu
      have HCC : Hid _ := hc
      clear hgu hc hg1 hl1 hg
      go_wp2
      go_roundg (q + 1 - (j + 1))
      case measure => omega
      case rel =>
        exact ⟨j + 1, _, by omega, rfl, (HCC.out.setCell _ _ (.inl rfl)).setCell _ _ (.inl rfl), heap_setCell_same _ g _ _ 42 _ (heap_setCell_same wr g _ cu 42 _ HG.out), by simpa using hsu⟩
    · obtain rfl : j = q + 1 := by omega
      clear hgu hg1 hl1 hg
      go_wp2
      go_ret
      exact ⟨rfl, hc⟩
end Go.Proofs.Ytljkllhpghjbiaa
