/-
  LAYER 11: package config: ranges.
-/
import Derived.Test.YtjgllfpnmmopdaaGreatDoorCpBq
import Derived.Deep.LoopGhost
namespace Go.Proofs.YtjgllfpnmmopdaaGreatDoor
open Go.RowKit Wd Cg

def numZ (c : Cf) : Nat → Int
  | 0 => c.nodes
  | 1 => c.queue
  | 2 => c.limit
  | 3 => c.age
  | 4 => c.fair
  | 5 => c.size
  | 6 => c.period
  | _ => c.half
def loZ : Nat → Int
  | 4 => 0
  | 5 => 0
  | _ => 1
def hiZ : Nat → Int
  | 0 => 256
  | 1 => 128
  | 7 => 1073741824
  | _ => 1048576
theorem idx_rng (c : Cf) {j : Nat} (hj : j < 8) (w : World) : (Instr.index 132 (.agg #[.int .i64 c.nodes, .int .i64 1, .int .i64 256, .int .i64 c.queue, .int .i64 1, .int .i64 128, .int .i64 c.limit, .int .i64 1, .int .i64 1048576, .int .i64 c.age, .int .i64 1, .int .i64 1048576, .int .i64 c.fair, .int .i64 0, .int .i64 1048576, .int .i64 c.size, .int .i64 0, .int .i64 1048576, .int .i64 c.period, .int .i64 1, .int .i64 1048576, .int .i64 c.half, .int .i64 1, .int .i64 1073741824]) (.int .i64 j)).run Tryz.prog w = .ok (.agg #[.int .i64 (numZ c j), .int .i64 (loZ j), .int .i64 (hiZ j)]) w := by
  obtain rfl | rfl | rfl | rfl | rfl | rfl | rfl | rfl : j = 0 ∨ j = 1 ∨ j = 2 ∨ j = 3 ∨ j = 4 ∨ j = 5 ∨ j = 6 ∨ j = 7 := by omega
  all_goals simp [Instr.index, run_underlying Tryz.underlying132, asIntOf, go_sem, numZ, loZ, hiZ]
theorem rng_all {c : Cf} : Rng c ↔ ∀ j, j < 8 → loZ j ≤ numZ c j ∧ numZ c j ≤ hiZ j := by
  constructor
  · intro r j hj
    obtain ⟨_, _, _, _, _, _, _, _, _, _, _, _, _, _, _, _⟩ := r
    obtain rfl | rfl | rfl | rfl | rfl | rfl | rfl | rfl : j = 0 ∨ j = 1 ∨ j = 2 ∨ j = 3 ∨ j = 4 ∨ j = 5 ∨ j = 6 ∨ j = 7 := by omega
    all_goals simp only [numZ, loZ, hiZ]
    all_goals omega
  · intro h
    have h0 := h 0 (by omega)
    have h1 := h 1 (by omega)
    have h2 := h 2 (by omega)
    have h3 := h 3 (by omega)
    have h4 := h 4 (by omega)
    have h5 := h 5 (by omega)
    have h6 := h 6 (by omega)
    have h7 := h 7 (by omega)
    exact ⟨h0.1, h0.2, h1.1, h1.2, h2.1, h2.2, h3.1, h3.2, h4.1, h4.2, h5.1, h5.2, h6.1, h6.2, h7.1, h7.2⟩
set_option maxHeartbeats 2000000 in
set_option maxRecDepth 20000 in
theorem prefuse_ranges (c : Cf) {v0 : Int} (hy : Rng c → v0 = 0) (hn : ¬ Rng c → v0 = 110) (w : World) : Calls Tryz.prog 60 #[cfV c] w fun e w' => e = .returned (.int .i64 v0) ∧ Below w.heap.size w w' := by
  have HY : Hid (Rng c → v0 = 0) := hy
  have HN : Hid (¬ Rng c → v0 = 110) := hn
  clear hy hn
  unfold cfV
  go_enter Tryz.func60, Tryz.ntmps60
  go_wp2
  go_loopg [30] 8 (fun gk v wr => ∃ j : Nat, j + gk = 8 ∧ v = .int .i64 (j : Int) ∧ Below w.heap.size w wr ∧ ∀ i, i < j → loZ i ≤ numZ c i ∧ numZ c i ≤ hiZ i)
  case atStart => exact ⟨0, by omega, rfl, (Below.refl _ _).alloc (Nat.le_refl _) _, fun i hi => absurd hi (by omega)⟩
  case round =>
    obtain ⟨j, hj, rfl, hB, hinv⟩ := hrel
    replace hinv : Hid (∀ i, i < j → loZ i ≤ numZ c i ∧ numZ c i ≤ hiZ i) := hinv
    replace hB : Hid (Below w.heap.size w wr) := hB
    by_cases hlt : j < 8
    · have hlt' : (j : Int) < 8 := by omega
      have hi := idx_rng c hlt
      have hB2 : Hid (Below w.heap.size w (wr.alloc (.cells #[.int .i64 (numZ c j), .int .i64 (loZ j), .int .i64 (hiZ j)] 131))) := hB.out.alloc hB.out.size _
      by_cases h1 : numZ c j < loZ j
      · have e0 : v0 = 110 := HN.out fun r => by have := (rng_all.1 r j hlt).1; omega
        replace e0 : Hid (v0 = 110) := e0
        clear HY HN hinv
        go_wp2
        go_ret
        exact ⟨by rw [e0.out]; rfl, hB2.out⟩
      · by_cases h2 : hiZ j < numZ c j
        · have e0 : v0 = 110 := HN.out fun r => by have := (rng_all.1 r j hlt).2; omega
          replace e0 : Hid (v0 = 110) := e0
          clear HY HN hinv
          go_wp2
          go_ret
          exact ⟨by rw [e0.out]; rfl, hB2.out⟩
        · have hnx : Hid (∀ i, i < j + 1 → loZ i ≤ numZ c i ∧ numZ c i ≤ hiZ i) := fun i hi => by
            by_cases he : i = j
            · subst he; omega
            · exact hinv.out i (by omega)
          clear hinv
          go_wp2
          go_roundg (8 - (j + 1))
          case measure => omega
          case rel => exact ⟨j + 1, by omega, by go_num, hB2.out, hnx.out⟩
    · obtain rfl : j = 8 := by omega
      have e0 : v0 = 0 := HY.out (rng_all.2 hinv.out)
      replace e0 : Hid (v0 = 0) := e0
      clear HY HN hinv
      go_wp2
      go_ret
      exact ⟨by rw [e0.out]; rfl, hB.out⟩
end Go.Proofs.YtjgllfpnmmopdaaGreatDoor
