/-
  LAYER 11: package config: Check.
-/
import Derived.Test.YtjgllfpnmmopdaaGreatDoorCpCq
import Derived.Test.YtjgllfpnmmopdaaGreatDoorCpDq
import Derived.Laws.ByValue
namespace Go.Proofs.YtjgllfpnmmopdaaGreatDoor
open Go.RowKit Wd Cg

theorem idx_fn (a b c d : Value) (w : World) : (Instr.index 98 (.agg #[a, b, c, d]) (.int .i64 0)).run Tryz.prog w = .ok a w ∧ (Instr.index 98 (.agg #[a, b, c, d]) (.int .i64 1)).run Tryz.prog w = .ok b w ∧ (Instr.index 98 (.agg #[a, b, c, d]) (.int .i64 2)).run Tryz.prog w = .ok c w ∧ (Instr.index 98 (.agg #[a, b, c, d]) (.int .i64 3)).run Tryz.prog w = .ok d w := by
  refine ⟨?_, ?_, ?_, ?_⟩
  all_goals simp [Instr.index, run_underlying Tryz.underlying98, asIntOf, go_sem]
set_option maxHeartbeats 2000000 in
set_option maxRecDepth 20000 in
theorem pcheck_walk {c : Cf} {e0 e1 e2 e3 v0 : Int} (c0 : ∀ w, Calls Tryz.prog 60 #[cfV c] w fun e w' => e = .returned (.int .i64 e0) ∧ Below w.heap.size w w')
    (c1 : e0 = 0 → ∀ w, Calls Tryz.prog 61 #[cfV c] w fun e w' => e = .returned (.int .i64 e1) ∧ Below w.heap.size w w')
    (c2 : e0 = 0 → e1 = 0 → ∀ w, Calls Tryz.prog 62 #[cfV c] w fun e w' => e = .returned (.int .i64 e2) ∧ Below w.heap.size w w')
    (c3 : e0 = 0 → e1 = 0 → e2 = 0 → ∀ w, Calls Tryz.prog 63 #[cfV c] w fun e w' => e = .returned (.int .i64 e3) ∧ Below w.heap.size w w')
    (hv : v0 = if e0 = 0 then (if e1 = 0 then (if e2 = 0 then e3 else e2) else e1) else e0) (w : World) :
    Calls Tryz.prog 30 #[cfV c] w fun e w' => e = .returned (.int .i64 v0) ∧ Below w.heap.size w w' := by
  replace hv : Hid (v0 = if e0 = 0 then (if e1 = 0 then (if e2 = 0 then e3 else e2) else e1) else e0) := hv
  replace c1 : Hid (e0 = 0 → ∀ w, Calls Tryz.prog 61 #[cfV c] w fun e w' => e = .returned (.int .i64 e1) ∧ Below w.heap.size w w') := c1
  replace c2 : Hid (e0 = 0 → e1 = 0 → ∀ w, Calls Tryz.prog 62 #[cfV c] w fun e w' => e = .returned (.int .i64 e2) ∧ Below w.heap.size w w') := c2
  replace c3 : Hid (e0 = 0 → e1 = 0 → e2 = 0 → ∀ w, Calls Tryz.prog 63 #[cfV c] w fun e w' => e = .returned (.int .i64 e3) ∧ Below w.heap.size w w') := c3
  unfold cfV at *
  go_enter Tryz.func30, Tryz.ntmps30
  go_wp2
  go_loopg [17] 4 (fun gk v wr => ∃ i : Int, i + gk = 4 ∧ 0 ≤ i ∧ v = .int .i64 i ∧ Below w.heap.size w wr ∧ (1 ≤ i → e0 = 0) ∧ (2 ≤ i → e1 = 0) ∧ (3 ≤ i → e2 = 0) ∧ (4 ≤ i → e3 = 0))
  case atStart => exact ⟨0, by omega, by omega, rfl, ((Below.refl _ _).alloc (Nat.le_refl _) _).alloc (by simp) _, by omega, by omega, by omega, by omega⟩
  case round =>
    obtain ⟨i, hi, hi0, rfl, hB, h0, h1, h2, h3⟩ := hrel
    replace hB : Hid (Below w.heap.size w wr) := hB
    have ix := idx_fn
    obtain rfl | rfl | rfl | rfl | rfl : i = 0 ∨ i = 1 ∨ i = 2 ∨ i = 3 ∨ i = 4 := by omega
    · have ck : ∀ w, Calls Tryz.prog 60 #[.agg #[.int .i64 c.nodes, .int .i64 c.queue, .int .i64 c.limit, .int .i64 c.age, .int .i64 c.fair, .int .i64 c.size, .int .i64 c.period, .int .i64 c.half]] w fun e w' => e = .returned (.int .i64 e0) ∧ Below w.heap.size w w' := c0
      by_cases hz : e0 = 0
      · have HR : Hid ((1 ≤ (1 : Int) → e0 = 0) ∧ (2 ≤ (1 : Int) → e1 = 0) ∧ (3 ≤ (1 : Int) → e2 = 0) ∧ (4 ≤ (1 : Int) → e3 = 0)) := ⟨fun _ => by first | exact hz | exact h0 (by omega), fun h => by first | exact hz | exact h1 (by omega) | omega, fun h => by first | exact hz | exact h2 (by omega) | omega, fun h => by first | exact hz | omega⟩
        have hzn : (e0 != 0) = false := by simp [hz]
        replace hz : Hid (e0 = 0) := hz
        clear h0 h1 h2 h3 hz
        go_wp2_with fail
        refine (ck _).mono ?_
        rintro e w1 ⟨rfl, b1⟩
        have B1 : Hid (Below w.heap.size w w1) := hB.out.trans (b1.mono hB.out.size)
        clear b1
        go_wp2
        go_roundg 3
        case measure => omega
        case rel => exact ⟨1, by omega, by omega, by go_num, B1.out, HR.out⟩
      · have HV : Hid (v0 = e0) := by
          have h := hv.out
          rw [if_neg hz] at h
          exact h
        have hzn : (e0 != 0) = true := by simp [hz]
        clear h0 h1 h2 h3
        go_wp2_with fail
        refine (ck _).mono ?_
        rintro e w1 ⟨rfl, b1⟩
        have B1 : Hid (Below w.heap.size w w1) := hB.out.trans (b1.mono hB.out.size)
        clear b1
        go_wp2
        go_ret
        exact ⟨by rw [HV.out]; rfl, B1.out⟩
    · have ck : ∀ w, Calls Tryz.prog 61 #[.agg #[.int .i64 c.nodes, .int .i64 c.queue, .int .i64 c.limit, .int .i64 c.age, .int .i64 c.fair, .int .i64 c.size, .int .i64 c.period, .int .i64 c.half]] w fun e w' => e = .returned (.int .i64 e1) ∧ Below w.heap.size w w' := (c1.out (h0 (by omega)))
      by_cases hz : e1 = 0
      · have HR : Hid ((1 ≤ (2 : Int) → e0 = 0) ∧ (2 ≤ (2 : Int) → e1 = 0) ∧ (3 ≤ (2 : Int) → e2 = 0) ∧ (4 ≤ (2 : Int) → e3 = 0)) := ⟨fun _ => by first | exact hz | exact h0 (by omega), fun h => by first | exact hz | exact h1 (by omega) | omega, fun h => by first | exact hz | exact h2 (by omega) | omega, fun h => by first | exact hz | omega⟩
        have hzn : (e1 != 0) = false := by simp [hz]
        replace hz : Hid (e1 = 0) := hz
        clear h0 h1 h2 h3 hz
        go_wp2_with fail
        refine (ck _).mono ?_
        rintro e w1 ⟨rfl, b1⟩
        have B1 : Hid (Below w.heap.size w w1) := hB.out.trans (b1.mono hB.out.size)
        clear b1
        go_wp2
        go_roundg 2
        case measure => omega
        case rel => exact ⟨2, by omega, by omega, by go_num, B1.out, HR.out⟩
      · have HV : Hid (v0 = e1) := by
          have h := hv.out
          rw [if_pos (h0 (by omega)), if_neg hz] at h
          exact h
        have hzn : (e1 != 0) = true := by simp [hz]
        clear h0 h1 h2 h3
        go_wp2_with fail
        refine (ck _).mono ?_
        rintro e w1 ⟨rfl, b1⟩
        have B1 : Hid (Below w.heap.size w w1) := hB.out.trans (b1.mono hB.out.size)
        clear b1
        go_wp2
        go_ret
        exact ⟨by rw [HV.out]; rfl, B1.out⟩
    · have ck : ∀ w, Calls Tryz.prog 62 #[.agg #[.int .i64 c.nodes, .int .i64 c.queue, .int .i64 c.limit, .int .i64 c.age, .int .i64 c.fair, .int .i64 c.size, .int .i64 c.period, .int .i64 c.half]] w fun e w' => e = .returned (.int .i64 e2) ∧ Below w.heap.size w w' := (c2.out (h0 (by omega)) (h1 (by omega)))
      by_cases hz : e2 = 0
      · have HR : Hid ((1 ≤ (3 : Int) → e0 = 0) ∧ (2 ≤ (3 : Int) → e1 = 0) ∧ (3 ≤ (3 : Int) → e2 = 0) ∧ (4 ≤ (3 : Int) → e3 = 0)) := ⟨fun _ => by first | exact hz | exact h0 (by omega), fun h => by first | exact hz | exact h1 (by omega) | omega, fun h => by first | exact hz | exact h2 (by omega) | omega, fun h => by first | exact hz | omega⟩
        have hzn : (e2 != 0) = false := by simp [hz]
        replace hz : Hid (e2 = 0) := hz
        clear h0 h1 h2 h3 hz
        go_wp2_with fail
        refine (ck _).mono ?_
        rintro e w1 ⟨rfl, b1⟩
        have B1 : Hid (Below w.heap.size w w1) := hB.out.trans (b1.mono hB.out.size)
        clear b1
        go_wp2
        go_roundg 1
        case measure => omega
        case rel => exact ⟨3, by omega, by omega, by go_num, B1.out, HR.out⟩
      · have HV : Hid (v0 = e2) := by
          have h := hv.out
          rw [if_pos (h0 (by omega)), if_pos (h1 (by omega)), if_neg hz] at h
          exact h
        have hzn : (e2 != 0) = true := by simp [hz]
        clear h0 h1 h2 h3
        go_wp2_with fail
        refine (ck _).mono ?_
        rintro e w1 ⟨rfl, b1⟩
        have B1 : Hid (Below w.heap.size w w1) := hB.out.trans (b1.mono hB.out.size)
        clear b1
        go_wp2
        go_ret
        exact ⟨by rw [HV.out]; rfl, B1.out⟩
    · have ck : ∀ w, Calls Tryz.prog 63 #[.agg #[.int .i64 c.nodes, .int .i64 c.queue, .int .i64 c.limit, .int .i64 c.age, .int .i64 c.fair, .int .i64 c.size, .int .i64 c.period, .int .i64 c.half]] w fun e w' => e = .returned (.int .i64 e3) ∧ Below w.heap.size w w' := (c3.out (h0 (by omega)) (h1 (by omega)) (h2 (by omega)))
      by_cases hz : e3 = 0
      · have HR : Hid ((1 ≤ (4 : Int) → e0 = 0) ∧ (2 ≤ (4 : Int) → e1 = 0) ∧ (3 ≤ (4 : Int) → e2 = 0) ∧ (4 ≤ (4 : Int) → e3 = 0)) := ⟨fun _ => by first | exact hz | exact h0 (by omega), fun h => by first | exact hz | exact h1 (by omega) | omega, fun h => by first | exact hz | exact h2 (by omega) | omega, fun h => by first | exact hz | omega⟩
        have hzn : (e3 != 0) = false := by simp [hz]
        replace hz : Hid (e3 = 0) := hz
        clear h0 h1 h2 h3 hz
        go_wp2_with fail
        refine (ck _).mono ?_
        rintro e w1 ⟨rfl, b1⟩
        have B1 : Hid (Below w.heap.size w w1) := hB.out.trans (b1.mono hB.out.size)
        clear b1
        go_wp2
        go_roundg 0
        case measure => omega
        case rel => exact ⟨4, by omega, by omega, by go_num, B1.out, HR.out⟩
      · have HV : Hid (v0 = e3) := by
          have h := hv.out
          rw [if_pos (h0 (by omega)), if_pos (h1 (by omega)), if_pos (h2 (by omega))] at h
          exact h
        have hzn : (e3 != 0) = true := by simp [hz]
        clear h0 h1 h2 h3
        go_wp2_with fail
        refine (ck _).mono ?_
        rintro e w1 ⟨rfl, b1⟩
        have B1 : Hid (Below w.heap.size w w1) := hB.out.trans (b1.mono hB.out.size)
        clear b1
        go_wp2
        go_ret
        exact ⟨by rw [HV.out]; rfl, B1.out⟩
    · have HV : Hid (v0 = 0) := by
        have h := hv.out
        rw [if_pos (h0 (by omega)), if_pos (h1 (by omega)), if_pos (h2 (by omega)), h3 (by omega)] at h
        exact h
      clear h0 h1 h2 h3
      go_wp2
      go_ret
      exact ⟨by rw [HV.out]; rfl, hB.out⟩
theorem pcheck_any (c : Cf) (w : World) : Calls Tryz.prog 30 #[cfV c] w fun e w' => e = .returned (.int .i64 (chkZ c)) ∧ Below w.heap.size w w' := by
  unfold chkZ
  by_cases r : Rng c
  · rw [if_neg (fun h => h r)]
    by_cases hm : 2147483648 < mZ c
    · rw [if_pos hm]
      exact pcheck_walk (e2 := 0) (e3 := 0) (prefuse_ranges c (fun _ => rfl) (fun h => absurd r h)) (fun _ => prefuse_usage r) (fun _ h => absurd h (by rw [if_pos hm]; omega)) (fun _ h => absurd h (by rw [if_pos hm]; omega)) (by rw [if_pos rfl, if_pos hm, if_neg (by omega)]) w
    · rw [if_neg hm]
      exact pcheck_walk (prefuse_ranges c (fun _ => rfl) (fun h => absurd r h)) (fun _ => prefuse_usage r) (fun _ _ => prefuse_scale r) (fun _ _ _ => prefuse_rounding r (by omega)) (by rw [if_pos rfl, if_neg hm, if_pos rfl, if_pos rfl]) w
  · rw [if_pos r]
    exact pcheck_walk (e1 := 0) (e2 := 0) (e3 := 0) (prefuse_ranges c (fun h => absurd h r) (fun _ => rfl)) (fun h => absurd h (by omega)) (fun h => absurd h (by omega)) (fun h => absurd h (by omega)) (by rw [if_neg (by omega)]) w
end Go.Proofs.YtjgllfpnmmopdaaGreatDoor
