/-
  LAYER 11: package config: ranges.
  LAYER 11: package config: Check.
  LAYER 11: package config: Lead, Bound, Most, Floor, Off; what the statements ask.
-/
import Derived.Test.YtbcinapnnlfnbaaCpBq
import Derived.Deep.LoopGhost
import Derived.Test.YtbcinapnnlfnbaaCpCq
import Derived.Laws.ByValue
import Derived.Test.YtbcinapnnlfnbaaXcf
namespace Go.Proofs.Ytbcinapnnlfnbaa
open Go.RowKit Wd Cg

def numZ (c : Cf) : Nat → Int
  | 0 => c.nodes
  | 1 => c.queue
  | 2 => c.limit
  | 3 => c.age
  | 4 => c.fair
  | 5 => c.size
  | 6 => c.period
  | _ => c.half
def loZ : Nat → Int
  | 4 => 0
  | 5 => 0
  | _ => 1
def hiZ : Nat → Int
  | 0 => 256
  | 1 => 128
  | 7 => 1073741824
  | _ => 1048576
theorem idx_rng (c : Cf) {j : Nat} (hj : j < 8) (w : World) : (Instr.index 75 (.agg #[.int .i64 c.nodes, .int .i64 1, .int .i64 256, .int .i64 c.queue, .int .i64 1, .int .i64 128, .int .i64 c.limit, .int .i64 1, .int .i64 1048576, .int .i64 c.age, .int .i64 1, .int .i64 1048576, .int .i64 c.fair, .int .i64 0, .int .i64 1048576, .int .i64 c.size, .int .i64 0, .int .i64 1048576, .int .i64 c.period, .int .i64 1, .int .i64 1048576, .int .i64 c.half, .int .i64 1, .int .i64 1073741824]) (.int .i64 j)).run Try.prog w = .ok (.agg #[.int .i64 (numZ c j), .int .i64 (loZ j), .int .i64 (hiZ j)]) w := by
  obtain rfl | rfl | rfl | rfl | rfl | rfl | rfl | rfl : j = 0 ∨ j = 1 ∨ j = 2 ∨ j = 3 ∨ j = 4 ∨ j = 5 ∨ j = 6 ∨ j = 7 := by omega
  all_goals simp [Instr.index, run_underlying Try.underlying75, asIntOf, go_sem, numZ, loZ, hiZ]
theorem rng_all {c : Cf} : Rng c ↔ ∀ j, j < 8 → loZ j ≤ numZ c j ∧ numZ c j ≤ hiZ j := by
  constructor
  · intro r j hj
    obtain ⟨_, _, _, _, _, _, _, _, _, _, _, _, _, _, _, _⟩ := r
    obtain rfl | rfl | rfl | rfl | rfl | rfl | rfl | rfl : j = 0 ∨ j = 1 ∨ j = 2 ∨ j = 3 ∨ j = 4 ∨ j = 5 ∨ j = 6 ∨ j = 7 := by omega
    all_goals simp only [numZ, loZ, hiZ]
    all_goals omega
  · intro h
    have h0 := h 0 (by omega)
    have h1 := h 1 (by omega)
    have h2 := h 2 (by omega)
    have h3 := h 3 (by omega)
    have h4 := h 4 (by omega)
    have h5 := h 5 (by omega)
    have h6 := h 6 (by omega)
    have h7 := h 7 (by omega)
    exact ⟨h0.1, h0.2, h1.1, h1.2, h2.1, h2.2, h3.1, h3.2, h4.1, h4.2, h5.1, h5.2, h6.1, h6.2, h7.1, h7.2⟩
set_option maxHeartbeats 2000000 in
set_option maxRecDepth 20000 in
theorem prefuse_ranges (c : Cf) {v0 : Int} (hy : Rng c → v0 = 0) (hn : ¬ Rng c → v0 = 110) (w : World) : Calls Try.prog 24 #[cfV c] w fun e w' => e = .returned (.int .i64 v0) ∧ Below w.heap.size w w' := by
  have HY : Hid (Rng c → v0 = 0) := hy
  have HN : Hid (¬ Rng c → v0 = 110) := hn
  clear hy hn
  unfold cfV
  go_enter Try.func24, Try.ntmps24
  go_wp2
  go_loopg [30] 8 (fun gk v wr => ∃ j : Nat, j + gk = 8 ∧ v = .int .i64 (j : Int) ∧ Below w.heap.size w wr ∧ ∀ i, i < j → loZ i ≤ numZ c i ∧ numZ c i ≤ hiZ i)
  case atStart => exact ⟨0, by omega, rfl, (Below.refl _ _).alloc (Nat.le_refl _) _, fun i hi => absurd hi (by omega)⟩
  case round =>
    obtain ⟨j, hj, rfl, hB, hinv⟩ := hrel
    replace hinv : Hid (∀ i, i < j → loZ i ≤ numZ c i ∧ numZ c i ≤ hiZ i) := hinv
    replace hB : Hid (Below w.heap.size w wr) := hB
    by_cases hlt : j < 8
    · have hlt' : (j : Int) < 8 := by omega
      have hi := idx_rng c hlt
      have hB2 : Hid (Below w.heap.size w (wr.alloc (.cells #[.int .i64 (numZ c j), .int .i64 (loZ j), .int .i64 (hiZ j)] 74))) := hB.out.alloc hB.out.size _
      by_cases h1 : numZ c j < loZ j
      · have e0 : v0 = 110 := HN.out fun r => by have := (rng_all.1 r j hlt).1; omega
        replace e0 : Hid (v0 = 110) := e0
        clear HY HN hinv
        go_wp2
        go_ret
        exact ⟨by rw [e0.out]; rfl, hB2.out⟩
      · by_cases h2 : hiZ j < numZ c j
        · have e0 : v0 = 110 := HN.out fun r => by have := (rng_all.1 r j hlt).2; omega
          replace e0 : Hid (v0 = 110) := e0
          clear HY HN hinv
          go_wp2
          go_ret
          exact ⟨by rw [e0.out]; rfl, hB2.out⟩
        · have hnx : Hid (∀ i, i < j + 1 → loZ i ≤ numZ c i ∧ numZ c i ≤ hiZ i) := fun i hi => by
            by_cases he : i = j
            · subst he; omega
            · exact hinv.out i (by omega)
          clear hinv
          go_wp2
          go_roundg (8 - (j + 1))
          case measure => omega
          case rel => exact ⟨j + 1, by omega, by go_num, hB2.out, hnx.out⟩
    · obtain rfl : j = 8 := by omega
      have e0 : v0 = 0 := HY.out (rng_all.2 hinv.out)
      replace e0 : Hid (v0 = 0) := e0
      clear HY HN hinv
      go_wp2
      go_ret
      exact ⟨by rw [e0.out]; rfl, hB.out⟩
end Go.Proofs.Ytbcinapnnlfnbaa
namespace Go.Proofs.Ytbcinapnnlfnbaa
open Go.RowKit Wd Cg

theorem idx_fn (a b c d : Value) (w : World) : (Instr.index 50 (.agg #[a, b, c, d]) (.int .i64 0)).run Try.prog w = .ok a w ∧ (Instr.index 50 (.agg #[a, b, c, d]) (.int .i64 1)).run Try.prog w = .ok b w ∧ (Instr.index 50 (.agg #[a, b, c, d]) (.int .i64 2)).run Try.prog w = .ok c w ∧ (Instr.index 50 (.agg #[a, b, c, d]) (.int .i64 3)).run Try.prog w = .ok d w := by
  refine ⟨?_, ?_, ?_, ?_⟩
  all_goals simp [Instr.index, run_underlying Try.underlying50, asIntOf, go_sem]
set_option maxHeartbeats 2000000 in
set_option maxRecDepth 20000 in
theorem pcheck_walk {c : Cf} {e0 e1 e2 e3 v0 : Int} (c0 : ∀ w, Calls Try.prog 24 #[cfV c] w fun e w' => e = .returned (.int .i64 e0) ∧ Below w.heap.size w w')
    (c1 : e0 = 0 → ∀ w, Calls Try.prog 25 #[cfV c] w fun e w' => e = .returned (.int .i64 e1) ∧ Below w.heap.size w w')
    (c2 : e0 = 0 → e1 = 0 → ∀ w, Calls Try.prog 26 #[cfV c] w fun e w' => e = .returned (.int .i64 e2) ∧ Below w.heap.size w w')
    (c3 : e0 = 0 → e1 = 0 → e2 = 0 → ∀ w, Calls Try.prog 27 #[cfV c] w fun e w' => e = .returned (.int .i64 e3) ∧ Below w.heap.size w w')
    (hv : v0 = if e0 = 0 then (if e1 = 0 then (if e2 = 0 then e3 else e2) else e1) else e0) (w : World) :
    Calls Try.prog 9 #[cfV c] w fun e w' => e = .returned (.int .i64 v0) ∧ Below w.heap.size w w' := by
  replace hv : Hid (v0 = if e0 = 0 then (if e1 = 0 then (if e2 = 0 then e3 else e2) else e1) else e0) := hv
  replace c1 : Hid (e0 = 0 → ∀ w, Calls Try.prog 25 #[cfV c] w fun e w' => e = .returned (.int .i64 e1) ∧ Below w.heap.size w w') := c1
  replace c2 : Hid (e0 = 0 → e1 = 0 → ∀ w, Calls Try.prog 26 #[cfV c] w fun e w' => e = .returned (.int .i64 e2) ∧ Below w.heap.size w w') := c2
  replace c3 : Hid (e0 = 0 → e1 = 0 → e2 = 0 → ∀ w, Calls Try.prog 27 #[cfV c] w fun e w' => e = .returned (.int .i64 e3) ∧ Below w.heap.size w w') := c3
  unfold cfV at *
  go_enter Try.func9, Try.ntmps9
  go_wp2
  go_loopg [17] 4 (fun gk v wr => ∃ i : Int, i + gk = 4 ∧ 0 ≤ i ∧ v = .int .i64 i ∧ Below w.heap.size w wr ∧ (1 ≤ i → e0 = 0) ∧ (2 ≤ i → e1 = 0) ∧ (3 ≤ i → e2 = 0) ∧ (4 ≤ i → e3 = 0))
  case atStart => exact ⟨0, by omega, by omega, rfl, ((Below.refl _ _).alloc (Nat.le_refl _) _).alloc (by simp) _, by omega, by omega, by omega, by omega⟩
  case round =>
    obtain ⟨i, hi, hi0, rfl, hB, h0, h1, h2, h3⟩ := hrel
    replace hB : Hid (Below w.heap.size w wr) := hB
    have ix := idx_fn
    obtain rfl | rfl | rfl | rfl | rfl : i = 0 ∨ i = 1 ∨ i = 2 ∨ i = 3 ∨ i = 4 := by omega
    · have ck : ∀ w, Calls Try.prog 24 #[.agg #[.int .i64 c.nodes, .int .i64 c.queue, .int .i64 c.limit, .int .i64 c.age, .int .i64 c.fair, .int .i64 c.size, .int .i64 c.period, .int .i64 c.half]] w fun e w' => e = .returned (.int .i64 e0) ∧ Below w.heap.size w w' := c0
      by_cases hz : e0 = 0
      · have HR : Hid ((1 ≤ (1 : Int) → e0 = 0) ∧ (2 ≤ (1 : Int) → e1 = 0) ∧ (3 ≤ (1 : Int) → e2 = 0) ∧ (4 ≤ (1 : Int) → e3 = 0)) := ⟨fun _ => by first | exact hz | exact h0 (by omega), fun h => by first | exact hz | exact h1 (by omega) | omega, fun h => by first | exact hz | exact h2 (by omega) | omega, fun h => by first | exact hz | omega⟩
        have hzn : (e0 != 0) = false := by simp [hz]
        replace hz : Hid (e0 = 0) := hz
        clear h0 h1 h2 h3 hz
        go_wp2_with fail
        refine (ck _).mono ?_
        rintro e w1 ⟨rfl, b1⟩
        have B1 : Hid (Below w.heap.size w w1) := hB.out.trans (b1.mono hB.out.size)
        clear b1
        go_wp2
        go_roundg 3
        case measure => omega
        case rel => exact ⟨1, by omega, by omega, by go_num, B1.out, HR.out⟩
      · have HV : Hid (v0 = e0) := by
          have h := hv.out
          rw [if_neg hz] at h
          exact h
        have hzn : (e0 != 0) = true := by simp [hz]
        clear h0 h1 h2 h3
        go_wp2_with fail
        refine (ck _).mono ?_
        rintro e w1 ⟨rfl, b1⟩
        have B1 : Hid (Below w.heap.size w w1) := hB.out.trans (b1.mono hB.out.size)
        clear b1
        go_wp2
        go_ret
        exact ⟨by rw [HV.out]; rfl, B1.out⟩
    · have ck : ∀ w, Calls Try.prog 25 #[.agg #[.int .i64 c.nodes, .int .i64 c.queue, .int .i64 c.limit, .int .i64 c.age, .int .i64 c.fair, .int .i64 c.size, .int .i64 c.period, .int .i64 c.half]] w fun e w' => e = .returned (.int .i64 e1) ∧ Below w.heap.size w w' := (c1.out (h0 (by omega)))
      by_cases hz : e1 = 0
      · have HR : Hid ((1 ≤ (2 : Int) → e0 = 0) ∧ (2 ≤ (2 : Int) → e1 = 0) ∧ (3 ≤ (2 : Int) → e2 = 0) ∧ (4 ≤ (2 : Int) → e3 = 0)) := ⟨fun _ => by first | exact hz | exact h0 (by omega), fun h => by first | exact hz | exact h1 (by omega) | omega, fun h => by first | exact hz | exact h2 (by omega) | omega, fun h => by first | exact hz | omega⟩
        have hzn : (e1 != 0) = false := by simp [hz]
        replace hz : Hid (e1 = 0) := hz
        clear h0 h1 h2 h3 hz
        go_wp2_with fail
        refine (ck _).mono ?_
        rintro e w1 ⟨rfl, b1⟩
        have B1 : Hid (Below w.heap.size w w1) := hB.out.trans (b1.mono hB.out.size)
        clear b1
        go_wp2
        go_roundg 2
        case measure => omega
        case rel => exact ⟨2, by omega, by omega, by go_num, B1.out, HR.out⟩
      · have HV : Hid (v0 = e1) := by
          have h := hv.out
          rw [if_pos (h0 (by omega)), if_neg hz] at h
          exact h
        have hzn : (e1 != 0) = true := by simp [hz]
        clear h0 h1 h2 h3
        go_wp2_with fail
        refine (ck _).mono ?_
        rintro e w1 ⟨rfl, b1⟩
        have B1 : Hid (Below w.heap.size w w1) := hB.out.trans (b1.mono hB.out.size)
        clear b1
        go_wp2
        go_ret
        exact ⟨by rw [HV.out]; rfl, B1.out⟩
    · have ck : ∀ w, Calls Try.prog 26 #[.agg #[.int .i64 c.nodes, .int .i64 c.queue, .int .i64 c.limit, .int .i64 c.age, .int .i64 c.fair, .int .i64 c.size, .int .i64 c.period, .int .i64 c.half]] w fun e w' => e = .returned (.int .i64 e2) ∧ Below w.heap.size w w' := (c2.out (h0 (by omega)) (h1 (by omega)))
      by_cases hz : e2 = 0
      · have HR : Hid ((1 ≤ (3 : Int) → e0 = 0) ∧ (2 ≤ (3 : Int) → e1 = 0) ∧ (3 ≤ (3 : Int) → e2 = 0) ∧ (4 ≤ (3 : Int) → e3 = 0)) := ⟨fun _ => by first | exact hz | exact h0 (by omega), fun h => by first | exact hz | exact h1 (by omega) | omega, fun h => by first | exact hz | exact h2 (by omega) | omega, fun h => by first | exact hz | omega⟩
        have hzn : (e2 != 0) = false := by simp [hz]
        replace hz : Hid (e2 = 0) := hz
        clear h0 h1 h2 h3 hz
        go_wp2_with fail
        refine (ck _).mono ?_
        rintro e w1 ⟨rfl, b1⟩
        have B1 : Hid (Below w.heap.size w w1) := hB.out.trans (b1.mono hB.out.size)
        clear b1
        go_wp2
        go_roundg 1
        case measure => omega
        case rel => exact ⟨3, by omega, by omega, by go_num, B1.out, HR.out⟩
      · have HV : Hid (v0 = e2) := by
          have h := hv.out
          rw [if_pos (h0 (by omega)), if_pos (h1 (by omega)), if_neg hz] at h
          exact h
        have hzn : (e2 != 0) = true := by simp [hz]
        clear h0 h1 h2 h3
        go_wp2_with fail
        refine (ck _).mono ?_
        rintro e w1 ⟨rfl, b1⟩
        have B1 : Hid (Below w.heap.size w w1) := hB.out.trans (b1.mono hB.out.size)
        clear b1
        go_wp2
        go_ret
        exact ⟨by rw [HV.out]; rfl, B1.out⟩
    · have ck : ∀ w, Calls Try.prog 27 #[.agg #[.int .i64 c.nodes, .int .i64 c.queue, .int .i64 c.limit, .int .i64 c.age, .int .i64 c.fair, .int .i64 c.size, .int .i64 c.period, .int .i64 c.half]] w fun e w' => e = .returned (.int .i64 e3) ∧ Below w.heap.size w w' := (c3.out (h0 (by omega)) (h1 (by omega)) (h2 (by omega)))
      by_cases hz : e3 = 0
      · have HR : Hid ((1 ≤ (4 : Int) → e0 = 0) ∧ (2 ≤ (4 : Int) → e1 = 0) ∧ (3 ≤ (4 : Int) → e2 = 0) ∧ (4 ≤ (4 : Int) → e3 = 0)) := ⟨fun _ => by first | exact hz | exact h0 (by omega), fun h => by first | exact hz | exact h1 (by omega) | omega, fun h => by first | exact hz | exact h2 (by omega) | omega, fun h => by first | exact hz | omega⟩
        have hzn : (e3 != 0) = false := by simp [hz]
        replace hz : Hid (e3 = 0) := hz
        clear h0 h1 h2 h3 hz
        go_wp2_with fail
        refine (ck _).mono ?_
        rintro e w1 ⟨rfl, b1⟩
        have B1 : Hid (Below w.heap.size w w1) := hB.out.trans (b1.mono hB.out.size)
        clear b1
        go_wp2
        go_roundg 0
        case measure => omega
        case rel => exact ⟨4, by omega, by omega, by go_num, B1.out, HR.out⟩
      · have HV : Hid (v0 = e3) := by
          have h := hv.out
          rw [if_pos (h0 (by omega)), if_pos (h1 (by omega)), if_pos (h2 (by omega))] at h
          exact h
        have hzn : (e3 != 0) = true := by simp [hz]
        clear h0 h1 h2 h3
        go_wp2_with fail
        refine (ck _).mono ?_
        rintro e w1 ⟨rfl, b1⟩
        have B1 : Hid (Below w.heap.size w w1) := hB.out.trans (b1.mono hB.out.size)
        clear b1
        go_wp2
        go_ret
        exact ⟨by rw [HV.out]; rfl, B1.out⟩
    · have HV : Hid (v0 = 0) := by
        have h := hv.out
        rw [if_pos (h0 (by omega)), if_pos (h1 (by omega)), if_pos (h2 (by omega)), h3 (by omega)] at h
        exact h
      clear h0 h1 h2 h3
      go_wp2
      go_ret
      exact ⟨by rw [HV.out]; rfl, hB.out⟩
theorem pcheck_any (c : Cf) (w : World) : Calls Try.prog 9 #[cfV c] w fun e w' => e = .returned (.int .i64 (chkZ c)) ∧ Below w.heap.size w w' := by
  unfold chkZ
  by_cases r : Rng c
  · rw [if_neg (fun h => h r)]
    by_cases hm : 2147483648 < mZ c
    · rw [if_pos hm]
      exact pcheck_walk (e2 := 0) (e3 := 0) (prefuse_ranges c (fun _ => rfl) (fun h => absurd r h)) (fun _ => prefuse_usage r) (fun _ h => absurd h (by rw [if_pos hm]; omega)) (fun _ h => absurd h (by rw [if_pos hm]; omega)) (by rw [if_pos rfl, if_pos hm, if_neg (by omega)]) w
    · rw [if_neg hm]
      exact pcheck_walk (prefuse_ranges c (fun _ => rfl) (fun h => absurd r h)) (fun _ => prefuse_usage r) (fun _ _ => prefuse_scale r) (fun _ _ _ => prefuse_rounding r (by omega)) (by rw [if_pos rfl, if_neg hm, if_pos rfl, if_pos rfl]) w
  · rw [if_pos r]
    exact pcheck_walk (e1 := 0) (e2 := 0) (e3 := 0) (prefuse_ranges c (fun h => absurd h r) (fun _ => rfl)) (fun h => absurd h (by omega)) (fun h => absurd h (by omega)) (fun h => absurd h (by omega)) (by rw [if_neg (by omega)]) w
end Go.Proofs.Ytbcinapnnlfnbaa
namespace Go.Proofs.Ytbcinapnnlfnbaa
open Go.RowKit Wd Cg

theorem pBound_no {c : Cf} (h : ¬ chkZ c = 0) (w : World) : Calls Try.prog 39 #[cfV c] w fun e w' => e = .returned (.int .i64 0) ∧ Below w.heap.size w w' := by
  have c1 := pcheck_any c
  generalize chkZ c = q at *
  unfold cfV at *
  have hS := St.new w c
  go_enter Try.func39, Try.ntmps39
  go_wp2_with fail
  refine (c1 _).mono ?_
  rintro e w1 ⟨rfl, b1⟩
  replace hS := keepW hS b1
  clear b1
  go_wp2
  go_ret
  exact ⟨rfl, hS.bel⟩
theorem pBound_yes {c : Cf} (h : chkZ c = 0) (w : World) : Calls Try.prog 39 #[cfV c] w fun e w' => e = .returned (.int .i64 (boundZ c)) ∧ Below w.heap.size w w' := by
  have c1 := pcheck_any c
  obtain ⟨r, hm, _⟩ := chk_ok h
  rw [h] at c1
  have c2 := pbound_any r
  generalize boundZ c = L0 at *
  unfold cfV at *
  have hS := St.new w c
  go_enter Try.func39, Try.ntmps39
  go_wp2_with fail
  refine (c1 _).mono ?_
  rintro e w1 ⟨rfl, b1⟩
  replace hS := keepW hS b1
  clear b1
  obtain ⟨s0, s1, s2, s3, s4, s5, s6, s7, _, _⟩ := id hS
  go_wp2_with fail
  refine (c2 _).mono ?_
  rintro e w2 ⟨rfl, b2⟩
  replace hS := keepW hS b2
  clear b2 s0 s1 s2 s3 s4 s5 s6 s7
  go_wp2
  go_ret
  exact ⟨rfl, hS.bel⟩
theorem pBound_any (c : Cf) (w : World) : Calls Try.prog 39 #[cfV c] w fun e w' => e = .returned (.int .i64 (if chkZ c = 0 then boundZ c else 0)) ∧ Below w.heap.size w w' := by
  by_cases h : chkZ c = 0
  · rw [if_pos h]
    exact pBound_yes h w
  · rw [if_neg h]
    exact pBound_no h w
end Go.Proofs.Ytbcinapnnlfnbaa
