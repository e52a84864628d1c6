/-
  Layer 5's reference: At, Shadow.
-/
import Derived.Test.YtdkibcagbidelaaPrB
namespace Go.Proofs.Ytdkibcagbidelaa
open Go.RowKit Pr

namespace Pr
def AtV (now free : Int) (l : List Rn) (t : Int) : Int := if right free l && decide (now ≤ t) then atV free l t else 0
/-- The first step that has enough. -/
def firstV (need : Int) : List Stp → Option Stp
  | [] => none
  | s :: l => if need ≤ s.fr then some s else firstV need l
def shadowV (now free : Int) (l : List Rn) (need : Int) : Option Stp := if right free l && decide (0 ≤ need) then firstV need (stepsV now free l) else none
/-- What Shadow answers. -/
def shA (need : Int) (o : Option Stp) : Value := match o with
  | none => .tuple #[.int .i64 0, .int .i64 0, .bool false]
  | some s => .tuple #[.int .i64 s.at_, .int .i64 (s.fr - need), .bool true]
theorem at_bound (l : List Rn) (t : Int) (h : l.all okR = true) : ∀ free : Int, 0 ≤ free → 0 ≤ atV free l t ∧ atV free l t ≤ free + 256 * l.length := by
  induction l with
  | nil => intro free h0; exact ⟨h0, by simp [atV]⟩
  | cons r l ih =>
    intro free h0
    obtain ⟨h1, h2⟩ : okR r = true ∧ l.all okR = true := by simpa using h
    obtain ⟨o1, o2⟩ : 1 ≤ r.nd ∧ r.nd ≤ 256 := by simpa [okR] using h1
    have e : atV free (r :: l) t = atV (if r.en ≤ t then free + r.nd else free) l t := rfl
    rw [e]
    by_cases a : r.en ≤ t
    · rw [if_pos a]
      have := ih h2 (free + r.nd) (by omega)
      simp only [List.length_cons]
      omega
    · rw [if_neg a]
      have := ih h2 free h0
      simp only [List.length_cons]
      omega
theorem from_bound {free : Int} {l : List Rn} (h : l.all okR = true) (h0 : 0 ≤ free) : ∀ (k : Nat) (t : Int), ∀ s ∈ stepsFrom free l k t, 0 ≤ s.fr ∧ s.fr ≤ free + 256 * l.length := by
  intro k
  induction k with
  | zero => intro t s hs; cases hs
  | succ k ih =>
    intro t s hs
    cases hn : nextV none l t with
    | none => simp [stepsFrom, hn] at hs
    | some n =>
      simp only [stepsFrom, hn] at hs
      rcases List.mem_cons.1 hs with rfl | hs
      · exact at_bound l n h free h0
      · exact ih n s hs
theorem steps_bound {now free : Int} {l : List Rn} : ∀ s ∈ stepsV now free l, 0 ≤ s.fr ∧ s.fr ≤ 256 + 256 * l.length := by
  intro s hs
  unfold stepsV at hs
  by_cases hr : right free l = true
  · rw [if_pos hr] at hs
    obtain ⟨hf, hok⟩ : okF free = true ∧ l.all okR = true := by simpa [right] using hr
    obtain ⟨f0, f1⟩ : 0 ≤ free ∧ free ≤ 256 := by simpa [okF] using hf
    rcases List.mem_cons.1 hs with rfl | hs
    · have := at_bound l now hok free f0
      simp only
      omega
    · have := from_bound hok f0 _ _ s hs
      omega
  · rw [if_neg hr] at hs
    cases hs
theorem first_step {need : Int} {l : List Stp} {j : Nat} {s : Stp} (h : l[j]? = some s) : firstV need (l.drop j) = if need ≤ s.fr then some s else firstV need (l.drop (j + 1)) := by
  obtain ⟨hj, rfl⟩ := List.getElem?_eq_some_iff.1 h
  rw [List.drop_eq_getElem_cons hj]
  rfl
end Pr

theorem drew_below (w : World) (k : Nat) : Below w.heap.size w (w.drewN k) := ⟨rfl, rfl, rfl, Nat.le_refl _, fun _ _ => rfl⟩
/-- Steps that lie in memory. -/
def StepsAt (W : World) (v : Value) (l : List Stp) : Prop := ∃ ao cap g, v = .slice ao l.length cap ∧ (0 < l.length → ao = some ⟨g, 0, none⟩) ∧ ∀ j s, l[j]? = some s → W.cell? ⟨g, j * 2, none⟩ = some (.int .i64 s.at_) ∧ W.cell? ⟨g, j * 2 + 1, none⟩ = some (.int .i64 s.fr)
theorem flatS_at (l : List Stp) : ∀ j s, l[j]? = some s → (flatS l)[j * 2]? = some (.int .i64 s.at_) ∧ (flatS l)[j * 2 + 1]? = some (.int .i64 s.fr) := by
  induction l with
  | nil => intro j s h; simp at h
  | cons x l ih =>
    intro j s h
    cases j with
    | zero => simp at h; subst h; simp [flatS]
    | succ j =>
      have := ih j s (by simpa using h)
      simp only [flatS]
      rw [show (j + 1) * 2 = j * 2 + 1 + 1 by omega]
      simpa using this
theorem stepsAt_row {w : World} {B : Nat} {v : Value} {l : List Stp} (h : w.ownsRow B 82 2 v l.length (flatS l)) : StepsAt w v l := by
  rcases h.2 with ⟨rfl, h0⟩ | ⟨g, cap, cur, rfl, hb, hg, _, _, _, ht⟩
  · exact ⟨none, 0, 0, by rw [h0], fun h => by omega, fun j s hs => by rw [List.length_eq_zero_iff.1 h0] at hs; simp at hs⟩
  · refine ⟨some ⟨g, 0, none⟩, cap, g, rfl, fun _ => rfl, fun j s hs => ?_⟩
    have hj : j < l.length := (List.getElem?_eq_some_iff.1 hs).1
    obtain ⟨h1, h2⟩ := flatS_at l j s hs
    rw [← ht, List.getElem?_take_of_lt (by omega), Array.getElem?_toList] at h1 h2
    refine ⟨?_, ?_⟩ <;> unfold World.cell? <;> rw [hg]
    · simpa using h1
    · simpa using h2
theorem StepsAt.below {W W' : World} {v : Value} {l : List Stp} (h : StepsAt W v l) (b : Below W.heap.size W W') : StepsAt W' v l := by
  obtain ⟨ao, cap, g, h0, h1, h2⟩ := h
  exact ⟨ao, cap, g, h0, h1, fun j s hs => ⟨(b.cell (World.block_lt_of_cell? W _ (h2 j s hs).1)).trans (h2 j s hs).1, (b.cell (World.block_lt_of_cell? W _ (h2 j s hs).2)).trans (h2 j s hs).2⟩⟩

set_option maxHeartbeats 2000000 in
theorem shadow_any {w : World} {ao : Option Addr} {l : List Rn} {c : Nat} (hA : RunsAt w ao l) (hn : l.length * 16 ≤ 140737488355328) (now free need : Int) :
    Calls Try.prog 16 #[.int .i64 now, .int .i64 free, .slice ao l.length c, .int .i64 need] w fun e w' => e = .returned (shA need (shadowV now free l need)) ∧ Below w.heap.size w w' := by
  by_cases hr : right free l = true
  · by_cases hnd : 0 ≤ need
    · have hsh : shadowV now free l need = firstV need (stepsV now free l) := by simp [shadowV, hr, hnd]
      have hnd' : ¬ need < 0 := by omega
      rw [hsh]
      go_enter Try.func16, Try.ntmps16
      go_wp2_with fail
      refine (right_any hA (by omega) free).mono ?_
      rw [hr]
      rintro e w1 ⟨rfl, b1⟩
      go_wp2_with fail
      refine (steps_any (hA.below b1) hn now free).mono ?_
      rintro e w2 ⟨v, rfl, hrow, b2⟩
      have bb := b1.trans (b2.mono b1.size)
      have hsl := steps_len now free l
      have hsb : ∀ s ∈ stepsV now free l, 0 ≤ s.fr ∧ s.fr ≤ 256 + 256 * l.length := steps_bound
      obtain ⟨ao2, cap2, g, rfl, hg, hc⟩ := stepsAt_row hrow
      clear hrow hsh
      obtain ⟨S, hS⟩ : ∃ S, stepsV now free l = S := ⟨_, rfl⟩
      rw [hS] at hc hg hsl hsb ⊢
      have HS : Hid _ := hS
      clear hS
      obtain ⟨q, hq⟩ : ∃ q, S.length = q := ⟨_, rfl⟩
      rw [hq] at hg hsl ⊢
      go_wp2_with fail
      go_loopg [12] q (fun gk p wr => ∃ j : Nat, j + gk = q ∧ p = .int .i64 j ∧ w2 = wr ∧ firstV need S = firstV need (S.drop j))
      case atStart => exact ⟨0, by omega, rfl, rfl, by simp⟩
      case round =>
        obtain ⟨j, hj, rfl, rfl, hinv⟩ := hrel
        by_cases hlt : j < q
        · obtain ⟨s, hs⟩ : ∃ s, S[j]? = some s := ⟨_, List.getElem?_eq_getElem (by omega)⟩
          obtain rfl := hg (by omega)
          obtain ⟨c1, c2⟩ := hc j s hs
          obtain ⟨s0, s1⟩ := hsb s (List.mem_of_getElem? hs)
          rw [first_step hs] at hinv
          clear hc hg hs hsb
          by_cases a1 : need ≤ s.fr
          · rw [if_pos a1] at hinv
            have HI : Hid _ := hinv
            clear hinv
            go_wp2_with fail
            go_quiet (fail)
            all_goals
              go_wp2
              refine bodyPost_ret (v := shA need (some s)) (by simp [results, Try.results16, go_sem, shA]) rfl ⟨by rw [HS.out, HI.out], bb.trans (drew_below _ _ |>.mono bb.size)⟩
          · rw [if_neg a1] at hinv
            have HI : Hid _ := hinv
            clear hinv
            have a1' : ¬ need ≤ s.fr := a1
            go_wp2
            go_roundg (q - (j + 1))
            case measure => omega
            case rel => exact ⟨j + 1, by omega, rfl, rfl, HI.out⟩
        · obtain rfl : j = q := by omega
          have e : Hid (firstV need S = none) := show firstV need S = none by rw [hinv, List.drop_of_length_le (by omega)]; rfl
          clear hinv
          go_wp2
          refine bodyPost_ret (v := shA need none) (by simp [results, Try.results16, go_sem, shA]) rfl ⟨by rw [HS.out, e.out], bb⟩
    · have e : shadowV now free l need = none := by simp [shadowV]; omega
      rw [e]
      have hnd' : need < 0 := by omega
      go_enter Try.func16, Try.ntmps16
      go_wp2_with fail
      refine (right_any hA (by omega) free).mono ?_
      rw [hr]
      rintro e w1 ⟨rfl, b1⟩
      go_wp2
      exact bodyPost_ret (v := shA need none) (by simp [results, Try.results16, go_sem, shA]) rfl ⟨rfl, b1⟩
  · have hr' : right free l = false := by simpa using hr
    have e : shadowV now free l need = none := by simp [shadowV, hr']
    rw [e]
    go_enter Try.func16, Try.ntmps16
    go_wp2_with fail
    refine (right_any hA (by omega) free).mono ?_
    rw [hr']
    rintro e w1 ⟨rfl, b1⟩
    go_wp2
    exact bodyPost_ret (v := shA need none) (by simp [results, Try.results16, go_sem, shA]) rfl ⟨rfl, b1⟩
end Go.Proofs.Ytdkibcagbidelaa
