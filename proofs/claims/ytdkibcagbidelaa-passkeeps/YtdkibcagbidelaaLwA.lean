/-
  Layer 5's statements: sameSteps, sameRuns, lend, still.
-/
import Derived.Test.YtdkibcagbidelaaPrC
import Derived.Laws.AppendOwnNone
namespace Go.Proofs.Ytdkibcagbidelaa
open Go.RowKit Pr

set_option maxHeartbeats 1000000 in
theorem sameRuns_yes {w : World} {ao1 ao2 : Option Addr} {cap1 cap2 : Nat} {l : List Rn} (ha : RunsAt w ao1 l) (hb : RunsAt w ao2 l) (hn : l.length * 16 ≤ 140737488355328) :
    Calls Try.prog 22 #[.slice ao1 l.length cap1, .slice ao2 l.length cap2] w fun e w' => e = .returned (.bool true) ∧ Below w.heap.size w w' := by
  obtain ⟨g1, o1, h1, c1⟩ := ha
  obtain ⟨g2, o2, h2, c2⟩ := hb
  obtain ⟨q, hq⟩ : ∃ q, l.length = q := ⟨_, rfl⟩
  rw [hq] at h1 h2 hn ⊢
  go_enter Try.func22, Try.ntmps22
  go_wp2
  go_loopg [5] q (fun gk p wr => ∃ j : Nat, j + gk = q ∧ p = .int .i64 j ∧ Below w.heap.size w wr)
  case atStart => exact ⟨0, by omega, rfl, Below.refl _ _⟩
  case round =>
    obtain ⟨j, hj, rfl, hbw⟩ := hrel
    by_cases hlt : j < q
    · obtain ⟨s, hs⟩ : ∃ s, l[j]? = some s := ⟨_, List.getElem?_eq_getElem (by omega)⟩
      obtain rfl := h1 (by omega)
      obtain rfl := h2 (by omega)
      obtain ⟨d1, d2⟩ := c1 j s hs
      obtain ⟨d3, d4⟩ := c2 j s hs
      replace d1 := (hbw.cell (World.block_lt_of_cell? w _ d1)).trans d1
      replace d2 := (hbw.cell (World.block_lt_of_cell? w _ d2)).trans d2
      replace d3 := (hbw.cell (World.block_lt_of_cell? w _ d3)).trans d3
      replace d4 := (hbw.cell (World.block_lt_of_cell? w _ d4)).trans d4
      clear c1 c2 h1 h2
      go_wp2_with fail
      go_quiet (fail)
      all_goals
        go_wp2
        go_roundg (q - (j + 1))
        case measure => omega
        case rel => exact ⟨j + 1, by omega, rfl, hbw.trans ((drew_below wr _).mono hbw.size)⟩
    · obtain rfl : j = q := by omega
      go_wp2
      go_ret
      exact ⟨rfl, hbw⟩

/-- The cells of runs. -/
def flatR : List Rn → List Value
  | [] => []
  | s :: l => .int .i64 s.nd :: .int .i64 s.en :: flatR l
theorem flatR_len (l : List Rn) : (flatR l).length = l.length * 2 := by
  induction l with
  | nil => rfl
  | cons s l ih => simp [flatR, ih]; omega
theorem flatR_app (a b : List Rn) : flatR (a ++ b) = flatR a ++ flatR b := by
  induction a with
  | nil => rfl
  | cons s l ih => simp [flatR, ih]
theorem flatR_at (l : List Rn) : ∀ j s, l[j]? = some s → (flatR l)[j * 2]? = some (.int .i64 s.nd) ∧ (flatR l)[j * 2 + 1]? = some (.int .i64 s.en) := by
  induction l with
  | nil => intro j s h; simp at h
  | cons x l ih =>
    intro j s h
    cases j with
    | zero => simp at h; subst h; simp [flatR]
    | succ j =>
      have := ih j s (by simpa using h)
      simp only [flatR]
      rw [show (j + 1) * 2 = j * 2 + 1 + 1 by omega]
      simpa using this
theorem flatR_cell {W : World} {g o : Nat} {l : List Rn} (h : ∀ k r, l[k]? = some r → W.cell? ⟨g, o + k * 2, none⟩ = some (.int .i64 r.nd) ∧ W.cell? ⟨g, o + k * 2 + 1, none⟩ = some (.int .i64 r.en)) : ∀ j u, (flatR l)[j]? = some u → W.cell? ((⟨g, o, none⟩ : Addr).add j) = some u := by
  intro j u hu
  have ha : (⟨g, o, none⟩ : Addr).add j = ⟨g, o + j, none⟩ := by unfold Addr.add; split <;> simp_all
  rw [ha]
  have hj : j < l.length * 2 := by rw [← flatR_len]; exact (List.getElem?_eq_some_iff.1 hu).1
  obtain ⟨r, hr⟩ : ∃ r, l[j / 2]? = some r := ⟨_, List.getElem?_eq_getElem (by omega)⟩
  obtain ⟨e1, e2⟩ := flatR_at l _ r hr
  obtain ⟨c1, c2⟩ := h _ r hr
  by_cases hm : j % 2 = 0
  · have e : j = j / 2 * 2 := by omega
    rw [← e] at e1 c1
    rw [e1] at hu
    injection hu with hu
    rw [← hu]; exact c1
  · have e : j = j / 2 * 2 + 1 := by omega
    rw [← e] at e2
    rw [show o + j / 2 * 2 + 1 = o + j by omega] at c2
    rw [e2] at hu
    injection hu with hu
    rw [← hu]; exact c2
theorem flatR_one (l : List Rn) : ∀ u ∈ flatR l, u.oneCell' = true := by
  induction l with
  | nil => intro u h; cases h
  | cons r l ih =>
    intro u h
    simp only [flatR, List.mem_cons] at h
    rcases h with rfl | rfl | h
    · rfl
    · rfl
    · exact ih u h
theorem Try.inf45 : (Try.prog.info? 45).map (fun i => (i.zero, i.size, i.bytes)) = some (some (.agg #[.int .i64 0, .int .i64 0]), 2, 16) := by kernel_rfl

end Go.Proofs.Ytdkibcagbidelaa
