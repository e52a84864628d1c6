/-
  Which passes may be asked: by tests, and as it is meant. No Go in sight.
-/
import Derived.Test.YtdkibcagbidelaaPaC
namespace Go.Proofs.Ytdkibcagbidelaa.Pr

def chkB (now free : Int) (ws : List Wt) (ho : Int) (rs : List Rn) : Bool := mayRunB now free rs && (waitB (free + sumN rs) [] ws && mayHoldB ho ws)
theorem wait_iff (all : Int) : ∀ (ws : List Wt) (S : List Int), waitB all S ws = true ↔ (∀ w ∈ ws, okW all w = true) ∧ (ws.map Wt.job).Nodup ∧ ∀ w ∈ ws, w.job ∉ S := by
  intro ws
  induction ws with
  | nil => intro S; simp [waitB]
  | cons w ws ih =>
    intro S
    simp only [waitB, Bool.and_eq_true, ih, List.map_cons, List.nodup_cons, List.mem_cons, Bool.not_eq_true', List.contains_eq_mem, decide_eq_false_iff_not, forall_eq_or_imp, not_or]
    constructor
    · rintro ⟨⟨a, b⟩, c, d, e⟩
      refine ⟨⟨a, c⟩, ⟨fun hm => ?_, d⟩, b, fun x hx => (e x hx).2⟩
      obtain ⟨y, hy, hj⟩ := List.mem_map.1 hm
      exact (e y hy).1 hj
    · rintro ⟨⟨a, c⟩, ⟨f, d⟩, b, e⟩
      exact ⟨⟨a, b⟩, c, d, fun x hx => ⟨fun hj => f (List.mem_map.2 ⟨x, hx, hj⟩), e x hx⟩⟩
theorem chk_iff {now free ho : Int} {ws : List Wt} {rs : List Rn} : chkB now free ws ho rs = true ↔ Chk now free ws ho rs := by
  unfold chkB
  rw [Bool.and_eq_true, Bool.and_eq_true, wait_iff]
  constructor
  · rintro ⟨h1, ⟨h2, h3, _⟩, h4⟩
    unfold mayRunB at h1
    rw [Bool.and_eq_true, Bool.and_eq_true] at h1
    obtain ⟨⟨a1, a2⟩, a3⟩ := h1
    obtain ⟨n0, n1⟩ : 0 ≤ now ∧ now ≤ 2199023255552 := by simpa [nowB] using a1
    rw [List.all_eq_true] at a3
    refine ⟨n0, n1, ?_, fun r hr => ?_, fun w hw => ?_, h3, ?_⟩
    · unfold right
      rw [a2, Bool.true_and, List.all_eq_true]
      intro r hr
      have := a3 r hr
      unfold runB at this
      exact (Bool.and_eq_true _ _ ▸ this).1
    · have := a3 r hr
      simp [runB] at this
      omega
    · have := h2 w hw
      simp [okW, frB] at this
      omega
    · unfold mayHoldB at h4
      rw [Bool.or_eq_true, List.any_eq_true] at h4
      rcases h4 with e | ⟨x, hx, e⟩
      · exact .inl (of_decide_eq_true e)
      · exact .inr ⟨x, hx, of_decide_eq_true e⟩
  · intro hc
    obtain ⟨⟨f0, f1⟩, hok⟩ := right_parts.1 hc.rt
    refine ⟨?_, ⟨fun w hw => ?_, hc.un, fun _ _ h => by simp at h⟩, ?_⟩
    · unfold mayRunB
      rw [Bool.and_eq_true, Bool.and_eq_true]
      refine ⟨⟨?_, ?_⟩, ?_⟩
      · have := hc.n0; have := hc.n1; simp [nowB]; omega
      · simp [okF]; omega
      · rw [List.all_eq_true]
        intro r hr
        have h1 := List.all_eq_true.1 hok r hr
        have h2 := hc.re r hr
        unfold runB
        rw [h1, Bool.true_and]
        simp
        omega
    · have := hc.wt w hw
      simp [okW, frB]
      omega
    · unfold mayHoldB
      rw [Bool.or_eq_true, List.any_eq_true]
      rcases hc.hd with e | ⟨x, hx, e⟩
      · exact .inl (decide_eq_true e)
      · exact .inr ⟨x, hx, decide_eq_true e⟩
theorem hold_cases (ho : Int) : ∀ (ws : List Wt) (h : Wt), holdL ho h ws = h ∨ holdL ho h ws ∈ ws := by
  intro ws
  induction ws with
  | nil => intro h; exact .inl rfl
  | cons w ws ih =>
    intro h
    simp only [holdL]
    by_cases e : w.job = ho
    · rw [if_pos e]
      rcases ih w with k | k
      · exact .inr (by rw [k]; simp)
      · exact .inr (by simp [k])
    · rw [if_neg e]
      rcases ih h with k | k
      · exact .inl k
      · exact .inr (by simp [k])
/-- What a pass answers. -/
def passR (now free : Int) (ws : List Wt) (ho : Int) (rs : List Rn) : Pln := if chkB now free ws ho rs then passV now free ws ho rs else ⟨[], 0, 0, 0⟩
def passE (now free : Int) (ws : List Wt) (ho : Int) (rs : List Rn) : Int := if chkB now free ws ho rs then 0 else 150
end Go.Proofs.Ytdkibcagbidelaa.Pr
