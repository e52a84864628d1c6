/-
  What PassWhole asks, of a pass. No Go in sight.
-/
import Derived.Test.YtdkibcagbidelaaPcA
namespace Go.Proofs.Ytdkibcagbidelaa.Pr

/-- A want of a job, the first of them. -/
def findW (l : List Wt) (j : Int) : Option Wt := l.find? fun w => decide (w.job = j)
theorem find_in {ws : List Wt} (hu : (ws.map Wt.job).Nodup) {w : Wt} (hw : w ∈ ws) : findW ws w.job = some w := by
  unfold findW
  cases hf : ws.find? (fun x => decide (x.job = w.job)) with
  | none =>
    have := List.find?_eq_none.1 hf w hw
    simp at this
  | some y =>
    have h1 := List.mem_of_find?_eq_some hf
    have h2 := List.find?_some hf
    rw [eq_of_job hu h1 hw (of_decide_eq_true h2)]
theorem find_out {ws : List Wt} {j : Int} (h : ∀ w ∈ ws, w.job ≠ j) : findW ws j = none := by
  unfold findW
  rw [List.find?_eq_none]
  intro x hx
  simpa using h x hx
/-- All that is asked. -/
structure Whole (now free : Int) (ws : List Wt) (ho : Int) (rs : List Rn) (p : Pln) (st : List Wt) (Y : Int) : Prop where
  sts : p.st = st.map Wt.job
  len : st.length ≤ 256
  each : ∀ i w, st[i]? = some w → findW ws w.job = some w ∧ w.nd ≤ free - sumW (st.take i) ∧ w.job ≠ p.ho ∧ ((st.take i).map Wt.job).contains w.job = false
  pos : ∀ w ∈ st, 1 ≤ w.nd ∧ w.nd ≤ 256 ∧ 1 ≤ w.lm ∧ w.lm ≤ 1048576
  nn : 0 ≤ free - sumW st
  old : ∀ h0, findW ws ho = some h0 → (h0.nd ≤ free → ∃ t, p.st = ho :: t) ∧ (free < h0.nd → p.ho = ho)
  over : p.ho < 0 → p.ho = -1 ∧ p.sh = 0 ∧ p.ex = 0 ∧ st.length = ws.length
  hold : 0 ≤ p.ho → ∃ h, findW ws p.ho = some h ∧ free - sumW st < h.nd ∧ shadowV now (free - sumW st) (rs ++ st.map (rOf now)) h.nd = some ⟨p.sh, Y + h.nd⟩ ∧ Y ≤ p.ex
  rest : 0 ≤ p.ho → ∀ w ∈ ws, w.job ≠ p.ho → p.st.contains w.job = false → free - sumW st < w.nd ∨ (p.sh < now + w.lm ∧ Y < w.nd)
theorem pass_whole {now free ho : Int} {ws : List Wt} {rs : List Rn} (hc : Chk now free ws ho rs) : ∃ st Y, Whole now free ws ho rs (passV now free ws ho rs) st Y := by
  obtain ⟨pre, f, rest, h, Y, s, hd⟩ := pass_done hc
  obtain ⟨⟨f0, f1⟩, _⟩ := right_parts.1 hc.rt
  have hg := hd.good
  -- who was started, nobody twice, nobody who holds
  have key : (s.st.map Wt.job).Nodup ∧ (∀ w ∈ s.st, w ∈ ws) ∧ (∀ w ∈ s.st, w.job ≠ h.job) := by
    by_cases hj : h.job = -1
    · obtain ⟨_, _, e, hp⟩ := hd.over hj
      have e2 : s.st = pre := by rw [hd.ps, e, List.append_nil]
      rw [e2]
      refine ⟨(hp.map Wt.job).nodup_iff.2 hc.un, fun w hw => hp.mem_iff.1 hw, fun w hw => ?_⟩
      have := hc.wt w (hp.mem_iff.1 hw)
      omega
    · obtain ⟨hp, hs, _⟩ := hd.hold hj
      have hn : ((pre ++ h :: rest).map Wt.job).Nodup := (hp.map Wt.job).nodup_iff.2 hc.un
      have hsub : (pre ++ f).Sublist (pre ++ h :: rest) := (List.Sublist.refl pre).append (hs.cons h)
      rw [hd.ps]
      refine ⟨(hsub.map Wt.job).nodup hn, fun w hw => hp.mem_iff.1 (hsub.subset hw), fun w hw e => ?_⟩
      have h2 : ((h :: (pre ++ rest)).map Wt.job).Nodup := ((List.perm_middle (a := h) (l₁ := pre) (l₂ := rest)).map Wt.job).nodup_iff.1 hn
      rw [List.map_cons, List.nodup_cons] at h2
      refine h2.1 (List.mem_map.2 ⟨w, ?_, e⟩)
      rcases List.mem_append.1 hw with k | k
      · exact List.mem_append_left _ k
      · exact List.mem_append_right _ (hs.subset k)
  obtain ⟨k1, k2, k3⟩ := key
  have hsp : s.fr = free - sumW s.st := hg.fr
  have hhj : h.job = -1 ∨ 0 ≤ h.job := by
    by_cases hj : h.job = -1
    · exact .inl hj
    · have hp := (hd.hold hj).1
      have := hc.wt h (hp.mem_iff.1 (by simp))
      exact .inr this.1
  refine ⟨s.st, Y, hd.st, ?_, fun i w hi => ?_, fun w hw => ?_, ?_, fun h0 hf => ?_, fun hneg => ?_, fun hpos => ?_, fun hpos w hw hwh hns => ?_⟩
  · have := good_len hg; omega
  · have hw := List.mem_of_getElem? hi
    refine ⟨find_in hc.un (k2 w hw), hg.fit i w hi, by rw [hd.hh]; exact k3 w hw, ?_⟩
    rw [List.contains_eq_mem, decide_eq_false_iff_not]
    intro hm
    obtain ⟨hl, rfl⟩ := List.getElem?_eq_some_iff.1 hi
    have h2 : s.st = s.st.take i ++ (s.st[i] :: s.st.drop (i + 1)) := by rw [← List.drop_eq_getElem_cons hl, List.take_append_drop]
    rw [h2, List.map_append, List.nodup_append] at k1
    exact k1.2.2 _ hm s.st[i].job (by rw [List.map_cons]; exact List.mem_cons_self) rfl
  · have := hc.wt w (k2 w hw); omega
  · have := hg.nn; omega
  · have hm := List.mem_of_find?_eq_some hf
    have hj : h0.job = ho := of_decide_eq_true (List.find?_some (p := fun w : Wt => decide (w.job = ho)) hf)
    obtain ⟨a, b⟩ := hd.first h0 hm hj
    refine ⟨fun hle => ?_, fun hlt => ?_⟩
    · obtain ⟨t, ht⟩ := a hle
      rw [hd.st, hd.ps, ht]
      exact ⟨_, by rw [List.cons_append, List.map_cons, hj]⟩
    · rw [hd.hh, (b hlt).1, hj]
  · rw [hd.hh] at hneg ⊢
    have hj : h.job = -1 := by omega
    obtain ⟨e1, e2, e3, hp⟩ := hd.over hj
    refine ⟨hj, e1, e2, ?_⟩
    rw [hd.ps, e3, List.append_nil]
    exact hp.length_eq
  · rw [hd.hh] at hpos ⊢
    obtain ⟨hp, hs, h1, h2, h3, h4, h5⟩ := hd.hold (by omega)
    rw [← hg.rs, ← hsp]
    exact ⟨h, find_in hc.un (hp.mem_iff.1 (by simp)), h1, h3, h4⟩
  · rw [hd.hh] at hpos hwh
    obtain ⟨hp, hs, h1, h2, h3, h4, h5⟩ := hd.hold (by omega)
    rw [hd.st, List.contains_eq_mem, decide_eq_false_iff_not] at hns
    rw [← hsp]
    have hm := hp.mem_iff.2 hw
    rcases List.mem_append.1 hm with k | k
    · exact absurd (List.mem_map.2 ⟨w, by rw [hd.ps]; exact List.mem_append_left _ k, rfl⟩) hns
    · rcases List.mem_cons.1 k with e | k
      · exact absurd (by rw [e]) hwh
      · rcases h5 w k with e | e
        · exact absurd (List.mem_map.2 ⟨w, by rw [hd.ps]; exact List.mem_append_right _ e, rfl⟩) hns
        · exact e
end Go.Proofs.Ytdkibcagbidelaa.Pr
