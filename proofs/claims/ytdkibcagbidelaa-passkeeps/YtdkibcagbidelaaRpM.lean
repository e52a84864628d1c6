/-
  What the reference's pass has still to do. No Go in sight.
-/
import Derived.Test.YtdkibcagbidelaaPtM
import Derived.Test.YtdkibcagbidelaaMcH
namespace Go.Proofs.Ytdkibcagbidelaa
open Go.RowKit Pr

/-- Who holds is known: the others fill. -/
def Pnd (now : Int) (PV : Pln) (s : Ps) (l : List Wt) (h : Int) : Prop := ∃ x, x ∈ l ∧ x.job = h ∧ PV = endP now s x (othV h l)
/-- Nobody holds: who is left is started in rank. -/
def Rnk (now : Int) (PV : Pln) (s : Ps) (l : List Wt) : Prop := PV = endP now (pinV now s noW l).1 (pinV now s noW l).2.1 (pinV now s noW l).2.2
theorem rnk_step {now : Int} {PV : Pln} {s : Ps} {x : Wt} {l : List Wt} (h : Rnk now PV s (x :: l)) (hx : x.nd ≤ s.fr) : Rnk now PV (stV now s x) l := by
  unfold Rnk at *
  rw [pin_yes hx] at h
  exact h
theorem rnk_nil {now : Int} {PV : Pln} {s : Ps} (h : Rnk now PV s []) : PV = ⟨s.st.map Wt.job, -1, 0, 0⟩ := by
  rw [h]
  rfl
theorem rnk_pin {now : Int} {PV : Pln} {s : Ps} {x : Wt} {l : List Wt} (h : Rnk now PV s (x :: l)) (hx : s.fr < x.nd) (hj : 0 ≤ x.job) (hu : ((x :: l).map Wt.job).Nodup) : Pnd now PV s (x :: l) x.job := by
  refine ⟨x, by simp, rfl, ?_⟩
  unfold Rnk at h
  have e : pinV now s x l = (s, x, l) := by unfold pinV; rw [if_pos (by omega)]
  rw [pin_no hx (by omega), e] at h
  have e2 : othV x.job (x :: l) = l := by
    have := erase_oth hu (i := 0) (w := x) rfl
    rw [← this]
    rfl
  rw [e2]
  exact h
theorem rnk_start {now free : Int} {ws : List Wt} {rs : List Rn} (h : ∀ x ∈ ws, 0 ≤ x.job) : Rnk now (passV now free ws (-1) rs) ⟨free, rs, []⟩ ws := by
  have hn : ∀ x ∈ ws, x.job ≠ -1 := fun x hx => by have := h x hx; omega
  unfold Rnk passV pnV hdV
  rw [hold_none ws noW hn, oth_self hn]
  have e : headV now ⟨free, rs, []⟩ noW = (⟨free, rs, []⟩, noW) := by unfold headV; rw [if_neg (fun e => e.1 rfl)]
  rw [e]
theorem rnk_fit {now free : Int} {ws : List Wt} {rs : List Rn} {i : Nat} {x : Wt} (hu : (ws.map Wt.job).Nodup) (hi : ws[i]? = some x) (hj : 0 ≤ x.job) (hx : x.nd ≤ free) : Rnk now (passV now free ws x.job rs) (stV now ⟨free, rs, []⟩ x) (ws.eraseIdx i) := by
  unfold Rnk passV pnV hdV
  rw [(hold_some hu x noW (List.mem_of_getElem? hi) rfl).1, erase_oth hu hi]
  have e : headV now ⟨free, rs, []⟩ x = (stV now ⟨free, rs, []⟩ x, noW) := by unfold headV; rw [if_pos ⟨by omega, hx⟩]
  rw [e]
theorem pnd_start {now free : Int} {ws : List Wt} {rs : List Rn} {i : Nat} {x : Wt} (hu : (ws.map Wt.job).Nodup) (hi : ws[i]? = some x) (hj : 0 ≤ x.job) (hx : free < x.nd) : Pnd now (passV now free ws x.job rs) ⟨free, rs, []⟩ ws x.job := by
  refine ⟨x, List.mem_of_getElem? hi, rfl, ?_⟩
  unfold passV pnV hdV
  rw [(hold_some hu x noW (List.mem_of_getElem? hi) rfl).1]
  have e : headV now ⟨free, rs, []⟩ x = (⟨free, rs, []⟩, x) := by unfold headV; rw [if_neg (fun e => by have := e.2; simp only at this; omega)]
  rw [e]
  unfold pinV
  rw [if_pos (by show x.job ≠ -1; omega)]
/-- What fills, in the end. -/
structure Fil (now : Int) (PV : Pln) (sh X : Int) (s : Ps) (l : List Wt) (h : Int) (i : Nat) : Prop where
  st : (fillV now sh s X (othV h (l.drop i))).st.map Wt.job = PV.st
theorem pnd_fil {now : Int} {PV : Pln} {s : Ps} {x : Wt} {l : List Wt} (h0 : 0 ≤ x.job) (h : PV = endP now s x (othV x.job l)) :
    PV.ho = x.job ∧ PV.sh = atO (shadowV now s.fr s.rs x.nd) ∧ PV.ex = exO x.nd (shadowV now s.fr s.rs x.nd) ∧ Fil now PV (atO (shadowV now s.fr s.rs x.nd)) (exO x.nd (shadowV now s.fr s.rs x.nd)) s l x.job 0 := by
  have hj : x.job ≠ -1 := by omega
  have e : endP now s x (othV x.job l) = ⟨(endS now s x (othV x.job l)).st.map Wt.job, x.job, atO (shadowV now s.fr s.rs x.nd), exO x.nd (shadowV now s.fr s.rs x.nd)⟩ := by unfold endP; rw [if_neg hj]
  rw [e] at h
  refine ⟨by rw [h], by rw [h], by rw [h], ⟨?_⟩⟩
  rw [h, List.drop_zero]
  unfold endS
  rw [if_neg hj]
theorem fil_pass {now : Int} {PV : Pln} {sh X : Int} {s : Ps} {l : List Wt} {h : Int} {i : Nat} {w : Wt} (H : Fil now PV sh X s l h i) (hw : l[i]? = some w) (hc : w.job = h ∨ s.fr < w.nd ∨ (sh < now + w.lm ∧ X < w.nd)) : Fil now PV sh X s l h (i + 1) := by
  refine ⟨?_⟩
  rw [← H.st, oth_drop h hw]
  by_cases e : w.job = h
  · rw [if_pos e]
  · rw [if_neg e, fill_one, if_pos (hc.resolve_left e)]
theorem fil_take {now : Int} {PV : Pln} {sh X : Int} {s : Ps} {l : List Wt} {h : Int} {i : Nat} {w : Wt} (H : Fil now PV sh X s l h i) (hw : l[i]? = some w) (h1 : w.job ≠ h) (h2 : w.nd ≤ s.fr) (h3 : now + w.lm ≤ sh ∨ w.nd ≤ X) : Fil now PV sh (if sh < now + w.lm then X - w.nd else X) (stV now s w) (l.eraseIdx i) h i := by
  have hno : ¬ (s.fr < w.nd ∨ (sh < now + w.lm ∧ X < w.nd)) := by omega
  refine ⟨?_⟩
  rw [← H.st, oth_drop h hw, if_neg h1, fill_one, if_neg hno, drop_erase]
theorem fil_end {now : Int} {PV : Pln} {sh X : Int} {s : Ps} {l : List Wt} {h : Int} {i : Nat} (H : Fil now PV sh X s l h i) (hi : l.length ≤ i) : s.st.map Wt.job = PV.st := by
  rw [← H.st, List.drop_of_length_le hi]
  rfl
end Go.Proofs.Ytdkibcagbidelaa
