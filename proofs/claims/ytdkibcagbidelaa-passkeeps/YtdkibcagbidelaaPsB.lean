/-
  What is not seen by a pass: the order of the runs; who comes last. No Go in sight.
-/
import Derived.Test.YtdkibcagbidelaaPcA
namespace Go.Proofs.Ytdkibcagbidelaa.Pr

theorem all_perm {l m : List Rn} (h : l.Perm m) (p : Rn → Bool) : l.all p = m.all p := by
  rw [Bool.eq_iff_iff, List.all_eq_true, List.all_eq_true]
  exact ⟨fun k x hx => k x (h.mem_iff.2 hx), fun k x hx => k x (h.mem_iff.1 hx)⟩
theorem shadow_perm {now free need : Int} {l m : List Rn} (h : l.Perm m) : shadowV now free l need = shadowV now free m need := by
  have hat : ∀ u, atV free l u = atV free m u := fun u => by rw [at_su, at_su, su_perm h]
  have hr : right free l = right free m := by unfold right; rw [all_perm h]
  cases hs : shadowV now free m need with
  | some s =>
    obtain ⟨h1, h2⟩ := shadow_some hs
    obtain ⟨r1, r2⟩ := shadow_right hs
    have := shadow_of (l := l) (hr.trans r1) r2 (T := s.at_) ⟨h1.1, by rw [hat]; exact h1.2.1, fun u a b => by rw [hat]; exact h1.2.2 u a b⟩
    rw [this, hat, ← h2]
  | none =>
    cases ht : shadowV now free l need with
    | none => rfl
    | some s =>
      obtain ⟨h1, h2⟩ := shadow_some ht
      obtain ⟨r1, r2⟩ := shadow_right ht
      have := shadow_of (l := m) (hr.symm.trans r1) r2 (T := s.at_) ⟨h1.1, by rw [← hat]; exact h1.2.1, fun u a b => by rw [← hat]; exact h1.2.2 u a b⟩
      rw [this] at hs
      cases hs
/-- Alike but for the order of the runs. -/
structure Eqv (s t : Ps) : Prop where
  fr : s.fr = t.fr
  st : s.st = t.st
  rs : s.rs.Perm t.rs
theorem Eqv.start {s t : Ps} (h : Eqv s t) (now : Int) (w : Wt) : Eqv (stV now s w) (stV now t w) := ⟨by simp only [stV]; rw [h.fr], by simp only [stV]; rw [h.st], h.rs.append_right _⟩
theorem Eqv.rank (now : Int) : ∀ (l : List Wt) {s t : Ps}, Eqv s t → Eqv (rankV now s l).1 (rankV now t l).1 ∧ (rankV now s l).2 = (rankV now t l).2 := by
  intro l
  induction l with
  | nil => intro s t h; exact ⟨h, rfl⟩
  | cons w l ih =>
    intro s t h
    simp only [rankV]
    rw [← h.fr]
    by_cases c : w.nd ≤ s.fr
    · rw [if_pos c, if_pos c]; exact ih (h.start now w)
    · rw [if_neg c, if_neg c]; exact ⟨h, rfl⟩
theorem Eqv.fill (now T : Int) : ∀ (l : List Wt) {s t : Ps} (X : Int), Eqv s t → Eqv (fillV now T s X l) (fillV now T t X l) := by
  intro l
  induction l with
  | nil => intro s t X h; exact h
  | cons w l ih =>
    intro s t X h
    simp only [fillV]
    rw [← h.fr]
    split
    · exact ih _ (h.start now w)
    · split
      · exact ih _ (h.start now w)
      · exact ih _ h
theorem Eqv.ends {s t : Ps} (e : Eqv s t) (now : Int) (h : Wt) (l : List Wt) : endP now s h l = endP now t h l := by
  unfold endP endS
  rw [← e.fr, shadow_perm e.rs]
  by_cases hj : h.job = -1
  · rw [if_pos hj, if_pos hj, e.st]
  · rw [if_neg hj, if_neg hj, if_neg hj, if_neg hj, (e.fill now _ l _).st]
theorem pass_perm {now free ho : Int} {ws : List Wt} {rs rs' : List Rn} (h : rs.Perm rs') : passV now free ws ho rs = passV now free ws ho rs' := by
  have e0 : Eqv ⟨free, rs, []⟩ ⟨free, rs', []⟩ := ⟨rfl, rfl, h⟩
  unfold passV pnV hdV
  have e1 : Eqv (headV now ⟨free, rs, []⟩ (holdL ho noW ws)).1 (headV now ⟨free, rs', []⟩ (holdL ho noW ws)).1 ∧ (headV now ⟨free, rs, []⟩ (holdL ho noW ws)).2 = (headV now ⟨free, rs', []⟩ (holdL ho noW ws)).2 := by
    unfold headV
    simp only
    split
    · exact ⟨e0.start now _, rfl⟩
    · exact ⟨e0, rfl⟩
  rw [← e1.2]
  generalize (headV now ⟨free, rs, []⟩ (holdL ho noW ws)).2 = hh
  have e2 := e1.1
  clear e1
  generalize (headV now ⟨free, rs, []⟩ (holdL ho noW ws)).1 = s at *
  generalize (headV now ⟨free, rs', []⟩ (holdL ho noW ws)).1 = t at *
  unfold pinV
  split
  · exact e2.ends now _ _
  · obtain ⟨r1, r2⟩ := Eqv.rank now (othV ho ws) e2
    rw [← r2]
    cases (rankV now s (othV ho ws)).2 with
    | nil => exact r1.ends now _ _
    | cons w b => exact r1.ends now _ _
theorem sumN_perm {l m : List Rn} (h : l.Perm m) : sumN l = sumN m := by
  induction h with
  | nil => rfl
  | cons x _ ih => simp only [sumN, ih]
  | swap x y l => simp only [sumN]; omega
  | trans _ _ h1 h2 => exact h1.trans h2
theorem chk_perm {now free ho : Int} {ws : List Wt} {rs rs' : List Rn} (h : rs.Perm rs') : chkB now free ws ho rs = chkB now free ws ho rs' := by
  unfold chkB mayRunB
  rw [all_perm h, sumN_perm h]
theorem passR_perm {now free ho : Int} {ws : List Wt} {rs rs' : List Rn} (h : rs.Perm rs') : passR now free ws ho rs = passR now free ws ho rs' ∧ passE now free ws ho rs = passE now free ws ho rs' := by
  unfold passR passE
  rw [chk_perm h, pass_perm h]
  exact ⟨rfl, rfl⟩
theorem rank_app (now : Int) (w : Wt) : ∀ (l : List Wt) (s : Ps) (x : Wt) (b : List Wt), (rankV now s l).2 = x :: b → (rankV now s (l ++ [w])).1 = (rankV now s l).1 ∧ (rankV now s (l ++ [w])).2 = x :: (b ++ [w]) := by
  intro l
  induction l with
  | nil => intro s x b h; simp [rankV] at h
  | cons y l ih =>
    intro s x b h
    simp only [rankV, List.cons_append] at h ⊢
    by_cases c : y.nd ≤ s.fr
    · rw [if_pos c] at h
      rw [if_pos c, if_pos c]
      exact ih _ x b h
    · rw [if_neg c] at h
      rw [if_neg c, if_neg c]
      simp only [List.cons.injEq] at h
      exact ⟨rfl, by rw [← h.1, ← h.2]⟩
theorem fill_app (now T : Int) (w : Wt) : ∀ (l : List Wt) (s : Ps) (X : Int), (fillV now T s X (l ++ [w])).st = (fillV now T s X l).st ∨ (fillV now T s X (l ++ [w])).st = (fillV now T s X l).st ++ [w] := by
  intro l
  induction l with
  | nil =>
    intro s X
    simp only [List.nil_append, fillV]
    split
    · exact .inr rfl
    · split
      · exact .inr rfl
      · exact .inl rfl
  | cons y l ih =>
    intro s X
    simp only [List.cons_append, fillV]
    split
    · exact ih _ _
    · split
      · exact ih _ _
      · exact ih _ _
theorem end_app {now : Int} {s : Ps} {h : Wt} {l : List Wt} (w : Wt) (hj : h.job ≠ -1) : (endP now s h (l ++ [w])).ho = (endP now s h l).ho ∧ (endP now s h (l ++ [w])).sh = (endP now s h l).sh ∧ (endP now s h (l ++ [w])).ex = (endP now s h l).ex ∧
    ((endP now s h (l ++ [w])).st = (endP now s h l).st ∨ (endP now s h (l ++ [w])).st = (endP now s h l).st ++ [w.job]) := by
  unfold endP endS
  rw [if_neg hj, if_neg hj, if_neg hj, if_neg hj]
  refine ⟨rfl, rfl, rfl, ?_⟩
  simp only
  rcases fill_app now (atO (shadowV now s.fr s.rs h.nd)) w l s (exO h.nd (shadowV now s.fr s.rs h.nd)) with e | e
  · exact .inl (by rw [e])
  · exact .inr (by rw [e]; simp)
/-- One want more, behind all others. -/
theorem pass_behind {now free ho : Int} {ws : List Wt} {rs : List Rn} {w : Wt} (hc : Chk now free ws ho rs) (hc' : Chk now free (ws ++ [w]) ho rs) (hp : (passV now free ws ho rs).ho ≠ -1) :
    (passV now free (ws ++ [w]) ho rs).ho = (passV now free ws ho rs).ho ∧ (passV now free (ws ++ [w]) ho rs).sh = (passV now free ws ho rs).sh ∧ (passV now free (ws ++ [w]) ho rs).ex = (passV now free ws ho rs).ex ∧
    ((passV now free (ws ++ [w]) ho rs).st = (passV now free ws ho rs).st ∨ (passV now free (ws ++ [w]) ho rs).st = (passV now free ws ho rs).st ++ [w.job]) := by
  have hw := hc'.wt w (by simp)
  have hwh : w.job ≠ ho := by
    rcases hc.hd with e | ⟨x, hx, e⟩
    · omega
    · intro ew
      have hu := hc'.un
      rw [List.map_append, List.nodup_append] at hu
      exact hu.2.2 x.job (List.mem_map.2 ⟨x, hx, rfl⟩) w.job (by simp) (by rw [e, ew])
  have e1 : holdL ho noW (ws ++ [w]) = holdL ho noW ws := by
    have : ∀ (l : List Wt) (h : Wt), holdL ho h (l ++ [w]) = holdL ho h l := by
      intro l
      induction l with
      | nil => intro h; simp [holdL, hwh]
      | cons x l ih => intro h; simp only [List.cons_append, holdL, ih]
    exact this _ _
  have e2 : othV ho (ws ++ [w]) = othV ho ws ++ [w] := by
    unfold othV
    rw [List.filter_append, List.filter_cons_of_pos (by simpa using hwh)]
    rfl
  unfold passV pnV hdV at hp ⊢
  rw [e1, e2]
  generalize (headV now ⟨free, rs, []⟩ (holdL ho noW ws)).2 = hh at *
  generalize (headV now ⟨free, rs, []⟩ (holdL ho noW ws)).1 = s at *
  generalize othV ho ws = l at *
  unfold pinV at hp ⊢
  by_cases hj : hh.job ≠ -1
  · rw [if_pos hj, if_pos hj]
    exact end_app w hj
  · rw [if_neg hj] at hp
    rw [if_neg hj, if_neg hj]
    cases hb : (rankV now s l).2 with
    | nil =>
      rw [hb] at hp
      exact absurd rfl hp
    | cons x b =>
      rw [hb] at hp
      obtain ⟨r1, r2⟩ := rank_app now w l s x b hb
      rw [r2, r1]
      simp only at hp ⊢
      refine end_app w (fun ex => hp ?_)
      unfold endP
      rw [if_pos ex]
end Go.Proofs.Ytdkibcagbidelaa.Pr
