/-
  What is true of a pass. No Go in sight.
-/
import Derived.Test.YtdkibcagbidelaaPsM
namespace Go.Proofs.Ytdkibcagbidelaa.Pr

theorem eq_of_job {ws : List Wt} (hu : (ws.map Wt.job).Nodup) {a b : Wt} (ha : a ∈ ws) (hb : b ∈ ws) (h : a.job = b.job) : a = b := by
  induction ws with
  | nil => simp at ha
  | cons w ws ih =>
    rw [List.map_cons, List.nodup_cons] at hu
    rcases List.mem_cons.1 ha with ea | ha' <;> rcases List.mem_cons.1 hb with eb | hb'
    · rw [ea, eb]
    · exact absurd (List.mem_map.2 ⟨b, hb', by rw [← h, ea]⟩) hu.1
    · exact absurd (List.mem_map.2 ⟨a, ha', by rw [h, eb]⟩) hu.1
    · exact ih hu.2 ha' hb'
theorem hold_none {ho : Int} : ∀ (ws : List Wt) (h : Wt), (∀ w ∈ ws, w.job ≠ ho) → holdL ho h ws = h := by
  intro ws
  induction ws with
  | nil => intro h _; rfl
  | cons w ws ih =>
    intro h hn
    simp only [holdL]
    rw [if_neg (hn w (by simp))]
    exact ih h (fun x hx => hn x (by simp [hx]))
theorem oth_none {ho : Int} {ws : List Wt} (h : ∀ w ∈ ws, w.job ≠ ho) : othV ho ws = ws := by
  unfold othV
  rw [List.filter_eq_self]
  intro w hw
  simpa using h w hw
/-- The holder's want, ahead of the others. -/
theorem hold_some {ho : Int} : ∀ {ws : List Wt}, (ws.map Wt.job).Nodup → ∀ (h0 h : Wt), h0 ∈ ws → h0.job = ho → holdL ho h ws = h0 ∧ (h0 :: othV ho ws).Perm ws := by
  intro ws
  induction ws with
  | nil => intro _ h0 h hm; simp at hm
  | cons w ws ih =>
    intro hu h0 h hm hj
    have hu' := hu
    rw [List.map_cons, List.nodup_cons] at hu'
    rcases List.mem_cons.1 hm with rfl | hm
    · have hn : ∀ w ∈ ws, w.job ≠ ho := fun x hx e => hu'.1 (List.mem_map.2 ⟨x, hx, by rw [e, hj]⟩)
      simp only [holdL]
      rw [if_pos hj, hold_none ws _ hn]
      refine ⟨rfl, ?_⟩
      unfold othV
      rw [List.filter_cons_of_neg (by simpa using hj)]
      have := oth_none hn
      unfold othV at this
      rw [this]
    · have hne : w.job ≠ ho := fun e => hu'.1 (List.mem_map.2 ⟨h0, hm, by rw [e, hj]⟩)
      simp only [holdL]
      rw [if_neg hne]
      obtain ⟨h1, h2⟩ := ih hu'.2 h0 h hm hj
      refine ⟨h1, ?_⟩
      unfold othV at h2 ⊢
      rw [List.filter_cons_of_pos (by simpa using hne)]
      exact (List.Perm.swap w h0 _).trans (h2.cons w)
/-- What is true of a pass. -/
structure Done (now free : Int) (ws : List Wt) (ho : Int) (rs : List Rn) (p : Pln) (pre f rest : List Wt) (h : Wt) (Y : Int) (s : Ps) : Prop where
  st : p.st = s.st.map Wt.job
  ps : s.st = pre ++ f
  good : Good now free rs s
  hh : p.ho = h.job
  over : h.job = -1 → p.sh = 0 ∧ p.ex = 0 ∧ f = [] ∧ pre.Perm ws
  hold : h.job ≠ -1 → (pre ++ h :: rest).Perm ws ∧ f.Sublist rest ∧ s.fr < h.nd ∧ now < p.sh ∧ shadowV now s.fr s.rs h.nd = some ⟨p.sh, Y + h.nd⟩ ∧ Y ≤ p.ex ∧
    ∀ w ∈ rest, w ∈ f ∨ s.fr < w.nd ∨ (p.sh < now + w.lm ∧ Y < w.nd)
  first : ∀ h0 ∈ ws, h0.job = ho → (h0.nd ≤ free → ∃ t, pre = h0 :: t) ∧ (free < h0.nd → h = h0 ∧ pre = [])
theorem good_ends {now free ho : Int} {ws : List Wt} {rs : List Rn} {s : Ps} (hc : Chk now free ws ho rs) (hg : Good now free rs s) (hst : ∀ w ∈ s.st, w ∈ ws) : ∀ r ∈ s.rs, now < r.en := by
  intro r hr
  rw [hg.rs] at hr
  rcases List.mem_append.1 hr with hr | hr
  · exact (hc.re r hr).1
  · obtain ⟨w, hw, rfl⟩ := List.mem_map.1 hr
    have := hc.wt w (hst w hw)
    simp only [rOf]
    omega
/-- The end of a pass in which somebody holds. -/
theorem end_hold {now free ho : Int} {ws rest pre : List Wt} {rs : List Rn} {s : Ps} {h : Wt} (hc : Chk now free ws ho rs) (hg : Good now free rs s) (hst : s.st = pre) (hp : (pre ++ h :: rest).Perm ws) (hf : s.fr < h.nd)
    (hfirst : ∀ h0 ∈ ws, h0.job = ho → (h0.nd ≤ free → ∃ t, pre = h0 :: t) ∧ (free < h0.nd → h = h0 ∧ pre = [])) :
    ∃ f Y s', Done now free ws ho rs (endP now s h rest) pre f rest h Y s' := by
  have hm : ∀ w, w ∈ pre ∨ w = h ∨ w ∈ rest → w ∈ ws := fun w hw => hp.mem_iff.1 (by simpa using hw)
  have hh := hc.wt h (hm h (.inr (.inl rfl)))
  have hj : ¬ h.job = -1 := by omega
  have hrs := good_right hg hc.rt
  have hsum := good_sum hg
  obtain ⟨⟨T, F⟩, hsh⟩ := shadow_is (now := now) hrs (need := h.nd) (by omega) (by omega)
  obtain ⟨his, hfr⟩ := shadow_some hsh
  simp only at his hfr
  have hends := good_ends hc hg (fun w hw => hm w (.inl (hst ▸ hw)))
  have hT : now < T := by
    rcases Int.lt_or_eq_of_le his.1 with c | c
    · exact c
    · have := his.2.1
      rw [← c, at_su, su_none hends] at this
      omega
  have hsh' : shadowV now s.fr s.rs h.nd = some ⟨T, (F - h.nd) + h.nd⟩ := by rw [hsh]; congr 2; omega
  obtain ⟨g1, g2, g3, g4, f, g5, g6, g7⟩ := fill_good hc.rt (by omega) rest s (F - h.nd) hg (fun w hw => by have := hc.wt w (hm w (.inr (.inr hw))); omega) hsh'
  refine ⟨f, leftV now T s (F - h.nd) rest, fillV now T s (F - h.nd) rest, ?_⟩
  unfold endP endS
  rw [if_neg hj, if_neg hj, hsh]
  simp only [atO, exO]
  exact ⟨rfl, by rw [g5, hst], g1, rfl, fun e => absurd e hj, fun _ => ⟨hp, g6, by omega, hT, g4, g3, g7⟩, hfirst⟩
/-- The end of a pass in which nobody holds. -/
theorem end_over {now free ho : Int} {ws pre rest : List Wt} {rs : List Rn} {s : Ps} (hg : Good now free rs s) (hst : s.st = pre) (hp : pre.Perm ws)
    (hfirst : ∀ h0 ∈ ws, h0.job = ho → (h0.nd ≤ free → ∃ t, pre = h0 :: t) ∧ (free < h0.nd → noW = h0 ∧ pre = [])) :
    ∃ f Y s', Done now free ws ho rs (endP now s noW rest) pre f [] noW Y s' := by
  refine ⟨[], 0, s, ?_⟩
  unfold endP
  rw [if_pos (show noW.job = -1 from rfl)]
  exact ⟨rfl, by rw [hst]; simp, hg, rfl, fun _ => ⟨rfl, rfl, rfl, hp⟩, fun e => absurd rfl e, hfirst⟩
theorem pass_done {now free ho : Int} {ws : List Wt} {rs : List Rn} (hc : Chk now free ws ho rs) : ∃ pre f rest h Y s, Done now free ws ho rs (passV now free ws ho rs) pre f rest h Y s := by
  obtain ⟨⟨f0, f1⟩, hok⟩ := right_parts.1 hc.rt
  have hg0 : Good now free rs ⟨free, rs, []⟩ := good0 f0
  have hpos : ∀ w ∈ ws, 1 ≤ w.nd ∧ w.nd ≤ 256 := fun w hw => by have := hc.wt w hw; omega
  have hpo : ∀ w ∈ othV ho ws, 1 ≤ w.nd ∧ w.nd ≤ 256 := fun w hw => hpos w (List.mem_filter.1 hw).1
  unfold passV pnV hdV
  by_cases hex : ∃ h0 ∈ ws, h0.job = ho
  · obtain ⟨h0, hm, hj⟩ := hex
    obtain ⟨e1, hp⟩ := hold_some hc.un h0 noW hm hj
    rw [e1]
    have hh := hc.wt h0 hm
    have hnj : h0.job ≠ -1 := by omega
    have huq : ∀ x ∈ ws, x.job = ho → x = h0 := fun x hx e => eq_of_job hc.un hx hm (by rw [e, hj])
    by_cases hf : h0.nd ≤ free
    · have e2 : headV now ⟨free, rs, []⟩ h0 = (stV now ⟨free, rs, []⟩ h0, noW) := if_pos ⟨hnj, hf⟩
      rw [e2]
      simp only
      have hg1 := good_st hg0 (w := h0) hf (hpos h0 hm)
      obtain ⟨r1, a, r2, r3, r4⟩ := rank_good (othV ho ws) _ hg1 hpo
      unfold pinV
      rw [if_neg (fun hh => hh rfl)]
      have hst : (rankV now (stV now ⟨free, rs, []⟩ h0) (othV ho ws)).1.st = h0 :: a := by rw [r3]; rfl
      cases hb : (rankV now (stV now ⟨free, rs, []⟩ h0) (othV ho ws)).2 with
      | nil =>
        rw [hb, List.append_nil] at r2
        simp only
        obtain ⟨f, Y, s, hd⟩ := end_over (now := now) (ho := ho) (ws := ws) (rest := []) r1 hst (by rw [← r2]; exact hp) (fun x hx e => ⟨fun _ => ⟨a, by rw [huq x hx e]⟩, fun hlt => by rw [huq x hx e] at hlt; omega⟩)
        exact ⟨_, f, [], noW, Y, s, hd⟩
      | cons w b =>
        simp only
        rw [hb] at r2
        obtain ⟨f, Y, s, hd⟩ := end_hold (rest := b) hc r1 hst (by rw [List.cons_append, ← r2]; exact hp) (r4 w b hb) (fun x hx e => ⟨fun _ => ⟨a, by rw [huq x hx e]⟩, fun hlt => by rw [huq x hx e] at hlt; omega⟩)
        exact ⟨_, f, b, w, Y, s, hd⟩
    · have e2 : headV now ⟨free, rs, []⟩ h0 = (⟨free, rs, []⟩, h0) := if_neg (fun hh => hf hh.2)
      rw [e2]
      simp only
      unfold pinV
      rw [if_pos hnj]
      simp only
      obtain ⟨f, Y, s, hd⟩ := end_hold (rest := othV ho ws) (pre := []) hc hg0 rfl hp (by show free < h0.nd; omega) (fun x hx e => ⟨fun hle => by rw [huq x hx e] at hle; omega, fun _ => ⟨(huq x hx e).symm, rfl⟩⟩)
      exact ⟨_, f, _, h0, Y, s, hd⟩
  · have hn : ∀ w ∈ ws, w.job ≠ ho := fun w hw e => hex ⟨w, hw, e⟩
    rw [hold_none ws noW hn, oth_none hn]
    have e2 : headV now ⟨free, rs, []⟩ noW = (⟨free, rs, []⟩, noW) := if_neg (fun hh => hh.1 rfl)
    rw [e2]
    simp only
    obtain ⟨r1, a, r2, r3, r4⟩ := rank_good ws _ hg0 hpos
    unfold pinV
    rw [if_neg (fun hh => hh rfl)]
    have hst : (rankV now ⟨free, rs, []⟩ ws).1.st = a := by rw [r3]; rfl
    cases hb : (rankV now ⟨free, rs, []⟩ ws).2 with
    | nil =>
      rw [hb, List.append_nil] at r2
      simp only
      obtain ⟨f, Y, s, hd⟩ := end_over (now := now) (ho := ho) (ws := ws) (rest := []) r1 hst (by rw [← r2]) (fun x hx e => absurd ⟨x, hx, e⟩ hex)
      exact ⟨_, f, [], noW, Y, s, hd⟩
    | cons w b =>
      simp only
      rw [hb] at r2
      obtain ⟨f, Y, s, hd⟩ := end_hold (rest := b) (pre := a) hc r1 hst (by rw [← r2]) (r4 w b hb) (fun x hx e => absurd ⟨x, hx, e⟩ hex)
      exact ⟨_, f, b, w, Y, s, hd⟩
end Go.Proofs.Ytdkibcagbidelaa.Pr
