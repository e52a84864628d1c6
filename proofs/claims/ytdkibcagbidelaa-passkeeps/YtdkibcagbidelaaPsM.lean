/-
  The plain mathematics of a pass: what is started, who holds. No Go in sight.
-/
import Derived.Test.YtdkibcagbidelaaPrL
import Derived.Test.YtdkibcagbidelaaPrT
namespace Go.Proofs.Ytdkibcagbidelaa.Pr

/-- A want. -/
structure Wt where
  job : Int
  nd : Int
  lm : Int
/-- Nobody's. -/
def noW : Wt := ⟨-1, 0, 0⟩
/-- What has come of a pass: what is free, what runs, who was started. -/
structure Ps where
  fr : Int
  rs : List Rn
  st : List Wt
def rOf (now : Int) (w : Wt) : Rn := ⟨w.nd, now + w.lm⟩
def stV (now : Int) (s : Ps) (w : Wt) : Ps := ⟨s.fr - w.nd, s.rs ++ [rOf now w], s.st ++ [w]⟩
/-- Who waits is started, till one does not fit. -/
def rankV (now : Int) : Ps → List Wt → Ps × List Wt
  | s, [] => (s, [])
  | s, w :: l => if w.nd ≤ s.fr then rankV now (stV now s w) l else (s, w :: l)
/-- Others fill. -/
def fillV (now sh : Int) : Ps → Int → List Wt → Ps
  | s, _, [] => s
  | s, x, w :: l => if w.nd ≤ s.fr ∧ now + w.lm ≤ sh then fillV now sh (stV now s w) x l
      else if w.nd ≤ s.fr ∧ w.nd ≤ x then fillV now sh (stV now s w) (x - w.nd) l
      else fillV now sh s x l
/-- What is left of the extra ones. -/
def leftV (now sh : Int) : Ps → Int → List Wt → Int
  | _, x, [] => x
  | s, x, w :: l => if w.nd ≤ s.fr ∧ now + w.lm ≤ sh then leftV now sh (stV now s w) x l
      else if w.nd ≤ s.fr ∧ w.nd ≤ x then leftV now sh (stV now s w) (x - w.nd) l
      else leftV now sh s x l
/-- Who holds at first. -/
def holdL (ho : Int) : Wt → List Wt → Wt
  | h, [] => h
  | h, w :: l => holdL ho (if w.job = ho then w else h) l
/-- The others. -/
def othV (ho : Int) (ws : List Wt) : List Wt := ws.filter fun w => decide (w.job ≠ ho)
def headV (now : Int) (s : Ps) (h : Wt) : Ps × Wt := if h.job ≠ -1 ∧ h.nd ≤ s.fr then (stV now s h, noW) else (s, h)
def pinV (now : Int) (s : Ps) (h : Wt) (l : List Wt) : Ps × Wt × List Wt :=
  if h.job ≠ -1 then (s, h, l) else match (rankV now s l).2 with
    | [] => ((rankV now s l).1, noW, [])
    | w :: l' => ((rankV now s l).1, w, l')
/-- A plan. -/
structure Pln where
  st : List Int
  ho : Int
  sh : Int
  ex : Int
def atO (o : Option Stp) : Int := match o with
  | none => 0
  | some s => s.at_
def exO (need : Int) (o : Option Stp) : Int := match o with
  | none => 0
  | some s => s.fr - need
def endS (now : Int) (s : Ps) (h : Wt) (l : List Wt) : Ps :=
  if h.job = -1 then s else fillV now (atO (shadowV now s.fr s.rs h.nd)) s (exO h.nd (shadowV now s.fr s.rs h.nd)) l
def endP (now : Int) (s : Ps) (h : Wt) (l : List Wt) : Pln :=
  if h.job = -1 then ⟨s.st.map Wt.job, -1, 0, 0⟩
  else ⟨(endS now s h l).st.map Wt.job, h.job, atO (shadowV now s.fr s.rs h.nd), exO h.nd (shadowV now s.fr s.rs h.nd)⟩
def hdV (now free : Int) (ws : List Wt) (ho : Int) (rs : List Rn) : Ps × Wt := headV now ⟨free, rs, []⟩ (holdL ho noW ws)
def pnV (now free : Int) (ws : List Wt) (ho : Int) (rs : List Rn) : Ps × Wt × List Wt := pinV now (hdV now free ws ho rs).1 (hdV now free ws ho rs).2 (othV ho ws)
def passV (now free : Int) (ws : List Wt) (ho : Int) (rs : List Rn) : Pln := endP now (pnV now free ws ho rs).1 (pnV now free ws ho rs).2.1 (pnV now free ws ho rs).2.2

/-- Which passes may be asked. -/
structure Chk (now free : Int) (ws : List Wt) (ho : Int) (rs : List Rn) : Prop where
  n0 : 0 ≤ now
  n1 : now ≤ 2199023255552
  rt : right free rs = true
  re : ∀ r ∈ rs, now < r.en ∧ r.en ≤ 4398046511104
  wt : ∀ w ∈ ws, 0 ≤ w.job ∧ 1 ≤ w.nd ∧ w.nd ≤ 256 ∧ w.nd ≤ free + sumN rs ∧ 1 ≤ w.lm ∧ w.lm ≤ 1048576
  un : (ws.map Wt.job).Nodup
  hd : ho = -1 ∨ ∃ w ∈ ws, w.job = ho
def sumW : List Wt → Int
  | [] => 0
  | w :: l => w.nd + sumW l
theorem sumW_app (a b : List Wt) : sumW (a ++ b) = sumW a + sumW b := by
  induction a with
  | nil => simp [sumW]
  | cons w a ih => simp only [List.cons_append, sumW, ih]; omega
/-- A state that has come of starts that fit. -/
structure Good (now free : Int) (rs : List Rn) (s : Ps) : Prop where
  fr : s.fr = free - sumW s.st
  rs : s.rs = rs ++ s.st.map (rOf now)
  nn : 0 ≤ s.fr
  fit : ∀ i w, s.st[i]? = some w → w.nd ≤ free - sumW (s.st.take i)
  pos : ∀ w ∈ s.st, 1 ≤ w.nd ∧ w.nd ≤ 256
theorem good0 {now free : Int} {rs : List Rn} (h : 0 ≤ free) : Good now free rs ⟨free, rs, []⟩ :=
  ⟨by simp [sumW], by simp, h, fun i w hi => by simp at hi, fun w hw => by simp at hw⟩
theorem good_st {now free : Int} {rs : List Rn} {s : Ps} {w : Wt} (h : Good now free rs s) (hf : w.nd ≤ s.fr) (hp : 1 ≤ w.nd ∧ w.nd ≤ 256) : Good now free rs (stV now s w) := by
  refine ⟨?_, ?_, ?_, fun i x hi => ?_, fun x hx => ?_⟩
  · simp only [stV, sumW_app, sumW]; have := h.fr; omega
  · simp only [stV]; rw [h.rs]; simp
  · simp only [stV]; omega
  · simp only [stV] at hi ⊢
    rcases Nat.lt_trichotomy i s.st.length with c | c | c
    · rw [List.getElem?_append_left c] at hi
      rw [List.take_append_of_le_length (by omega)]
      exact h.fit i x hi
    · subst c
      rw [List.getElem?_append_right (Nat.le_refl _)] at hi
      simp at hi
      subst hi
      rw [List.take_append_of_le_length (by omega), List.take_length]
      have := h.fr
      omega
    · rw [List.getElem?_eq_none (by simp; omega)] at hi
      cases hi
  · simp only [stV] at hx
    rcases List.mem_append.1 hx with hx | hx
    · exact h.pos x hx
    · rw [List.mem_singleton.1 hx]; exact hp
theorem good_sum {now free : Int} {rs : List Rn} {s : Ps} (h : Good now free rs s) : s.fr + sumN s.rs = free + sumN rs := by
  rw [h.fr, h.rs, sumN_app]
  have : ∀ l : List Wt, sumN (l.map (rOf now)) = sumW l := fun l => by
    induction l with
    | nil => rfl
    | cons w l ih => simp only [List.map_cons, sumN, sumW, ih, rOf]
  rw [this]
  omega
theorem sumW_nn {l : List Wt} (h : ∀ w ∈ l, 1 ≤ w.nd ∧ w.nd ≤ 256) : (l.length : Int) ≤ sumW l := by
  induction l with
  | nil => simp [sumW]
  | cons w l ih =>
    have := ih (fun x hx => h x (by simp [hx]))
    have := h w (by simp)
    simp only [sumW, List.length_cons]
    omega
theorem good_len {now free : Int} {rs : List Rn} {s : Ps} (h : Good now free rs s) : (s.st.length : Int) ≤ free := by
  have := sumW_nn h.pos
  have := h.fr
  have := h.nn
  omega
theorem good_right {now free : Int} {rs : List Rn} {s : Ps} (h : Good now free rs s) (hr : right free rs = true) : right s.fr s.rs = true := by
  obtain ⟨⟨f0, f1⟩, hok⟩ := right_parts.1 hr
  have h1 := sumW_nn h.pos
  refine right_parts.2 ⟨⟨h.nn, ?_⟩, ?_⟩
  · have h2 := h.fr
    have h3 : (0 : Int) ≤ s.st.length := Int.natCast_nonneg _
    omega
  · rw [h.rs, List.all_append, hok, Bool.true_and, List.all_eq_true]
    intro r hr
    obtain ⟨w, hw, rfl⟩ := List.mem_map.1 hr
    have := h.pos w hw
    unfold okR
    rw [Bool.and_eq_true]
    exact ⟨decide_eq_true this.1, decide_eq_true this.2⟩
theorem rank_good {now free : Int} {rs : List Rn} : ∀ (l : List Wt) (s : Ps), Good now free rs s → (∀ w ∈ l, 1 ≤ w.nd ∧ w.nd ≤ 256) →
    Good now free rs (rankV now s l).1 ∧ ∃ a, l = a ++ (rankV now s l).2 ∧ (rankV now s l).1.st = s.st ++ a ∧ ∀ w b, (rankV now s l).2 = w :: b → (rankV now s l).1.fr < w.nd := by
  intro l
  induction l with
  | nil => intro s h _; exact ⟨h, [], rfl, by simp [rankV], fun w b e => by simp [rankV] at e⟩
  | cons w l ih =>
    intro s h hp
    simp only [rankV]
    by_cases c : w.nd ≤ s.fr
    · rw [if_pos c]
      obtain ⟨g, a, h1, h2, h3⟩ := ih (stV now s w) (good_st h c (hp w (by simp))) (fun x hx => hp x (by simp [hx]))
      exact ⟨g, w :: a, by rw [List.cons_append, ← h1], by rw [h2]; simp [stV], h3⟩
    · rw [if_neg c]
      refine ⟨h, [], rfl, by simp, fun x b e => ?_⟩
      simp only [List.cons.injEq] at e
      rw [← e.1]
      show s.fr < w.nd
      omega
theorem fill_good {now free T need : Int} {rs : List Rn} (hr : right free rs = true) (hn : 0 ≤ need) : ∀ (l : List Wt) (s : Ps) (X : Int), Good now free rs s → (∀ w ∈ l, 1 ≤ w.nd ∧ w.nd ≤ 256) →
    shadowV now s.fr s.rs need = some ⟨T, X + need⟩ →
    Good now free rs (fillV now T s X l) ∧ (fillV now T s X l).fr ≤ s.fr ∧ leftV now T s X l ≤ X ∧
    shadowV now (fillV now T s X l).fr (fillV now T s X l).rs need = some ⟨T, leftV now T s X l + need⟩ ∧
    ∃ f, (fillV now T s X l).st = s.st ++ f ∧ f.Sublist l ∧ ∀ w ∈ l, w ∈ f ∨ (fillV now T s X l).fr < w.nd ∨ (T < now + w.lm ∧ leftV now T s X l < w.nd) := by
  intro l
  induction l with
  | nil => intro s X h _ hs; exact ⟨h, Int.le_refl _, Int.le_refl _, hs, [], by simp [fillV], List.Sublist.refl _, fun w hw => by simp at hw⟩
  | cons w l ih =>
    intro s X h hp hs
    have hw := hp w (by simp)
    have hp' : ∀ x ∈ l, 1 ≤ x.nd ∧ x.nd ≤ 256 := fun x hx => hp x (by simp [hx])
    have hrs := good_right h hr
    obtain ⟨his, hfr⟩ := shadow_some hs
    simp only at his hfr
    simp only [fillV, leftV]
    by_cases c1 : w.nd ≤ s.fr ∧ now + w.lm ≤ T
    · rw [if_pos c1, if_pos c1]
      have e := shadow_by hrs hn his hw.1 c1.1 c1.2
      rw [← hfr] at e
      obtain ⟨g1, g2, g3, g4, f, g5, g6, g7⟩ := ih (stV now s w) X (good_st h c1.1 hw) hp' e
      refine ⟨g1, ?_, g3, g4, w :: f, by rw [g5]; simp [stV], List.Sublist.cons_cons w g6, fun x hx => ?_⟩
      · have : (stV now s w).fr = s.fr - w.nd := rfl
        omega
      · rcases List.mem_cons.1 hx with rfl | hx
        · exact .inl (by simp)
        · rcases g7 x hx with k | k
          · exact .inl (by simp [k])
          · exact .inr k
    · rw [if_neg c1, if_neg c1]
      by_cases c2 : w.nd ≤ s.fr ∧ w.nd ≤ X
      · rw [if_pos c2, if_pos c2]
        have hlt : T < now + w.lm := by
          have := c2.1
          by_cases hh : now + w.lm ≤ T
          · exact absurd ⟨this, hh⟩ c1
          · omega
        have e := shadow_later hrs hn his hw.1 c2.1 hlt (by rw [← hfr]; have := c2.2; omega)
        rw [← hfr, show X + need - w.nd = X - w.nd + need by omega] at e
        obtain ⟨g1, g2, g3, g4, f, g5, g6, g7⟩ := ih (stV now s w) (X - w.nd) (good_st h c2.1 hw) hp' e
        refine ⟨g1, ?_, by omega, g4, w :: f, by rw [g5]; simp [stV], List.Sublist.cons_cons w g6, fun x hx => ?_⟩
        · have : (stV now s w).fr = s.fr - w.nd := rfl
          omega
        · rcases List.mem_cons.1 hx with rfl | hx
          · exact .inl (by simp)
          · rcases g7 x hx with k | k
            · exact .inl (by simp [k])
            · exact .inr k
      · rw [if_neg c2, if_neg c2]
        obtain ⟨g1, g2, g3, g4, f, g5, g6, g7⟩ := ih s X h hp' hs
        refine ⟨g1, g2, g3, g4, f, g5, List.Sublist.cons w g6, fun x hx => ?_⟩
        rcases List.mem_cons.1 hx with rfl | hx
        · by_cases d : x.nd ≤ s.fr
          · refine .inr ?_
            by_cases d2 : x.nd ≤ (fillV now T s X l).fr
            · refine .inr ⟨?_, ?_⟩
              · by_cases hh : now + x.lm ≤ T
                · exact absurd ⟨d, hh⟩ c1
                · omega
              · by_cases hh : x.nd ≤ X
                · exact absurd ⟨d, hh⟩ c2
                · omega
            · exact .inl (by omega)
          · exact .inr (.inl (by omega))
        · exact g7 x hx
/-- Where all nodes are enough, there is a shadow. -/
theorem shadow_is {now free need : Int} {rs : List Rn} (hr : right free rs = true) (hn : 0 ≤ need) (h : need ≤ free + sumN rs) : ∃ s, shadowV now free rs need = some s := by
  cases hs : shadowV now free rs need with
  | some s => exact ⟨s, rfl⟩
  | none =>
    unfold shadowV at hs
    rw [if_pos (by simp [hr, hn]), steps_right hr] at hs
    obtain ⟨s, h1, h2⟩ := from_last (free := free) (l := rs) now
    have hb : ∃ u, now ≤ u ∧ ∀ r ∈ rs, r.en ≤ u := by
      clear hs h h1 h2 hr
      induction rs with
      | nil => exact ⟨now, Int.le_refl _, fun r hr => by simp at hr⟩
      | cons r rs ih =>
        obtain ⟨u, h1, h2⟩ := ih
        refine ⟨max u r.en, by omega, fun x hx => ?_⟩
        rcases List.mem_cons.1 hx with rfl | hx
        · omega
        · have := h2 x hx; omega
    obtain ⟨u, u1, u2⟩ := hb
    have := (from_first now).2 hs u u1
    rw [at_su, su_all u2] at this
    omega
end Go.Proofs.Ytdkibcagbidelaa.Pr
