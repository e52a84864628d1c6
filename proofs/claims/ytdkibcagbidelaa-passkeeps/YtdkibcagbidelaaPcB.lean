/-
  LAYER 15: package pass: Pass.
-/
import Derived.Test.YtdkibcagbidelaaPcA
import Derived.Test.YtdkibcagbidelaaMcK
namespace Go.Proofs.Ytdkibcagbidelaa
open Go.RowKit Pr

theorem startHolder_any {B m r c : Nat} {vr vs : Value} {ao : Option Addr} {now free : Int} {rs : List Rn} {s : Ps} {h : Wt} {l : List Wt} {W : World} (hM : Mc B m r vr ao c vs now s h l W) (ho : h.job ≠ -1 → OkW h) (n0 : 0 ≤ now) (n1 : now ≤ 2199023255552)
    (hg : Pr.Good now free rs s) (hf : free ≤ 256) (hn : rs.length * 16 + 4096 ≤ 140737488355328) (hB : B ≤ W.heap.size) :
    Calls Try.prog 30 #[.pointer (some ⟨m, 0, none⟩)] W fun e W' => e = .returned (.tuple #[]) ∧ (∃ vr' vs', Mc B m r vr' ao c vs' now (headV now s h).1 (headV now s h).2 l W') ∧ Chg (KM B m r W) W W' := by
  unfold headV
  by_cases hj : h.job = -1
  · rw [if_neg (fun e => e.1 hj)]
    refine (startHolder_none hM hj).mono ?_
    rintro e W' ⟨rfl, b⟩
    exact ⟨rfl, ⟨_, _, hM.below b⟩, Chg.of_below b _⟩
  · by_cases hx : h.nd ≤ s.fr
    · rw [if_pos ⟨hj, hx⟩]
      exact startHolder_yes hM (ho hj) hx n0 n1 hg hf hn hB
    · rw [if_neg (fun e => hx e.2)]
      refine (startHolder_no hM hj (by omega)).mono ?_
      rintro e W' ⟨rfl, b⟩
      exact ⟨rfl, ⟨_, _, hM.below b⟩, Chg.of_below b _⟩
theorem good_head {now free : Int} {rs : List Rn} {s : Ps} {h : Wt} (hg : Pr.Good now free rs s) (ho : h.job ≠ -1 → OkW h) : Pr.Good now free rs (headV now s h).1 := by
  unfold headV
  by_cases hc : h.job ≠ -1 ∧ h.nd ≤ s.fr
  · rw [if_pos hc]
    exact good_st hg hc.2 ⟨(ho hc.1).n1, (ho hc.1).n2⟩
  · rw [if_neg hc]; exact hg
theorem good_pin {now free : Int} {rs : List Rn} {s : Ps} {h : Wt} {l : List Wt} (hg : Pr.Good now free rs s) (hl : ∀ x ∈ l, OkW x) :
    Pr.Good now free rs (pinV now s h l).1 ∧ (∀ x ∈ (pinV now s h l).2.2, x ∈ l) ∧ ((pinV now s h l).2.1 = h ∨ (pinV now s h l).2.1 = noW ∨ (pinV now s h l).2.1 ∈ l) := by
  unfold pinV
  by_cases hj : h.job ≠ -1
  · rw [if_pos hj]; exact ⟨hg, fun _ hx => hx, .inl rfl⟩
  · rw [if_neg hj]
    obtain ⟨g, a, h1, _, _⟩ := rank_good l s hg (fun x hx => ⟨(hl x hx).n1, (hl x hx).n2⟩)
    cases hb : (rankV now s l).2 with
    | nil => exact ⟨g, fun _ hx => by simp at hx, .inr (.inl rfl)⟩
    | cons w b =>
      rw [hb] at h1
      exact ⟨g, fun x hx => by rw [h1]; simp [hx], .inr (.inr (by rw [h1]; simp))⟩
theorem shadow_small {now free need : Int} {l : List Rn} (hl : l.length * 16 ≤ 140737488355328) (hn : 0 ≤ need) : exO need (shadowV now free l need) ≤ 1152921504606846976 := by
  cases hs : shadowV now free l need with
  | none => simp [exO]
  | some s =>
    obtain ⟨_, h2⟩ := shadow_some hs
    obtain ⟨hr, _⟩ := shadow_right hs
    obtain ⟨⟨f0, f1⟩, hok⟩ := right_parts.1 hr
    have := at_bound l s.at_ hok free f0
    simp only [exO]
    omega
theorem fill_any {B m r c : Nat} {vr vs : Value} {ao : Option Addr} {now free : Int} {rs : List Rn} {s : Ps} {h : Wt} {l : List Wt} {W : World} (hM : Mc B m r vr ao c vs now s h l W) (ho : h.job ≠ -1 → OkW h) (n0 : 0 ≤ now) (n1 : now ≤ 2199023255552)
    (hg : Pr.Good now free rs s) (hf : free ≤ 256) (hn : rs.length * 16 + 4096 ≤ 140737488355328) (hB : B ≤ W.heap.size) (hl : ∀ x ∈ l, OkW x) (hc : l.length ≤ 35184372088832) :
    Calls Try.prog 32 #[.pointer (some ⟨m, 0, none⟩)] W fun e W' => e = .returned (.tuple #[.int .i64 (endP now s h l).sh, .int .i64 (endP now s h l).ex]) ∧ (∃ vr' vs', Mc B m r vr' ao c vs' now (endS now s h l) h l W') ∧ Chg (KM B m r W) W W' := by
  unfold endP endS
  by_cases hj : h.job = -1
  · rw [if_pos hj, if_pos hj]
    refine (fill_none hM hj).mono ?_
    rintro e W' ⟨rfl, rfl⟩
    exact ⟨rfl, ⟨_, _, hM⟩, Chg.refl _ _⟩
  · rw [if_neg hj, if_neg hj]
    refine fill_hold hM hj n0 n1 hg hf hn hB hl hc _ _ rfl rfl (shadow_small ?_ (by have := (ho hj).n1; omega))
    have e1 := hg.fr
    have e2 := sumW_nn hg.pos
    have e3 : s.rs.length = rs.length + s.st.length := by rw [hg.rs]; simp
    have e4 := hg.nn
    omega
theorem end_ho (now : Int) (s : Ps) (h : Wt) (l : List Wt) : (endP now s h l).ho = h.job ∧ (endP now s h l).st = (endS now s h l).st.map Wt.job := by
  unfold endP endS
  by_cases hj : h.job = -1
  · rw [if_pos hj, if_pos hj]; exact ⟨hj.symm, rfl⟩
  · rw [if_neg hj, if_neg hj]; exact ⟨rfl, rfl⟩
def intsV (l : List Int) : List Value := l.map (Value.int .i64)
theorem jobs_ints (l : List Wt) : jobsV l = intsV (l.map Wt.job) := by simp [jobsV, intsV]
/-- A plan as it is answered. -/
def planV (v : Value) (p : Pln) : Value := .agg #[v, .int .i64 p.ho, .int .i64 p.sh, .int .i64 p.ex]
theorem own_form {W : World} {B e sz n : Nat} {v : Value} {vs : List Value} (h : W.ownsRow B e sz v n vs) : ∃ a c, v = .slice a n c := by
  rcases h.2 with ⟨rfl, h0⟩ | ⟨g, cap, cur, rfl, _⟩
  · exact ⟨none, 0, by rw [h0]⟩
  · exact ⟨_, _, rfl⟩

theorem set4 {W : World} {b : Nat} {a0 a1 a2 a3 v0 v1 v2 v3 : Value} (h : W.heap[b]? = some (.cells #[a0, a1, a2, a3] 30 (0, 0))) :
    ((((W.setCell ⟨b, 0, none⟩ v0).setCell ⟨b, 1, none⟩ v1).setCell ⟨b, 2, none⟩ v2).setCell ⟨b, 3, none⟩ v3).heap[b]? = some (.cells #[v0, v1, v2, v3] 30 (0, 0)) :=
  heap_setCell_same _ b 3 _ 30 v3 (heap_setCell_same _ b 2 _ 30 v2 (heap_setCell_same _ b 1 _ 30 v1 (heap_setCell_same W b 0 _ 30 v0 h)))
theorem below4 {B : Nat} {w W : World} {b : Nat} {v0 v1 v2 v3 : Value} (h : Below B w W) (hb : B ≤ b) : Below B w ((((W.setCell ⟨b, 0, none⟩ v0).setCell ⟨b, 1, none⟩ v1).setCell ⟨b, 2, none⟩ v2).setCell ⟨b, 3, none⟩ v3) :=
  (((h.setCell (p := ⟨b, 0, none⟩) hb v0).setCell (p := ⟨b, 1, none⟩) hb v1).setCell (p := ⟨b, 2, none⟩) hb v2).setCell (p := ⟨b, 3, none⟩) hb v3
theorem mayWait_any {w : World} {ao : Option Addr} {l : List Wt} {c : Nat} (hA : WantsAt w ao l) (hn : l.length * 24 ≤ 140737490000000) (hwf : ∀ x ∈ l, -9223372036854775808 ≤ x.job ∧ x.job ≤ 9223372036854775807) (all : Int) :
    Calls Try.prog 26 #[.slice ao l.length c, .int .i64 all] w fun e w' => e = .returned (.bool (waitB all [] l)) ∧ Below w.heap.size w w' := by
  by_cases h : all ≤ 256
  · exact mayWait_small hA hn hwf all h
  · exact mayWait_great hA hn hwf all (by omega)

set_option maxRecDepth 20000 in
set_option maxHeartbeats 1000000 in
theorem pass_no {w : World} {ao wo : Option Addr} {rs : List Rn} {ws : List Wt} {c cw : Nat} (hA : RunsAt w ao rs) (hn : rs.length * 16 + 4096 ≤ 140737488355328) (hW : WantsAt w wo ws) (hnw : ws.length * 24 ≤ 140737490000000) (hwf : ∀ x ∈ ws, -9223372036854775808 ≤ x.job ∧ x.job ≤ 9223372036854775807) (now free ho : Int)
    (hc : chkB now free ws ho rs = false) :
    Calls Try.prog 13 #[.int .i64 now, .int .i64 free, .slice wo ws.length cw, .int .i64 ho, .slice ao rs.length c] w fun e w' =>
      e = .returned (.tuple #[planV (.slice none 0 0) ⟨[], 0, 0, 0⟩, .int .i64 150]) ∧ Below w.heap.size w w' := by
  obtain ⟨W0, hW0⟩ : ∃ W0, w.alloc (.cells #[.slice none 0 0, .int .i64 0, .int .i64 0, .int .i64 0] 30) = W0 := ⟨_, rfl⟩
  have b0 : Below w.heap.size w W0 := by rw [← hW0]; exact (Below.refl _ w).alloc (Nat.le_refl _) _
  have hr0 : W0.heap[w.heap.size]? = some (.cells #[.slice none 0 0, .int .i64 0, .int .i64 0, .int .i64 0] 30 (0, 0)) := by rw [← hW0]; exact heap_alloc_new w _
  have C1 := mayRun_any (c := c) (hA.below b0) (by omega) now free
  have hz := lt_of_blk hr0
  have HR0 : Hid _ := hr0
  unfold planV
  unfold chkB at hc
  clear hr0
  cases h1 : mayRunB now free rs with
  | false =>
    rw [h1] at C1
    clear hwf
    go_enter Try.func13, Try.ntmps13
    go_upto_region 2 with (go_at_call 25; refine C1.mono ?_; rintro e w1 ⟨rfl, b1⟩)
    have blk := (b1.block _ (lt_of_blk HR0.out)).trans HR0.out
    have HB : Hid (Below w.heap.size w w1) := b0.trans (b1.mono (by omega))
    have e4 := set4 (v0 := .slice none 0 0) (v1 := .int .i64 0) (v2 := .int .i64 0) (v3 := .int .i64 0) blk
    have y0 := cells_at e4 (k := 0) rfl
    have y1 := cells_at e4 (k := 1) rfl
    have y2 := cells_at e4 (k := 2) rfl
    have y3 := cells_at e4 (k := 3) rfl
    have c0 := cells_at blk (k := 0) rfl
    have c1 := cells_at blk (k := 1) rfl
    have c2 := cells_at blk (k := 2) rfl
    have c3 := cells_at blk (k := 3) rfl
    have g0 := frozen_at blk (k := 0)
    have g1 := frozen_at blk (k := 1)
    have g2 := frozen_at blk (k := 2)
    have g3 := frozen_at blk (k := 3)
    have Y : Hid (_ ∧ _ ∧ _ ∧ _) := And.intro y0 (And.intro y1 (And.intro y2 y3))
    clear blk e4 y0 y1 y2 y3
    go_wp2
    obtain ⟨y0, y1, y2, y3⟩ := Y.out
    exact bodyPost_ret (v := .tuple #[.agg #[.slice none 0 0, .int .i64 0, .int .i64 0, .int .i64 0], .int .i64 150]) (by simp [results, Try.results13, go_sem, y0, y1, y2, y3]) rfl ⟨rfl, below4 HB.out (Nat.le_refl _)⟩
  | true =>
    rw [h1] at C1 hc
    rw [Bool.true_and] at hc
    have hmr : (frB 0 2199023255552 now && frB 0 256 free) = true ∧ rs.all (runB now) = true := by
      have h2 : ((frB 0 2199023255552 now && frB 0 256 free) && rs.all (runB now)) = true := h1
      exact (Bool.and_eq_true _ _ ▸ h2)
    obtain ⟨f0, f1⟩ : 0 ≤ free ∧ free ≤ 256 := by have := hmr.1; simp [frB] at this; omega
    have hok : rs.all okR = true := by
      rw [List.all_eq_true]
      intro r hr
      have := List.all_eq_true.1 hmr.2 r hr
      unfold runB at this
      exact (Bool.and_eq_true _ _ ▸ this).1
    have C2 : ∀ w', Below W0.heap.size W0 w' → Calls Try.prog 27 #[.slice ao rs.length c] w' fun e w'' => e = .returned (.int .i64 (sumN rs)) ∧ Below w'.heap.size w' w'' := fun w' b => nodes_any (hA.below (b0.trans (b.mono (by omega)))) (by omega) hok
    have C3 : ∀ w' all, Below W0.heap.size W0 w' → Calls Try.prog 26 #[.slice wo ws.length cw, .int .i64 all] w' fun e w'' => e = .returned (.bool (waitB all [] ws)) ∧ Below w'.heap.size w' w'' := fun w' all b => mayWait_any (hW.below (b0.trans (b.mono (by omega)))) hnw hwf all
    have C4 : ∀ w', Below W0.heap.size W0 w' → Calls Try.prog 28 #[.int .i64 ho, .slice wo ws.length cw] w' fun e w'' => e = .returned (.bool (mayHoldB ho ws)) ∧ Below w'.heap.size w' w'' := fun w' b => mayHold_any (hW.below (b0.trans (b.mono (by omega)))) hnw ho
    have hsb := sumN_bound hok
    clear hmr hok hwf h1 hW hA
    generalize hS : sumN rs = S at *
    have s0 : 0 ≤ S := hsb.1
    have s1 : S ≤ 256 * rs.length := hsb.2
    clear hsb hS
    cases h2 : waitB (free + S) [] ws with
    | false =>
      go_enter Try.func13, Try.ntmps13
      go_upto_region 2 with (first
        | (go_at_call 25; refine C1.mono ?_; rintro e w1 ⟨rfl, b1⟩)
        | (go_at_call 27; refine (C2 _ b1).mono ?_; rintro e w2 ⟨rfl, b2⟩; have B2 := b1.trans (b2.mono b1.size))
        | (go_at_call 26; refine (C3 _ _ B2).mono ?_; rw [h2]; rintro e w3 ⟨rfl, b3⟩; have B3 := B2.trans (b3.mono B2.size)))
      have blk := (B3.block _ (lt_of_blk HR0.out)).trans HR0.out
      have HB : Hid (Below w.heap.size w w3) := b0.trans (B3.mono (by omega))
      have e4 := set4 (v0 := .slice none 0 0) (v1 := .int .i64 0) (v2 := .int .i64 0) (v3 := .int .i64 0) blk
      have y0 := cells_at e4 (k := 0) rfl
      have y1 := cells_at e4 (k := 1) rfl
      have y2 := cells_at e4 (k := 2) rfl
      have y3 := cells_at e4 (k := 3) rfl
      have c0 := cells_at blk (k := 0) rfl
      have c1 := cells_at blk (k := 1) rfl
      have c2 := cells_at blk (k := 2) rfl
      have c3 := cells_at blk (k := 3) rfl
      have g0 := frozen_at blk (k := 0)
      have g1 := frozen_at blk (k := 1)
      have g2 := frozen_at blk (k := 2)
      have g3 := frozen_at blk (k := 3)
      have Y : Hid (_ ∧ _ ∧ _ ∧ _) := And.intro y0 (And.intro y1 (And.intro y2 y3))
      clear blk e4 y0 y1 y2 y3
      go_wp2
      obtain ⟨y0, y1, y2, y3⟩ := Y.out
      exact bodyPost_ret (v := .tuple #[.agg #[.slice none 0 0, .int .i64 0, .int .i64 0, .int .i64 0], .int .i64 150]) (by simp [results, Try.results13, go_sem, y0, y1, y2, y3]) rfl ⟨rfl, below4 HB.out (Nat.le_refl _)⟩
    | true =>
      rw [h2, Bool.true_and] at hc
      go_enter Try.func13, Try.ntmps13
      go_upto_region 2 with (first
        | (go_at_call 25; refine C1.mono ?_; rintro e w1 ⟨rfl, b1⟩)
        | (go_at_call 27; refine (C2 _ b1).mono ?_; rintro e w2 ⟨rfl, b2⟩; have B2 := b1.trans (b2.mono b1.size))
        | (go_at_call 26; refine (C3 _ _ B2).mono ?_; rw [h2]; rintro e w3 ⟨rfl, b3⟩; have B3 := B2.trans (b3.mono B2.size))
        | (go_at_call 28; refine (C4 _ B3).mono ?_; rw [hc]; rintro e w4 ⟨rfl, b4⟩; have B4 := B3.trans (b4.mono B3.size)))
      have blk := (B4.block _ (lt_of_blk HR0.out)).trans HR0.out
      have HB : Hid (Below w.heap.size w w4) := b0.trans (B4.mono (by omega))
      have e4 := set4 (v0 := .slice none 0 0) (v1 := .int .i64 0) (v2 := .int .i64 0) (v3 := .int .i64 0) blk
      have y0 := cells_at e4 (k := 0) rfl
      have y1 := cells_at e4 (k := 1) rfl
      have y2 := cells_at e4 (k := 2) rfl
      have y3 := cells_at e4 (k := 3) rfl
      have c0 := cells_at blk (k := 0) rfl
      have c1 := cells_at blk (k := 1) rfl
      have c2 := cells_at blk (k := 2) rfl
      have c3 := cells_at blk (k := 3) rfl
      have g0 := frozen_at blk (k := 0)
      have g1 := frozen_at blk (k := 1)
      have g2 := frozen_at blk (k := 2)
      have g3 := frozen_at blk (k := 3)
      have Y : Hid (_ ∧ _ ∧ _ ∧ _) := And.intro y0 (And.intro y1 (And.intro y2 y3))
      clear blk e4 y0 y1 y2 y3
      go_wp2
      obtain ⟨y0, y1, y2, y3⟩ := Y.out
      exact bodyPost_ret (v := .tuple #[.agg #[.slice none 0 0, .int .i64 0, .int .i64 0, .int .i64 0], .int .i64 150]) (by simp [results, Try.results13, go_sem, y0, y1, y2, y3]) rfl ⟨rfl, below4 HB.out (Nat.le_refl _)⟩

set_option maxRecDepth 20000 in
set_option maxHeartbeats 1000000 in
theorem pass_yes {w : World} {ao wo : Option Addr} {rs : List Rn} {ws : List Wt} {c cw : Nat} (hA : RunsAt w ao rs) (hn : rs.length * 16 + 4096 ≤ 140737488355328) (hW : WantsAt w wo ws) (hnw : ws.length * 24 ≤ 140737490000000) (hwf : ∀ x ∈ ws, -9223372036854775808 ≤ x.job ∧ x.job ≤ 9223372036854775807) (now free ho : Int)
    (hc : chkB now free ws ho rs = true) :
    Calls Try.prog 13 #[.int .i64 now, .int .i64 free, .slice wo ws.length cw, .int .i64 ho, .slice ao rs.length c] w fun e w' =>
      ∃ v, e = .returned (.tuple #[planV v (passV now free ws ho rs), .int .i64 0]) ∧ w'.ownsRow w.heap.size 3 1 v (passV now free ws ho rs).st.length (intsV (passV now free ws ho rs).st) ∧ Below w.heap.size w w' := by
  obtain ⟨W0, hW0⟩ : ∃ W0, w.alloc (.cells #[.slice none 0 0, .int .i64 0, .int .i64 0, .int .i64 0] 30) = W0 := ⟨_, rfl⟩
  have b0 : Below w.heap.size w W0 := by rw [← hW0]; exact (Below.refl _ w).alloc (Nat.le_refl _) _
  have hr0 : W0.heap[w.heap.size]? = some (.cells #[.slice none 0 0, .int .i64 0, .int .i64 0, .int .i64 0] 30 (0, 0)) := by rw [← hW0]; exact heap_alloc_new w _
  have hk := chk_iff.1 hc
  have C1 := mayRun_any (c := c) (hA.below b0) (by omega) now free
  have hz := lt_of_blk hr0
  have HR0 : Hid _ := hr0
  unfold chkB at hc
  rw [Bool.and_eq_true, Bool.and_eq_true] at hc
  obtain ⟨h1, h2, h3⟩ := hc
  rw [h1] at C1
  obtain ⟨⟨f0, f1⟩, hok⟩ := right_parts.1 hk.rt
  have C2 : ∀ w', Below W0.heap.size W0 w' → Calls Try.prog 27 #[.slice ao rs.length c] w' fun e w'' => e = .returned (.int .i64 (sumN rs)) ∧ Below w'.heap.size w' w'' := fun w' b => nodes_any (hA.below (b0.trans (b.mono (by omega)))) (by omega) hok
  have C3 : ∀ w', Below W0.heap.size W0 w' → Calls Try.prog 26 #[.slice wo ws.length cw, .int .i64 (free + sumN rs)] w' fun e w'' => e = .returned (.bool true) ∧ Below w'.heap.size w' w'' := fun w' b => h2 ▸ mayWait_any (hW.below (b0.trans (b.mono (by omega)))) hnw hwf (free + sumN rs)
  have C4 : ∀ w', Below W0.heap.size W0 w' → Calls Try.prog 28 #[.int .i64 ho, .slice wo ws.length cw] w' fun e w'' => e = .returned (.bool true) ∧ Below w'.heap.size w' w'' := fun w' b => h3 ▸ mayHold_any (hW.below (b0.trans (b.mono (by omega)))) hnw ho
  have C5 : ∀ w', Below W0.heap.size W0 w' → Calls Try.prog 29 #[.int .i64 now, .int .i64 free, .slice wo ws.length cw, .int .i64 ho, .slice ao rs.length c] w' fun e w'' => ∃ m r vr ao' c', e = .returned (.pointer (some ⟨m, 0, none⟩)) ∧
      Mc w'.heap.size m r vr ao' c' (.slice none 0 0) now ⟨free, rs, []⟩ (holdL ho noW ws) (othV ho ws) w'' ∧ Below w'.heap.size w' w'' ∧ (othV ho ws).length ≤ c' ∧ c' ≤ maxLen :=
    fun w' b => machine_any (hA.below (b0.trans (b.mono (by omega)))) (by omega) (hW.below (b0.trans (b.mono (by omega)))) hnw now free ho
  have hsb := sumN_bound hok
  have s0 : 0 ≤ sumN rs := hsb.1
  have s1 : sumN rs ≤ 256 * rs.length := hsb.2
  have n0 := hk.n0
  have n1 := hk.n1
  have hOk : ∀ x ∈ ws, OkW x := fun x hx => by have := hk.wt x hx; exact ⟨by omega, by omega, by omega, by omega, by omega⟩
  have hOth : ∀ x ∈ othV ho ws, OkW x := fun x hx => hOk x (List.mem_filter.1 hx).1
  have hHo : ∀ h, (h = noW ∨ h ∈ ws) → h.job ≠ -1 → OkW h := fun h hh hj => hh.elim (fun e => by rw [e] at hj; exact absurd rfl hj) (fun e => hOk h e)
  have hHn : ∀ h, (h = noW ∨ h ∈ ws) → h.job = -1 → h = noW := fun h hh hj => hh.elim id (fun e => by have := (hOk h e).j; omega)
  have hol : (othV ho ws).length ≤ ws.length := List.length_filter_le _ _
  have G0 : Pr.Good now free rs ⟨free, rs, []⟩ := good0 f0
  have HC : Hid _ := hold_cases ho ws noW
  have HOK : Hid _ := hOk
  have HOT : Hid _ := hOth
  have HHO : Hid _ := hHo
  have HHN : Hid _ := hHn
  have HG0 : Hid _ := G0
  clear hr0 hsb hk hok h1 h2 h3 hwf hA hW hOk hOth hHo hHn G0
  go_enter Try.func13, Try.ntmps13
  go_upto_region 4 with (first
    | (go_at_call 25; refine C1.mono ?_; rintro e w1 ⟨rfl, b1⟩)
    | (go_at_call 27; refine (C2 _ b1).mono ?_; rintro e w2 ⟨rfl, b2⟩; have B2 := b1.trans (b2.mono b1.size))
    | (go_at_call 26; refine (C3 _ B2).mono ?_; rintro e w3 ⟨rfl, b3⟩; have B3 := B2.trans (b3.mono B2.size))
    | (go_at_call 28; refine (C4 _ B3).mono ?_; rintro e w4 ⟨rfl, b4⟩; have B4 := B3.trans (b4.mono B3.size))
    | (go_at_call 29; refine (C5 _ B4).mono ?_; rintro e w5 ⟨m, r, vr, ao', c', rfl, hM5, b5, hc5, hd5⟩))
  have hBz := b5.size
  have BB : Below w.heap.size w w4 := b0.trans (B4.mono (by omega))
  have hwz := B4.size
  have HR4 : Hid _ := (B4.block _ (lt_of_blk HR0.out)).trans HR0.out
  have HBB : Hid _ := BB
  have HB5 : Hid _ := b5
  have HM5 : Hid _ := hM5
  clear C1 C2 C3 C4 C5 b0 b1 b2 b3 b4 B2 B3 B4 b5 BB hM5 HR0 hW0
  have D1 := startHolder_any HM5.out (HHO.out _ HC.out) n0 n1 HG0.out f1 hn hBz
  go_upto_region 5 with (go_at_call 30; refine D1.mono ?_; rintro e w6 ⟨rfl, ⟨vr6, vs6, hM6⟩, hC6⟩)
  have G6 := good_head (now := now) (s := ⟨free, rs, []⟩) HG0.out (HHO.out _ HC.out)
  have H6 : (headV now ⟨free, rs, []⟩ (holdL ho noW ws)).2 = noW ∨ (headV now ⟨free, rs, []⟩ (holdL ho noW ws)).2 ∈ ws := by
    unfold headV
    by_cases hcc : (holdL ho noW ws).job ≠ -1 ∧ (holdL ho noW ws).nd ≤ (Ps.mk free rs []).fr
    · rw [if_pos hcc]; exact .inl rfl
    · rw [if_neg hcc]; exact HC.out
  have hz6 := hC6.size
  have D2 := inRank_any hM6 n0 n1 G6 f1 hn (by omega) (HHN.out _ H6) HOT.out hc5 hd5
  have HM6 : Hid _ := hM6
  have HC6 : Hid _ := hC6
  clear D1 hM6 hC6 hd5
  go_upto_region 6 with (go_at_call 31; refine D2.mono ?_; rintro e w7 ⟨rfl, ⟨vr7, ao7, c7, vs7, hM7⟩, hC7⟩)
  obtain ⟨G7, l7, h7⟩ := good_pin (h := (headV now ⟨free, rs, []⟩ (holdL ho noW ws)).2) G6 HOT.out
  have H7 : (pinV now (headV now ⟨free, rs, []⟩ (holdL ho noW ws)).1 (headV now ⟨free, rs, []⟩ (holdL ho noW ws)).2 (othV ho ws)).2.1 = noW ∨ (pinV now (headV now ⟨free, rs, []⟩ (holdL ho noW ws)).1 (headV now ⟨free, rs, []⟩ (holdL ho noW ws)).2 (othV ho ws)).2.1 ∈ ws := by
    rcases h7 with e | e | e
    · rw [e]; exact H6
    · exact .inl e
    · exact .inr (List.mem_filter.1 e).1
  have hl7 : (pinV now (headV now ⟨free, rs, []⟩ (holdL ho noW ws)).1 (headV now ⟨free, rs, []⟩ (holdL ho noW ws)).2 (othV ho ws)).2.2.length ≤ 35184372088832 := by
    have e1 : ∀ (s : Ps) (l : List Wt), (rankV now s l).2.length ≤ l.length := by
      intro s l
      induction l generalizing s with
      | nil => simp [rankV]
      | cons x l ih => simp only [rankV]; split; (have := ih (stV now s x); simp only [List.length_cons]; omega); simp
    have e2 : ∀ (s : Ps) (h : Wt) (l : List Wt), (pinV now s h l).2.2.length ≤ l.length := by
      intro s h l
      unfold pinV
      have := e1 s l
      split
      · exact Nat.le_refl _
      · split
        · simp
        · rename_i w2 l2 hq; rw [hq] at this; simp only [List.length_cons] at this; show l2.length ≤ _; omega
    have := e2 (headV now ⟨free, rs, []⟩ (holdL ho noW ws)).1 (headV now ⟨free, rs, []⟩ (holdL ho noW ws)).2 (othV ho ws)
    omega
  have hz7 := hC7.size
  have HPV : Hid (passV now free ws ho rs = endP now (pinV now (headV now ⟨free, rs, []⟩ (holdL ho noW ws)).1 (headV now ⟨free, rs, []⟩ (holdL ho noW ws)).2 (othV ho ws)).1 (pinV now (headV now ⟨free, rs, []⟩ (holdL ho noW ws)).1 (headV now ⟨free, rs, []⟩ (holdL ho noW ws)).2 (othV ho ws)).2.1 (pinV now (headV now ⟨free, rs, []⟩ (holdL ho noW ws)).1 (headV now ⟨free, rs, []⟩ (holdL ho noW ws)).2 (othV ho ws)).2.2) := rfl
  generalize pinV now (headV now ⟨free, rs, []⟩ (holdL ho noW ws)).1 (headV now ⟨free, rs, []⟩ (holdL ho noW ws)).2 (othV ho ws) = P at *
  obtain ⟨s7, hh7, ll7⟩ := P
  simp only at hM7 G7 l7 H7 hl7 HPV
  have D3 := fill_any hM7 (HHO.out _ H7) n0 n1 G7 f1 hn (by omega) (fun x hx => HOT.out x (l7 x hx)) hl7
  obtain ⟨E1, E2⟩ := end_ho now s7 hh7 ll7
  rw [← HPV.out] at D3 E1 E2
  have HC7 : Hid _ := hC7
  have HE1 : Hid _ := E1
  have HE2 : Hid _ := E2
  clear D2 hM7 hC7 HPV G6 G7 H6 H7 h7 l7 hl7 HM6 HG0 HHO HHN HOT HOK HC E1 E2 hol hc5
  generalize hPVe : passV now free ws ho rs = PV at *
  have HPE : Hid _ := hPVe
  clear hPVe
  go_upto_region 7 with (go_at_call 32; refine D3.mono ?_; rintro e w8 ⟨rfl, ⟨vr8, vs8, hM8⟩, hC8⟩)
  obtain ⟨sa, sc, rfl⟩ := own_form hM8.starts
  have m4 := cells_at hM8.blk (k := 4) rfl
  have m7 := cells_at hM8.blk (k := 7) rfl
  have hz8 := hC8.size
  have CC : Chg (KM w4.heap.size m r w5) w5 w8 := KM.trans HC6.out (KM.trans HC7.out hC8)
  have blk4 : w8.heap[w.heap.size]? = some (.cells #[.slice none 0 0, .int .i64 0, .int .i64 0, .int .i64 0] 30 (0, 0)) := by
    have e5 := (HB5.out.block _ (lt_of_blk HR4.out)).trans HR4.out
    exact (CC.block _ (lt_of_blk e5) (fun e => by have := KM.lo HM5.out e; have := lt_of_blk HR4.out; omega)).trans e5
  have BF : Below w.heap.size w w8 := CC.below (HBB.out.trans (HB5.out.mono (by omega))) (by omega) (fun i e => by have := KM.lo HM5.out e; omega)
  have srow : w8.ownsRow w.heap.size 3 1 (.slice sa (endS now s7 hh7 ll7).st.length sc) (endS now s7 hh7 ll7).st.length (jobsV (endS now s7 hh7 ll7).st) := own_base hM8.starts (by omega)
  have hsr : ∀ k, (Value.slice sa (endS now s7 hh7 ll7).st.length sc).ownBlock = some k → k ≠ w.heap.size := fun k e => by obtain ⟨_, cs, hk⟩ := row_tag srow e; exact tag_ne hk blk4 (by decide)
  rw [← HE1.out] at m4
  generalize endS now s7 hh7 ll7 = S8 at *
  have c0 := cells_at blk4 (k := 0) rfl
  have c1 := cells_at blk4 (k := 1) rfl
  have c2 := cells_at blk4 (k := 2) rfl
  have c3 := cells_at blk4 (k := 3) rfl
  have g0 := frozen_at blk4 (k := 0)
  have g1 := frozen_at blk4 (k := 1)
  have g2 := frozen_at blk4 (k := 2)
  have g3 := frozen_at blk4 (k := 3)
  have hmne : m ≠ w.heap.size := tag_ne hM8.blk blk4 (by decide)
  have HBF : Hid _ := BF
  have HSR : Hid _ := srow
  have HSN : Hid _ := hsr
  have HB4 : Hid _ := blk4
  clear D3 hM8 hC8 CC blk4 BF srow hsr HM5 HC6 HC7 HR4 HBB HB5
  go_region
  go_wp2
  have e4 := set4 (v0 := .slice sa S8.st.length sc) (v1 := .int .i64 PV.ho) (v2 := .int .i64 PV.sh) (v3 := .int .i64 PV.ex) HB4.out
  have y0 := cells_at e4 (k := 0) rfl
  have y1 := cells_at e4 (k := 1) rfl
  have y2 := cells_at e4 (k := 2) rfl
  have y3 := cells_at e4 (k := 3) rfl
  have hfr : ∀ k, (Value.slice sa S8.st.length sc).ownBlock = some k → ((((w8.setCell ⟨w.heap.size, 0, none⟩ (.slice sa S8.st.length sc)).setCell ⟨w.heap.size, 1, none⟩ (.int .i64 PV.ho)).setCell ⟨w.heap.size, 2, none⟩ (.int .i64 PV.sh)).setCell ⟨w.heap.size, 3, none⟩ (.int .i64 PV.ex)).heap[k]? = w8.heap[k]? := fun k e => by
    have hne := HSN.out k e
    exact (Below.heap_setCell _ _ _ _ hne).trans ((Below.heap_setCell _ _ _ _ hne).trans ((Below.heap_setCell _ _ _ _ hne).trans (Below.heap_setCell _ _ _ _ hne)))
  refine bodyPost_ret (v := .tuple #[planV (.slice sa S8.st.length sc) PV, .int .i64 0]) (by simp [results, Try.results13, go_sem, y0, y1, y2, y3, planV]) rfl ?_
  rw [HPE.out]
  refine ⟨.slice sa S8.st.length sc, rfl, ?_, Below.drew (below4 HBF.out (Nat.le_refl _))⟩
  rw [HE2.out, List.length_map, ← jobs_ints]
  exact row_keep HSR.out hfr
theorem pass_any {w : World} {ao wo : Option Addr} {rs : List Rn} {ws : List Wt} {c cw : Nat} (hA : RunsAt w ao rs) (hn : rs.length * 16 + 4096 ≤ 140737488355328) (hW : WantsAt w wo ws) (hnw : ws.length * 24 ≤ 140737490000000) (hwf : ∀ x ∈ ws, -9223372036854775808 ≤ x.job ∧ x.job ≤ 9223372036854775807) (now free ho : Int) :
    Calls Try.prog 13 #[.int .i64 now, .int .i64 free, .slice wo ws.length cw, .int .i64 ho, .slice ao rs.length c] w fun e w' =>
      ∃ v, e = .returned (.tuple #[planV v (passR now free ws ho rs), .int .i64 (passE now free ws ho rs)]) ∧ w'.ownsRow w.heap.size 3 1 v (passR now free ws ho rs).st.length (intsV (passR now free ws ho rs).st) ∧ Below w.heap.size w w' := by
  unfold passR passE
  cases hc : chkB now free ws ho rs with
  | true =>
    exact pass_yes hA hn hW hnw hwf now free ho hc
  | false =>
    refine (pass_no hA hn hW hnw hwf now free ho hc).mono ?_
    rintro e w' ⟨rfl, b⟩
    exact ⟨_, rfl, World.ownsRow_nil _ _ _ _, b⟩
end Go.Proofs.Ytdkibcagbidelaa
