/-
  What the reference's pass has still to do. No Go in sight.
  LAYER 15, the reference: Pass, where it may not be.
  LAYER 15, the reference: Pass: what stands between two of its steps.
  LAYER 15, the reference: Pass, where it may be.
-/
import Derived.Test.YtdkibcagbidelaaPtM
import Derived.Test.YtdkibcagbidelaaMcH
import Derived.Test.YtdkibcagbidelaaXrd
import Derived.Test.YtdkibcagbidelaaXrc
namespace Go.Proofs.Ytdkibcagbidelaa
open Go.RowKit Pr

/-- Who holds is known: the others fill. -/
def Pnd (now : Int) (PV : Pln) (s : Ps) (l : List Wt) (h : Int) : Prop := ∃ x, x ∈ l ∧ x.job = h ∧ PV = endP now s x (othV h l)
/-- Nobody holds: who is left is started in rank. -/
def Rnk (now : Int) (PV : Pln) (s : Ps) (l : List Wt) : Prop := PV = endP now (pinV now s noW l).1 (pinV now s noW l).2.1 (pinV now s noW l).2.2
theorem rnk_step {now : Int} {PV : Pln} {s : Ps} {x : Wt} {l : List Wt} (h : Rnk now PV s (x :: l)) (hx : x.nd ≤ s.fr) : Rnk now PV (stV now s x) l := by
  unfold Rnk at *
  rw [pin_yes hx] at h
  exact h
theorem rnk_nil {now : Int} {PV : Pln} {s : Ps} (h : Rnk now PV s []) : PV = ⟨s.st.map Wt.job, -1, 0, 0⟩ := by
  rw [h]
  rfl
theorem rnk_pin {now : Int} {PV : Pln} {s : Ps} {x : Wt} {l : List Wt} (h : Rnk now PV s (x :: l)) (hx : s.fr < x.nd) (hj : 0 ≤ x.job) (hu : ((x :: l).map Wt.job).Nodup) : Pnd now PV s (x :: l) x.job := by
  refine ⟨x, by simp, rfl, ?_⟩
  unfold Rnk at h
  have e : pinV now s x l = (s, x, l) := by unfold pinV; rw [if_pos (by omega)]
  rw [pin_no hx (by omega), e] at h
  have e2 : othV x.job (x :: l) = l := by
    have := erase_oth hu (i := 0) (w := x) rfl
    rw [← this]
    rfl
  rw [e2]
  exact h
theorem rnk_start {now free : Int} {ws : List Wt} {rs : List Rn} (h : ∀ x ∈ ws, 0 ≤ x.job) : Rnk now (passV now free ws (-1) rs) ⟨free, rs, []⟩ ws := by
  have hn : ∀ x ∈ ws, x.job ≠ -1 := fun x hx => by have := h x hx; omega
  unfold Rnk passV pnV hdV
  rw [hold_none ws noW hn, oth_self hn]
  have e : headV now ⟨free, rs, []⟩ noW = (⟨free, rs, []⟩, noW) := by unfold headV; rw [if_neg (fun e => e.1 rfl)]
  rw [e]
theorem rnk_fit {now free : Int} {ws : List Wt} {rs : List Rn} {i : Nat} {x : Wt} (hu : (ws.map Wt.job).Nodup) (hi : ws[i]? = some x) (hj : 0 ≤ x.job) (hx : x.nd ≤ free) : Rnk now (passV now free ws x.job rs) (stV now ⟨free, rs, []⟩ x) (ws.eraseIdx i) := by
  unfold Rnk passV pnV hdV
  rw [(hold_some hu x noW (List.mem_of_getElem? hi) rfl).1, erase_oth hu hi]
  have e : headV now ⟨free, rs, []⟩ x = (stV now ⟨free, rs, []⟩ x, noW) := by unfold headV; rw [if_pos ⟨by omega, hx⟩]
  rw [e]
theorem pnd_start {now free : Int} {ws : List Wt} {rs : List Rn} {i : Nat} {x : Wt} (hu : (ws.map Wt.job).Nodup) (hi : ws[i]? = some x) (hj : 0 ≤ x.job) (hx : free < x.nd) : Pnd now (passV now free ws x.job rs) ⟨free, rs, []⟩ ws x.job := by
  refine ⟨x, List.mem_of_getElem? hi, rfl, ?_⟩
  unfold passV pnV hdV
  rw [(hold_some hu x noW (List.mem_of_getElem? hi) rfl).1]
  have e : headV now ⟨free, rs, []⟩ x = (⟨free, rs, []⟩, x) := by unfold headV; rw [if_neg (fun e => by have := e.2; simp only at this; omega)]
  rw [e]
  unfold pinV
  rw [if_pos (by show x.job ≠ -1; omega)]
/-- What fills, in the end. -/
structure Fil (now : Int) (PV : Pln) (sh X : Int) (s : Ps) (l : List Wt) (h : Int) (i : Nat) : Prop where
  st : (fillV now sh s X (othV h (l.drop i))).st.map Wt.job = PV.st
theorem pnd_fil {now : Int} {PV : Pln} {s : Ps} {x : Wt} {l : List Wt} (h0 : 0 ≤ x.job) (h : PV = endP now s x (othV x.job l)) :
    PV.ho = x.job ∧ PV.sh = atO (shadowV now s.fr s.rs x.nd) ∧ PV.ex = exO x.nd (shadowV now s.fr s.rs x.nd) ∧ Fil now PV (atO (shadowV now s.fr s.rs x.nd)) (exO x.nd (shadowV now s.fr s.rs x.nd)) s l x.job 0 := by
  have hj : x.job ≠ -1 := by omega
  have e : endP now s x (othV x.job l) = ⟨(endS now s x (othV x.job l)).st.map Wt.job, x.job, atO (shadowV now s.fr s.rs x.nd), exO x.nd (shadowV now s.fr s.rs x.nd)⟩ := by unfold endP; rw [if_neg hj]
  rw [e] at h
  refine ⟨by rw [h], by rw [h], by rw [h], ⟨?_⟩⟩
  rw [h, List.drop_zero]
  unfold endS
  rw [if_neg hj]
theorem fil_pass {now : Int} {PV : Pln} {sh X : Int} {s : Ps} {l : List Wt} {h : Int} {i : Nat} {w : Wt} (H : Fil now PV sh X s l h i) (hw : l[i]? = some w) (hc : w.job = h ∨ s.fr < w.nd ∨ (sh < now + w.lm ∧ X < w.nd)) : Fil now PV sh X s l h (i + 1) := by
  refine ⟨?_⟩
  rw [← H.st, oth_drop h hw]
  by_cases e : w.job = h
  · rw [if_pos e]
  · rw [if_neg e, fill_one, if_pos (hc.resolve_left e)]
theorem fil_take {now : Int} {PV : Pln} {sh X : Int} {s : Ps} {l : List Wt} {h : Int} {i : Nat} {w : Wt} (H : Fil now PV sh X s l h i) (hw : l[i]? = some w) (h1 : w.job ≠ h) (h2 : w.nd ≤ s.fr) (h3 : now + w.lm ≤ sh ∨ w.nd ≤ X) : Fil now PV sh (if sh < now + w.lm then X - w.nd else X) (stV now s w) (l.eraseIdx i) h i := by
  have hno : ¬ (s.fr < w.nd ∨ (sh < now + w.lm ∧ X < w.nd)) := by omega
  refine ⟨?_⟩
  rw [← H.st, oth_drop h hw, if_neg h1, fill_one, if_neg hno, drop_erase]
theorem fil_end {now : Int} {PV : Pln} {sh X : Int} {s : Ps} {l : List Wt} {h : Int} {i : Nat} (H : Fil now PV sh X s l h i) (hi : l.length ≤ i) : s.st.map Wt.job = PV.st := by
  rw [← H.st, List.drop_of_length_le hi]
  rfl
end Go.Proofs.Ytdkibcagbidelaa
namespace Go.Proofs.Ytdkibcagbidelaa
open Go.RowKit Pr

set_option maxRecDepth 20000 in
set_option maxHeartbeats 1000000 in
theorem rpass_no {w : World} {ao wo : Option Addr} {rs : List Rn} {ws : List Wt} {c cw : Nat} (hA : RunsAt w ao rs) (hn : rs.length * 16 + 4096 ≤ 140737488355328) (hW : WantsAt w wo ws) (hnw : ws.length * 24 ≤ 140737490000000) (now free ho : Int)
    (hc : chkB now free ws ho rs = false) :
    Calls Try.prog 10 #[.int .i64 now, .int .i64 free, .slice wo ws.length cw, .int .i64 ho, .slice ao rs.length c] w fun e w' =>
      e = .returned (.tuple #[planV (.slice none 0 0) ⟨[], 0, 0, 0⟩, .int .i64 150]) ∧ Below w.heap.size w w' := by
  obtain ⟨W0, hW0⟩ : ∃ W0, w.alloc (.cells #[.slice none 0 0, .int .i64 0, .int .i64 0, .int .i64 0] 30) = W0 := ⟨_, rfl⟩
  have b0 : Below w.heap.size w W0 := by rw [← hW0]; exact (Below.refl _ w).alloc (Nat.le_refl _) _
  have hr0 : W0.heap[w.heap.size]? = some (.cells #[.slice none 0 0, .int .i64 0, .int .i64 0, .int .i64 0] 30 (0, 0)) := by rw [← hW0]; exact heap_alloc_new w _
  have C1 := rchk_any (cw := cw) (cr := c) (hW.below b0) (hA.below b0) hnw (by omega) now free ho
  rw [hc, show chkE false = .int .i64 150 from rfl] at C1
  unfold planV
  have HR0 : Hid _ := hr0
  have HB0 : Hid _ := b0
  clear hr0 b0 hA hW
  go_enter Try.func10, Try.ntmps10
  go_upto_region 3 with (go_at_call 17; refine C1.mono ?_; rintro e w1 ⟨rfl, b1⟩)
  have blk := bk b1 HR0.out
  have y0 := cells_at blk (k := 0) rfl
  have y1 := cells_at blk (k := 1) rfl
  have y2 := cells_at blk (k := 2) rfl
  have y3 := cells_at blk (k := 3) rfl
  have g0 := frozen_at blk (k := 0)
  have g1 := frozen_at blk (k := 1)
  have g2 := frozen_at blk (k := 2)
  have g3 := frozen_at blk (k := 3)
  have e4 := set4 (v0 := .slice none 0 0) (v1 := .int .i64 0) (v2 := .int .i64 0) (v3 := .int .i64 0) blk
  have HB : Hid (Below w.heap.size w w1) := HB0.out.trans (b1.mono HB0.out.size)
  have Y : Hid (_ ∧ _ ∧ _ ∧ _) := And.intro (cells_at e4 (k := 0) rfl) (And.intro (cells_at e4 (k := 1) rfl) (And.intro (cells_at e4 (k := 2) rfl) (cells_at e4 (k := 3) rfl)))
  clear blk e4 b1 C1 HR0 HB0
  go_wp2
  obtain ⟨y0, y1, y2, y3⟩ := Y.out
  exact bodyPost_ret (v := .tuple #[.agg #[.slice none 0 0, .int .i64 0, .int .i64 0, .int .i64 0], .int .i64 150]) (by simp [results, Try.results10, go_sem, y0, y1, y2, y3]) rfl ⟨rfl, below4 HB.out (Nat.le_refl _)⟩
end Go.Proofs.Ytdkibcagbidelaa
namespace Go.Proofs.Ytdkibcagbidelaa
open Go.RowKit Pr

/-- A round that has come so far. -/
structure Rst (B b : Nat) (now free : Int) (rs : List Rn) (ws : List Wt) (w1 : World) (s : Ps) (l : List Wt) (W : World) : Prop where
  rd : ∃ lo ro cl cr sv, Rd B b lo ro cl cr sv now s l W
  be : Below B w1 W
  gd : Pr.Good now free rs s
  sb : l.Sublist ws
section
variable {B b : Nat} {now free ho : Int} {rs : List Rn} {ws : List Wt} {w1 : World} {s : Ps} {l : List Wt} {W : World}
theorem Rst.size (h : Rst B b now free rs ws w1 s l W) (hB : B ≤ w1.heap.size) : B ≤ W.heap.size := Nat.le_trans hB h.be.size
theorem Rst.below {W' : World} (h : Rst B b now free rs ws w1 s l W) (hB : B ≤ w1.heap.size) (hb : Below W.heap.size W W') : Rst B b now free rs ws w1 s l W' := by
  obtain ⟨lo, ro, cl, cr, sv, hr⟩ := h.rd
  exact ⟨⟨lo, ro, cl, cr, sv, hr.below hb (h.size hB)⟩, h.be.trans (hb.mono (h.size hB)), h.gd, h.sb⟩
theorem Rst.len (h : Rst B b now free rs ws w1 s l W) (hnw : ws.length * 24 ≤ 140737490000000) : l.length * 24 ≤ 140737490000000 := by
  have := h.sb.length_le
  omega
theorem Rst.start {i : Nat} {x : Wt} (h : Rst B b now free rs ws w1 s l W) (ck : Chk now free ws ho rs) (hn : rs.length * 16 + 4096 ≤ 140737488355328) (hnw : ws.length * 24 ≤ 140737490000000) (hB : B ≤ w1.heap.size) (hi : l[i]? = some x) (hx : x.nd ≤ s.fr) :
    Calls Try.prog 24 #[.pointer (some ⟨b, 0, none⟩), .int .i64 i] W fun e W' => e = .returned (.tuple #[]) ∧ Rst B b now free rs ws w1 (stV now s x) (l.eraseIdx i) W' := by
  obtain ⟨lo, ro, cl, cr, sv, hr⟩ := h.rd
  have hxw := ck.wt x (h.sb.subset (List.mem_of_getElem? hi))
  obtain ⟨⟨f0, f1⟩, _⟩ := right_parts.1 ck.rt
  have e1 := h.gd.fr
  have e2 := sumW_nn h.gd.pos
  have e3 : s.rs.length = rs.length + s.st.length := by rw [h.gd.rs]; simp
  have e4 := h.gd.nn
  refine (start_any hr (h.size hB) hi ck.n0 ck.n1 ⟨by omega, hx, by omega, by omega⟩ (by omega) (by omega) (by omega) (h.len hnw)).mono ?_
  rintro e W' ⟨rfl, lo', ro', cl', cr', sv', hr', hb'⟩
  exact ⟨rfl, ⟨lo', ro', cl', cr', sv', hr'⟩, h.be.trans hb', good_st h.gd hx ⟨by omega, by omega⟩, (List.eraseIdx_sublist l i).trans h.sb⟩
theorem Rst.at {lo ro : Option Addr} {cl cr : Nat} {sv : Value} {i : Nat} {n : Int} (h : Rd B b lo ro cl cr sv now s l W) (hl : l.length * 24 ≤ 140737490000000) (hi : atF n l 0 = i) (m : Nat) :
    Calls Try.prog 23 #[.pointer (some ⟨b, 0, none⟩), .int .i64 n] (W.drewN m) fun e w' => e = .returned (.int .i64 i) ∧ w' = W.drewN m := by
  have := rat_any (w := W.drewN m) (b := b) (lo := lo) (l := l) (c := cl) (cells_at h.blk rfl) (h.left.wants) hl n
  rw [hi] at this
  exact this
end
theorem at_of {j : Int} {l : List Wt} {x : Wt} (hu : (l.map Wt.job).Nodup) (hx : x ∈ l) (hj : x.job = j) : ∃ i : Nat, l[i]? = some x ∧ atF j l 0 = i := by
  obtain ⟨i, y, h1, h2, h3⟩ := atF_in (l := l) 0 x hx hj
  obtain ⟨k, hk⟩ := List.getElem?_of_mem hx
  refine ⟨i, ?_, by omega⟩
  have e : i = k := by
    have hi := (List.getElem?_eq_some_iff.1 h1).1
    have hk' := (List.getElem?_eq_some_iff.1 hk).1
    have p1 : (l.map Wt.job)[i]'(by simpa using hi) = j := by simp [(List.getElem?_eq_some_iff.1 h1).2, h2]
    have p2 : (l.map Wt.job)[k]'(by simpa using hk') = j := by simp [(List.getElem?_eq_some_iff.1 hk).2, hj]
    exact (List.getElem_inj hu).1 (p1.trans p2.symm)
  rw [e, hk]
/-- Where a pass begins. -/
theorem first_case {now free ho : Int} {ws : List Wt} {rs : List Rn} (ck : Chk now free ws ho rs) :
    ∃ fb : Bool, (fb = false ∧ ho = -1 ∧ Rnk now (passV now free ws ho rs) ⟨free, rs, []⟩ ws) ∨
      (0 ≤ ho ∧ ∃ (i : Nat) (x : Wt), ws[i]? = some x ∧ x.job = ho ∧ atF ho ws 0 = i ∧ fb = decide (x.nd ≤ free) ∧
        (x.nd ≤ free → Rnk now (passV now free ws ho rs) (stV now ⟨free, rs, []⟩ x) (ws.eraseIdx i)) ∧ (free < x.nd → Pnd now (passV now free ws ho rs) ⟨free, rs, []⟩ ws ho)) := by
  rcases ck.hd with rfl | ⟨x, hx, rfl⟩
  · exact ⟨false, .inl ⟨rfl, rfl, rnk_start (fun x hx => (ck.wt x hx).1)⟩⟩
  · obtain ⟨i, h1, h2⟩ := at_of ck.un hx rfl
    have h0 := (ck.wt x hx).1
    exact ⟨decide (x.nd ≤ free), .inr ⟨h0, i, x, h1, rfl, h2, rfl, fun hf => rnk_fit ck.un h1 h0 hf, fun hf => pnd_start ck.un h1 h0 hf⟩⟩
end Go.Proofs.Ytdkibcagbidelaa
namespace Go.Proofs.Ytdkibcagbidelaa
open Go.RowKit Pr

theorem plan_row {w W : World} {B : Nat} {sa : Option Addr} {sc : Nat} {s : Ps} {PV : Pln} {v0 v1 v2 v3 : Value} (hr : W.ownsRow B 3 1 (.slice sa s.st.length sc) s.st.length (jobsV s.st)) (hz : w.heap.size < B) (hst : s.st.map Wt.job = PV.st) :
    ((((W.setCell ⟨w.heap.size, 0, none⟩ v0).setCell ⟨w.heap.size, 1, none⟩ v1).setCell ⟨w.heap.size, 2, none⟩ v2).setCell ⟨w.heap.size, 3, none⟩ v3).ownsRow w.heap.size 3 1 (.slice sa s.st.length sc) PV.st.length (intsV PV.st) := by
  rw [← hst, ← jobs_ints, List.length_map]
  refine own_base (row_keep hr (fun k e => ?_)) (Nat.le_of_lt hz)
  have hne : k ≠ w.heap.size := by have := (row_tag hr e).1; omega
  exact (Below.heap_setCell _ _ _ _ hne).trans ((Below.heap_setCell _ _ _ _ hne).trans ((Below.heap_setCell _ _ _ _ hne).trans (Below.heap_setCell _ _ _ _ hne)))
set_option maxRecDepth 20000 in
set_option maxHeartbeats 8000000 in
theorem rpass_yes {w : World} {ao wo : Option Addr} {rs : List Rn} {ws : List Wt} {c cw : Nat} (hA : RunsAt w ao rs) (hn : rs.length * 16 + 4096 ≤ 140737488355328) (hW : WantsAt w wo ws) (hnw : ws.length * 24 ≤ 140737490000000) (hcw : ws.length ≤ cw) (hwn : wo = none → ws.length = 0 ∧ cw = 0) (han : ao = none → rs.length = 0 ∧ c = 0) (now free ho : Int)
    (hc : chkB now free ws ho rs = true) :
    Calls Try.prog 10 #[.int .i64 now, .int .i64 free, .slice wo ws.length cw, .int .i64 ho, .slice ao rs.length c] w fun e w' =>
      ∃ v, e = .returned (.tuple #[planV v (passV now free ws ho rs), .int .i64 0]) ∧ w'.ownsRow w.heap.size 3 1 v (passV now free ws ho rs).st.length (intsV (passV now free ws ho rs).st) ∧ Below w.heap.size w w' := by
  obtain ⟨W0, hW0⟩ : ∃ W0, w.alloc (.cells #[.slice none 0 0, .int .i64 0, .int .i64 0, .int .i64 0] 30) = W0 := ⟨_, rfl⟩
  have b0 : Below w.heap.size w W0 := by rw [← hW0]; exact (Below.refl _ w).alloc (Nat.le_refl _) _
  have hr0 : W0.heap[w.heap.size]? = some (.cells #[.slice none 0 0, .int .i64 0, .int .i64 0, .int .i64 0] 30 (0, 0)) := by rw [← hW0]; exact heap_alloc_new w _
  have C1 := rchk_any (cw := cw) (cr := c) (hW.below b0) (hA.below b0) hnw (by omega) now free ho
  rw [hc, show chkE true = .int .i64 0 from rfl] at C1
  have ck := chk_iff.1 hc
  have hcase := first_case ck
  obtain ⟨⟨f0, f1⟩, _⟩ := right_parts.1 ck.rt
  obtain ⟨PV, hPV⟩ : ∃ PV, passV now free ws ho rs = PV := ⟨_, rfl⟩
  rw [hPV] at hcase ⊢
  have HCK : Hid (Chk now free ws ho rs) := ck
  have n0 := ck.n0
  have n1 := ck.n1
  have HW : Hid (WantsAt w wo ws) := hW
  have HA : Hid (RunsAt w ao rs) := hA
  have HNW : Hid (ws.length * 24 ≤ 140737490000000) := hnw
  have HN : Hid (rs.length * 16 + 4096 ≤ 140737488355328) := hn
  have HB0 : Hid (Below w.heap.size w W0) := b0
  have HR0 : Hid (W0.heap[w.heap.size]? = some (.cells #[.slice none 0 0, .int .i64 0, .int .i64 0, .int .i64 0] 30 (0, 0))) := hr0
  clear hr0 b0 hA hW hPV hc ck hnw hn
  go_enter Try.func10, Try.ntmps10
  go_upto_region 4 with (go_at_call 17; refine C1.mono ?_; rintro e w1 ⟨rfl, b1⟩)
  obtain ⟨B, hBB⟩ : ∃ B, w1.heap.size = B := ⟨_, rfl⟩
  obtain ⟨W2, hW2⟩ : ∃ W2, (w1.alloc (.cells #[] 3)).alloc (.cells #[.int .i64 now, .int .i64 free, .slice wo ws.length cw, .slice ao rs.length c, .slice (some ⟨B, 0, none⟩) 0 0] 65) = W2 := ⟨_, rfl⟩
  have HR1 : Hid (w1.heap[w.heap.size]? = some (.cells #[.slice none 0 0, .int .i64 0, .int .i64 0, .int .i64 0] 30 (0, 0))) := bk b1 HR0.out
  have HB1 : Hid (Below w.heap.size w w1) := HB0.out.trans (b1.mono HB0.out.size)
  have hz1 : w.heap.size < B := by rw [← hBB]; exact lt_of_blk HR1.out
  have hBw : B ≤ w1.heap.size := by omega
  have HST : Hid (Rst B (B + 1) now free rs ws w1 ⟨free, rs, []⟩ ws W2) := by
    have bz : Below w1.heap.size w1 W2 := by rw [← hW2]; exact ((Below.refl _ w1).alloc (Nat.le_refl _) _).alloc (by simp) _
    have hl : ∀ g, g < w.heap.size → g < B := fun g hg => by omega
    refine ⟨⟨wo, ao, cw, c, .slice (some ⟨B, 0, none⟩) 0 0, ?_, ?_, ?_, ?_, by omega, hcw, hwn, han⟩, bz.mono hBw, good0 f0, List.Sublist.refl _⟩
    · rw [← hW2]
      have := heap_alloc_new (w1.alloc (.cells #[] 3)) (.cells #[.int .i64 now, .int .i64 free, .slice wo ws.length cw, .slice ao rs.length c, .slice (some ⟨B, 0, none⟩) 0 0] 65)
      rw [show (w1.alloc (.cells #[] 3)).heap.size = B + 1 by simp [hBB]] at this
      exact this
    · obtain ⟨g, o, h1, h2⟩ := HW.out
      have h3 := HW.out.below (HB1.out.trans (bz.mono HB1.out.size))
      obtain ⟨g', o', h1', h2'⟩ := h3
      refine ⟨g', o', fun h => ⟨h1' h, .inl ?_⟩, h2'⟩
      obtain ⟨r, hr⟩ : ∃ r, ws[0]? = some r := ⟨_, List.getElem?_eq_getElem h⟩
      have e := (h1 h).symm.trans (h1' h)
      injection e with e
      injection e with e1 e2
      rw [← e1]
      exact hl g (World.block_lt_of_cell? _ _ (h2 0 r hr).1)
    · obtain ⟨g, o, h1, h2⟩ := HA.out
      have h3 := HA.out.below (HB1.out.trans (bz.mono HB1.out.size))
      obtain ⟨g', o', h1', h2'⟩ := h3
      refine ⟨g', o', fun h => ⟨h1' h, .inl ?_⟩, h2'⟩
      obtain ⟨r, hr⟩ : ∃ r, rs[0]? = some r := ⟨_, List.getElem?_eq_getElem h⟩
      have e := (h1 h).symm.trans (h1' h)
      injection e with e
      injection e with e1 e2
      rw [← e1]
      exact hl g (World.block_lt_of_cell? _ _ (h2 0 r hr).1)
    · rw [← hW2]
      have := (made0 w1 3 1).alloc (.cells #[.int .i64 now, .int .i64 free, .slice wo ws.length cw, .slice ao rs.length c, .slice (some ⟨B, 0, none⟩) 0 0] 65)
      rw [hBB] at this
      exact this
  clear b1 C1 HR0 HB0 hW0
  go_upto_region 5 with fail
  obtain ⟨fb, hcase⟩ := hcase
  clear hW2 hBB hcw hwn han
  generalize B + 1 = b at HST ⊢
  have HCS : Hid ((fb = false ∧ ho = -1 ∧ Rnk now PV ⟨free, rs, []⟩ ws) ∨ (0 ≤ ho ∧ ∃ (i : Nat) (x : Wt), ws[i]? = some x ∧ x.job = ho ∧ atF ho ws 0 = i ∧ fb = decide (x.nd ≤ free) ∧ (x.nd ≤ free → Rnk now PV (stV now ⟨free, rs, []⟩ x) (ws.eraseIdx i)) ∧ (free < x.nd → Pnd now PV ⟨free, rs, []⟩ ws ho))) := hcase
  clear hcase
  go_cut [55] (fun p wd => p = .bool fb ∧ ∃ m, wd = W2.drewN m)
  case first =>
    rcases HCS.out with ⟨rfl, rfl, _⟩ | ⟨h0, i, x, hi, hj, hat, hfb, _, _⟩
    · go_quiet (fail)
      all_goals
        go_wp2
        go_meet
        exact ⟨rfl, _, rfl⟩
    · obtain ⟨lo, ro, cl, cr, sv, hrd⟩ := HST.out.rd
      have AT : Hid (∀ m, Calls Try.prog 23 #[.pointer (some ⟨b, 0, none⟩), .int .i64 ho] (W2.drewN m) fun e w' => e = .returned (.int .i64 i) ∧ w' = W2.drewN m) := fun m => Rst.at hrd (HST.out.len HNW.out) hat m
      have hil : i < ws.length := (List.getElem?_eq_some_iff.1 hi).1
      obtain ⟨g, o, hg, hcc⟩ := hrd.left.wants
      obtain rfl := hg (by omega)
      obtain ⟨_, c1, _⟩ := hcc i x hi
      have m2 := cells_at hrd.blk (k := 2) rfl
      have m1 := cells_at hrd.blk (k := 1) rfl
      obtain ⟨q, hq⟩ : ∃ q, ws.length = q := ⟨_, rfl⟩
      rw [hq] at m2 hil
      simp only at m1
      have HFB : Hid (fb = decide (x.nd ≤ free)) := hfb
      clear hrd hg hcc hi hj hat hfb hq
      by_cases hf : x.nd ≤ free
      · go_quiet ((go_at_call 23; exact Calls.quiet_of_same (AT.out _)))
        all_goals
          go_wp2
          go_meet
          exact ⟨by rw [HFB.out]; simp [hf], _, rfl⟩
      · go_quiet ((go_at_call 23; exact Calls.quiet_of_same (AT.out _)))
        all_goals
          go_wp2
          go_meet
          exact ⟨by rw [HFB.out]; simp [hf], _, rfl⟩
  case rest =>
    obtain ⟨rfl, m, rfl⟩ := hcut
    have HS2 : Hid (Rst B b now free rs ws w1 ⟨free, rs, []⟩ ws (W2.drewN m)) := HST.out.below hBw (drew_below W2 m)
    clear HST
    generalize W2.drewN m = W3 at HS2 ⊢
    go_upto_if 55 with fail
    go_cut [3] (fun p wd => ∃ (h1 : Int) (s1 : Ps) (l1 : List Wt), p = .int .i64 h1 ∧ Rst B b now free rs ws w1 s1 l1 wd ∧ ((h1 = -1 ∧ Rnk now PV s1 l1) ∨ (0 ≤ h1 ∧ Pnd now PV s1 l1 h1)))
    case first =>
      rcases HCS.out with ⟨rfl, rfl, hrk⟩ | ⟨h0, i, x, hi, hj, hat, hfb, h1, h2⟩
      · have HRK : Hid (Rnk now PV ⟨free, rs, []⟩ ws) := hrk
        clear hrk HCS
        go_wp2
        go_meet
        exact ⟨-1, _, _, rfl, HS2.out, .inl ⟨rfl, HRK.out⟩⟩
      · by_cases hf : x.nd ≤ free
        · have HRK := h1 hf
          have HRK : Hid (Rnk now PV (stV now ⟨free, rs, []⟩ x) (ws.eraseIdx i)) := HRK
          rw [decide_eq_true hf] at hfb
          obtain ⟨lo, ro, cl, cr, sv, hrd⟩ := HS2.out.rd
          have AT := Rst.at hrd (HS2.out.len HNW.out) hat 0
          rw [show W3.drewN 0 = W3 from rfl] at AT
          have ST := HS2.out.start HCK.out HN.out HNW.out hBw hi hf
          subst hfb
          clear h1 h2 hrd hi hj hat HCS
          go_wp2_with (first | (go_at_call 23; refine AT.mono ?_; rintro e w5 ⟨rfl, rfl⟩) | (go_at_call 24; refine ST.mono ?_; rintro e w6 ⟨rfl, hs6⟩))
          go_meet
          exact ⟨-1, _, _, rfl, hs6, .inl ⟨rfl, HRK.out⟩⟩
        · have HPN : Hid (Pnd now PV ⟨free, rs, []⟩ ws ho) := h2 (by omega)
          rw [decide_eq_false hf] at hfb
          subst hfb
          clear h1 h2 hi hj hat HCS
          go_wp2
          go_meet
          exact ⟨ho, _, _, rfl, HS2.out, .inr ⟨h0, HPN.out⟩⟩
    case rest =>
      obtain ⟨h1, s1, l1, rfl, hs1, hc1⟩ := hcut
      have HS1 : Hid (Rst B b now free rs ws w1 s1 l1 wc) := hs1
      have HC1 : Hid ((h1 = -1 ∧ Rnk now PV s1 l1) ∨ (0 ≤ h1 ∧ Pnd now PV s1 l1 h1)) := hc1
      clear hs1 hc1 HS2 HCS
      go_upto_if 62 with fail
      go_cut [3] (fun p wd => ∃ (h2 : Int) (s2 : Ps) (l2 : List Wt), p = .int .i64 h2 ∧ Rst B b now free rs ws w1 s2 l2 wd ∧ ((h2 = -1 ∧ PV = ⟨s2.st.map Wt.job, -1, 0, 0⟩) ∨ (0 ≤ h2 ∧ Pnd now PV s2 l2 h2)))
      case first =>
        rcases HC1.out with ⟨rfl, hrk⟩ | ⟨h0, hpn⟩
        · have HRK : Hid (Rnk now PV s1 l1) := hrk
          clear hrk HC1
          go_wp2
          go_loopg [] l1.length (fun gk wr => ∃ (s' : Ps) (l' : List Wt), l'.length = gk ∧ Rst B b now free rs ws w1 s' l' wr ∧ Rnk now PV s' l')
          case atStart => exact ⟨s1, l1, rfl, HS1.out, HRK.out⟩
          case round =>
            obtain ⟨s', l', hgk, hs', hrk'⟩ := hrel
            clear HS1 HRK
            obtain ⟨lo, ro, cl, cr, sv, hrd⟩ := hs'.rd
            have m1 := cells_at hrd.blk (k := 1) rfl
            have m2 := cells_at hrd.blk (k := 2) rfl
            have HSS : Hid (Rst B b now free rs ws w1 s' l' wr) := hs'
            cases l' with
            | nil =>
              have HPV : Hid (PV = ⟨s'.st.map Wt.job, -1, 0, 0⟩) := rnk_nil hrk'
              simp only [List.length_nil] at m2
              clear hrk' hrd hs'
              go_upto_region 9 with fail
              go_quiet (fail)
              all_goals
                go_wp2
                go_meet
                exact ⟨-1, s', [], rfl, HSS.out.below hBw (drew_below _ _), .inl ⟨rfl, HPV.out⟩⟩
            | cons x l2 =>
              obtain ⟨g, o, hg, hcc⟩ := hrd.left.wants
              obtain rfl := hg (by simp)
              obtain ⟨c0, c1, _⟩ := hcc 0 x rfl
              simp only [Nat.zero_mul, Nat.add_zero] at c0 c1
              simp only [List.length_cons] at hgk
              obtain ⟨q, hq⟩ : ∃ q, (x :: l2).length = q := ⟨_, rfl⟩
              have hq0 : 0 < q := by rw [← hq]; simp
              rw [hq] at m2
              clear hq
              by_cases hf : x.nd ≤ s'.fr
              · have HRK : Hid (Rnk now PV (stV now s' x) l2) := rnk_step hrk' hf
                have ST : Hid (∀ W', Below wr.heap.size wr W' → Calls Try.prog 24 #[.pointer (some ⟨b, 0, none⟩), .int .i64 (0 : Nat)] W' fun e W' => e = .returned (.tuple #[]) ∧ Rst B b now free rs ws w1 (stV now s' x) l2 W') := fun W' hb => (HSS.out.below hBw hb).start (i := 0) HCK.out HN.out HNW.out hBw rfl hf
                clear hrk' hrd hs' hg hcc
                go_upto_region 9 with fail
                go_quiet (fail)
                all_goals
                  go_wp2_with (go_at_call 24; refine (ST.out _ (drew_below _ _)).mono ?_; rintro e w6 ⟨rfl, hs6⟩)
                  go_roundg l2.length
                  case measure => omega
                  case rel => exact ⟨_, l2, rfl, hs6, HRK.out⟩
              · have hj0 := (HCK.out.wt x (hs'.sb.subset (by simp))).1
                have HPN : Hid (Pnd now PV s' (x :: l2) x.job) := rnk_pin hrk' (by omega) hj0 (List.Nodup.sublist (hs'.sb.map Wt.job) HCK.out.un)
                clear hrk' hrd hs' hg hcc
                go_upto_region 9 with fail
                go_quiet (fail)
                all_goals
                  go_wp2
                  go_meet
                  exact ⟨x.job, s', x :: l2, rfl, HSS.out.below hBw (drew_below _ _), .inr ⟨hj0, HPN.out⟩⟩
        · have HPN : Hid (Pnd now PV s1 l1 h1) := hpn
          clear hpn HC1
          go_wp2
          go_meet
          exact ⟨h1, s1, l1, rfl, HS1.out, .inr ⟨h0, HPN.out⟩⟩
      case rest =>
        obtain ⟨h2, s2, l2, rfl, hs2, hc2⟩ := hcut
        have HS2 : Hid (Rst B b now free rs ws w1 s2 l2 wc) := hs2
        clear HS1 HC1
        have blk : wc.heap[w.heap.size]? = some (.cells #[.slice none 0 0, .int .i64 0, .int .i64 0, .int .i64 0] 30 (0, 0)) := (hs2.be.block _ hz1).trans HR1.out
        rcases hc2 with ⟨rfl, hpv⟩ | ⟨h0, hpn⟩
        · obtain ⟨lo, ro, cl, cr, sv, hrd⟩ := hs2.rd
          obtain ⟨sa, sc, rfl⟩ := own_form hrd.starts
          have m4 := cells_at hrd.blk (k := 4) rfl
          have HRW : Hid (wc.ownsRow B 3 1 (.slice sa s2.st.length sc) s2.st.length (jobsV s2.st)) := hrd.starts
          have HPV : Hid (PV = ⟨s2.st.map Wt.job, -1, 0, 0⟩) := hpv
          have y0 := cells_at blk (k := 0) rfl
          have y1 := cells_at blk (k := 1) rfl
          have y2 := cells_at blk (k := 2) rfl
          have y3 := cells_at blk (k := 3) rfl
          have g0 := frozen_at blk (k := 0)
          have g1 := frozen_at blk (k := 1)
          have g2 := frozen_at blk (k := 2)
          have g3 := frozen_at blk (k := 3)
          have e4 := set4 (v0 := .slice sa s2.st.length sc) (v1 := .int .i64 (-1)) (v2 := .int .i64 0) (v3 := .int .i64 0) blk
          have Y : Hid (_ ∧ _ ∧ _ ∧ _) := And.intro (cells_at e4 (k := 0) rfl) (And.intro (cells_at e4 (k := 1) rfl) (And.intro (cells_at e4 (k := 2) rfl) (cells_at e4 (k := 3) rfl)))
          have HBE : Hid (Below w.heap.size w wc) := HB1.out.trans (hs2.be.mono (Nat.le_of_lt hz1))
          clear e4 blk hrd hpv hs2 HS2
          go_wp2
          obtain ⟨y0, y1, y2, y3⟩ := Y.out
          refine bodyPost_ret (v := .tuple #[.agg #[.slice sa s2.st.length sc, .int .i64 (-1), .int .i64 0, .int .i64 0], .int .i64 0]) (by simp [results, Try.results10, go_sem, y0, y1, y2, y3]) rfl ?_
          refine ⟨.slice sa s2.st.length sc, ?_, plan_row HRW.out hz1 (by rw [HPV.out]), below4 HBE.out (Nat.le_refl _)⟩
          rw [HPV.out]
          rfl
        · obtain ⟨x, hx, rfl, hpv⟩ := hpn
          obtain ⟨p1, p2, p3, hfil⟩ := pnd_fil h0 hpv
          obtain ⟨i, hi, hat⟩ := at_of (List.Nodup.sublist (hs2.sb.map Wt.job) HCK.out.un) hx rfl
          have hxw := HCK.out.wt x (hs2.sb.subset hx)
          have hsl : s2.rs.length * 16 ≤ 140737488355328 := by
            have e1 := hs2.gd.fr
            have e2 := sumW_nn hs2.gd.pos
            have e3 : s2.rs.length = rs.length + s2.st.length := by rw [hs2.gd.rs]; simp
            have e4 := hs2.gd.nn
            have := HN.out
            omega
          have hX1 := shadow_small (now := now) (free := s2.fr) (need := x.nd) hsl (by omega)
          obtain ⟨lo, ro, cl, cr, sv, hrd⟩ := hs2.rd
          have hil : i < l2.length := (List.getElem?_eq_some_iff.1 hi).1
          obtain ⟨g, o, hg, hcc⟩ := hrd.left.wants
          obtain rfl := hg (by omega)
          obtain ⟨_, c1, _⟩ := hcc i x hi
          have AT : Hid (∀ m, Calls Try.prog 23 #[.pointer (some ⟨b, 0, none⟩), .int .i64 x.job] (wc.drewN m) fun e w' => e = .returned (.int .i64 i) ∧ w' = wc.drewN m) := fun m => Rst.at hrd (hs2.len HNW.out) hat m
          obtain ⟨T, hT⟩ : ∃ T, atO (shadowV now s2.fr s2.rs x.nd) = T := ⟨_, rfl⟩
          obtain ⟨X, hX⟩ : ∃ X, exO x.nd (shadowV now s2.fr s2.rs x.nd) = X := ⟨_, rfl⟩
          have SH : ∀ w', Below wc.heap.size wc w' → Calls Try.prog 16 #[.int .i64 now, .int .i64 s2.fr, .slice ro s2.rs.length cr, .int .i64 x.nd] w' fun e w'' => e = .returned (.tuple #[.int .i64 T, .int .i64 X, .bool (shadowV now s2.fr s2.rs x.nd).isSome]) ∧ Below w'.heap.size w' w'' := fun w' bb => by
            have := shadow_any (c := cr) (hrd.runs.runs.below bb) hsl now s2.fr x.nd
            rw [shA_eq, hT, hX] at this
            exact this
          rw [hT, hX] at hfil
          rw [hT] at p2
          rw [hX] at p3 hX1
          have m1 := cells_at hrd.blk (k := 1) rfl
          have m2 := cells_at hrd.blk (k := 2) rfl
          have m3 := cells_at hrd.blk (k := 3) rfl
          obtain ⟨q, hq⟩ : ∃ q, l2.length = q := ⟨_, rfl⟩
          rw [hq] at m2 hil
          have HP : Hid (PV.ho = x.job ∧ PV.sh = T ∧ PV.ex = X) := ⟨p1, p2, p3⟩
          have HF : Hid (Fil now PV T X s2 l2 x.job 0) := hfil
          have HR2 : Hid (wc.heap[w.heap.size]? = some (.cells #[.slice none 0 0, .int .i64 0, .int .i64 0, .int .i64 0] 30 (0, 0))) := blk
          have HSH : Hid (∀ w', Below wc.heap.size wc w' → Calls Try.prog 16 #[.int .i64 now, .int .i64 s2.fr, .slice ro s2.rs.length cr, .int .i64 x.nd] w' fun e w'' => e = .returned (.tuple #[.int .i64 T, .int .i64 X, .bool (shadowV now s2.fr s2.rs x.nd).isSome]) ∧ Below w'.heap.size w' w'') := SH
          clear SH p1 p2 p3 hfil hT hX hrd hg hcc hq hpv hsl hat hi blk hs2
          go_upto_region 15 with fail
          go_cut [14, 15] (fun p q wd => p = .int .i64 T ∧ q = .int .i64 X ∧ Below wc.heap.size wc wd)
          case first =>
            go_region_held3 (fun x' => x'.cell? ⟨b, 1, none⟩ = some (.int .i64 s2.fr) ∧ x'.cell? ⟨b, 2, none⟩ = some (.slice (some ⟨g, o, none⟩) q cl) ∧ x'.cell? ⟨b, 3, none⟩ = some (.slice ro s2.rs.length cr) ∧ x'.cell? ⟨g, o + i * 3 + 1, none⟩ = some (.int .i64 x.nd))
              (first | exact ⟨m1, m2, m3, c1⟩ | assumption | exact ⟨(b2.cell (World.block_lt_of_cell? _ _ m1)).trans m1, (b2.cell (World.block_lt_of_cell? _ _ m2)).trans m2, (b2.cell (World.block_lt_of_cell? _ _ m3)).trans m3, (b2.cell (World.block_lt_of_cell? _ _ c1)).trans c1⟩)
              (first | (go_at_call 23; refine (AT.out 1).mono ?_; rintro e w5 ⟨rfl, rfl⟩) | (go_at_call 16; refine (HSH.out _ (drew_below _ 1)).mono ?_; rintro e w6 ⟨rfl, b2⟩))
            all_goals
              go_wp2
              go_meet
              exact ⟨rfl, rfl, (drew_below wc 1).trans b2⟩
          case rest =>
            obtain ⟨rfl, rfl, b3⟩ := hcut
            have HS3 : Hid (Rst B b now free rs ws w1 s2 l2 wc) := HS2.out.below hBw b3
            clear b3 HS2 HR2 AT HSH m1 m2 m3 c1
            go_wp2
            go_loopg [17, 18] l2.length (fun gk p17 p18 wr => ∃ (i : Nat) (X' : Int) (s' : Ps) (l' : List Wt), i + gk = l'.length ∧ p17 = .int .i64 X' ∧ p18 = .int .i64 i ∧ Rst B b now free rs ws w1 s' l' wr ∧ Fil now PV T X' s' l' x.job i ∧ X' ≤ 1152921504606846976)
            case atStart => exact ⟨0, X, s2, l2, by omega, rfl, rfl, HS3.out, HF.out, hX1⟩
            case round =>
              obtain ⟨i, X', s', l', hgk, rfl, rfl, hs', hf', hX'⟩ := hrel
              clear HS3 HF
              obtain ⟨lo, ro, cl, cr, sv, hrd⟩ := hs'.rd
              have HSS : Hid (Rst B b now free rs ws w1 s' l' wr) := hs'
              have hl24 := hs'.len HNW.out
              have m2 := cells_at hrd.blk (k := 2) rfl
              obtain ⟨q, hq⟩ : ∃ q, l'.length = q := ⟨_, rfl⟩
              rw [hq] at m2 hgk hl24
              by_cases hlt : i < q
              · obtain ⟨y, hy⟩ : ∃ y, l'[i]? = some y := ⟨_, List.getElem?_eq_getElem (by omega)⟩
                obtain ⟨g, o, hg, hcc⟩ := hrd.left.wants
                obtain rfl := hg (by omega)
                obtain ⟨c0, c1, c2⟩ := hcc i y hy
                obtain ⟨yj, yn1, yn2, _, yl1, yl2⟩ := HCK.out.wt y (hs'.sb.subset (List.mem_of_getElem? hy))
                have HFL : Hid (Fil now PV T X' s' l' x.job i) := hf'
                have HY : Hid (l'[i]? = some y) := hy
                have HQ : Hid (l'.length = q) := hq
                obtain ⟨zx, hzx⟩ : ∃ zx, wr.heap.size = zx := ⟨_, rfl⟩
                obtain ⟨W4, hW4⟩ : ∃ W4, wr.alloc (.cells #[.int .i64 y.job, .int .i64 y.nd, .int .i64 y.lm] 40) = W4 := ⟨_, rfl⟩
                have b4 : Below wr.heap.size wr W4 := by rw [← hW4]; exact (Below.refl _ wr).alloc (Nat.le_refl _) _
                have kx : W4.heap[zx]? = some (.cells #[.int .i64 y.job, .int .i64 y.nd, .int .i64 y.lm] 40 (0, 0)) := by rw [← hW4, ← hzx]; exact heap_alloc_new wr _
                have k0 := cells_at kx (k := 0) rfl
                have k1 := cells_at kx (k := 1) rfl
                have k2 := cells_at kx (k := 2) rfl
                have k4 := cells_at (hrd.below b4 (hs'.size hBw)).blk (k := 1) rfl
                have HS4 : Hid (∀ m, Rst B b now free rs ws w1 s' l' (W4.drewN m)) := fun m => (HSS.out.below hBw b4).below hBw (drew_below _ m)
                have hfr0 := hs'.gd.nn
                clear hrd hg hcc hs' hf' hy hq b4 kx
                go_upto_region 20 with fail
                clear c0 c1 c2 m2 hW4 hzx HSS
                by_cases ha : y.job = x.job
                · have HN1 : Hid (Fil now PV T X' s' l' x.job (i + 1)) := fil_pass HFL.out HY.out (.inl ha)
                  rw [ha] at k0
                  go_quiet (fail)
                  all_goals
                    go_wp2
                    go_roundg (q - (i + 1))
                    case measure => omega
                    case rel => exact ⟨i + 1, X', s', l', by have := HQ.out; omega, rfl, rfl, HS4.out _, HN1.out, hX'⟩
                · have ha' : (y.job == x.job) = false := beq_false_of_ne ha
                  by_cases hb : s'.fr < y.nd
                  · have HN1 : Hid (Fil now PV T X' s' l' x.job (i + 1)) := fil_pass HFL.out HY.out (.inr (.inl hb))
                    go_quiet (fail)
                    all_goals
                      go_wp2
                      go_roundg (q - (i + 1))
                      case measure => omega
                      case rel => exact ⟨i + 1, X', s', l', by have := HQ.out; omega, rfl, rfl, HS4.out _, HN1.out, hX'⟩
                  · have hb' : y.nd ≤ s'.fr := by omega
                    have ST : Hid (∀ m, Calls Try.prog 24 #[.pointer (some ⟨b, 0, none⟩), .int .i64 i] (W4.drewN m) fun e W' => e = .returned (.tuple #[]) ∧ Rst B b now free rs ws w1 (stV now s' y) (l'.eraseIdx i) W') := fun m => (HS4.out m).start HCK.out HN.out HNW.out hBw HY.out hb'
                    have HLE : Hid ((l'.eraseIdx i).length = q - 1) := by show (l'.eraseIdx i).length = q - 1; rw [List.length_eraseIdx, if_pos (by have := HQ.out; omega), HQ.out]
                    by_cases hd : T < now + y.lm
                    · by_cases he : X' < y.nd
                      · have HN1 : Hid (Fil now PV T X' s' l' x.job (i + 1)) := fil_pass HFL.out HY.out (.inr (.inr ⟨hd, he⟩))
                        go_quiet (fail)
                        all_goals
                          go_wp2
                          go_roundg (q - (i + 1))
                          case measure => omega
                          case rel => exact ⟨i + 1, X', s', l', by have := HQ.out; omega, rfl, rfl, HS4.out _, HN1.out, hX'⟩
                      · have HN1 := fil_take HFL.out HY.out ha hb' (.inr (by omega))
                        rw [if_pos hd] at HN1
                        have HN1 : Hid (Fil now PV T (X' - y.nd) (stV now s' y) (l'.eraseIdx i) x.job i) := HN1
                        go_quiet (fail)
                        all_goals
                          go_wp2_with (go_at_call 24; refine (ST.out _).mono ?_; rintro e w6 ⟨rfl, hs6⟩)
                          go_roundg (q - (i + 1))
                          case measure => omega
                          case rel => exact ⟨i, X' - y.nd, _, _, by have := HLE.out; omega, rfl, rfl, hs6, HN1.out, by omega⟩
                    · have HN1 := fil_take HFL.out HY.out ha hb' (.inl (by omega))
                      rw [if_neg hd] at HN1
                      have HN1 : Hid (Fil now PV T X' (stV now s' y) (l'.eraseIdx i) x.job i) := HN1
                      go_quiet (fail)
                      all_goals
                        go_wp2_with (go_at_call 24; refine (ST.out _).mono ?_; rintro e w6 ⟨rfl, hs6⟩)
                        go_roundg (q - (i + 1))
                        case measure => omega
                        case rel => exact ⟨i, X', _, _, by have := HLE.out; omega, rfl, rfl, hs6, HN1.out, hX'⟩
              · have hst := fil_end hf' (by omega)
                have HST : Hid (s'.st.map Wt.job = PV.st) := hst
                obtain ⟨sa, sc, rfl⟩ := own_form hrd.starts
                have m4 := cells_at hrd.blk (k := 4) rfl
                have HRW : Hid (wr.ownsRow B 3 1 (.slice sa s'.st.length sc) s'.st.length (jobsV s'.st)) := hrd.starts
                have blk : wr.heap[w.heap.size]? = some (.cells #[.slice none 0 0, .int .i64 0, .int .i64 0, .int .i64 0] 30 (0, 0)) := (hs'.be.block _ hz1).trans HR1.out
                have y0 := cells_at blk (k := 0) rfl
                have y1 := cells_at blk (k := 1) rfl
                have y2 := cells_at blk (k := 2) rfl
                have y3 := cells_at blk (k := 3) rfl
                have g0 := frozen_at blk (k := 0)
                have g1 := frozen_at blk (k := 1)
                have g2 := frozen_at blk (k := 2)
                have g3 := frozen_at blk (k := 3)
                have e4 := set4 (v0 := .slice sa s'.st.length sc) (v1 := .int .i64 x.job) (v2 := .int .i64 T) (v3 := .int .i64 X) blk
                have Y : Hid (_ ∧ _ ∧ _ ∧ _) := And.intro (cells_at e4 (k := 0) rfl) (And.intro (cells_at e4 (k := 1) rfl) (And.intro (cells_at e4 (k := 2) rfl) (cells_at e4 (k := 3) rfl)))
                have HBE : Hid (Below w.heap.size w wr) := HB1.out.trans (hs'.be.mono (Nat.le_of_lt hz1))
                clear e4 blk hrd hst hs' HSS hf' hq
                go_wp2
                obtain ⟨y0, y1, y2, y3⟩ := Y.out
                refine bodyPost_ret (v := .tuple #[.agg #[.slice sa s'.st.length sc, .int .i64 x.job, .int .i64 T, .int .i64 X], .int .i64 0]) (by simp [results, Try.results10, go_sem, y0, y1, y2, y3]) rfl ?_
                refine ⟨.slice sa s'.st.length sc, ?_, plan_row HRW.out hz1 HST.out, below4 HBE.out (Nat.le_refl _)⟩
                unfold planV
                rw [HP.out.1, HP.out.2.1, HP.out.2.2]
theorem rpass_any {w : World} {ao wo : Option Addr} {rs : List Rn} {ws : List Wt} {c cw : Nat} (hA : RunsAt w ao rs) (hn : rs.length * 16 + 4096 ≤ 140737488355328) (hW : WantsAt w wo ws) (hnw : ws.length * 24 ≤ 140737490000000) (hcw : ws.length ≤ cw) (hwn : wo = none → ws.length = 0 ∧ cw = 0) (han : ao = none → rs.length = 0 ∧ c = 0) (now free ho : Int) :
    Calls Try.prog 10 #[.int .i64 now, .int .i64 free, .slice wo ws.length cw, .int .i64 ho, .slice ao rs.length c] w fun e w' =>
      ∃ v, e = .returned (.tuple #[planV v (passR now free ws ho rs), .int .i64 (passE now free ws ho rs)]) ∧ w'.ownsRow w.heap.size 3 1 v (passR now free ws ho rs).st.length (intsV (passR now free ws ho rs).st) ∧ Below w.heap.size w w' := by
  unfold passR passE
  cases hc : chkB now free ws ho rs with
  | true => exact rpass_yes hA hn hW hnw hcw hwn han now free ho hc
  | false =>
    refine (rpass_no hA hn hW hnw now free ho hc).mono ?_
    rintro e w' ⟨rfl, b⟩
    exact ⟨_, rfl, World.ownsRow_nil _ _ _ _, b⟩
end Go.Proofs.Ytdkibcagbidelaa
