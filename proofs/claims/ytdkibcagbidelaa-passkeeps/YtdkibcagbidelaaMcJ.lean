/-
  LAYER 15: package pass: a new machine: slices.Clone, newMachine.
-/
import Derived.Test.YtdkibcagbidelaaMcG
import Derived.Lib.SliceRun
namespace Go.Proofs.Ytdkibcagbidelaa
open Go.RowKit Pr

theorem made0 (w : World) (te sz : Nat) : (w.alloc (.cells #[] te)).ownsRow w.heap.size te sz (.slice (some ⟨w.heap.size, 0, none⟩) 0 0) 0 [] := ⟨by simp, .inr ⟨w.heap.size, 0, #[], rfl, Nat.le_refl _, heap_alloc_new w _, Nat.le_refl _, by decide, by simp, by simp⟩⟩
set_option maxRecDepth 20000 in
set_option maxHeartbeats 400000 in
theorem clone_any {w : World} {ao : Option Addr} {l : List Rn} {c : Nat} (hA : RunsAt w ao l) (hn : l.length * 16 ≤ 140737488355328) :
    Calls Try.prog 40 #[.slice ao l.length c] w fun e w' => ∃ v, e = .returned v ∧ w'.ownsRow w.heap.size 45 2 v l.length (flatR l) ∧ Below w.heap.size w w' := by
  have q23 : ∀ (w : World) (a : Option Addr) (n c n' c' : Nat), (binOp .eql 23 (.slice a n c) (.slice none n' c')).run Try.prog w = .ok (.bool a.isNone) w := fun w a n c n' c' => Lib.run_eql_slice_nil w _ _ a n c n' c' Try.underlying23
  obtain ⟨i0, hi0, hz0, hz1, hz2⟩ := info_parts Try.inf45
  obtain ⟨q, hq⟩ : ∃ q, l.length = q := ⟨_, rfl⟩
  have HQ : Hid _ := hq
  cases ao with
  | none =>
    have hl : l = [] := by
      obtain ⟨g, o, h, _⟩ := hA
      cases l with
      | nil => rfl
      | cons x l => cases h (by simp)
    subst hl
    go_enter Try.func40, Try.ntmps40
    go_wp2
    go_ret
    exact ⟨_, rfl, World.ownsRow_nil _ _ _ _, Below.refl _ _⟩
  | some ad =>
    have hcl : ∀ j u, (flatR l)[j]? = some u → (w.alloc (.cells #[] 45)).cell? (ad.add j) = some u := fun j u hu => by
      obtain ⟨g, o, h1, h2⟩ := hA
      have hj := (List.getElem?_eq_some_iff.1 hu).1
      rw [flatR_len] at hj
      obtain rfl := Option.some.inj (h1 (by omega))
      exact cell_al (flatR_cell h2 j u hu) _
    have HCL : Hid _ := hcl
    have HFL : Hid _ := flatR_len l
    have HM : Hid _ := made0 w 45 2
    rw [hq] at hn ⊢
    rw [hq] at HFL
    clear hcl hA hq
    go_enter Try.func40, Try.ntmps40
    go_wp2_with (at_builtin; refine wpList_append_own_at _ rfl (.tmp 5) (.tmp 6) 23 rfl w.heap.size 45 i0 _ 2 16 Try.underlying23 hi0 hz0 hz1 hz2 rfl (by decide) (.slice (some ⟨w.heap.size, 0, none⟩) 0 0) 0 [] rfl HM.out ad q c (flatR l) rfl HFL.out HCL.out (flatR_one l) (Nat.le_trans (m := 35184372088832) (by omega) (by decide)) (by omega) (by simp) ?_; intro v' w5 hown hgr _ _)
    go_ret
    refine ⟨_, rfl, ?_, ((Below.refl _ w).alloc (Nat.le_refl _) _).grown hgr (by simp) (fun k e => by cases e; exact Nat.le_refl _)⟩
    rw [Nat.zero_add, List.nil_append] at hown
    exact hown

/-- The cells of wants. -/
def flatW : List Wt → List Value
  | [] => []
  | w :: l => .int .i64 w.job :: .int .i64 w.nd :: .int .i64 w.lm :: flatW l
theorem flatW_len (l : List Wt) : (flatW l).length = l.length * 3 := by
  induction l with
  | nil => rfl
  | cons s l ih => simp [flatW, ih]; omega
theorem flatW_app (a b : List Wt) : flatW (a ++ b) = flatW a ++ flatW b := by
  induction a with
  | nil => rfl
  | cons s l ih => simp [flatW, ih]
theorem flatW_at (l : List Wt) : ∀ j s, l[j]? = some s → (flatW l)[j * 3]? = some (.int .i64 s.job) ∧ (flatW l)[j * 3 + 1]? = some (.int .i64 s.nd) ∧ (flatW l)[j * 3 + 2]? = some (.int .i64 s.lm) := by
  induction l with
  | nil => intro j s h; simp at h
  | cons x l ih =>
    intro j s h
    cases j with
    | zero => simp at h; subst h; simp [flatW]
    | succ j =>
      have := ih j s (by simpa using h)
      simp only [flatW]
      rw [show (j + 1) * 3 = j * 3 + 1 + 1 + 1 by omega]
      simpa using this
theorem row_wait {W : World} {B : Nat} {v : Value} {l : List Wt} (h : W.ownsRow B 40 3 v l.length (flatW l)) : ∃ ra rc, v = .slice ra l.length rc ∧ WaitAt W ra l ∧ l.length ≤ rc ∧ rc ≤ maxLen := by
  rcases h.2 with ⟨rfl, h0⟩ | ⟨g, cap, cur, rfl, hb, hg, hc1, hc2, _, ht⟩
  · refine ⟨none, 0, by rw [h0], ⟨0, 0, fun h => by omega, fun j s hs => ?_⟩, by omega, by decide⟩
    rw [List.length_eq_zero_iff.1 h0] at hs
    simp at hs
  · refine ⟨some ⟨g, 0, none⟩, cap, rfl, ⟨g, 0, fun _ => ⟨rfl, cur, hg⟩, fun j s hs => ?_⟩, hc1, hc2⟩
    have hj : j < l.length := (List.getElem?_eq_some_iff.1 hs).1
    obtain ⟨h1, h2, h3⟩ := flatW_at l j s hs
    rw [← ht, List.getElem?_take_of_lt (by omega), Array.getElem?_toList] at h1 h2 h3
    rw [Nat.zero_add]
    exact ⟨cells_at hg h1, cells_at hg h2, cells_at hg h3⟩
theorem Try.inf40 : (Try.prog.info? 40).map (fun i => (i.zero, i.size, i.bytes)) = some (some (.agg #[.int .i64 0, .int .i64 0, .int .i64 0]), 3, 24) := by kernel_rfl
/-- A machine that is being made. -/
structure Mn (B m r : Nat) (vr vw : Value) (now free : Int) (rs : List Rn) (h : Wt) (l : List Wt) (W : World) : Prop where
  blk : W.heap[m]? = some (.cells #[.int .i64 now, .pointer (some ⟨r, 0, none⟩), vr, vw, .int .i64 h.job, .int .i64 h.nd, .int .i64 h.lm, .slice none 0 0] 77 (0, 0))
  room : W.heap[r]? = some (.cells #[.int .i64 free] 90 (0, 0))
  runs : W.ownsRow B 45 2 vr rs.length (flatR rs)
  wait : W.ownsRow B 40 3 vw l.length (flatW l)
  lo : B ≤ m ∧ B ≤ r
section
variable {B m r : Nat} {vr vw : Value} {now free : Int} {rs : List Rn} {h : Wt} {l : List Wt} {W W' : World}
theorem Mn.keep (hM : Mn B m r vr vw now free rs h l W) (hk : ∀ (i : Nat) (cs : Array Value) (t : TypeId), W.heap[i]? = some (.cells cs t (0, 0)) → W'.heap[i]? = W.heap[i]?) : Mn B m r vr vw now free rs h l W' :=
  ⟨(hk _ _ _ hM.blk).trans hM.blk, (hk _ _ _ hM.room).trans hM.room,
    row_keep hM.runs (fun k e => by obtain ⟨_, cs, h⟩ := row_tag hM.runs e; exact hk k cs 45 h),
    row_keep hM.wait (fun k e => by obtain ⟨_, cs, h⟩ := row_tag hM.wait e; exact hk k cs 40 h), hM.lo⟩
theorem Mn.below (hM : Mn B m r vr vw now free rs h l W) (b : Below W.heap.size W W') : Mn B m r vr vw now free rs h l W' := hM.keep (fun i _ _ hi => b.block i (lt_of_blk hi))
theorem Mn.hold (hM : Mn B m r vr vw now free rs h l W) (x : Wt) : Mn B m r vr vw now free rs x l (((W.setCell ⟨m, 4, none⟩ (.int .i64 x.job)).setCell ⟨m, 5, none⟩ (.int .i64 x.nd)).setCell ⟨m, 6, none⟩ (.int .i64 x.lm)) := by
  have e1 := heap_setCell_same W m 4 _ 77 (.int .i64 x.job) hM.blk
  have e2 := heap_setCell_same _ m 5 _ 77 (.int .i64 x.nd) e1
  have e3 := heap_setCell_same _ m 6 _ 77 (.int .i64 x.lm) e2
  have kp : ∀ (i : Nat) (cs : Array Value) (t : TypeId), t ≠ 77 → W.heap[i]? = some (.cells cs t (0, 0)) → (((W.setCell ⟨m, 4, none⟩ (.int .i64 x.job)).setCell ⟨m, 5, none⟩ (.int .i64 x.nd)).setCell ⟨m, 6, none⟩ (.int .i64 x.lm)).heap[i]? = W.heap[i]? := fun i cs t ht hi => by
    have hne := tag_ne hi hM.blk ht
    exact (Below.heap_setCell _ _ _ _ hne).trans ((Below.heap_setCell _ _ _ _ hne).trans (Below.heap_setCell _ _ _ _ hne))
  exact ⟨e3, (kp _ _ _ (by decide) hM.room).trans hM.room, row_keep hM.runs (fun k e => by obtain ⟨_, cs, hk⟩ := row_tag hM.runs e; exact kp k cs 45 (by decide) hk), row_keep hM.wait (fun k e => by obtain ⟨_, cs, hk⟩ := row_tag hM.wait e; exact kp k cs 40 (by decide) hk), hM.lo⟩
/-- One waits more. -/
theorem Mn.more {w1 : World} {gg cap : Nat} {o : Obj} {x : Wt} (hM : Mn B m r vr vw now free rs h l W)
    (hown : w1.ownsRow B 40 3 (.slice (some ⟨gg, 0, none⟩) (l.length + 1) cap) (l.length + 1) (flatW l ++ [.int .i64 x.job, .int .i64 x.nd, .int .i64 x.lm])) (hg : (W.drew.alloc o).grownBy w1 vw.ownBlock) :
    Mn B m r vr (.slice (some ⟨gg, 0, none⟩) (l.length + 1) cap) now free rs h (l ++ [x]) (w1.setCell ⟨m, 3, none⟩ (.slice (some ⟨gg, 0, none⟩) (l.length + 1) cap)) ∧ w1.cell? ⟨m, 3, none⟩ = some vw ∧ w1.frozen? ⟨m, 3, none⟩ = false := by
  have kp : ∀ (i : Nat) (cs : Array Value) (t : TypeId), t ≠ 40 → W.heap[i]? = some (.cells cs t (0, 0)) → w1.heap[i]? = W.heap[i]? := fun i cs t ht hi => by
    have e1 : (W.drew.alloc o).heap[i]? = W.heap[i]? := Below.heap_alloc _ _ _ (lt_of_blk hi)
    refine (hg.block i (lt_of_blk (e1.trans hi)) (fun e => ?_)).trans e1
    obtain ⟨_, cs', hk⟩ := row_tag hM.wait e.symm
    exact tag_ne hi hk ht rfl
  have bm := (kp m _ 77 (by decide) hM.blk).trans hM.blk
  have hgm : gg ≠ m := by
    obtain ⟨_, cs', hk⟩ := row_tag hown (k := gg) rfl
    exact tag_ne hk bm (by decide)
  have kp2 : ∀ (i : Nat) (cs : Array Value) (t : TypeId), t ≠ 40 → t ≠ 77 → W.heap[i]? = some (.cells cs t (0, 0)) → (w1.setCell ⟨m, 3, none⟩ (.slice (some ⟨gg, 0, none⟩) (l.length + 1) cap)).heap[i]? = W.heap[i]? := fun i cs t ht1 ht2 hi =>
    (Below.heap_setCell _ _ _ _ (tag_ne hi hM.blk ht2)).trans (kp i cs t ht1 hi)
  refine ⟨⟨heap_setCell_same w1 m 3 _ 77 _ bm, (kp2 _ _ _ (by decide) (by decide) hM.room).trans hM.room, ?_, ?_, hM.lo⟩, cells_at bm rfl, frozen_at bm⟩
  · exact row_keep hM.runs (fun k e => by obtain ⟨_, cs, hk⟩ := row_tag hM.runs e; exact kp2 k cs 45 (by decide) (by decide) hk)
  · rw [List.length_append, flatW_app]
    exact row_keep hown (fun k e => Below.heap_setCell _ _ _ _ (by
      have : gg = k := by simpa [Value.ownBlock] using e
      simp only
      omega))
end
theorem hold_snoc (ho : Int) : ∀ (l : List Wt) (h x : Wt), holdL ho h (l ++ [x]) = if x.job = ho then x else holdL ho h l := by
  intro l
  induction l with
  | nil => intro h x; simp [holdL]
  | cons w l ih => intro h x; simp only [List.cons_append, holdL, ih]
theorem oth_snoc (ho : Int) (l : List Wt) (x : Wt) : othV ho (l ++ [x]) = if x.job = ho then othV ho l else othV ho l ++ [x] := by
  unfold othV
  rw [List.filter_append]
  by_cases e : x.job = ho
  · rw [if_pos e, List.filter_cons_of_neg (by simp [e])]; simp
  · rw [if_neg e, List.filter_cons_of_pos (by simp [e])]; simp
end Go.Proofs.Ytdkibcagbidelaa
