/-
  LAYER 15: package pass: startBy, with one rule.
-/
import Derived.Test.YtdkibcagbidelaaMcB
import Derived.Test.YtdkibcagbidelaaSfL
import Derived.Deep.DrawnRows
import Derived.Deep.RegionLaw
import Derived.Deep.CutBlock
import Derived.Deep.DeepCutAuto
namespace Go.Proofs.Ytdkibcagbidelaa
open Go.RowKit Pr

theorem tag_ne {W : World} {i j : Nat} {cs cs' : Array Value} {t t' : TypeId} (h : W.heap[i]? = some (.cells cs t (0, 0))) (h' : W.heap[j]? = some (.cells cs' t' (0, 0))) (ht : t ≠ t') : i ≠ j := fun e => by
  rw [e, h'] at h
  injection h with h
  injection h with _ h2
  exact ht h2.symm
theorem started_at {x : Wt} {r : Nat} {fr : Int} {w : World} (hr : w.heap[r]? = some (.cells #[.int .i64 fr] 90 (0, 0))) (h0 : 0 ≤ fr) (h1 : fr ≤ 1152921504606846976) (h2 : 0 ≤ x.nd) (h3 : x.nd ≤ 256) :
    Calls Try.prog 99 #[.pointer (some ⟨r, 0, none⟩), .agg #[.int .i64 x.job, .int .i64 x.nd, .int .i64 x.lm]] w fun e w' => e = .returned (.tuple #[]) ∧ w'.heap[r]? = some (.cells #[.int .i64 (fr - x.nd)] 90 (0, 0)) ∧ Chg (fun i => i = r) w w' := started_any x hr h0 h1 h2 h3
/-- Where a run was put behind the others. -/
theorem Mc.run {B m r c gg cap : Nat} {vr vs : Value} {ao : Option Addr} {now : Int} {s : Ps} {h : Wt} {l : List Wt} {W w1 : World} {o : Obj} {x : Rn} (hM : Mc B m r vr ao c vs now s h l W)
    (hown : w1.ownsRow B 45 2 (.slice (some ⟨gg, 0, none⟩) (s.rs.length + 1) cap) (s.rs.length + 1) (flatR s.rs ++ [.int .i64 x.nd, .int .i64 x.en])) (hg : ((W.alloc o).drew).grownBy w1 vr.ownBlock) :
    Mc B m r (.slice (some ⟨gg, 0, none⟩) (s.rs.length + 1) cap) ao c vs now ⟨s.fr, s.rs ++ [x], s.st⟩ h l (w1.setCell ⟨m, 2, none⟩ (.slice (some ⟨gg, 0, none⟩) (s.rs.length + 1) cap)) ∧
    Chg (KM B m r W) W (w1.setCell ⟨m, 2, none⟩ (.slice (some ⟨gg, 0, none⟩) (s.rs.length + 1) cap)) ∧ w1.cell? ⟨m, 2, none⟩ = some vr ∧ w1.frozen? ⟨m, 2, none⟩ = false := by
  have kp : ∀ (i : Nat) (cs : Array Value) (t : TypeId), t ≠ 45 → W.heap[i]? = some (.cells cs t (0, 0)) → w1.heap[i]? = W.heap[i]? := fun i cs t ht hi => by
    have e1 : (W.alloc o).drew.heap[i]? = W.heap[i]? := Below.heap_alloc _ _ _ (lt_of_blk hi)
    refine (hg.block i (lt_of_blk (e1.trans hi)) (fun e => ?_)).trans e1
    obtain ⟨_, cs', hk⟩ := row_tag hM.runs e.symm
    exact tag_ne hi hk ht rfl
  have bm := (kp m _ 77 (by decide) hM.blk).trans hM.blk
  have hgm : gg ≠ m := by
    obtain ⟨_, cs', hk⟩ := row_tag hown (k := gg) rfl
    exact tag_ne hk bm (by decide)
  have kp2 : ∀ (i : Nat) (cs : Array Value) (t : TypeId), t ≠ 45 → t ≠ 77 → W.heap[i]? = some (.cells cs t (0, 0)) → (w1.setCell ⟨m, 2, none⟩ (.slice (some ⟨gg, 0, none⟩) (s.rs.length + 1) cap)).heap[i]? = W.heap[i]? := fun i cs t ht1 ht2 hi =>
    (Below.heap_setCell _ _ _ _ (tag_ne hi hM.blk ht2)).trans (kp i cs t ht1 hi)
  refine ⟨⟨heap_setCell_same w1 m 2 _ 77 _ bm, (kp2 _ _ _ (by decide) (by decide) hM.room).trans hM.room, ?_, ?_, hM.wait.keep (fun g cs hk => kp2 g cs 40 (by decide) (by decide) hk), hM.lo⟩, ?_, cells_at bm rfl, frozen_at bm⟩
  · rw [List.length_append, flatR_snoc]
    exact row_keep hown (fun k e => Below.heap_setCell _ _ _ _ (by
      have : gg = k := by simpa [Value.ownBlock] using e
      simp only
      omega))
  · exact row_keep hM.starts (fun k e => by obtain ⟨_, cs, hk⟩ := row_tag hM.starts e; exact kp2 k cs 3 (by decide) (by decide) hk)
  · have hcc : Chg (KM B m r W) W w1 := by
     refine ⟨hg.os, hg.tape, hg.output, ?_, fun i hi hn => ?_⟩
     · have := hg.size
       have e : (W.alloc o).drew.heap.size = W.heap.size + 1 := by show (W.alloc o).heap.size = _; simp
       omega
     · have e1 : (W.alloc o).drew.heap[i]? = W.heap[i]? := Below.heap_alloc _ _ _ hi
       refine (hg.block i ?_ (fun e => hn ?_)).trans e1
       · show i < (W.alloc o).heap.size
         simp
         omega
       · obtain ⟨hB, cs', hk⟩ := row_tag hM.runs e.symm
         exact .inr (.inr ⟨hB, cs', 45, .inl rfl, hk⟩)
    exact hcc.setCell ⟨m, _, none⟩ _ (Or.inl (Or.inl rfl))
/-- Where a start was told behind the others. -/
theorem Mc.told {B m r c gg cap : Nat} {vr vs : Value} {ao : Option Addr} {now : Int} {s : Ps} {h : Wt} {l : List Wt} {W w1 : World} {o : Obj} {x : Wt} (hM : Mc B m r vr ao c vs now s h l W)
    (hown : w1.ownsRow B 3 1 (.slice (some ⟨gg, 0, none⟩) (s.st.length + 1) cap) (s.st.length + 1) (jobsV s.st ++ [.int .i64 x.job])) (hg : ((W.alloc o).drew).grownBy w1 vs.ownBlock) :
    Mc B m r vr ao c (.slice (some ⟨gg, 0, none⟩) (s.st.length + 1) cap) now ⟨s.fr, s.rs, s.st ++ [x]⟩ h l (w1.setCell ⟨m, 7, none⟩ (.slice (some ⟨gg, 0, none⟩) (s.st.length + 1) cap)) ∧
    Chg (KM B m r W) W (w1.setCell ⟨m, 7, none⟩ (.slice (some ⟨gg, 0, none⟩) (s.st.length + 1) cap)) ∧ w1.cell? ⟨m, 7, none⟩ = some vs ∧ w1.frozen? ⟨m, 7, none⟩ = false := by
  have kp : ∀ (i : Nat) (cs : Array Value) (t : TypeId), t ≠ 3 → W.heap[i]? = some (.cells cs t (0, 0)) → w1.heap[i]? = W.heap[i]? := fun i cs t ht hi => by
    have e1 : (W.alloc o).drew.heap[i]? = W.heap[i]? := Below.heap_alloc _ _ _ (lt_of_blk hi)
    refine (hg.block i (lt_of_blk (e1.trans hi)) (fun e => ?_)).trans e1
    obtain ⟨_, cs', hk⟩ := row_tag hM.starts e.symm
    exact tag_ne hi hk ht rfl
  have bm := (kp m _ 77 (by decide) hM.blk).trans hM.blk
  have hgm : gg ≠ m := by
    obtain ⟨_, cs', hk⟩ := row_tag hown (k := gg) rfl
    exact tag_ne hk bm (by decide)
  have kp2 : ∀ (i : Nat) (cs : Array Value) (t : TypeId), t ≠ 3 → t ≠ 77 → W.heap[i]? = some (.cells cs t (0, 0)) → (w1.setCell ⟨m, 7, none⟩ (.slice (some ⟨gg, 0, none⟩) (s.st.length + 1) cap)).heap[i]? = W.heap[i]? := fun i cs t ht1 ht2 hi =>
    (Below.heap_setCell _ _ _ _ (tag_ne hi hM.blk ht2)).trans (kp i cs t ht1 hi)
  refine ⟨⟨heap_setCell_same w1 m 7 _ 77 _ bm, (kp2 _ _ _ (by decide) (by decide) hM.room).trans hM.room, ?_, ?_, hM.wait.keep (fun g cs hk => kp2 g cs 40 (by decide) (by decide) hk), hM.lo⟩, ?_, cells_at bm rfl, frozen_at bm⟩
  · exact row_keep hM.runs (fun k e => by obtain ⟨_, cs, hk⟩ := row_tag hM.runs e; exact kp2 k cs 45 (by decide) (by decide) hk)
  · rw [List.length_append, jobsV_app]
    exact row_keep hown (fun k e => Below.heap_setCell _ _ _ _ (by
      have : gg = k := by simpa [Value.ownBlock] using e
      simp only
      omega))
  · have hcc : Chg (KM B m r W) W w1 := by
     refine ⟨hg.os, hg.tape, hg.output, ?_, fun i hi hn => ?_⟩
     · have := hg.size
       have e : (W.alloc o).drew.heap.size = W.heap.size + 1 := by show (W.alloc o).heap.size = _; simp
       omega
     · have e1 : (W.alloc o).drew.heap[i]? = W.heap[i]? := Below.heap_alloc _ _ _ hi
       refine (hg.block i ?_ (fun e => hn ?_)).trans e1
       · show i < (W.alloc o).heap.size
         simp
         omega
       · obtain ⟨hB, cs', hk⟩ := row_tag hM.starts e.symm
         exact .inr (.inr ⟨hB, cs', 3, .inr rfl, hk⟩)
    exact hcc.setCell ⟨m, _, none⟩ _ (Or.inl (Or.inl rfl))

theorem dlets_yes {x : Wt} {now by_ : Int} {w : World} (h0 : 0 ≤ now) (h1 : now ≤ 2199023255552) (h2 : 0 ≤ x.lm) (h3 : x.lm ≤ 1048576) (h : now + x.lm ≤ by_) :
    Calls Try.prog 100 #[.agg #[.int .i64 now, .int .i64 by_], .agg #[.int .i64 x.job, .int .i64 x.nd, .int .i64 x.lm]] w fun e w' => e = .returned (.bool true) ∧ Below w.heap.size w w' := by
  have := dlets_any x now by_ w h0 h1 h2 h3
  rwa [show decide (now + x.lm ≤ by_) = true from decide_eq_true h] at this
theorem dlets_no {x : Wt} {now by_ : Int} {w : World} (h0 : 0 ≤ now) (h1 : now ≤ 2199023255552) (h2 : 0 ≤ x.lm) (h3 : x.lm ≤ 1048576) (h : by_ < now + x.lm) :
    Calls Try.prog 100 #[.agg #[.int .i64 now, .int .i64 by_], .agg #[.int .i64 x.job, .int .i64 x.nd, .int .i64 x.lm]] w fun e w' => e = .returned (.bool false) ∧ Below w.heap.size w w' := by
  have := dlets_any x now by_ w h0 h1 h2 h3
  rwa [show decide (now + x.lm ≤ by_) = false from decide_eq_false (by omega)] at this
theorem KM.transU {B m r u : Nat} {w w1 w2 : World} (h1 : Chg (fun i => KM B m r w i ∨ i = u) w w1) (h2 : Chg (KM B m r w1) w1 w2) : Chg (fun i => KM B m r w i ∨ i = u) w w2 := by
  refine h1.trans h2 (fun i hi hk => ?_)
  rcases hk with e | e | ⟨hB, cs, t, ht, hc⟩
  · exact .inl (.inl e)
  · exact .inl (.inr (.inl e))
  · refine Classical.byContradiction (fun hn => hn ?_)
    exact .inl (.inr (.inr ⟨hB, cs, t, ht, (h1.block i hi hn).symm.trans hc⟩))
end Go.Proofs.Ytdkibcagbidelaa
