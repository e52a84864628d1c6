/-
  A boxed list that a loop gathers; slices.AppendSeq and slices.Collect at the runs.
-/
import Derived.Test.YtdkibcagbidelaaVal
import Derived.Test.YtdkibcagbidelaaLwA
import Derived.Maps.OwnIn
namespace Go.Proofs.Ytdkibcagbidelaa
open Go.RowKit Go.Shelf Pr

attribute [local go_sem] Oper.semAt_some

theorem frozen_at {w : World} {b k : Nat} {cs : Array Value} {e : TypeId} (h : w.heap[b]? = some (.cells cs e (0, 0))) : w.frozen? ⟨b, k, none⟩ = false := by
  unfold World.frozen?
  rw [h]
  simp
/-- The box at B0 holds v, a row of its own of n elements, laid from B on. -/
structure Col (tb te B0 B : Nat) (v : Value) (n : Nat) (vs : List Value) (W : World) : Prop where
  blk : W.heap[B0]? = some (.cells #[v] tb (0, 0))
  row : W.ownsRow B te 2 v n vs
  lo : B0 < B
  hi : B ≤ W.heap.size
section
variable {tb te B0 B n : Nat} {v v' : Value} {vs us : List Value} {W w1 w2 : World} {K : Nat → Prop}
theorem Col.cell (h : Col tb te B0 B v n vs W) : W.cell? ⟨B0, 0, none⟩ = some v := cells_at h.blk rfl
theorem Col.frozen (h : Col tb te B0 B v n vs W) : W.frozen? ⟨B0, 0, none⟩ = false := frozen_at h.blk
theorem rowC_block {e n : Nat} {vs : List Value} (h : W.ownsRow B e 2 v n vs) {k : Nat} (hk : v.ownBlock = some k) : ∃ cs, W.heap[k]? = some (.cells cs e (0, 0)) := by
  rcases h.2 with ⟨rfl, _⟩ | ⟨g, cap, cur, rfl, _, hg, _⟩
  · simp [Value.ownBlock] at hk
  · simp [Value.ownBlock] at hk
    subst hk
    exact ⟨cur, hg⟩
theorem rowC_kept {e n : Nat} {vs : List Value} (h : W.ownsRow B e 2 v n vs) (hg : ∀ k, v.ownBlock = some k → w1.heap[k]? = W.heap[k]?) : w1.ownsRow B e 2 v n vs := by
  refine ⟨h.1, ?_⟩
  rcases h.2 with h0 | ⟨g, cap, cur, rfl, hb, hgg, r⟩
  · exact .inl h0
  · exact .inr ⟨g, cap, cur, rfl, hb, (hg g rfl).trans hgg, r⟩
/-- It stands while its two blocks stand. -/
theorem Col.kept (h : Col tb te B0 B v n vs W) (c : Chg K W w1) (h0 : ¬ K B0) (hv : ∀ k, v.ownBlock = some k → ¬ K k) : Col tb te B0 B v n vs w1 := by
  have hlt : B0 < W.heap.size := (Array.getElem?_eq_some_iff.1 h.blk).1
  refine ⟨(c.block B0 hlt h0).trans h.blk, rowC_kept h.row (fun k hk => ?_), h.lo, Nat.le_trans h.hi c.size⟩
  obtain ⟨cs, hcs⟩ := rowC_block h.row hk
  exact c.block k (Array.getElem?_eq_some_iff.1 hcs).1 (hv k hk)
theorem Col.turned (h : Col tb te B0 B v n vs W) {A : Nat} (c : Chg (fun j => A ≤ j ∧ j < B) W w1) (hA : B0 < A) : Col tb te B0 B v n vs w1 :=
  h.kept c (fun e => by omega) (fun k hk e => by have := (h.row.lt k hk).1; omega)
/-- More: what append did, and the store into the box. -/
theorem Col.app (h : Col tb te B0 B v n vs W) {o : Obj} {m : Nat} (hrow : w1.ownsRow B te 2 v' m us) (hg : (W.alloc o).grownBy w1 v.ownBlock) :
    Col tb te B0 B v' m us (w1.setCell ⟨B0, 0, none⟩ v') ∧ (∀ A, B0 < A → KeepsFrom A W (w1.setCell ⟨B0, 0, none⟩ v')) ∧ Chg (fun k => k = B0 ∨ B ≤ k) W (w1.setCell ⟨B0, 0, none⟩ v') ∧ w1.cell? ⟨B0, 0, none⟩ = some v ∧ w1.frozen? ⟨B0, 0, none⟩ = false := by
  have hlt : B0 < W.heap.size := (Array.getElem?_eq_some_iff.1 h.blk).1
  have hvB : ∀ k, v.ownBlock = some k → B ≤ k := fun k hk => (h.row.lt k hk).1
  have hz : (W.alloc o).heap.size = W.heap.size + 1 := World.size_alloc _ _
  have b0 : w1.heap[B0]? = some (.cells #[v] tb (0, 0)) := (hg.block B0 (by omega) (fun e => by have := hvB B0 e.symm; have := h.lo; omega)).trans ((Below.heap_alloc _ _ _ hlt).trans h.blk)
  have b1 := heap_setCell_same w1 B0 0 _ tb v' b0
  have hs := hg.size
  have hlo := h.lo
  have hhi := h.hi
  have c1 : Chg (fun k => k = B0 ∨ B ≤ k) W w1 := ((Chg.refl _ W).alloc o).trans (K' := fun k => v.ownBlock = some k) (Chg.of_gr hg (fun k e => .inl e)) (fun k _ e => .inr (hvB k e))
  refine ⟨⟨b1, ?_, hlo, by rw [World.size_setCell]; omega⟩, fun A hA => ⟨by rw [World.size_setCell]; omega, fun k o' hk hb hc => ?_⟩, c1.setCell _ _ (.inl (.inl rfl)), cells_at b0 rfl, frozen_at b0⟩
  · refine rowC_kept hrow (fun k hk => Below.heap_setCell _ _ _ _ ?_)
    have := (hrow.lt k hk).1
    exact fun e => by simp at e; omega
  · have hkl := (Array.getElem?_eq_some_iff.1 hb).1
    rw [Below.heap_setCell _ _ _ _ (by simp; omega)]
    refine (hg.block k (by omega) (fun e => ?_)).trans ((Below.heap_alloc _ _ _ hkl).trans hb)
    obtain ⟨cs, hcs⟩ := rowC_block h.row e.symm
    rw [hcs] at hb
    injection hb with hb
    subst hb
    cases hc
/-- The deferred calls' block is taken. -/
theorem row_fin {w W : World} {d e : Nat} (hb : Below w.heap.size w W) (h : W.ownsRow B e 2 v n vs) (hd : w.heap.size ≤ d) (hK : W.heap[d]? = some (.deferred (some []))) :
    (W.putObj d (.deferred none)).ownsRow B e 2 v n vs ∧ Below w.heap.size w (W.putObj d (.deferred none)) := by
  refine ⟨rowC_kept h (fun k hk => ?_), hb.grown (grownBy_putObj' _ d (.deferred none)) hb.size (fun k e => by cases e; omega)⟩
  obtain ⟨cs, hcs⟩ := rowC_block h hk
  rw [World.putObj_heap_other (fun e => by subst e; rw [hcs] at hK; cases hK)]
end
theorem flatR_take {l : List Rn} {k : Nat} {r : Rn} (h : l[k]? = some r) : flatR (l.take (k + 1)) = flatR (l.take k) ++ [.int .i64 r.nd, .int .i64 r.en] := by
  rw [List.take_add_one, h, flatR_app]; rfl

set_option maxRecDepth 100000 in
set_option maxHeartbeats 2000000 in
theorem appendSeq_any {w : World} {lb : Array Value} {l : List Rn} {D : Nat → Prop} (hS : SeqOf 62 lb encR l D w) (hlen : l.length * 16 ≤ 140737488355328) :
    Calls Try.prog 64 #[.slice none 0 0, .func (.func 62) #[] lb] w fun e w' => ∃ v, e = .returned v ∧ w'.ownsRow w.heap.size 45 2 v l.length (flatR l) ∧ Below w.heap.size w w' := by
  refine (callsIn_wide (n := 3)).1 ?_
  refine callsIn_of_wp_marks Try.func64 rfl trivial ?_ rfl
  simp only [Try.ntmps64, List.size_toArray, List.length_cons, List.length_nil, Nat.reduceAdd, Nat.reduceSub, Array.replicate_succ, Array.replicate_zero, List.push_toArray, List.append_toArray, List.nil_append, List.cons_append]
  gi_wp2
  obtain ⟨w4, hw4⟩ : ∃ w4, w.alloc (.cells #[.slice none 0 0] 23) = w4 := ⟨_, rfl⟩
  have sz : w4.heap.size = w.heap.size + 1 := by rw [← hw4]; simp
  have b4 : Below w.heap.size w w4 := by rw [← hw4]; exact (Below.refl _ w).alloc (Nat.le_refl _) _
  have y1 : w4.heap[w.heap.size]? = some (.cells #[.slice none 0 0] 23 (0, 0)) := by rw [← hw4]; exact heap_alloc_new w _
  rw [hw4]
  clear hw4
  have hS4 := hS.below b4
  have hDl := hS.1
  obtain ⟨i0, hi0, hz0, hz1, hz2⟩ := info_parts Try.inf45
  refine range_seq (by decide) (gf := 62) (lb := lb) rfl (enters_of Try.func62 (by kernel_rfl) rfl) (fun _ => rfl) hS4 (fun r : Rn => #[.int .i64 r.nd, .int .i64 r.en]) 45 (fun j => j = w.heap.size) ?hN
    (fun B k W => (∃ v, Col 23 45 w.heap.size B v k (flatR (l.take k)) W) ∧ Below w.heap.size w W ∧ k ≤ l.length) (fun _ _ => False) ?h0 ?hT ?hTx
    (fun r p => { tmps := #[.slice none 0 0, .func (.func 62) #[] lb, .pointer (some ⟨w.heap.size, 0, none⟩), undef, .slice none 0 0, .pointer (some ⟨p, 0, none⟩), .func (.func 62) #[] lb, .agg #[.int .i64 r.nd, .int .i64 r.en], undef, undef, undef, undef, undef], defers := [] }) ?assign ?body ?done ?stop
  case hN =>
    rintro j rfl
    exact ⟨by omega, fun h => by have := hDl _ h; omega⟩
  case h0 =>
    intro W hb hz
    exact ⟨⟨_, (hb.block _ (by omega)).trans y1, World.ownsRow_nil _ _ _ _, by omega, Nat.le_refl _⟩, b4.trans (hb.mono (by omega)), Nat.zero_le _⟩
  case hT =>
    rintro B k A A' hB ⟨⟨v, hc⟩, hb, hk⟩ hch
    exact ⟨⟨v, hc.turned hch (by omega)⟩, hch.below hb hb.size (fun i hi => by omega), hk⟩
  case hTx => exact fun _ _ _ _ h _ => h
  case assign =>
    intro L r W K hK
    unfold encR
    gi_wp2
    exact hK
  case body =>
    rintro B k r p W hB hr ⟨⟨v, hc⟩, hb, hk⟩ hp hpc hrec
    have hkl : k < l.length := (List.getElem?_eq_some_iff.1 hr).1
    have hsn := flatR_take hr
    have r1 := hc.row
    have c1 := hc.cell
    have f1 := hc.frozen
    have hhi := hc.hi
    have p0 : W.cell? ⟨p, 0, none⟩ = some (.int .i64 r.nd) := cells_at hpc rfl
    have p1 : W.cell? ⟨p, 1, none⟩ = some (.int .i64 r.en) := cells_at hpc rfl
    obtain ⟨xs, hxs⟩ : ∃ xs, flatR (l.take k) = xs := ⟨_, rfl⟩
    rw [hxs] at hc r1 hsn
    have HSN : Hid _ := hsn
    have HB : Hid _ := hb
    clear hsn hb hrec hpc
    gi_wp2_with (first
      | (gi_at_builtin; refine wpListIn_append_own_at _ rfl (.tmp 8) (.tmp 10) 23 rfl B 45 i0 _ 2 16 Try.underlying23 hi0 hz0 hz1 hz2 rfl (by decide) _ _ _ rfl (r1.alloc _) ⟨W.heap.size, 0, none⟩ 1 1 [.int .i64 r.nd, .int .i64 r.en] rfl rfl (new_cells _ _ _) (fun u hu => by simp at hu; rcases hu with rfl | rfl <;> rfl) (Nat.le_trans (m := 35184372088832) (by omega) (by decide)) (by omega) (by simp; omega) ?_; intro v1' w1 hown1 hgr1 _ hat1; obtain ⟨hc1, hk1, hch1, d1, g1⟩ := hc.app hown1 hgr1; obtain ⟨g', cap', rfl⟩ := ownsRow_succ hown1))
    rw [← HSN.out] at hc1
    exact ⟨hk1 _ (by omega), hch1, ⟨_, hc1⟩, hch1.below HB.out HB.out.size (fun i hi => by omega), by omega⟩
  case done =>
    rintro d B W hd hB ⟨⟨v, hc⟩, hb, _⟩ hK
    have c1 := hc.cell
    have r1 := hc.row
    rw [List.take_length] at r1
    obtain ⟨ao1, cap1, hv⟩ : ∃ ao1 cap1, v = .slice ao1 l.length cap1 := by
      rcases r1.2 with ⟨rfl, h0⟩ | ⟨g, cap, cur, rfl, _⟩
      · exact ⟨none, 0, by rw [h0]⟩
      · exact ⟨_, _, rfl⟩
    subst hv
    clear hc
    gi_wp2
    have F := row_fin hb r1 (by omega) hK
    refine ⟨by simp, .inl ⟨_, _, rfl, run_takeDeferred hK, ?_⟩⟩
    exact ⟨_, results_tmp rfl _ _ _, _, rfl, own_base F.1 (by omega), F.2⟩
  case stop => exact fun _ _ _ _ h _ => h.elim

theorem collect_any {w : World} {lb : Array Value} {l : List Rn} {D : Nat → Prop} (hS : SeqOf 62 lb encR l D w) (hlen : l.length * 16 ≤ 140737488355328) :
    Calls Try.prog 60 #[.func (.func 62) #[] lb] w fun e w' => ∃ v, e = .returned v ∧ w'.ownsRow w.heap.size 45 2 v l.length (flatR l) ∧ Below w.heap.size w w' := by
  go_enter Try.func60, Try.ntmps60
  go_wp2_with fail
  refine (appendSeq_any hS hlen).mono ?_
  rintro e w1 ⟨v, rfl, h1, h2⟩
  go_wp2
  go_ret
  exact ⟨_, rfl, h1, h2⟩
end Go.Proofs.Ytdkibcagbidelaa
