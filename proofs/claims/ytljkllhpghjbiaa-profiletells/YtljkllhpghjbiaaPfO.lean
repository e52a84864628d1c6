/-
  Package profile: At.
-/
import Derived.Test.YtljkllhpghjbiaaPfN
namespace Go.Proofs.Ytljkllhpghjbiaa
open Go.RowKit Go.Shelf Pr

attribute [local go_sem] Oper.semAt_some

namespace Pr
theorem want_step {t x : Int} {S : List Stp} {j : Nat} {s : Stp} (h : S[j]? = some s) : wantV t x (S.drop j) = wantV t (if s.at_ ≤ t then s.fr else x) (S.drop (j + 1)) := by
  obtain ⟨hj, rfl⟩ := List.getElem?_eq_some_iff.1 h
  rw [List.drop_eq_getElem_cons hj]
  rfl
theorem want_at {now free t : Int} {l : List Rn} (hr : right free l = true) : wantV t 0 (stepsV now free l) = AtV now free l t := by
  have hS : stepsV now free l = fromV free l now := by unfold stepsV fromV; rw [if_pos hr]
  rw [hS]
  unfold AtV
  by_cases h : now ≤ t
  · rw [if_pos (by simp [hr, h]), from_want now h]
  · rw [if_neg (by simp [h]), want_above _ _ (fun s hs => by have := (from_mem now s hs).1; omega)]
theorem want_all {now free t : Int} {l : List Rn} : wantV t 0 (stepsV now free l) = AtV now free l t := by
  by_cases hr : right free l = true
  · exact want_at hr
  · have hS : stepsV now free l = [] := by unfold stepsV; rw [if_neg hr]
    rw [hS]
    unfold AtV
    rw [if_neg (by simp [hr])]
    rfl
/-- Steps do not fall. -/
theorem from_tail {free : Int} {l : List Rn} : ∀ a, ∀ k s, (fromV free l a)[k]? = some s → ∀ u ∈ (fromV free l a).drop k, s.at_ ≤ u.at_ := by
  refine from_ind (l := l) (fun a h => ?_) (fun a n h ih => ?_)
  · rw [from_none h]
    intro k s hs u hu
    cases k with
    | zero => simp at hs hu; subst hs; subst hu; exact Int.le_refl _
    | succ k => simp at hs
  · rw [from_some h]
    intro k s hs u hu
    cases k with
    | zero =>
      simp at hs
      subst hs
      simp only [List.drop_zero] at hu
      rcases List.mem_cons.1 hu with rfl | hu
      · exact Int.le_refl _
      · have := (from_mem n u hu).1
        have := (next_some h).1
        simp only
        omega
    | succ k => exact ih k s (by simpa using hs) u (by simpa using hu)
theorem steps_tail {now free : Int} {l : List Rn} {k : Nat} {s : Stp} (h : (stepsV now free l)[k]? = some s) : ∀ u ∈ (stepsV now free l).drop k, s.at_ ≤ u.at_ := by
  by_cases hr : right free l = true
  · have hS : stepsV now free l = fromV free l now := by unfold stepsV fromV; rw [if_pos hr]
    rw [hS] at h ⊢
    exact from_tail now k s h
  · have hS : stepsV now free l = [] := by unfold stepsV; rw [if_neg hr]
    rw [hS] at h
    simp at h
/-- A step above the time: what was found stands. -/
theorem want_end {now free t m : Int} {l : List Rn} {k : Nat} {s : Stp} (h : (stepsV now free l)[k]? = some s) (ht : t < s.at_) (hw : wantV t m ((stepsV now free l).drop k) = AtV now free l t) : m = AtV now free l t := by
  rw [← hw, want_above _ _ (fun u hu => by have := steps_tail h u hu; omega)]
end Pr

set_option maxRecDepth 100000 in
set_option maxHeartbeats 4000000 in
theorem pat_any {w : World} {ao : Option Addr} {l : List Rn} {c : Nat} (hA : RunsAt w ao l) (hn : l.length * 16 + 16 ≤ 140737488355328) (now free t : Int) :
    Calls Try.prog 10 #[.int .i64 now, .int .i64 free, .slice ao l.length c, .int .i64 t] w fun e w' => e = .returned (.int .i64 (AtV now free l t)) ∧ Below w.heap.size w w' := by
  obtain ⟨S, hSS⟩ : ∃ S, stepsV now free l = S := ⟨_, rfl⟩
  have hw0 : wantV t 0 S = AtV now free l t := by rw [← hSS]; exact want_all
  have hwe : ∀ {k m s}, S[k]? = some s → t < s.at_ → wantV t m (S.drop k) = AtV now free l t → m = AtV now free l t := fun {k m s} => by rw [← hSS]; exact want_end
  obtain ⟨R, hR⟩ : ∃ R, AtV now free l t = R := ⟨_, rfl⟩
  rw [hR] at hw0 ⊢
  rw [hR] at hwe
  refine (callsIn_wide (n := 3)).1 ?_
  refine callsIn_of_wp_marks Try.func10 rfl trivial ?_ rfl
  simp only [Try.ntmps10, List.size_toArray, List.length_cons, List.length_nil, Nat.reduceAdd, Nat.reduceSub, Array.replicate_succ, Array.replicate_zero, List.push_toArray, List.append_toArray, List.nil_append, List.cons_append]
  obtain ⟨w1, hw1⟩ : ∃ w1, (w.alloc (.cells #[.int .i64 t] 3)).alloc (.cells #[.int .i64 0] 3) = w1 := ⟨_, rfl⟩
  have z1 : w1.heap.size = w.heap.size + 1 + 1 := by rw [← hw1]; simp
  have b1 : Below w.heap.size w w1 := by rw [← hw1]; exact ((Below.refl _ w).alloc (Nat.le_refl _) _).alloc (by simp) _
  have y0 : w1.cell? ⟨w.heap.size, 0, none⟩ = some (.int .i64 t) := by rw [← hw1]; exact cell_al (cell_nw w rfl) _
  have y1 : w1.heap[w.heap.size + 1]? = some (.cells #[.int .i64 0] 3 (0, 0)) := by
    rw [← hw1]
    have := heap_alloc_new (w.alloc (.cells #[.int .i64 t] 3)) (.cells #[.int .i64 0] 3)
    rwa [World.size_alloc] at this
  have hall := all_any (c := c) (hA.below b1) hn now free
  obtain ⟨q, hq⟩ : ∃ q, l.length = q := ⟨_, rfl⟩
  rw [hq] at hall hn ⊢
  have HW1 : Hid _ := hw1
  clear hw1
  gi_wp2_with (first
    | (refine ⟨trivial, ?_⟩; gi_at_call 17; rw [HW1.out]; refine (callsIn_wide.2 hall).mono ?_; rintro e w4 ⟨v, rfl, ⟨gf, lb, D, rfl, heg, hS, hD⟩, b4⟩))
  clear hall
  have x0 : w4.cell? ⟨w.heap.size, 0, none⟩ = some (.int .i64 t) := cellB b4 y0
  have x1 : w4.heap[w.heap.size + 1]? = some (.cells #[.int .i64 0] 3 (0, 0)) := (b4.block _ (by omega)).trans y1
  have B4 : Below w.heap.size w w4 := b1.trans (b4.mono b1.size)
  have sz := b4.size
  rw [hSS] at hS
  refine range_seq (by decide) (gf := gf) (lb := lb) rfl heg (fun _ => rfl) hS cellsS 34 (fun j => j = w.heap.size + 1) ?hN
    (fun _ k W => (∃ m, W.heap[w.heap.size + 1]? = some (.cells #[.int .i64 m] 3 (0, 0)) ∧ wantV t m (S.drop k) = R) ∧ W.cell? ⟨w.heap.size, 0, none⟩ = some (.int .i64 t) ∧ Below w.heap.size w W)
    (fun c W => c = .exit 0 ∧ W.heap[w.heap.size + 1]? = some (.cells #[.int .i64 R] 3 (0, 0)) ∧ Below w.heap.size w W) ?h0 ?hT ?hTx
    (fun s p => { tmps := #[.int .i64 now, .int .i64 free, .slice ao q c, .int .i64 t, undef, undef, undef, .pointer (some ⟨w.heap.size, 0, none⟩), .int .i64 0, .pointer (some ⟨w.heap.size + 1, 0, none⟩), .pointer (some ⟨p, 0, none⟩), .int .i64 now, .int .i64 free, .slice ao q c, .func (.func gf) #[] lb, .agg #[.int .i64 s.at_, .int .i64 s.fr], undef, undef, undef, undef, undef, undef, undef], defers := [] }) ?assign ?body ?done ?stop
  case hN =>
    rintro j rfl
    exact ⟨by omega, fun h => by have := hD _ h; omega⟩
  case h0 =>
    intro W hb hz
    exact ⟨⟨0, (hb.block _ (by omega)).trans x1, hw0⟩, cellB hb x0, B4.trans (hb.mono (by omega))⟩
  case hT =>
    rintro B k A A' hB ⟨⟨m, hm, hwm⟩, hc, hb⟩ hch
    exact ⟨⟨m, (hch.block _ (Array.getElem?_eq_some_iff.1 hm).1 (by omega)).trans hm, hwm⟩, hch.cell hc (by simp; omega), hch.below hb hb.size (fun i hi => by omega)⟩
  case hTx =>
    rintro c W r o' ⟨h1, h2, h3⟩ _
    exact ⟨h1, (World.putObj_heap_other (by omega)).trans h2, h3.grown (grownBy_putObj' _ _ _) h3.size (fun k e => by cases e; omega)⟩
  case assign =>
    intro L s W K hK
    unfold encS
    unfold cellsS at hK
    gi_wp2
    exact hK
  case body =>
    rintro B k s p W hB hs ⟨⟨m, hm, hwm⟩, hc, hb⟩ hp hpc hrec
    unfold cellsS at hpc
    have p0 : W.cell? ⟨p, 0, none⟩ = some (.int .i64 s.at_) := cells_at hpc rfl
    have p1 : W.cell? ⟨p, 1, none⟩ = some (.int .i64 s.fr) := cells_at hpc rfl
    have c1 : W.cell? ⟨w.heap.size + 1, 0, none⟩ = some (.int .i64 m) := cells_at hm rfl
    have f1 : W.frozen? ⟨w.heap.size + 1, 0, none⟩ = false := frozen_at hm
    by_cases ht : t < s.at_
    · have e := hwe hs ht hwm
      subst e
      clear hwe hrec hs hwm hw0
      gi_wp2
      exact ⟨KeepsFrom.refl _ _, rfl, hm, hb⟩
    · have ht' : s.at_ ≤ t := by omega
      rw [want_step hs, if_pos ht'] at hwm
      have HW : Hid _ := hwm
      have HM : Hid _ := hm
      have HB : Hid _ := hb
      clear hwe hrec hs hwm hw0 hm hb
      gi_wp2
      refine ⟨(KeepsOthers.setCell _ _ _).from _, (Chg.refl _ W).setCell _ _ (.inl (.inl rfl)), ⟨s.fr, heap_setCell_same W _ 0 _ 3 _ HM.out, HW.out⟩, ?_, HB.out.setCell (p := ⟨w.heap.size + 1, 0, none⟩) (by simp) _⟩
      exact (Chg.setCell (K := fun j => j = w.heap.size + 1) (Chg.refl _ W) _ _ (.inl rfl)).cell hc (by simp)
  case done =>
    rintro d B W hd hB ⟨⟨m, hm, hwm⟩, hc, hb⟩ hK
    rw [List.drop_of_length_le (Nat.le_refl _)] at hwm
    have hmR : m = R := hwm
    subst hmR
    have c1 : W.cell? ⟨w.heap.size + 1, 0, none⟩ = some (.int .i64 m) := cells_at hm rfl
    clear hm hwe
    gi_wp2
    refine ⟨by simp, .inl ⟨_, _, rfl, run_takeDeferred hK, ?_⟩⟩
    exact ⟨_, results_tmp rfl _ _ _, rfl, hb.grown (grownBy_putObj' _ d (.deferred none)) hb.size (fun k e => by cases e; omega)⟩
  case stop =>
    rintro d c W hd ⟨rfl, hm, hb⟩ hK
    have c1 : W.cell? ⟨w.heap.size + 1, 0, none⟩ = some (.int .i64 R) := cells_at hm rfl
    clear hm hwe
    gi_wp2
    refine ⟨by simp, .inl ⟨_, _, rfl, run_takeDeferred hK, ?_⟩⟩
    exact ⟨_, results_tmp rfl _ _ _, rfl, hb.grown (grownBy_putObj' _ d (.deferred none)) hb.size (fun k e => by cases e; omega)⟩
end Go.Proofs.Ytljkllhpghjbiaa
