/-
  Package profile: Steps, At.
-/
import Derived.Test.YtljkllhpghjbiaaPfB
namespace Go.Proofs.Ytljkllhpghjbiaa
open Go.RowKit Go.Shelf Pr

attribute [local go_sem] Oper.semAt_some

def cellsS (s : Stp) : Array Value := #[.int .i64 s.at_, .int .i64 s.fr]
theorem flatS_take {l : List Stp} {k : Nat} {s : Stp} (h : l[k]? = some s) : flatS (l.take (k + 1)) = flatS (l.take k) ++ [.int .i64 s.at_, .int .i64 s.fr] := by
  rw [List.take_add_one, h, flatS_app]; rfl

set_option maxRecDepth 100000 in
set_option maxHeartbeats 4000000 in
theorem psteps_any {w : World} {ao : Option Addr} {l : List Rn} {c : Nat} (hA : RunsAt w ao l) (hn : l.length * 16 + 16 ≤ 140737488355328) (now free : Int) :
    Calls Try.prog 9 #[.int .i64 now, .int .i64 free, .slice ao l.length c] w fun e w' => ∃ v, e = .returned v ∧ w'.ownsRow w.heap.size 34 2 v (stepsV now free l).length (flatS (stepsV now free l)) ∧ Below w.heap.size w w' := by
  obtain ⟨S, hSS⟩ : ∃ S, stepsV now free l = S := ⟨_, rfl⟩
  have hsl := steps_len now free l
  rw [hSS] at hsl ⊢
  refine (callsIn_wide (n := 3)).1 ?_
  refine callsIn_of_wp_marks Try.func9 rfl trivial ?_ rfl
  simp only [Try.ntmps9, List.size_toArray, List.length_cons, List.length_nil, Nat.reduceAdd, Nat.reduceSub, Array.replicate_succ, Array.replicate_zero, List.push_toArray, List.append_toArray, List.nil_append, List.cons_append]
  obtain ⟨w1, hw1⟩ : ∃ w1, w.alloc (.cells #[.slice none 0 0] 26) = w1 := ⟨_, rfl⟩
  have z1 : w1.heap.size = w.heap.size + 1 := by rw [← hw1]; simp
  have b1 : Below w.heap.size w w1 := by rw [← hw1]; exact (Below.refl _ w).alloc (Nat.le_refl _) _
  have y1 : w1.heap[w.heap.size]? = some (.cells #[.slice none 0 0] 26 (0, 0)) := by rw [← hw1]; exact heap_alloc_new w _
  have hall := all_any (c := c) (hA.below b1) hn now free
  obtain ⟨q, hq⟩ : ∃ q, l.length = q := ⟨_, rfl⟩
  rw [hq] at hall hsl hn ⊢
  gi_wp2_with (first
    | (refine ⟨trivial, ?_⟩; gi_at_call 17; refine (callsIn_wide.2 hall).mono ?_; rintro e w4 ⟨v, rfl, ⟨gf, lb, D, rfl, heg, hS, hD⟩, b4⟩))
  clear hall hw1
  have y4 : w4.heap[w.heap.size]? = some (.cells #[.slice none 0 0] 26 (0, 0)) := (b4.block _ (by omega)).trans y1
  have B4 : Below w.heap.size w w4 := b1.trans (b4.mono b1.size)
  have sz := b4.size
  rw [hSS] at hS
  obtain ⟨i0, hi0, hz0, hz1, hz2⟩ := info_parts Try.inf34
  refine range_seq (by decide) (gf := gf) (lb := lb) rfl heg (fun _ => rfl) hS cellsS 34 (fun j => j = w.heap.size) ?hN
    (fun B k W => (∃ v, Col 26 34 w.heap.size B v k (flatS (S.take k)) W) ∧ Below w.heap.size w W ∧ k ≤ S.length) (fun _ _ => False) ?h0 ?hT ?hTx
    (fun s p => { tmps := #[.int .i64 now, .int .i64 free, .slice ao q c, undef, undef, undef, .slice none 0 0, .pointer (some ⟨w.heap.size, 0, none⟩), .pointer (some ⟨p, 0, none⟩), .int .i64 now, .int .i64 free, .slice ao q c, .func (.func gf) #[] lb, .agg #[.int .i64 s.at_, .int .i64 s.fr], undef, undef, undef, undef, undef], defers := [] }) ?assign ?body ?done ?stop
  case hN =>
    rintro j rfl
    exact ⟨by omega, fun h => by have := hD _ h; omega⟩
  case h0 =>
    intro W hb hz
    exact ⟨⟨_, (hb.block _ (by omega)).trans y4, World.ownsRow_nil _ _ _ _, by omega, Nat.le_refl _⟩, B4.trans (hb.mono (by omega)), Nat.zero_le _⟩
  case hT =>
    rintro B k A A' hB ⟨⟨v, hc⟩, hb, hk⟩ hch
    exact ⟨⟨v, hc.turned hch (by omega)⟩, hch.below hb hb.size (fun i hi => by omega), hk⟩
  case hTx => exact fun _ _ _ _ h _ => h
  case assign =>
    intro L s W K hK
    unfold encS
    unfold cellsS at hK
    gi_wp2
    exact hK
  case body =>
    rintro B k s p W hB hs ⟨⟨v, hc⟩, hb, hk⟩ hp hpc hrec
    unfold cellsS at hpc
    have hkl : k < S.length := (List.getElem?_eq_some_iff.1 hs).1
    have hsn := flatS_take hs
    have r1 := hc.row
    have c1 := hc.cell
    have f1 := hc.frozen
    have hhi := hc.hi
    have p0 : W.cell? ⟨p, 0, none⟩ = some (.int .i64 s.at_) := cells_at hpc rfl
    have p1 : W.cell? ⟨p, 1, none⟩ = some (.int .i64 s.fr) := cells_at hpc rfl
    obtain ⟨xs, hxs⟩ : ∃ xs, flatS (S.take k) = xs := ⟨_, rfl⟩
    rw [hxs] at hc r1 hsn
    have HSN : Hid _ := hsn
    have HB : Hid _ := hb
    clear hsn hb hrec hpc
    gi_wp2_with (first
      | (gi_at_builtin; refine wpListIn_append_own_at _ rfl (.tmp 14) (.tmp 16) 26 rfl B 34 i0 _ 2 16 Try.underlying26 hi0 hz0 hz1 hz2 rfl (by decide) _ _ _ rfl (r1.alloc _) ⟨W.heap.size, 0, none⟩ 1 1 [.int .i64 s.at_, .int .i64 s.fr] rfl rfl (new_cells _ _ _) (fun u hu => by simp at hu; rcases hu with rfl | rfl <;> rfl) (Nat.le_trans (m := 35184372088832) (by omega) (by decide)) (by omega) (by simp; omega) ?_; intro v1' w1 hown1 hgr1 _ hat1; obtain ⟨hc1, hk1, hch1, d1, g1⟩ := hc.app hown1 hgr1; obtain ⟨g', cap', rfl⟩ := ownsRow_succ hown1))
    rw [← HSN.out] at hc1
    exact ⟨hk1 _ (by omega), hch1, ⟨_, hc1⟩, hch1.below HB.out HB.out.size (fun i hi => by omega), by omega⟩
  case done =>
    rintro d B W hd hB ⟨⟨v, hc⟩, hb, _⟩ hK
    have c1 := hc.cell
    have r1 := hc.row
    rw [List.take_length] at r1
    obtain ⟨ao1, cap1, hv⟩ : ∃ ao1 cap1, v = .slice ao1 S.length cap1 := by
      rcases r1.2 with ⟨rfl, h0⟩ | ⟨g, cap, cur, rfl, _⟩
      · exact ⟨none, 0, by rw [h0]⟩
      · exact ⟨_, _, rfl⟩
    subst hv
    clear hc
    gi_wp2
    have F := row_fin hb r1 (by omega) hK
    refine ⟨by simp, .inl ⟨_, _, rfl, run_takeDeferred hK, ?_⟩⟩
    exact ⟨_, results_tmp rfl _ _ _, _, rfl, own_base F.1 (by omega), F.2⟩
  case stop => exact fun _ _ _ _ h _ => h.elim
end Go.Proofs.Ytljkllhpghjbiaa
