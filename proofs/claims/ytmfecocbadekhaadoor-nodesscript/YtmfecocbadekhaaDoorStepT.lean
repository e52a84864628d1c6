/-
  step: Take.
-/
import Derived.Test.YtmfecocbadekhaaDoorStepA
namespace Go.Proofs.YtmfecocbadekhaaDoor
open Go.RowKit Nd

set_option maxHeartbeats 2000000 in
set_option maxRecDepth 20000 in
theorem step_take0 (H : Nat) (s : St) (sec : Bool) (nn : Int) (la : Option Addr) (m lc : Nat) (w : World) (hT : Two w H s) (hfew : s.es.length ≤ 310) (hFG : s.G1 = s.F1) (hn : nn < 1) :
    Calls Tryd.prog 9 #[.agg #[.pointer (some ⟨s.b1, 0, none⟩), .pointer (some ⟨s.d1, 0, none⟩)], .agg #[.pointer (some ⟨s.b2, 0, none⟩), .pointer (some ⟨s.d2, 0, none⟩)], .pointer (some ⟨H, 0, none⟩), .agg #[.bool sec, .int .i64 0, .int .i64 nn, .slice la m lc]] w fun e w' =>
      ∃ s', e = .returned (.tuple #[.agg #[.pointer (some ⟨s'.b1, 0, none⟩), .pointer (some ⟨s'.d1, 0, none⟩)], .bool true]) ∧ Mv w H s 2 w' s' ∧ s'.G1 = s'.F1 := by
  obtain ⟨W, hW⟩ : ∃ W, headW w s.b1 s.d1 s.b2 s.d2 sec 0 nn la m lc = W := ⟨_, rfl⟩
  have g0 := mv_start (sec := sec) (kind := 0) (nn := nn) (la := la) (m := m) (lc := lc) hT
  have hd0 := head_of hT g0
  have HW : Hid (headW w s.b1 s.d1 s.b2 s.d2 sec 0 nn la m lc = W) := hW
  have hz0 : 0 < W.heap.size := by rw [← hW, (head_at w s.b1 s.d1 s.b2 s.d2 sec 0 nn la m lc).2.2]; omega
  rw [hW] at g0 hd0
  unfold headW at hW
  have p0 := hd0.p0
  have p1 := hd0.p1
  have x1 := hd0.x1
  have x2 := hd0.x2
  go_enter Tryd.func9, Tryd.ntmps9
  go_wp2_with fail
  refine (take_many s.b1 s.n1 s.F1 nn _ g0.two.s1 hn).mono ?_
  rintro e w1 ⟨rfl, hw1⟩
  have hw1' := hw1.symm
  subst hw1'
  go_wp2_with fail
  refine (rtake_many s.d1 s.g1 s.c1 s.n1 s.G1 nn _ g0.two.r1 hn).mono ?_
  rintro e w1' ⟨rfl, hw2⟩
  have hw2' := hw2.symm
  subst hw2'
  go_wp2_with fail
  refine (keep_any H s.ao s.aw s.co s.cw s.es none 0 [] _ g0.two.nums (by omega) (World.ownsRow_nil _ _ _ _) (by simp) (by simp [ablk])).mono ?_
  rintro e w2 ⟨rfl, ao', aw', co', cw', gw, cw1, hN, hfoot, hc⟩
  have g2 := mv_keep (xs := []) (va := none) g0 hz0 (by simp) hN hfoot hc (by simp [ablk])
  rw [← HW.out] at g2
  have hd2 := head_of hT g2
  clear hW p0 p1 x1 x2 g0 hd0 hN hfoot hc hw1 hw2
  have p0 := hd2.p0
  have p1 := hd2.p1
  have r0 := hd2.r0
  have r1 := hd2.r1
  have f0 := hd2.f0
  have f1 := hd2.f1
  go_wp2_with fail
  go_region_with (first | (go_at_call 13; refine (same_yes 0 0 0 0 0 0 0 0 none none (fun _ => 0) (fun _ => 0) _ (fun h => by omega) (fun h => by omega) (by omega) (by omega) (fun j hj => by omega) (fun j hj => by omega) (by rfl)).mono ?_; rintro e w3 ⟨rfl, q, rfl⟩))
  all_goals go_wp2
  all_goals simp only [List.getElem_toArray, List.getElem_cons_succ, List.getElem_cons_zero, Act.put, List.setIfInBounds_toArray, List.set_cons_zero, List.set_cons_succ]
  all_goals refine bodyPost_ret (v := .tuple #[.agg #[.pointer (some ⟨s.b1, 0, none⟩), .pointer (some ⟨s.d1, 0, none⟩)], .bool true]) (by simp [results, Tryd.results9, go_sem, r0, r1]) rfl ?_
  all_goals exact step_fin hT g2 rfl rfl hFG (chg_pairN w2 (1 + q) (w.heap.size + 1 + 1 + 1) _ _) (fun i hi => .inl hi) (by omega)
set_option maxHeartbeats 2000000 in
set_option maxRecDepth 20000 in
theorem step_take1 (H : Nat) (s : St) (sec : Bool) (nn : Int) (la : Option Addr) (m lc : Nat) (w : World) (hT : Two w H s) (hfew : s.es.length ≤ 310) (hFG : s.G1 = s.F1) (hn : 1 ≤ nn) (hn2 : (lst s.F1).length < nn) :
    Calls Tryd.prog 9 #[.agg #[.pointer (some ⟨s.b1, 0, none⟩), .pointer (some ⟨s.d1, 0, none⟩)], .agg #[.pointer (some ⟨s.b2, 0, none⟩), .pointer (some ⟨s.d2, 0, none⟩)], .pointer (some ⟨H, 0, none⟩), .agg #[.bool sec, .int .i64 0, .int .i64 nn, .slice la m lc]] w fun e w' =>
      ∃ s', e = .returned (.tuple #[.agg #[.pointer (some ⟨s'.b1, 0, none⟩), .pointer (some ⟨s'.d1, 0, none⟩)], .bool true]) ∧ Mv w H s 2 w' s' ∧ s'.G1 = s'.F1 := by
  obtain ⟨W, hW⟩ : ∃ W, headW w s.b1 s.d1 s.b2 s.d2 sec 0 nn la m lc = W := ⟨_, rfl⟩
  have g0 := mv_start (sec := sec) (kind := 0) (nn := nn) (la := la) (m := m) (lc := lc) hT
  have hd0 := head_of hT g0
  have HW : Hid (headW w s.b1 s.d1 s.b2 s.d2 sec 0 nn la m lc = W) := hW
  have hz0 : 0 < W.heap.size := by rw [← hW, (head_at w s.b1 s.d1 s.b2 s.d2 sec 0 nn la m lc).2.2]; omega
  rw [hW] at g0 hd0
  unfold headW at hW
  have p0 := hd0.p0
  have p1 := hd0.p1
  have x1 := hd0.x1
  have x2 := hd0.x2
  go_enter Tryd.func9, Tryd.ntmps9
  go_wp2_with fail
  refine (take_free s.b1 s.n1 s.F1 nn _ g0.two.s1 hn hn2).mono ?_
  rintro e w1 ⟨rfl, hw1⟩
  have hw1' := hw1.symm
  subst hw1'
  go_wp2_with fail
  refine (rtake_free s.d1 s.g1 s.c1 s.n1 s.G1 nn _ g0.two.r1 hn (by rw [hFG]; exact hn2)).mono ?_
  rintro e w1' ⟨rfl, hb1⟩
  have g1 := g0.step hb1
  clear hb1
  go_wp2_with fail
  refine (keep_any H s.ao s.aw s.co s.cw s.es none 0 [] _ g1.two.nums (by omega) (World.ownsRow_nil _ _ _ _) (by simp) (by simp [ablk])).mono ?_
  rintro e w2 ⟨rfl, ao', aw', co', cw', gw, cw1, hN, hfoot, hc⟩
  have g2 := mv_keep (xs := []) (va := none) g1 hz0 (by simp) hN hfoot hc (by simp [ablk])
  rw [← HW.out] at g2
  have hd2 := head_of hT g2
  clear hW p0 p1 x1 x2 g0 g1 hd0 hN hfoot hc hw1
  have p0 := hd2.p0
  have p1 := hd2.p1
  have r0 := hd2.r0
  have r1 := hd2.r1
  have f0 := hd2.f0
  have f1 := hd2.f1
  go_wp2_with fail
  go_region_with (first | (go_at_call 13; refine (same_yes 0 0 0 0 0 0 0 0 none none (fun _ => 0) (fun _ => 0) _ (fun h => by omega) (fun h => by omega) (by omega) (by omega) (fun j hj => by omega) (fun j hj => by omega) (by rfl)).mono ?_; rintro e w3 ⟨rfl, q, rfl⟩))
  all_goals go_wp2
  all_goals simp only [List.getElem_toArray, List.getElem_cons_succ, List.getElem_cons_zero, Act.put, List.setIfInBounds_toArray, List.set_cons_zero, List.set_cons_succ]
  all_goals refine bodyPost_ret (v := .tuple #[.agg #[.pointer (some ⟨s.b1, 0, none⟩), .pointer (some ⟨s.d1, 0, none⟩)], .bool true]) (by simp [results, Tryd.results9, go_sem, r0, r1]) rfl ?_
  all_goals exact step_fin hT g2 rfl rfl hFG (chg_pairN w2 (1 + q) (w.heap.size + 1 + 1 + 1) _ _) (fun i hi => .inl hi) (by omega)
end Go.Proofs.YtmfecocbadekhaaDoor
