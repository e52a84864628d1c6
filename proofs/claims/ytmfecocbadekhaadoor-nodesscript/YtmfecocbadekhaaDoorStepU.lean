/-
  step: Take.
-/
import Derived.Test.YtmfecocbadekhaaDoorStepA
namespace Go.Proofs.YtmfecocbadekhaaDoor
open Go.RowKit Nd

set_option maxHeartbeats 2000000 in
set_option maxRecDepth 20000 in
theorem step_take2 (H : Nat) (s : St) (sec : Bool) (nn : Nat) (la : Option Addr) (m lc : Nat) (w : World) (hT : Two w H s) (hfew : s.es.length ≤ 310) (hFG : s.G1 = s.F1) (hn : 1 ≤ nn) (hn2 : nn ≤ (lst s.F1).length) :
    Calls Tryd.prog 9 #[.agg #[.pointer (some ⟨s.b1, 0, none⟩), .pointer (some ⟨s.d1, 0, none⟩)], .agg #[.pointer (some ⟨s.b2, 0, none⟩), .pointer (some ⟨s.d2, 0, none⟩)], .pointer (some ⟨H, 0, none⟩), .agg #[.bool sec, .int .i64 0, .int .i64 nn, .slice la m lc]] w fun e w' =>
      ∃ s', e = .returned (.tuple #[.agg #[.pointer (some ⟨s'.b1, 0, none⟩), .pointer (some ⟨s'.d1, 0, none⟩)], .bool true]) ∧ Mv w H s 2 w' s' ∧ s'.G1 = s'.F1 := by
  obtain ⟨W, hW⟩ : ∃ W, headW w s.b1 s.d1 s.b2 s.d2 sec 0 nn la m lc = W := ⟨_, rfl⟩
  have g0 := mv_start (sec := sec) (kind := 0) (nn := nn) (la := la) (m := m) (lc := lc) hT
  have hd0 := head_of hT g0
  have HW : Hid (headW w s.b1 s.d1 s.b2 s.d2 sec 0 nn la m lc = W) := hW
  have hz0 : 0 < W.heap.size := by rw [← hW, (head_at w s.b1 s.d1 s.b2 s.d2 sec 0 nn la m lc).2.2]; omega
  rw [hW] at g0 hd0
  unfold headW at hW
  have p0 := hd0.p0
  have p1 := hd0.p1
  have x1 := hd0.x1
  have x2 := hd0.x2
  go_enter Tryd.func9, Tryd.ntmps9
  go_wp2_with fail
  have hz00 := g0.two.lt
  have h256 := lst_len s.F1
  have hlt' : ((lst s.F1).take nn).length = nn := by simp; omega
  have HLt : Hid (((lst s.F1).take nn).length = nn) := hlt'
  clear hlt'
  refine (take_ok s.b1 s.n1 s.F1 nn _ g0.two.s1 hn hn2).mono ?_
  rintro e w1 ⟨rfl, hoT, hsT, hgT⟩
  have g1 := g0.trans (Mv.set1 g0.two hgT hsT)
  have hdz := hgT.size
  clear hsT hgT
  rw [← HW.out] at g1
  have hd1 := head_of hT g1
  rw [HW.out] at g1
  clear p0 p1 x1 x2
  have p0 := hd1.p0
  have p1 := hd1.p1
  have x1 := hd1.x1
  have x2 := hd1.x2
  go_wp2_with fail
  refine (rtake_ok s.d1 s.g1 s.c1 s.n1 s.G1 nn _ g1.two.r1 hn (by rw [hFG]; exact hn2)).mono ?_
  rintro e w2 ⟨gr, rfl, hgr, hcr, hrT, hgR⟩
  have g2 := g1.trans (Mv.ref1 g1.two hgR hrT)
  have hoT2 := own_gr hoT hgR (fun e => by have := hz00 s.g1 (by simp [St.blks]); omega)
  rw [hFG] at g2 hcr
  have hxl := vals_ints ((lst s.F1).take nn)
  have hlx : (((lst s.F1).take nn).map (fun k : Nat => (k : Int))).length = nn := by rw [List.length_map]; exact HLt.out
  have hoV := hoT2
  rw [hxl] at hoT2
  have hoT3 := owns_low hoT2
  obtain ⟨s2, g2', eb, ed, eG, ees, ebl⟩ : ∃ s2 : St, Mv W H s 0 w2 s2 ∧ s2.b1 = s.b1 ∧ s2.d1 = s.d1 ∧ s2.G1 = s2.F1 ∧ s2.es = s.es ∧ s2.blks H = s.blks H := ⟨_, g2, rfl, rfl, rfl, rfl, rfl⟩
  have hxt : ∀ i, W.heap.size ≤ i → i ∉ s2.blks H := fun i hi e => by rw [ebl] at e; have := hz00 i e; omega
  have hxt2 : ∀ i, W.heap.size ≤ i → ¬ (i = H ∨ i ∈ foot s2.ao s2.aw s2.es) := fun i hi e => by
    rcases e with e | e
    · exact hxt i hi (by simp [St.blks, e])
    · exact hxt i hi (by simp [St.blks, St.feet, e])
  rw [← HW.out] at g2'
  have hd2 := head_of hT g2'
  rw [HW.out] at g2'
  clear p0 p1 x1 x2 hoT hoT2 hgR hrT hxl g1 g2 hd1 hd0
  have p0 := hd2.p0
  have p1 := hd2.p1
  go_wp2_with fail
  refine (keep_n H s2.ao s2.aw s2.co s2.cw s2.es (some ⟨W.heap.size, 0, none⟩) nn _ _ g2'.two.nums (by rw [ees]; omega) hlx hoT3 (by omega) (fun i hi => ?_)).mono ?_
  · simp [ablk] at hi
    subst hi
    exact ⟨fun e => hxt2 _ (Nat.le_refl _) (.inl e), fun e => hxt2 _ (Nat.le_refl _) (.inr e)⟩
  rintro e w3 ⟨rfl, ao', aw', co', cw', gw, cw1, hN, hfoot, hc⟩
  have g3 := mv_keep g2' hz0 (by omega) hN hfoot hc (fun i hi => by simp [ablk] at hi; subst hi; exact ⟨Nat.le_refl _, hxt _ (Nat.le_refl _)⟩)
  have ra : ∀ j, j < nn → w3.cell? ⟨W.heap.size, 0 + j, none⟩ = some (.int .i64 (nth ((lst s.F1).take nn) j)) := fun j hj => hc.cell (own_cells hoV j (by rw [HLt.out]; exact hj)) (hxt2 _ (Nat.le_refl _))
  have rb : ∀ j, j < nn → w3.cell? ⟨gr, 0 + j, none⟩ = some (.int .i64 (nth ((lst s.F1).take nn) j)) := fun j hj => by rw [Nat.zero_add]; exact hc.cell (hcr j hj) (hxt2 gr (by omega))
  rw [← HW.out] at g3
  have hd3 := head_of hT g3
  have RA : Hid (∀ j, j < nn → w3.cell? ⟨W.heap.size, 0 + j, none⟩ = some (.int .i64 (nth ((lst s.F1).take nn) j))) := ra
  have RB : Hid (∀ j, j < nn → w3.cell? ⟨gr, 0 + j, none⟩ = some (.int .i64 (nth ((lst s.F1).take nn) j))) := rb
  clear p0 p1 hW hd2 g2' g0 hN hfoot hc hoT3 hoV hcr ra rb hxt hxt2
  have p0 := hd3.p0
  have p1 := hd3.p1
  have r0 := hd3.r0
  have r1 := hd3.r1
  have f0 := hd3.f0
  have f1 := hd3.f1
  go_wp2_with fail
  go_region_with (first | (go_at_call 13; refine (same_yes W.heap.size 0 nn nn gr 0 nn nn _ _ (nth ((lst s.F1).take nn)) (nth ((lst s.F1).take nn)) _ (fun _ => rfl) (fun _ => rfl) (by omega) (by omega) ?_ ?_ (same_self _ _ _ (fun _ _ => rfl))).mono ?_; (exact RA.out); (exact RB.out); rintro e w4 ⟨rfl, q, rfl⟩))
  all_goals go_wp2
  all_goals simp only [List.getElem_toArray, List.getElem_cons_succ, List.getElem_cons_zero, Act.put, List.setIfInBounds_toArray, List.set_cons_zero, List.set_cons_succ]
  all_goals refine bodyPost_ret (v := .tuple #[.agg #[.pointer (some ⟨s.b1, 0, none⟩), .pointer (some ⟨s.d1, 0, none⟩)], .bool true]) (by simp [results, Tryd.results9, go_sem, r0, r1]) rfl ?_
  all_goals exact step_fin hT g3 eb ed eG (chg_pairN w3 (1 + q) (w.heap.size + 1 + 1 + 1) _ _) (fun i hi => .inl hi) (by omega)
end Go.Proofs.YtmfecocbadekhaaDoor
