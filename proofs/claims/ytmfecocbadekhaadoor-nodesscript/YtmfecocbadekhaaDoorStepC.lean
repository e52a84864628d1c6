/-
  step: Claim.
-/
import Derived.Test.YtmfecocbadekhaaDoorStepA
namespace Go.Proofs.YtmfecocbadekhaaDoor
open Go.RowKit Nd

theorem Mv.aside {W0 W W' : World} {H k a : Nat} {s s' : St} (g : Mv W0 H s k W s') (c : Chg (fun i => i = a) W W') (ha : W0.heap.size ≤ a) (h0 : 0 < a) (hn : a ∉ s'.blks H) : Mv W0 H s k W' s' :=
  ⟨g.two.chg c (fun e => by omega) (fun i hi e => hn (e ▸ hi)), g.chg.trans c (fun i hi e => by omega), g.new, g.kk, g.other, g.few⟩
/-- What stays of the blocks b behind a call that turns block g alone. -/
theorem gr_cells {w w' : World} {g : Nat} (h : w.grownBy w' (some g)) (b : Nat) (hb : b ≠ g) (hl : b < w.heap.size) : (∀ o, w'.cell? ⟨b, o, none⟩ = w.cell? ⟨b, o, none⟩) ∧ (∀ o, w'.frozen? ⟨b, o, none⟩ = w.frozen? ⟨b, o, none⟩) :=
  ⟨fun _ => World.cell?_of_block (h.block b hl (fun e => hb (Option.some.inj e))), fun _ => World.frozen?_of_block (h.block b hl (fun e => hb (Option.some.inj e)))⟩

set_option maxHeartbeats 4000000 in
set_option maxRecDepth 20000 in
theorem step_claim (H : Nat) (s : St) (sec : Bool) (nn : Int) (la : Option Addr) (m lc gL oL : Nat) (f : Nat → Int) (w : World) (hT : Two w H s) (hFG : s.G1 = s.F1)
    (hao : 0 < m → la = some ⟨gL, oL, none⟩) (hnil : la = none → m = 0 ∧ lc = 0) (hm : m * 8 ≤ 140737488351232) (hcL : ∀ j, j < m → w.cell? ⟨gL, oL + j, none⟩ = some (.int .i64 (f j))) (hgL : gL < w.heap.size) (hgn : gL ∉ s.blks H) :
    Calls Tryd.prog 9 #[.agg #[.pointer (some ⟨s.b1, 0, none⟩), .pointer (some ⟨s.d1, 0, none⟩)], .agg #[.pointer (some ⟨s.b2, 0, none⟩), .pointer (some ⟨s.d2, 0, none⟩)], .pointer (some ⟨H, 0, none⟩), .agg #[.bool sec, .int .i64 1, .int .i64 nn, .slice la m lc]] w fun e w' =>
      ∃ s', e = .returned (.tuple #[.agg #[.pointer (some ⟨s'.b1, 0, none⟩), .pointer (some ⟨s'.d1, 0, none⟩)], .bool true]) ∧ Mv w H s 2 w' s' ∧ s'.G1 = s'.F1 := by
  obtain ⟨W, hW⟩ : ∃ W, headW w s.b1 s.d1 s.b2 s.d2 sec 1 nn la m lc = W := ⟨_, rfl⟩
  have g0 := mv_start (sec := sec) (kind := 1) (nn := nn) (la := la) (m := m) (lc := lc) hT
  have hd0 := head_of hT g0
  have HW : Hid (headW w s.b1 s.d1 s.b2 s.d2 sec 1 nn la m lc = W) := hW
  have hz4 : W.heap.size = w.heap.size + 4 := by rw [← hW, (head_at w s.b1 s.d1 s.b2 s.d2 sec 1 nn la m lc).2.2]
  have hbW : Below w.heap.size w W := by rw [← hW]; exact (head_at w s.b1 s.d1 s.b2 s.d2 sec 1 nn la m lc).2.1
  rw [hW] at g0 hd0
  unfold headW at hW
  have hz00 := hT.lt
  have hcW : ∀ j, j < m → W.cell? ⟨gL, oL + j, none⟩ = some (.int .i64 (f j)) := fun j hj => keepB hbW hgL (hcL j hj)
  have HCW : Hid (∀ j, j < m → W.cell? ⟨gL, oL + j, none⟩ = some (.int .i64 (f j))) := hcW
  clear hcW hcL
  have p0 := hd0.p0
  have p1 := hd0.p1
  have x1 := hd0.x1
  have x3 := hd0.x3
  go_enter Tryd.func9, Tryd.ntmps9
  go_wp2_with fail
  refine (lent_any gL oL m lc la f _ hao hnil hm HCW.out (by omega)).mono ?_
  rintro e w1 ⟨gn, cn, rfl, hgn1, ho1, hb1⟩
  have g1 := g0.step hb1
  have hgn2 := own_lt ho1
  have hcn : m + 2 ≤ cn := by
    rcases owns_shape ho1 with ⟨hv, _⟩ | ⟨_, _, hv, _, hn⟩
    · simp at hv
    · simp at hv
      omega
  have hz1 := hb1.size
  have hblk : ∀ i ∈ s.blks H, i < w.heap.size := hz00
  have lb1 := hblk s.b1 (by simp [St.blks])
  have lg1 := hblk s.g1 (by simp [St.blks])
  have cgn : ∀ j, j < m → w1.cell? ⟨gn, 0 + j, none⟩ = some (.int .i64 (f j)) := fun j hj => by
    rw [Nat.zero_add, own_at ho1 j (by simp [fl]; omega), nthI, List.getD_eq_getElem?_getD, List.getElem?_append_left (by rw [fl_len]; exact hj)]
    simp [fl, hj]
  have CGN : Hid (∀ j, j < m → w1.cell? ⟨gn, 0 + j, none⟩ = some (.int .i64 (f j))) := cgn
  have cL1 : Hid (∀ j, j < m → w1.cell? ⟨gL, oL + j, none⟩ = some (.int .i64 (f j))) := fun j hj => keepB hb1 (by omega) (HCW.out j hj)
  rw [← HW.out] at g1
  have hd1 := head_of hT g1
  rw [HW.out] at g1
  clear p0 p1 x1 x3 cgn
  have p0 := hd1.p0
  have p1 := hd1.p1
  have x1 := hd1.x1
  have x3 := hd1.x3
  go_wp2_with fail
  refine (claim_any s.b1 s.n1 s.F1 gn 0 m cn _ f _ g1.two.s1 (fun _ => rfl) (by omega) (by omega) CGN.out).mono ?_
  rintro e w2 ⟨rfl, hs2, hg2⟩
  have g2 := g1.trans (Mv.set1 g1.two hg2 hs2)
  have hz2 := hg2.size
  have ho2 := own_gr ho1 hg2 (by omega)
  have cL2 : Hid (∀ j, j < m → w2.cell? ⟨gL, oL + j, none⟩ = some (.int .i64 (f j))) := fun j hj => hg2.cell (cL1.out j hj) (fun e => hgn (by simp at e; simp [St.blks, e]))
  rw [← HW.out] at g2
  have hd2 := head_of hT g2
  rw [HW.out] at g2
  clear p0 p1 x1 x3 hs2 hg2
  have p0 := hd2.p0
  have p1 := hd2.p1
  have x1 := hd2.x1
  have x3 := hd2.x3
  go_wp2_with fail
  refine (rclaim_any s.d1 s.g1 s.c1 s.n1 s.G1 gL oL m lc la f _ g2.two.r1 hao (fun e => hgn (by simp [St.blks, e])) (by omega) cL2.out).mono ?_
  rintro e w3 ⟨rfl, hr3, hg3⟩
  have g3 := g2.trans (Mv.ref1 g2.two hg3 hr3)
  rw [hFG] at g3 ⊢
  have hz3 := hg3.size
  have ho3 := own_gr ho2 hg3 (by omega)
  have cL3 : ∀ j, j < m → w3.cell? ⟨gL, oL + j, none⟩ = some (.int .i64 (f j)) := fun j hj => hg3.cell (cL2.out j hj) (fun e => hgn (by simp at e; simp [St.blks, e]))
  obtain ⟨s2, g3', eb, ed, eG, ebl⟩ : ∃ s2 : St, Mv W H s 0 w3 s2 ∧ s2.b1 = s.b1 ∧ s2.d1 = s.d1 ∧ s2.G1 = s2.F1 ∧ s2.blks H = s.blks H := ⟨_, g3, rfl, rfl, rfl, rfl⟩
  rw [← HW.out] at g3'
  have hd3 := head_of hT g3'
  clear p0 p1 x1 x3 hr3 hg3 g3 g2 g1 g0 hd2 hd1 hd0 ho1 ho2 cL1 cL2 CGN HCW
  have HF : Hid (∀ wx, Chg (fun i => i = w.heap.size + 1 + 1 + 1) w3 wx → wx.ownsRow 0 3 1 (.slice (some ⟨gn, 0, none⟩) (m + 2) cn) (m + 2) (ints (fl f m ++ [-77, -78])) ∧ ∀ j, j < m → wx.cell? ⟨gL, oL + j, none⟩ = some (.int .i64 (f j))) :=
    fun wx c => ⟨c.own ho3 (fun i hi e => by simp [ablk] at hi; omega), fun j hj => c.cell (cL3 j hj) (by simp; omega)⟩
  clear ho3 cL3
  have p0 := hd3.p0
  have p1 := hd3.p1
  have x3 := hd3.x3
  have r0 := hd3.r0
  have r1 := hd3.r1
  have f0 := hd3.f0
  have f1 := hd3.f1
  have hn3 : w.heap.size + 1 + 1 + 1 ≠ gn := by omega
  have hn0 : w.heap.size ≠ gn := by omega
  go_wp2_with fail
  go_region_with (first | (go_at_call 26; refine (still_any gn cn gL oL m lc la f _ ?_ hao hm ?_).mono ?_; (exact (HF.out _ (by first | exact Chg.of_below (drew_below w3 1) _ | exact chg_pairN w3 1 _ _ _)).1); (exact (HF.out _ (by first | exact Chg.of_below (drew_below w3 1) _ | exact chg_pairN w3 1 _ _ _)).2); rintro e w4 ⟨rfl, hg4⟩; obtain ⟨k30, k31⟩ := gr_cells hg4 _ hn3 (by simp; omega); obtain ⟨k00, k01⟩ := gr_cells hg4 _ hn0 (by simp; omega)))
  all_goals go_wp2
  all_goals simp only [List.getElem_toArray, List.getElem_cons_succ, List.getElem_cons_zero, Act.put, List.setIfInBounds_toArray, List.set_cons_zero, List.set_cons_succ]
  all_goals have g4 := g3'.aside ((Chg.of_below (drew_below w3 1) (fun i => i = gn)).trans (Chg.of_gr (K := fun i => i = gn) hg4 (fun k hk => .inl (Option.some.inj hk).symm)) (fun _ _ h => h)) (by rw [HW.out]; omega) (by omega) (fun e => by rw [ebl] at e; have := hz00 _ e; omega)
  all_goals refine bodyPost_ret (v := .tuple #[.agg #[.pointer (some ⟨s.b1, 0, none⟩), .pointer (some ⟨s.d1, 0, none⟩)], .bool true]) (by simp [results, Tryd.results9, go_sem, k30, r0, r1]) rfl ?_
  all_goals exact step_fin hT g4 eb ed eG (chg_pair w4 (w.heap.size + 1 + 1 + 1) _ _) (fun i hi => .inl hi) (by omega)
end Go.Proofs.YtmfecocbadekhaaDoor
