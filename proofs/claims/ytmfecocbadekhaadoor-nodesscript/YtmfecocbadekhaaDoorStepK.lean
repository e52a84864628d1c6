/-
  step: Clone, Spoil.
-/
import Derived.Test.YtmfecocbadekhaaDoorStepA
import Derived.Deep.CutBlock
import Derived.Deep.DeepCutAuto
namespace Go.Proofs.YtmfecocbadekhaaDoor
open Go.RowKit Nd

theorem pair_cells2 {w : World} {a : Nat} {v0 v1 : Value} (h0 : w.cell? ⟨a, 0, none⟩ = some v0) (h1 : w.cell? ⟨a, 1, none⟩ = some v1) (y z : Value) : ((w.setCell ⟨a, 0, none⟩ y).setCell ⟨a, 1, none⟩ z).cell? ⟨a, 0, none⟩ = some y ∧ ((w.setCell ⟨a, 0, none⟩ y).setCell ⟨a, 1, none⟩ z).cell? ⟨a, 1, none⟩ = some z := by
  have e1 : (w.setCell ⟨a, 0, none⟩ y).cell? ⟨a, 1, none⟩ = some v1 := (World.cell?_setCell_other _ _ _ _ (by simp)).trans h1
  exact ⟨(World.cell?_setCell_other _ _ _ _ (by simp)).trans (World.cell?_setCell_same _ _ _ h0), World.cell?_setCell_same _ _ _ e1⟩
theorem chg_fr {K : Nat → Prop} {w w' : World} (c : Chg K w w') {a : Addr} {v : Value} (hc : w.cell? a = some v) (hK : ¬ K a.block) (hf : w.frozen? a = false) : w'.frozen? a = false :=
  (World.frozen?_of_block (c.block a.block (World.block_lt_of_cell? w a hc) hK)).trans hf
/-- What stays of step's head behind a call that makes memory alone. -/
theorem bkeep4 {w w' : World} (h : Below w.heap.size w w') {N : Nat} (hN : N + 3 < w.heap.size) : (∀ o, w'.cell? ⟨N, o, none⟩ = w.cell? ⟨N, o, none⟩) ∧ (∀ o, w'.frozen? ⟨N, o, none⟩ = w.frozen? ⟨N, o, none⟩) ∧ (∀ o, w'.cell? ⟨N + 1, o, none⟩ = w.cell? ⟨N + 1, o, none⟩) :=
  ⟨fun _ => h.cell (by simp; omega), fun _ => h.frozen (by simp; omega), fun _ => h.cell (by simp; omega)⟩
set_option maxHeartbeats 4000000 in
set_option maxRecDepth 20000 in
theorem step_spoil (H : Nat) (s : St) (sec : Bool) (nn : Int) (la : Option Addr) (m lc : Nat) (w : World) (hT : Two w H s) (hfew : s.es.length ≤ 310) (hFG : s.G1 = s.F1) :
    Calls Tryd.prog 9 #[.agg #[.pointer (some ⟨s.b1, 0, none⟩), .pointer (some ⟨s.d1, 0, none⟩)], .agg #[.pointer (some ⟨s.b2, 0, none⟩), .pointer (some ⟨s.d2, 0, none⟩)], .pointer (some ⟨H, 0, none⟩), .agg #[.bool sec, .int .i64 6, .int .i64 nn, .slice la m lc]] w fun e w' =>
      ∃ s', e = .returned (.tuple #[.agg #[.pointer (some ⟨s'.b1, 0, none⟩), .pointer (some ⟨s'.d1, 0, none⟩)], .bool true]) ∧ Mv w H s 2 w' s' ∧ s'.G1 = s'.F1 := by
  obtain ⟨W, hW⟩ : ∃ W, headW w s.b1 s.d1 s.b2 s.d2 sec 6 nn la m lc = W := ⟨_, rfl⟩
  have g0 := mv_start (sec := sec) (kind := 6) (nn := nn) (la := la) (m := m) (lc := lc) hT
  have hd0 := head_of hT g0
  have HW : Hid (headW w s.b1 s.d1 s.b2 s.d2 sec 6 nn la m lc = W) := hW
  have hz4 : W.heap.size = w.heap.size + 4 := by rw [← hW, (head_at w s.b1 s.d1 s.b2 s.d2 sec 6 nn la m lc).2.2]
  rw [hW] at g0 hd0
  unfold headW at hW
  have hz00 := hT.lt
  have lH := hz00 H (by simp [St.blks])
  have p0 := hd0.p0
  have p1 := hd0.p1
  have x1 := hd0.x1
  go_enter Tryd.func9, Tryd.ntmps9
  go_wp2_with fail
  refine (spoil_any H s.ao s.aw s.co s.cw s.es _ g0.two.nums (by omega) g0.two.full).mono ?_
  rintro e w1 ⟨rfl, hc1, v0, v1, hblk⟩
  have k0 : w1.cell? ⟨H, 0, none⟩ = some v0 := by simp [World.cell?, hblk]
  have k1 : w1.cell? ⟨H, 1, none⟩ = some v1 := by simp [World.cell?, hblk]
  have kf0 : w1.frozen? ⟨H, 0, none⟩ = false := by simp [World.frozen?, hblk]
  have kf1 : w1.frozen? ⟨H, 1, none⟩ = false := by simp [World.frozen?, hblk]
  have hb2 := two_setCell1 (u := .slice none 0 0) (two_setCell0 (u := .slice none 0 0) hblk)
  have hN : Nums ((w1.setCell ⟨H, 0, none⟩ (.slice none 0 0)).setCell ⟨H, 1, none⟩ (.slice none 0 0)) H none none 0 0 [] :=
    ⟨hb2, World.ownsRow_nil _ _ _ _, World.ownsRow_nil _ _ _ _, (fun e he => by simp at he), by simp [foot, ablk], by simp⟩
  have c2 := hc1.trans (chg_pair w1 H (.slice none 0 0) (.slice none 0 0)) (fun i _ h => .inl h)
  have g2 := g0.kept (X := []) (k' := 0) hN (fun e he => by simp at he) (by simp [foot, ablk]) c2 (by simp) (by omega) (by simp)
  rw [← HW.out] at g2
  have hd2 := head_of hT g2
  clear p0 p1 x1 g0 hd0 hN c2 hc1 hW
  go_upto_region 33 with fail
  generalize (w1.setCell ⟨H, 0, none⟩ (.slice none 0 0)).setCell ⟨H, 1, none⟩ (.slice none 0 0) = w2 at *
  have p0 := hd2.p0
  have p1 := hd2.p1
  have r0 := hd2.r0
  have r1 := hd2.r1
  have f0 := hd2.f0
  have f1 := hd2.f1
  go_wp2
  refine bodyPost_ret (v := .tuple #[.agg #[.pointer (some ⟨s.b1, 0, none⟩), .pointer (some ⟨s.d1, 0, none⟩)], .bool true]) (by simp [results, Tryd.results9, go_sem, r0, r1]) rfl ?_
  exact step_fin hT g2 rfl rfl hFG (chg_pair w2 (w.heap.size + 1 + 1 + 1) _ _) (fun i hi => .inl hi) (by omega)

set_option maxHeartbeats 4000000 in
set_option maxRecDepth 20000 in
theorem step_clone (H : Nat) (s : St) (sec : Bool) (nn : Int) (la : Option Addr) (m lc : Nat) (w : World) (hT : Two w H s) :
    Calls Tryd.prog 9 #[.agg #[.pointer (some ⟨s.b1, 0, none⟩), .pointer (some ⟨s.d1, 0, none⟩)], .agg #[.pointer (some ⟨s.b2, 0, none⟩), .pointer (some ⟨s.d2, 0, none⟩)], .pointer (some ⟨H, 0, none⟩), .agg #[.bool sec, .int .i64 5, .int .i64 nn, .slice la m lc]] w fun e w' =>
      ∃ s', e = .returned (.tuple #[.agg #[.pointer (some ⟨s'.b1, 0, none⟩), .pointer (some ⟨s'.d1, 0, none⟩)], .bool true]) ∧ Mv w H s 2 w' s' ∧ s'.G1 = s'.F1 := by
  obtain ⟨W, hW⟩ : ∃ W, headW w s.b1 s.d1 s.b2 s.d2 sec 5 nn la m lc = W := ⟨_, rfl⟩
  have g0 := mv_start (sec := sec) (kind := 5) (nn := nn) (la := la) (m := m) (lc := lc) hT
  have hd0 := head_of hT g0
  have HW : Hid (headW w s.b1 s.d1 s.b2 s.d2 sec 5 nn la m lc = W) := hW
  have hz4 : W.heap.size = w.heap.size + 4 := by rw [← hW, (head_at w s.b1 s.d1 s.b2 s.d2 sec 5 nn la m lc).2.2]
  rw [hW] at g0 hd0
  unfold headW at hW
  have p0 := hd0.p0
  have p1 := hd0.p1
  have o0 := hd0.o0
  have o1 := hd0.o1
  have x1 := hd0.x1
  have fp0 := hd0.fp0
  have fp1 := hd0.fp1
  have hs2 := g0.two.s2
  have hr2 := g0.two.r2
  go_enter Tryd.func9, Tryd.ntmps9
  go_wp2_with fail
  go_region_with (first
    | (go_at_call 29; refine (clone_any s.b2 s.n2 s.F2 _ ?_).mono ?_; (first | exact hs2.below (drew_below W 1) | exact SetIn.below (w := wb) (SetIn.below (w := W.drew) (hs2.below (drew_below W 1)) hbb) (Below.refl _ _)); rintro e wa ⟨rfl, hsa, hba⟩; obtain ⟨ka0, ka1, ka2⟩ := bkeep4 hba (N := w.heap.size) (by first | (simp; omega) | (have := hbb.size; simp at this; omega)))
    | (go_at_call 30; refine (rclone_any s.d2 s.g2 s.c2 s.n2 s.F2 _ ?_).mono ?_; (first | exact hr2.of_heap rfl | exact RefIn.below (w := W.drew) (hr2.of_heap rfl) hba); rintro e wb ⟨db, gb, cb, rfl, hrb, hdb, hgb, hbb⟩; obtain ⟨kb0, kb1, kb2⟩ := bkeep4 hbb (N := w.heap.size) (by first | (simp; omega) | (have := hba.size; simp at this; omega))))
  all_goals
    have hbW : Below W.heap.size W wb := (drew_below W 1).trans (below_on (B := W.heap.size) hba hbb hba.size)
    have hza := hba.size
    have hlb := hsa.lt
    have gF := Mv.fresh g0.two hbW (b := W.heap.size) (hsa.below hbb) hrb (Nat.le_refl _) (by simp at hza; omega) (by simp at hza; omega) (by simp at hlb; omega) (by simp at hlb; omega)
    have gF' : Mv (headW w s.b1 s.d1 s.b2 s.d2 sec 5 nn la m lc) H s 0 wb { s with b1 := W.heap.size, d1 := db, g1 := gb, c1 := cb, n1 := s.n2, F1 := s.F2, G1 := s.F2 } := by rw [HW.out]; exact gF
    have hdF := head_of hT gF'
    have cN := chg_pair wb w.heap.size (.pointer (some ⟨w.heap.size + 4, 0, none⟩)) (.pointer (some ⟨db, 0, none⟩))
    have pc := pair_cells2 hdF.p0 hdF.p1 (.pointer (some ⟨w.heap.size + 4, 0, none⟩)) (.pointer (some ⟨db, 0, none⟩))
    have r0 := cN.cell hdF.r0 (by simp)
    have r1 := cN.cell hdF.r1 (by simp)
    have f0 := chg_fr cN hdF.r0 (by simp) hdF.f0
    have f1 := chg_fr cN hdF.r1 (by simp) hdF.f1
    clear hsa hba hrb hbb ka0 ka1 ka2 kb0 kb1 kb2 gF hdF hs2 hr2 p0 p1 o0 o1 x1 fp0 fp1 hd0 g0 hbW
    go_upto_region 29 with fail
    generalize (wb.setCell ⟨w.heap.size, 0, none⟩ (.pointer (some ⟨w.heap.size + 4, 0, none⟩))).setCell ⟨w.heap.size, 1, none⟩ (.pointer (some ⟨db, 0, none⟩)) = w5 at *
    obtain ⟨q0, q1⟩ := pc
    go_region
    go_wp2
    refine bodyPost_ret (v := .tuple #[.agg #[.pointer (some ⟨w.heap.size + 4, 0, none⟩), .pointer (some ⟨db, 0, none⟩)], .bool true]) (by simp [results, Tryd.results9, go_sem, r0, r1]) rfl ?_
    exact step_fin (K := fun i => i = w.heap.size ∨ i = w.heap.size + 1 + 1 + 1) hT gF' hz4 rfl rfl ((cN.mono (fun i _ h => .inl h)).trans (chg_pairN w5 1 (w.heap.size + 1 + 1 + 1) _ _) (fun i _ h => .inr h)) (fun i hi => hi.elim .inr .inl) (by omega)
end Go.Proofs.YtmfecocbadekhaaDoor
