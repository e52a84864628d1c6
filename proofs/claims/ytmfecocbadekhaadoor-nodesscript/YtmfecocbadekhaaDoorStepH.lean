/-
  step: Has.
-/
import Derived.Test.YtmfecocbadekhaaDoorStepA
namespace Go.Proofs.YtmfecocbadekhaaDoor
open Go.RowKit Nd

theorem has_q (b n F : Nat) (k : Int) (w : World) (h : SetIn w b n F) :
    Calls Tryd.prog 18 #[.pointer (some ⟨b, 0, none⟩), .int .i64 k] w fun e w' => e = .returned (.bool (hasB F k)) ∧ ∃ q, w' = w.drewN q :=
  (has_any b n F k w h).mono fun _ _ ⟨he, hw⟩ => ⟨he, 0, hw⟩
theorem rhas_q (d g cap n F : Nat) (k : Int) (w : World) (h : RefIn w d g cap n F) :
    Calls Tryd.prog 27 #[.pointer (some ⟨d, 0, none⟩), .int .i64 k] w fun e w' => e = .returned (.bool (hasB F k)) ∧ ∃ q, w' = w.drewN q :=
  (rhas_any d g cap n F k w h).mono fun _ _ ⟨he, hw⟩ => ⟨he, 0, hw⟩
/-- What cell o of step's result holds. -/
def cv (N : Nat) (w : World) (o : Nat) : Value := (w.cell? ⟨N + 3, o, none⟩).getD (.pointer none)
def HasR (W : World) (N : Nat) (s : St) (w' : World) : Prop := SetIn w' s.b1 s.n1 s.F1 ∧ RefIn w' s.d1 s.g1 s.c1 s.n1 s.F1 ∧ Chg (fun i => i = N + 3) W w' ∧ N + 3 < W.heap.size
abbrev HasS (W : World) (N : Nat) (s : St) (nn : Int) (w' : World) : Prop := w'.cell? ⟨N, 0, none⟩ = some (.pointer (some ⟨s.b1, 0, none⟩)) ∧ w'.cell? ⟨N, 1, none⟩ = some (.pointer (some ⟨s.d1, 0, none⟩)) ∧ w'.cell? ⟨N + 2, 2, none⟩ = some (.int .i64 nn) ∧ w'.cell? ⟨N + 3, 0, none⟩ = some (cv N w' 0) ∧ w'.cell? ⟨N + 3, 1, none⟩ = some (cv N w' 1) ∧ w'.frozen? ⟨N + 3, 0, none⟩ = false ∧ w'.frozen? ⟨N + 3, 1, none⟩ = false ∧ HasR W N s w'
theorem has_in {W w' : World} {N : Nat} {s : St} {nn : Int} (h : HasS W N s nn w') : HasR W N s w' := h.2.2.2.2.2.2.2
theorem has_keep {W w1 x : World} {N : Nat} {s : St} {nn : Int} (hx : ∃ q, x = w1.drewN q) (h : HasS W N s nn w1) : HasS W N s nn x := by
  obtain ⟨q, rfl⟩ := hx
  obtain ⟨a, b, c, d, e, f, g, s1, r1, ch, hz⟩ := h
  exact ⟨a, b, c, d, e, f, g, s1.below (drew_below _ q), r1.of_heap rfl, ch.drewN q, hz⟩
theorem pair_cells {w : World} {a : Nat} {v0 v1 : Value} (h0 : w.cell? ⟨a, 0, none⟩ = some v0) (h1 : w.cell? ⟨a, 1, none⟩ = some v1) (y z : Value) : ((w.setCell ⟨a, 0, none⟩ y).setCell ⟨a, 1, none⟩ z).cell? ⟨a, 0, none⟩ = some y ∧ ((w.setCell ⟨a, 0, none⟩ y).setCell ⟨a, 1, none⟩ z).cell? ⟨a, 1, none⟩ = some z := by
  have e1 : (w.setCell ⟨a, 0, none⟩ y).cell? ⟨a, 1, none⟩ = some v1 := (World.cell?_setCell_other _ _ _ _ (by simp)).trans h1
  exact ⟨(World.cell?_setCell_other _ _ _ _ (by simp)).trans (World.cell?_setCell_same _ _ _ h0), World.cell?_setCell_same _ _ _ e1⟩
theorem has_two {W x : World} (h : ∃ y : World, (∃ q, y = W.drew.drewN q) ∧ ∃ q, x = y.drewN q) : ∃ q, x = W.drewN q := by
  obtain ⟨y, ⟨qa, rfl⟩, qb, rfl⟩ := h
  refine ⟨1 + qa + qb, ?_⟩
  have : W.drew = W.drewN 1 := rfl
  rw [this]
  simp
theorem has_store {W w1 : World} {N : Nat} {s : St} {nn : Int} (y z : Value) (h : HasS W N s nn w1) (hb : s.b1 ≠ N + 3) (hd : s.d1 ≠ N + 3) (hg : s.g1 ≠ N + 3) : HasS W N s nn ((w1.setCell ⟨N + 1 + 1 + 1, 0, none⟩ y).setCell ⟨N + 1 + 1 + 1, 1, none⟩ z) := by
  obtain ⟨a, b, c, d, e, f, g, s1, r1, ch, hz⟩ := h
  have cp := chg_pair w1 (N + 3) y z
  have pc := pair_cells d e y z
  refine ⟨cp.cell a (by simp), cp.cell b (by simp), cp.cell c (by simp), ?_, ?_, by simpa using f, by simpa using g, cp.set s1 (by omega) hb, cp.ref r1 hd hg, ch.trans cp (fun _ _ h => h), hz⟩
  · show ((w1.setCell ⟨N + 3, 0, none⟩ y).setCell ⟨N + 3, 1, none⟩ z).cell? ⟨N + 3, 0, none⟩ = some (cv N ((w1.setCell ⟨N + 3, 0, none⟩ y).setCell ⟨N + 3, 1, none⟩ z) 0)
    unfold cv
    rw [pc.1]
    rfl
  · show ((w1.setCell ⟨N + 3, 0, none⟩ y).setCell ⟨N + 3, 1, none⟩ z).cell? ⟨N + 3, 1, none⟩ = some (cv N ((w1.setCell ⟨N + 3, 0, none⟩ y).setCell ⟨N + 3, 1, none⟩ z) 1)
    unfold cv
    rw [pc.2]
    rfl

set_option maxHeartbeats 4000000 in
set_option maxRecDepth 20000 in
theorem step_has (H : Nat) (s : St) (sec : Bool) (nn : Int) (la : Option Addr) (m lc : Nat) (w : World) (hT : Two w H s) (hFG : s.G1 = s.F1) :
    Calls Tryd.prog 9 #[.agg #[.pointer (some ⟨s.b1, 0, none⟩), .pointer (some ⟨s.d1, 0, none⟩)], .agg #[.pointer (some ⟨s.b2, 0, none⟩), .pointer (some ⟨s.d2, 0, none⟩)], .pointer (some ⟨H, 0, none⟩), .agg #[.bool sec, .int .i64 3, .int .i64 nn, .slice la m lc]] w fun e w' =>
      ∃ s', e = .returned (.tuple #[.agg #[.pointer (some ⟨s'.b1, 0, none⟩), .pointer (some ⟨s'.d1, 0, none⟩)], .bool true]) ∧ Mv w H s 2 w' s' ∧ s'.G1 = s'.F1 := by
  obtain ⟨W, hW⟩ : ∃ W, headW w s.b1 s.d1 s.b2 s.d2 sec 3 nn la m lc = W := ⟨_, rfl⟩
  have g0 := mv_start (sec := sec) (kind := 3) (nn := nn) (la := la) (m := m) (lc := lc) hT
  have hd0 := head_of hT g0
  have HW : Hid (headW w s.b1 s.d1 s.b2 s.d2 sec 3 nn la m lc = W) := hW
  rw [hW] at g0 hd0
  unfold headW at hW
  have hr := g0.two.r1
  rw [hFG] at hr
  have hz4 : W.heap.size = w.heap.size + 4 := by rw [← HW.out, (head_at w s.b1 s.d1 s.b2 s.d2 sec 3 nn la m lc).2.2]
  have hz00 := hT.lt
  have lb := hz00 s.b1 (by simp [St.blks])
  have ld := hz00 s.d1 (by simp [St.blks])
  have lg := hz00 s.g1 (by simp [St.blks])
  have S0 : Hid (HasS W w.heap.size s nn W.drew) := ⟨hd0.p0, hd0.p1, hd0.x2, by simp [cv, hd0.r0], by simp [cv, hd0.r1], hd0.f0, hd0.f1, g0.two.s1.below (drew_below W 1), hr.of_heap rfl, Chg.of_below (drew_below W 1) _, by omega⟩
  have x1 := hd0.x1
  clear hr
  go_enter Tryd.func9, Tryd.ntmps9
  go_wp2_with fail
  go_region_held3 (fun w' => w'.cell? ⟨w.heap.size, 0, none⟩ = some (.pointer (some ⟨s.b1, 0, none⟩)) ∧ w'.cell? ⟨w.heap.size, 1, none⟩ = some (.pointer (some ⟨s.d1, 0, none⟩)) ∧ w'.cell? ⟨w.heap.size + 2, 2, none⟩ = some (.int .i64 nn) ∧ w'.cell? ⟨w.heap.size + 3, 0, none⟩ = some (cv w.heap.size w' 0) ∧ w'.cell? ⟨w.heap.size + 3, 1, none⟩ = some (cv w.heap.size w' 1) ∧ w'.frozen? ⟨w.heap.size + 3, 0, none⟩ = false ∧ w'.frozen? ⟨w.heap.size + 3, 1, none⟩ = false ∧ HasR W w.heap.size s w') (first | exact S0.out | exact has_store _ _ (by assumption) (by omega) (by omega) (by omega) | exact has_keep (by assumption) (by assumption))
    (first
    | (go_at_call 18; refine (has_q s.b1 s.n1 s.F1 nn _ ?_).mono ?_; (exact (has_in (by assumption)).1); rintro e x ⟨rfl, hx⟩)
    | (go_at_call 27; refine (rhas_q s.d1 s.g1 s.c1 s.n1 s.F1 nn _ ?_).mono ?_; (exact (has_in (by assumption)).2.1); rintro e x ⟨rfl, hx⟩))
  all_goals
    have hA : ∃ y : World, (∃ q, y = W.drew.drewN q) ∧ ∃ q, x = y.drewN q := ⟨_, by assumption, hx⟩
    obtain ⟨q, hq⟩ := has_two hA
    subst hq
    have s0 := hd0.r0
    have s1 := hd0.r1
    have f0 := hd0.f0
    have f1 := hd0.f1
    go_wp2
    refine bodyPost_ret (v := .tuple #[.agg #[.pointer (some ⟨s.b1, 0, none⟩), .pointer (some ⟨s.d1, 0, none⟩)], .bool true]) (by simp [results, Tryd.results9, go_sem, s0, s1]) rfl ?_
    have g0' : Mv (headW w s.b1 s.d1 s.b2 s.d2 sec 3 nn la m lc) H s 0 W s := by rw [HW.out]; exact g0
    exact step_fin hT g0' rfl rfl hFG (chg_pairN W q (w.heap.size + 3) _ _) (fun i hi => .inl hi) (by omega)
end Go.Proofs.YtmfecocbadekhaaDoor
