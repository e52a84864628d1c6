/-
  step: what does nothing.
-/
import Derived.Test.YtmfecocbadekhaaDoorStepA
namespace Go.Proofs.YtmfecocbadekhaaDoor
open Go.RowKit Nd

set_option maxHeartbeats 4000000 in
set_option maxRecDepth 20000 in
theorem step_other (H : Nat) (s : St) (sec : Bool) (kind nn : Int) (la : Option Addr) (m lc : Nat) (w : World) (hT : Two w H s) (hFG : s.G1 = s.F1) (hk : kind < 0 ∨ 6 < kind) :
    Calls Tryd.prog 9 #[.agg #[.pointer (some ⟨s.b1, 0, none⟩), .pointer (some ⟨s.d1, 0, none⟩)], .agg #[.pointer (some ⟨s.b2, 0, none⟩), .pointer (some ⟨s.d2, 0, none⟩)], .pointer (some ⟨H, 0, none⟩), .agg #[.bool sec, .int .i64 kind, .int .i64 nn, .slice la m lc]] w fun e w' =>
      ∃ s', e = .returned (.tuple #[.agg #[.pointer (some ⟨s'.b1, 0, none⟩), .pointer (some ⟨s'.d1, 0, none⟩)], .bool true]) ∧ Mv w H s 2 w' s' ∧ s'.G1 = s'.F1 := by
  obtain ⟨W, hW⟩ : ∃ W, headW w s.b1 s.d1 s.b2 s.d2 sec kind nn la m lc = W := ⟨_, rfl⟩
  have g0 := mv_start (sec := sec) (kind := kind) (nn := nn) (la := la) (m := m) (lc := lc) hT
  have hd0 := head_of hT g0
  have HW : Hid (headW w s.b1 s.d1 s.b2 s.d2 sec kind nn la m lc = W) := hW
  rw [hW] at g0 hd0
  unfold headW at hW
  have p0 := hd0.p0
  have p1 := hd0.p1
  have x1 := hd0.x1
  have r0 := hd0.r0
  have r1 := hd0.r1
  have f0 := hd0.f0
  have f1 := hd0.f1
  have k0 : (kind == 0) = false := by simp; omega
  have k1 : (kind == 1) = false := by simp; omega
  have k2 : (kind == 2) = false := by simp; omega
  have k3 : (kind == 3) = false := by simp; omega
  have k4 : (kind == 4) = false := by simp; omega
  have k5 : (kind == 5) = false := by simp; omega
  have k6 : (kind == 6) = false := by simp; omega
  clear hk
  have g0' : Mv (headW w s.b1 s.d1 s.b2 s.d2 sec kind nn la m lc) H s 0 W s := by rw [HW.out]; exact g0
  clear g0
  go_enter Tryd.func9, Tryd.ntmps9
  go_wp2
  refine bodyPost_ret (v := .tuple #[.agg #[.pointer (some ⟨s.b1, 0, none⟩), .pointer (some ⟨s.d1, 0, none⟩)], .bool true]) (by simp [results, Tryd.results9, go_sem, r0, r1]) rfl ?_
  exact step_fin hT g0' rfl rfl hFG (chg_pair W (w.heap.size + 1 + 1 + 1) _ _) (fun i hi => .inl hi) (by omega)
end Go.Proofs.YtmfecocbadekhaaDoor
