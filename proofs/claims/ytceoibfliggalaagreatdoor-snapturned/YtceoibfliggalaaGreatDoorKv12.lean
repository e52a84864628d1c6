/-
  TEXTS: CfB, CfC, CfE.
-/
import Derived.Test.YtceoibfliggalaaGreatDoorKv2
import Derived.Deep.CutBlock
import Derived.Deep.DeepCutAuto
namespace Go.Proofs.YtceoibfliggalaaGreatDoor
open Go.RowKit Wd Cg
def St (w : World) (g : Nat) (c : Cf) (x : World) : Prop := x.cell? ⟨g, 0, none⟩ = some (.int .i64 c.nodes) ∧ x.cell? ⟨g, 1, none⟩ = some (.int .i64 c.queue) ∧ x.cell? ⟨g, 2, none⟩ = some (.int .i64 c.limit) ∧ x.cell? ⟨g, 3, none⟩ = some (.int .i64 c.age) ∧ x.cell? ⟨g, 4, none⟩ = some (.int .i64 c.fair) ∧ x.cell? ⟨g, 5, none⟩ = some (.int .i64 c.size) ∧ x.cell? ⟨g, 6, none⟩ = some (.int .i64 c.period) ∧ x.cell? ⟨g, 7, none⟩ = some (.int .i64 c.half) ∧ Below w.heap.size w x ∧ w.heap.size ≤ x.heap.size
theorem St.new (w : World) (c : Cf) : St w w.heap.size c (w.alloc (.cells #[.int .i64 c.nodes, .int .i64 c.queue, .int .i64 c.limit, .int .i64 c.age, .int .i64 c.fair, .int .i64 c.size, .int .i64 c.period, .int .i64 c.half] 23)) :=
 ⟨by simp, by simp, by simp, by simp, by simp, by simp, by simp, by simp, (Below.refl _ _).alloc (Nat.le_refl _) _, by simp⟩
theorem keepW {w x y : World} {g : Nat} {c : Cf} (h : St w g c x) (b : Below x.heap.size x y) : St w g c y := by
 obtain ⟨h0, h1, h2, h3, h4, h5, h6, h7, h8, h9⟩ := h
 exact ⟨keepC b h0, keepC b h1, keepC b h2, keepC b h3, keepC b h4, keepC b h5, keepC b h6, keepC b h7, h8.trans (b.mono h9), Nat.le_trans h9 b.size⟩
theorem St.bel {w x : World} {g : Nat} {c : Cf} (h : St w g c x) : Below w.heap.size w x := h.2.2.2.2.2.2.2.2.1
end Go.Proofs.YtceoibfliggalaaGreatDoor
namespace Go.Proofs.YtceoibfliggalaaGreatDoor
open Go.RowKit Wd Cg
abbrev nu (v : Int) : Value := .agg #[.int .u64 (hiW v), .int .u64 (loW v)]
structure Two (w : World) (k : Nat) (v : Int) : Prop where
 c0 : w.cell? ⟨k, 0, none⟩ = some (.int .u64 (hiW v))
 c1 : w.cell? ⟨k, 1, none⟩ = some (.int .u64 (loW v))
 f0 : w.frozen? ⟨k, 0, none⟩ = false
 f1 : w.frozen? ⟨k, 1, none⟩ = false
theorem Two.keep {w w' : World} {k : Nat} {v : Int} (h : Two w k v) (b : Below w.heap.size w w') : Two w' k v :=
 ⟨keepC b h.c0, keepC b h.c1, keepF b h.c0 h.f0, keepF b h.c1 h.f1⟩
def put (w : World) (k : Nat) (v : Int) : World := (w.setCell ⟨k, 0, none⟩ (.int .u64 (hiW v))).setCell ⟨k, 1, none⟩ (.int .u64 (loW v))
theorem Two.put {w : World} {k : Nat} {u : Int} (h : Two w k u) (v : Int) : Two (put w k v) k v := by
 obtain ⟨a, b, c, d⟩ := h
 unfold Go.Proofs.YtceoibfliggalaaGreatDoor.put
 exact ⟨by simp [go_sem, *], by simp [go_sem, *], by simp [go_sem, *], by simp [go_sem, *]⟩
theorem Two.far {w : World} {k j : Nat} {u : Int} (h : Two w k u) (hj : k ≠ j) (v : Int) : Two (Go.Proofs.YtceoibfliggalaaGreatDoor.put w j v) k u := by
 obtain ⟨a, b, c, d⟩ := h
 unfold Go.Proofs.YtceoibfliggalaaGreatDoor.put
 exact ⟨by simp [go_sem, *], by simp [go_sem, *], by simp [go_sem, *], by simp [go_sem, *]⟩
theorem St.far {w x : World} {g j : Nat} {c : Cf} (h : St w g c x) (hj : g ≠ j) (hw : w.heap.size ≤ j) (v : Int) : St w g c (put x j v) := by
 obtain ⟨a0, a1, a2, a3, a4, a5, a6, a7, b, z⟩ := h
 unfold put
 refine ⟨by simp [go_sem, *], by simp [go_sem, *], by simp [go_sem, *], by simp [go_sem, *], by simp [go_sem, *], by simp [go_sem, *], by simp [go_sem, *], by simp [go_sem, *], ?_, by simp; omega⟩
 exact (b.setCell hw _).setCell hw _
end Go.Proofs.YtceoibfliggalaaGreatDoor
namespace Go.Proofs.YtceoibfliggalaaGreatDoor
open Go.RowKit Wd Cg
noncomputable def chkZ (c : Cf) : Int := @ite Int (¬ Rng c) (Classical.propDecidable _) 110 (if 2147483648 < mZ c then 111 else if offD c * topZ c < offN c * 1000 then 113 else 0)
theorem trans_keep {P w1 w2 : World} (h1 : ∀ a, (P.cell? a).isSome = true → w1.cell? a = P.cell? a) (h2 : ∀ a, (w1.cell? a).isSome = true → w2.cell? a = w1.cell? a) : ∀ a, (P.cell? a).isSome = true → w2.cell? a = P.cell? a :=
 fun a h => (h2 a (by rw [h1 a h]; exact h)).trans (h1 a h)
theorem trans_keepF {P w1 w2 : World} (h1 : ∀ a, (P.cell? a).isSome = true → w1.cell? a = P.cell? a) (f1 : ∀ a, (P.cell? a).isSome = true → w1.frozen? a = P.frozen? a) (f2 : ∀ a, (w1.cell? a).isSome = true → w2.frozen? a = w1.frozen? a) : ∀ a, (P.cell? a).isSome = true → w2.frozen? a = P.frozen? a :=
 fun a h => (f2 a (by rw [h1 a h]; exact h)).trans (f1 a h)
def St6 (w : World) (kd kl : Nat) (D0 L0 : Int) (c : Cf) (x : World) : Prop := St w w.heap.size c x ∧ x.cell? ⟨kd, 0, none⟩ = some (.int .u64 (hiW D0)) ∧ x.cell? ⟨kd, 1, none⟩ = some (.int .u64 (loW D0)) ∧ x.cell? ⟨kl, 0, none⟩ = some (.int .u64 (hiW L0)) ∧ x.cell? ⟨kl, 1, none⟩ = some (.int .u64 (loW L0))
theorem keep6 {w x y : World} {kd kl : Nat} {D0 L0 : Int} {c : Cf} (h : St6 w kd kl D0 L0 c x) (b : Below x.heap.size x y) : St6 w kd kl D0 L0 c y :=
 ⟨keepW h.1 b, keepC b h.2.1, keepC b h.2.2.1, keepC b h.2.2.2.1, keepC b h.2.2.2.2⟩
theorem far6 {w x u : World} {kd kl : Nat} {D0 L0 : Int} {c : Cf} {a b : Value} (h : St6 w kd kl D0 L0 c x) (hu : St6 w kd kl D0 L0 c u) : St6 w kd kl D0 L0 c ((x.setCell ⟨u.heap.size, 0, none⟩ a).setCell ⟨u.heap.size, 1, none⟩ b) := by
 have n1 := World.block_lt_of_cell? u _ hu.1.1
 have n2 := World.block_lt_of_cell? u _ hu.2.1
 have n3 := World.block_lt_of_cell? u _ hu.2.2.2.1
 simp only at n1 n2 n3
 have y1 : w.heap.size ≠ u.heap.size := by omega
 have y2 : kd ≠ u.heap.size := by omega
 have y3 : kl ≠ u.heap.size := by omega
 have z := hu.1.2.2.2.2.2.2.2.2.2
 obtain ⟨⟨a0, a1, a2, a3, a4, a5, a6, a7, bb, zz⟩, d0, d1, l0, l1⟩ := h
 refine ⟨⟨by simp [go_sem, *], by simp [go_sem, *], by simp [go_sem, *], by simp [go_sem, *], by simp [go_sem, *], by simp [go_sem, *], by simp [go_sem, *], by simp [go_sem, *], ?_, by simp; omega⟩, by simp [go_sem, *], by simp [go_sem, *], by simp [go_sem, *], by simp [go_sem, *]⟩
 exact (bb.setCell z _).setCell z _
end Go.Proofs.YtceoibfliggalaaGreatDoor
