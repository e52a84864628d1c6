/-
  TEXTS: SnQ.
-/
import Derived.Test.YtceoibfliggalaaGreatDoorKb30
import Derived.Test.YtceoibfliggalaaGreatDoorKb24
namespace Go.Proofs.YtceoibfliggalaaGreatDoor
open Go.RowKit Wd Tr Cg Ld Lg
def PutP (w : World) (s : Sv) (e : Ending) (w' : World) : Prop := (if auditV (chkZ s.cf) s = 0 then ∃ B, e = .returned (.tuple #[.slice (some ⟨B, 0, none⟩) (stB s).length (stB s).length, .int .i64 0]) ∧ w.heap.size ≤ B ∧ w'.heap[B]? = some (.cells (Lib.byteCells (stB s)).toArray 5 (0, 0)) else e = .returned (.tuple #[.slice none 0 0, .int .i64 191])) ∧ Below w.heap.size w w'
set_option maxRecDepth 20000 in
set_option maxHeartbeats 2000000 in
theorem put_any {w : World} (c : Cf) (now : Int) {ao : Option Addr} {la : List Ac} {ca : Nat} {jo : Option Addr} {ps : List Pj} {cj : Nat} (hd : Int) (h : StIn w ao la ca jo ps cj) (hwt : wtN la ps ≤ 281474976710656) (hz : (stB ⟨c, now, la, ps.map Pj.v, hd⟩).length ≤ 2200000000) :
  Calls Tryz.prog 11 #[.agg (stL c now ao la.length ca jo ps.length cj hd)] w (PutP w ⟨c, now, la, ps.map Pj.v, hd⟩) := by
 obtain ⟨W, hW⟩ : ∃ W, w.alloc (.cells (stL c now ao la.length ca jo ps.length cj hd) 27) = W := ⟨_, rfl⟩
 have bW : Below w.heap.size w W := by rw [← hW]; exact (Below.refl _ _).alloc (Nat.le_refl _) _
 have zW : W.heap.size = w.heap.size + 1 := by rw [← hW]; simp
 have hg : W.heap[w.heap.size]? = some (.cells (stL c now ao la.length ca jo ps.length cj hd) 27 (0, 0)) := by rw [← hW]; exact heap_alloc_new w _
 have hck := check_any W c now ao la ca jo ps cj hd (h.below bW) hwt
 have HWR : Hid (∀ x, Below W.heap.size W x → Calls Tryz.prog 28 #[.agg (stL c now ao la.length ca jo ps.length cj hd)] x fun e w' => ∃ B, e = .returned (.slice (some ⟨B, 0, none⟩) (stB ⟨c, now, la, ps.map Pj.v, hd⟩).length (stB ⟨c, now, la, ps.map Pj.v, hd⟩).length) ∧ x.heap.size ≤ B ∧ w'.heap[B]? = some (.cells (Lib.byteCells (stB ⟨c, now, la, ps.map Pj.v, hd⟩)).toArray 5 (0, 0)) ∧ Below x.heap.size x w') := fun x hx => written_any c now hd ((h.below bW).below hx) hz
 unfold PutP
 simp only
 generalize auditV (chkZ c) ⟨c, now, la, ps.map Pj.v, hd⟩ = v at *
 generalize stB ⟨c, now, la, ps.map Pj.v, hd⟩ = bs at *
 have HBW : Hid _ := bW
 have HG : Hid _ := hg
 have p0 : W.cell? ⟨w.heap.size, 0, none⟩ = some (.int .i64 c.nodes) := cells_at hg rfl
 have p1 : W.cell? ⟨w.heap.size, 1, none⟩ = some (.int .i64 c.queue) := cells_at hg rfl
 have p2 : W.cell? ⟨w.heap.size, 2, none⟩ = some (.int .i64 c.limit) := cells_at hg rfl
 have p3 : W.cell? ⟨w.heap.size, 3, none⟩ = some (.int .i64 c.age) := cells_at hg rfl
 have p4 : W.cell? ⟨w.heap.size, 4, none⟩ = some (.int .i64 c.fair) := cells_at hg rfl
 have p5 : W.cell? ⟨w.heap.size, 5, none⟩ = some (.int .i64 c.size) := cells_at hg rfl
 have p6 : W.cell? ⟨w.heap.size, 6, none⟩ = some (.int .i64 c.period) := cells_at hg rfl
 have p7 : W.cell? ⟨w.heap.size, 7, none⟩ = some (.int .i64 c.half) := cells_at hg rfl
 have p8 : W.cell? ⟨w.heap.size, 8, none⟩ = some (.int .i64 now) := cells_at hg rfl
 have p9 : W.cell? ⟨w.heap.size, 9, none⟩ = some (.slice ao la.length ca) := cells_at hg rfl
 have p10 : W.cell? ⟨w.heap.size, 10, none⟩ = some (.slice jo ps.length cj) := cells_at hg rfl
 have p11 : W.cell? ⟨w.heap.size, 11, none⟩ = some (.int .i64 hd) := cells_at hg rfl
 clear h hwt hz bW hg
 unfold stL at hW hck
 have HWR2 := HWR.out
 unfold stL at HWR2
 have HWR3 : Hid _ := HWR2
 clear HWR HWR2
 have HCK : Hid _ := hck
 unfold stL
 by_cases hv : v = 0
 ·subst hv
  simp only [↓reduceIte]
  clear hck
  go_enter Tryz.func11, Tryz.ntmps11
  go_wp2_with (first
   | (go_at_call 27; refine (show Calls _ _ _ _ _ from HCK.out).mono ?_; rintro e w1 ⟨rfl, hb1⟩; have HB1 : Hid _ := hb1; have q0 : w1.cell? ⟨w.heap.size, 0, none⟩ = some (.int .i64 c.nodes) := cells_at ((hb1.block _ (by omega)).trans HG.out) rfl; have q1 : w1.cell? ⟨w.heap.size, 1, none⟩ = some (.int .i64 c.queue) := cells_at ((hb1.block _ (by omega)).trans HG.out) rfl; have q2 : w1.cell? ⟨w.heap.size, 2, none⟩ = some (.int .i64 c.limit) := cells_at ((hb1.block _ (by omega)).trans HG.out) rfl; have q3 : w1.cell? ⟨w.heap.size, 3, none⟩ = some (.int .i64 c.age) := cells_at ((hb1.block _ (by omega)).trans HG.out) rfl; have q4 : w1.cell? ⟨w.heap.size, 4, none⟩ = some (.int .i64 c.fair) := cells_at ((hb1.block _ (by omega)).trans HG.out) rfl; have q5 : w1.cell? ⟨w.heap.size, 5, none⟩ = some (.int .i64 c.size) := cells_at ((hb1.block _ (by omega)).trans HG.out) rfl; have q6 : w1.cell? ⟨w.heap.size, 6, none⟩ = some (.int .i64 c.period) := cells_at ((hb1.block _ (by omega)).trans HG.out) rfl; have q7 : w1.cell? ⟨w.heap.size, 7, none⟩ = some (.int .i64 c.half) := cells_at ((hb1.block _ (by omega)).trans HG.out) rfl; have q8 : w1.cell? ⟨w.heap.size, 8, none⟩ = some (.int .i64 now) := cells_at ((hb1.block _ (by omega)).trans HG.out) rfl; have q9 : w1.cell? ⟨w.heap.size, 9, none⟩ = some (.slice ao la.length ca) := cells_at ((hb1.block _ (by omega)).trans HG.out) rfl; have q10 : w1.cell? ⟨w.heap.size, 10, none⟩ = some (.slice jo ps.length cj) := cells_at ((hb1.block _ (by omega)).trans HG.out) rfl; have q11 : w1.cell? ⟨w.heap.size, 11, none⟩ = some (.int .i64 hd) := cells_at ((hb1.block _ (by omega)).trans HG.out) rfl; clear hb1)
   | (go_at_call 28; refine (show Calls _ _ _ _ _ from HWR3.out _ HB1.out).mono ?_; rintro e w2 ⟨B, rfl, hB, hG2, hb2⟩))
  go_ret2
  have := HB1.out.size
  exact ⟨⟨B, rfl, by omega, hG2⟩, (HBW.out.trans (HB1.out.mono (by omega))).trans (hb2.mono (by omega))⟩
 ·simp only [if_neg hv]
  clear hck
  go_enter Tryz.func11, Tryz.ntmps11
  go_wp2_with (go_at_call 27; refine (show Calls _ _ _ _ _ from HCK.out).mono ?_; rintro e w1 ⟨rfl, hb1⟩)
  go_ret2
  exact ⟨rfl, HBW.out.trans (hb1.mono (by omega))⟩
end Go.Proofs.YtceoibfliggalaaGreatDoor
