/-
  LAYER 15: package pass: startHolder.
-/
import Derived.Test.YtdkibcagbidelaaMcD
namespace Go.Proofs.Ytdkibcagbidelaa
open Go.RowKit Pr

theorem Mc.room_drew {B m r c : Nat} {vr vs : Value} {ao : Option Addr} {now : Int} {s : Ps} {h : Wt} {l : List Wt} {W : World} (hM : Mc B m r vr ao c vs now s h l W) (o : Obj) : Mc B m r vr ao c vs now s h l (W.drew.alloc o) :=
  hM.below ((Below.drew (Below.refl _ W)).alloc (Nat.le_refl _) o)
/-- Bounds of one who waits. -/
structure OkW (x : Wt) : Prop where
  j : 0 ≤ x.job
  n1 : 1 ≤ x.nd
  n2 : x.nd ≤ 256
  l1 : 1 ≤ x.lm
  l2 : x.lm ≤ 1048576
theorem good_room {now free : Int} {rs : List Rn} {s : Ps} {x : Wt} (hg : Pr.Good now free rs s) (hf : free ≤ 256) (hn : rs.length * 16 + 4096 ≤ 140737488355328) (hx : x.nd ≤ s.fr) (h1 : 1 ≤ x.nd) : s.fr ≤ 256 ∧ (s.rs.length + 1) * 16 ≤ 140737488355328 ∧ s.st.length ≤ 1000 := by
  have e1 := hg.fr
  have e2 := sumW_nn hg.pos
  have e3 : s.rs.length = rs.length + s.st.length := by rw [hg.rs]; simp
  omega

theorem held_no {m : Nat} {w : World} (hm : w.cell? ⟨m, 4, none⟩ = some (.int .i64 (-1))) : Calls Try.prog 41 #[.pointer (some ⟨m, 0, none⟩)] w fun e w' => e = .returned (.bool false) ∧ w' = w := held_any hm
theorem held_yes {m : Nat} {j : Int} {w : World} (hm : w.cell? ⟨m, 4, none⟩ = some (.int .i64 j)) (hj : j ≠ -1) : Calls Try.prog 41 #[.pointer (some ⟨m, 0, none⟩)] w fun e w' => e = .returned (.bool true) ∧ w' = w := by
  have := held_any hm
  rwa [show (j != -1) = true by simpa using hj] at this
theorem keep4 {W W' : World} {m : Nat} {v4 v5 v6 v1 : Value} (h : W.cell? ⟨m, 4, none⟩ = some v4 ∧ W.cell? ⟨m, 5, none⟩ = some v5 ∧ W.cell? ⟨m, 6, none⟩ = some v6 ∧ W.cell? ⟨m, 1, none⟩ = some v1) (b : Below W.heap.size W W') :
    W'.cell? ⟨m, 4, none⟩ = some v4 ∧ W'.cell? ⟨m, 5, none⟩ = some v5 ∧ W'.cell? ⟨m, 6, none⟩ = some v6 ∧ W'.cell? ⟨m, 1, none⟩ = some v1 :=
  ⟨(b.cell (World.block_lt_of_cell? W _ h.1)).trans h.1, (b.cell (World.block_lt_of_cell? W _ h.2.1)).trans h.2.1, (b.cell (World.block_lt_of_cell? W _ h.2.2.1)).trans h.2.2.1, (b.cell (World.block_lt_of_cell? W _ h.2.2.2)).trans h.2.2.2⟩
theorem Mc.four {B m r c : Nat} {vr vs : Value} {ao : Option Addr} {now : Int} {s : Ps} {h : Wt} {l : List Wt} {W : World} (hM : Mc B m r vr ao c vs now s h l W) :
    W.cell? ⟨m, 4, none⟩ = some (.int .i64 h.job) ∧ W.cell? ⟨m, 5, none⟩ = some (.int .i64 h.nd) ∧ W.cell? ⟨m, 6, none⟩ = some (.int .i64 h.lm) ∧ W.cell? ⟨m, 1, none⟩ = some (.pointer (some ⟨r, 0, none⟩)) :=
  ⟨cells_at hM.blk rfl, cells_at hM.blk rfl, cells_at hM.blk rfl, cells_at hM.blk rfl⟩
set_option maxRecDepth 20000 in
set_option maxHeartbeats 800000 in
theorem startHolder_none {B m r c : Nat} {vr vs : Value} {ao : Option Addr} {now : Int} {s : Ps} {h : Wt} {l : List Wt} {W : World} (hM : Mc B m r vr ao c vs now s h l W) (hj : h.job = -1) :
    Calls Try.prog 30 #[.pointer (some ⟨m, 0, none⟩)] W fun e W' => e = .returned (.tuple #[]) ∧ Below W.heap.size W W' := by
  obtain ⟨⟨m0, m1, m2, m3⟩, m4, m5, m6, m7⟩ := hM.cells
  rw [hj] at m4
  have HM : Hid _ := hM
  clear hM
  go_enter Try.func30, Try.ntmps30
  go_upto_region 0 with fail
  go_quiet ((go_at_call 41; exact Calls.quiet_of_same (held_no (by first | assumption | exact m4))))
  all_goals
    go_wp2
    go_end0
    exact ⟨rfl, drew_below W _⟩

/-- Where a holder was put down. -/
theorem Mc.hold {B m r c : Nat} {vr vs : Value} {ao : Option Addr} {now : Int} {s : Ps} {h : Wt} {l : List Wt} {W : World} (hM : Mc B m r vr ao c vs now s h l W) (x : Wt) :
    Mc B m r vr ao c vs now s x l (((W.setCell ⟨m, 4, none⟩ (.int .i64 x.job)).setCell ⟨m, 5, none⟩ (.int .i64 x.nd)).setCell ⟨m, 6, none⟩ (.int .i64 x.lm)) ∧ Chg (KM B m r W) W (((W.setCell ⟨m, 4, none⟩ (.int .i64 x.job)).setCell ⟨m, 5, none⟩ (.int .i64 x.nd)).setCell ⟨m, 6, none⟩ (.int .i64 x.lm)) := by
  have e1 := heap_setCell_same W m 4 _ 77 (.int .i64 x.job) hM.blk
  have e2 := heap_setCell_same _ m 5 _ 77 (.int .i64 x.nd) e1
  have e3 := heap_setCell_same _ m 6 _ 77 (.int .i64 x.lm) e2
  have kp : ∀ (i : Nat) (cs : Array Value) (t : TypeId), t ≠ 77 → W.heap[i]? = some (.cells cs t (0, 0)) → (((W.setCell ⟨m, 4, none⟩ (.int .i64 x.job)).setCell ⟨m, 5, none⟩ (.int .i64 x.nd)).setCell ⟨m, 6, none⟩ (.int .i64 x.lm)).heap[i]? = W.heap[i]? := fun i cs t ht hi => by
    have hne := tag_ne hi hM.blk ht
    exact (Below.heap_setCell _ _ _ _ hne).trans ((Below.heap_setCell _ _ _ _ hne).trans (Below.heap_setCell _ _ _ _ hne))
  refine ⟨⟨e3, (kp _ _ _ (by decide) hM.room).trans hM.room, ?_, ?_, hM.wait.keep (fun g cs hk => kp g cs 40 (by decide) hk), hM.lo⟩, ?_⟩
  · exact row_keep hM.runs (fun k e => by obtain ⟨_, cs, hk⟩ := row_tag hM.runs e; exact kp k cs 45 (by decide) hk)
  · exact row_keep hM.starts (fun k e => by obtain ⟨_, cs, hk⟩ := row_tag hM.starts e; exact kp k cs 3 (by decide) hk)
  · exact (((Chg.refl (KM B m r W) W).setCell ⟨m, 4, none⟩ _ (Or.inl (Or.inl rfl))).setCell ⟨m, 5, none⟩ _ (Or.inl (Or.inl rfl))).setCell ⟨m, 6, none⟩ _ (Or.inl (Or.inl rfl))

set_option maxRecDepth 20000 in
set_option maxHeartbeats 800000 in
theorem startHolder_no {B m r c : Nat} {vr vs : Value} {ao : Option Addr} {now : Int} {s : Ps} {h : Wt} {l : List Wt} {W : World} (hM : Mc B m r vr ao c vs now s h l W) (hj : h.job ≠ -1) (hx : s.fr < h.nd) :
    Calls Try.prog 30 #[.pointer (some ⟨m, 0, none⟩)] W fun e W' => e = .returned (.tuple #[]) ∧ Below W.heap.size W W' := by
  obtain ⟨⟨m0, m1, m2, m3⟩, m4, m5, m6, m7⟩ := hM.cells
  have HM : Hid _ := hM
  clear hM
  go_enter Try.func30, Try.ntmps30
  go_upto_region 0 with fail
  go_region_held3 (fun x' => x'.cell? ⟨m, 4, none⟩ = some (.int .i64 h.job) ∧ x'.cell? ⟨m, 5, none⟩ = some (.int .i64 h.nd) ∧ x'.cell? ⟨m, 6, none⟩ = some (.int .i64 h.lm) ∧ x'.cell? ⟨m, 1, none⟩ = some (.pointer (some ⟨r, 0, none⟩)))
    (first | exact ⟨m4, m5, m6, m1⟩ | exact ⟨cell_al m4 _, cell_al m5 _, cell_al m6 _, cell_al m1 _⟩ | assumption | exact keep4 (by assumption) b2)
    (first | (go_at_call 41; refine (held_yes (j := h.job) (by assumption : _ ∧ _).1 hj).mono ?_; rintro e w' ⟨rfl, rfl⟩) | (go_at_call 42; refine (startByA_no0 (HM.out.room_drew _) (heap_alloc_new W.drew _) hx).mono ?_; rintro e w' ⟨rfl, b2⟩))
  all_goals
    go_wp2
    go_end0
    exact ⟨rfl, ((drew_below W 1).alloc (Nat.le_refl _) _).trans (b2.mono (by simp))⟩

set_option maxRecDepth 20000 in
set_option maxHeartbeats 800000 in
theorem startHolder_yes {B m r c : Nat} {vr vs : Value} {ao : Option Addr} {now free : Int} {rs : List Rn} {s : Ps} {h : Wt} {l : List Wt} {W : World} (hM : Mc B m r vr ao c vs now s h l W) (ho : OkW h) (hx : h.nd ≤ s.fr) (n0 : 0 ≤ now) (n1 : now ≤ 2199023255552)
    (hg : Pr.Good now free rs s) (hf : free ≤ 256) (hn : rs.length * 16 + 4096 ≤ 140737488355328) (hB : B ≤ W.heap.size) :
    Calls Try.prog 30 #[.pointer (some ⟨m, 0, none⟩)] W fun e W' => e = .returned (.tuple #[]) ∧ (∃ vr' vs', Mc B m r vr' ao c vs' now (stV now s h) noW l W') ∧ Chg (KM B m r W) W W' := by
  obtain ⟨⟨m0, m1, m2, m3⟩, m4, m5, m6, m7⟩ := hM.cells
  have HM : Hid _ := hM
  obtain ⟨g1, g2, g3⟩ := good_room hg hf hn hx ho.n1
  have hj : h.job ≠ -1 := by have := ho.j; omega
  have HC := startByA_yes (HM.out.room_drew (.cells #[.iface 75 (.pointer (some ⟨r, 0, none⟩))] 102)) (heap_alloc_new W.drew _) hx ho.n1 ho.n2 ho.l1 ho.l2 n0 n1 g1 g2 g3 (by simp; omega)
  clear hM hg hn g2
  go_enter Try.func30, Try.ntmps30
  go_upto_region 0 with fail
  go_cut [17] (fun p wc => p = .bool true ∧ (∃ vr' vs', Mc B m r vr' ao c vs' now (stV now s h) h l wc) ∧ Chg (KM B m r W) W wc)
  case first =>
    go_region_held3 (fun x' => x'.cell? ⟨m, 4, none⟩ = some (.int .i64 h.job) ∧ x'.cell? ⟨m, 5, none⟩ = some (.int .i64 h.nd) ∧ x'.cell? ⟨m, 6, none⟩ = some (.int .i64 h.lm) ∧ x'.cell? ⟨m, 1, none⟩ = some (.pointer (some ⟨r, 0, none⟩)))
      (first | exact ⟨m4, m5, m6, m1⟩ | exact ⟨cell_al m4 _, cell_al m5 _, cell_al m6 _, cell_al m1 _⟩ | assumption | exact z3)
      (first | (go_at_call 41; refine (held_yes (j := h.job) (by assumption : _ ∧ _).1 hj).mono ?_; rintro e w' ⟨rfl, rfl⟩) | (go_at_call 42; refine HC.mono ?_; rintro e w' ⟨rfl, ⟨vr', vs', z1⟩, z2⟩; have z3 := z1.four))
    all_goals
      go_wp2
      go_meet
      exact ⟨rfl, ⟨_, _, z1⟩, KM.trans (Chg.of_below ((Below.drew (Below.refl _ W)).alloc (Nat.le_refl _) _) _) z2⟩
  case rest =>
    obtain ⟨rfl, ⟨vr', vs', hM2⟩, hC2⟩ := hcut
    have c4 := cells_at hM2.blk (k := 4) rfl
    have c5 := cells_at hM2.blk (k := 5) rfl
    have c6 := cells_at hM2.blk (k := 6) rfl
    have f4 := frozen_at hM2.blk (k := 4)
    have f5 := frozen_at hM2.blk (k := 5)
    have f6 := frozen_at hM2.blk (k := 6)
    have HM2 : Hid _ := hM2
    have HC2 : Hid _ := hC2
    clear hM2 hC2 HC HM m0 m1 m2 m3 m4 m5 m6 m7
    go_wp2
    go_end0
    exact ⟨rfl, ⟨_, _, (HM2.out.hold noW).1⟩, KM.trans HC2.out (HM2.out.hold noW).2⟩
end Go.Proofs.Ytdkibcagbidelaa
