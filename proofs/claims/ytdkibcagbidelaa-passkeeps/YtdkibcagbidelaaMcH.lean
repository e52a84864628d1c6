/-
  LAYER 15: package pass: startInRank.
-/
import Derived.Test.YtdkibcagbidelaaMcG
namespace Go.Proofs.Ytdkibcagbidelaa
open Go.RowKit Pr

theorem pin_yes {now : Int} {s : Ps} {x : Wt} {l : List Wt} (h : x.nd ≤ s.fr) : pinV now s noW (x :: l) = pinV now (stV now s x) noW l := by
  unfold pinV
  rw [if_neg (fun e => e rfl), if_neg (fun e => e rfl)]
  simp only [rankV, if_pos h]
theorem pin_no {now : Int} {s : Ps} {x : Wt} {l : List Wt} (h : s.fr < x.nd) (hj : x.job ≠ -1) : pinV now s noW (x :: l) = pinV now s x l := by
  unfold pinV
  rw [if_neg (fun e => e rfl), if_pos hj]
  simp only [rankV, if_neg (show ¬ x.nd ≤ s.fr by omega)]
/-- Who waits first is out of the list. -/
theorem Mc.next {B m r c g o : Nat} {vr vs : Value} {now : Int} {s : Ps} {h x : Wt} {l : List Wt} {W : World} (hM : Mc B m r vr (some ⟨g, o, none⟩) c vs now s h (x :: l) W) (hc : l.length + 1 ≤ c) :
    Mc B m r vr (if c = 1 then some ⟨g, o, none⟩ else some ⟨g, o + 3, none⟩) (c - 1) vs now s h l (W.setCell ⟨m, 3, none⟩ (.slice (if c = 1 then some ⟨g, o, none⟩ else some ⟨g, o + 3, none⟩) l.length (c - 1))) ∧
    Chg (KM B m r W) W (W.setCell ⟨m, 3, none⟩ (.slice (if c = 1 then some ⟨g, o, none⟩ else some ⟨g, o + 3, none⟩) l.length (c - 1))) := by
  have e1 := heap_setCell_same W m 3 _ 77 (.slice (if c = 1 then some ⟨g, o, none⟩ else some ⟨g, o + 3, none⟩) l.length (c - 1)) hM.blk
  have kp : ∀ (i : Nat) (cs : Array Value) (t : TypeId), t ≠ 77 → W.heap[i]? = some (.cells cs t (0, 0)) → (W.setCell ⟨m, 3, none⟩ (.slice (if c = 1 then some ⟨g, o, none⟩ else some ⟨g, o + 3, none⟩) l.length (c - 1))).heap[i]? = W.heap[i]? := fun i cs t ht hi =>
    Below.heap_setCell _ _ _ _ (tag_ne hi hM.blk ht)
  refine ⟨⟨e1, (kp _ _ _ (by decide) hM.room).trans hM.room, ?_, ?_, ?_, hM.lo⟩, ?_⟩
  · exact row_keep hM.runs (fun k e => by obtain ⟨_, cs, hk⟩ := row_tag hM.runs e; exact kp k cs 45 (by decide) hk)
  · exact row_keep hM.starts (fun k e => by obtain ⟨_, cs, hk⟩ := row_tag hM.starts e; exact kp k cs 3 (by decide) hk)
  · refine WaitAt.keep (W := W) ?_ (fun g cs hk => kp g cs 40 (by decide) hk)
    obtain ⟨g', o', h1, h2⟩ := hM.wait
    obtain ⟨ha, cs, hcs⟩ := h1 (by simp)
    have hab := Option.some.inj ha
    simp only [Addr.mk.injEq, and_true] at hab
    obtain ⟨rfl, rfl⟩ := hab
    refine ⟨g, o + 3, fun hl => ⟨if_neg (by omega), cs, hcs⟩, fun k y hk => ?_⟩
    have := h2 (k + 1) y (by simpa using hk)
    rw [show o + (k + 1) * 3 = o + 3 + k * 3 by omega] at this
    exact this
  · exact (Chg.refl (KM B m r W) W).setCell ⟨m, 3, none⟩ _ (Or.inl (Or.inl rfl))
theorem keepX {W W' : World} {m q : Nat} {v4 v5 v6 v1 : Value} (h : W.cell? ⟨q, 0, none⟩ = some v4 ∧ W.cell? ⟨q, 1, none⟩ = some v5 ∧ W.cell? ⟨q, 2, none⟩ = some v6 ∧ W.cell? ⟨m, 1, none⟩ = some v1) (b : Below W.heap.size W W') :
    W'.cell? ⟨q, 0, none⟩ = some v4 ∧ W'.cell? ⟨q, 1, none⟩ = some v5 ∧ W'.cell? ⟨q, 2, none⟩ = some v6 ∧ W'.cell? ⟨m, 1, none⟩ = some v1 :=
  ⟨(b.cell (World.block_lt_of_cell? W _ h.1)).trans h.1, (b.cell (World.block_lt_of_cell? W _ h.2.1)).trans h.2.1, (b.cell (World.block_lt_of_cell? W _ h.2.2.1)).trans h.2.2.1, (b.cell (World.block_lt_of_cell? W _ h.2.2.2)).trans h.2.2.2⟩
/-- A box of wants is none of a machine's to turn. -/
theorem box_keep {B m r b : Nat} {vr vs : Value} {ao : Option Addr} {c : Nat} {now : Int} {s : Ps} {h : Wt} {l : List Wt} {W W' : World} {cs : Array Value} (hM : Mc B m r vr ao c vs now s h l W) (hC : Chg (KM B m r W) W W') (hb : W.heap[b]? = some (.cells cs 40 (0, 0))) : W'.heap[b]? = some (.cells cs 40 (0, 0)) := by
  refine (hC.block b (lt_of_blk hb) (fun e => ?_)).trans hb
  rcases e with e | e | ⟨_, cs', t, ht, hk⟩
  · exact tag_ne hb hM.blk (by decide) e
  · exact tag_ne hb hM.room (by decide) e
  · exact tag_ne hb hk (by rcases ht with rfl | rfl <;> decide) rfl

set_option maxRecDepth 20000 in
set_option maxHeartbeats 800000 in
theorem inRank_any {B m r c : Nat} {vr vs : Value} {ao : Option Addr} {now free : Int} {rs : List Rn} {s : Ps} {h : Wt} {l : List Wt} {W : World} (hM : Mc B m r vr ao c vs now s h l W) (n0 : 0 ≤ now) (n1 : now ≤ 2199023255552)
    (hg : Pr.Good now free rs s) (hf : free ≤ 256) (hn : rs.length * 16 + 4096 ≤ 140737488355328) (hB : B ≤ W.heap.size) (hh : h.job = -1 → h = noW) (hl : ∀ x ∈ l, OkW x) (hc : l.length ≤ c) (hc2 : c ≤ maxLen) :
    Calls Try.prog 31 #[.pointer (some ⟨m, 0, none⟩)] W fun e W' => e = .returned (.tuple #[]) ∧
      (∃ vr' ao' c' vs', Mc B m r vr' ao' c' vs' now (pinV now s h l).1 (pinV now s h l).2.1 (pinV now s h l).2.2 W') ∧ Chg (KM B m r W) W W' := by
  go_enter Try.func31, Try.ntmps31
  go_wp2
  go_loopg [] l.length (fun gk wr => ∃ s' h' l' vr' ao' c' vs', l'.length = gk ∧ Mc B m r vr' ao' c' vs' now s' h' l' wr ∧ Chg (KM B m r W) W wr ∧ pinV now s h l = pinV now s' h' l' ∧ Pr.Good now free rs s' ∧ (h'.job = -1 → h' = noW) ∧ (∀ x ∈ l', OkW x) ∧ l'.length ≤ c' ∧ c' ≤ maxLen)
  case atStart => exact ⟨s, h, l, vr, ao, c, vs, rfl, hM, Chg.refl _ _, rfl, hg, hh, hl, hc, hc2⟩
  case round =>
    obtain ⟨s', h', l', vr', ao', c', vs', hgk, hM', hC', hp, hg', hh', hl', hcc, hcc2⟩ := hrel
    clear hM hg hh hl hc hc2
    obtain ⟨⟨m0, m1, m2, m3⟩, m4, m5, m6, m7⟩ := hM'.cells
    cases l' with
    | nil =>
      have HE : Hid (pinV now s h l = (s', h', [])) := by
        rw [hp]
        unfold pinV
        by_cases hj : h'.job = -1
        · rw [if_neg (fun e => e hj), hh' hj]
          exact rfl
        · rw [if_pos hj]
          exact rfl
      have HM : Hid _ := hM'
      have HC : Hid _ := hC'
      clear hp hM' hC' hg' hh' hl'
      simp only [List.length_nil] at m3
      go_wp2_with fail
      go_end0
      exact ⟨rfl, ⟨_, _, _, _, by rw [HE.out]; exact HM.out⟩, HC.out⟩
    | cons x l2 =>
      by_cases hj : h'.job = -1
      · obtain rfl := hh' hj
        obtain ⟨g, o, hga, hcl⟩ := hM'.wait
        obtain ⟨rfl, cs, hcs⟩ := hga (by simp)
        obtain ⟨x0, x1, x2⟩ := hcl 0 x rfl
        simp only [Nat.zero_mul, Nat.add_zero] at x0 x1 x2
        have xo := hl' x (by simp)
        simp only [List.length_cons] at hcc m3
        have f3 := frozen_at hM'.blk (k := 3)
        obtain ⟨zb, hzb⟩ : ∃ zb, wr.heap.size = zb := ⟨_, rfl⟩
        obtain ⟨W1, hW1⟩ : ∃ W1, wr.alloc (.cells #[.int .i64 x.job, .int .i64 x.nd, .int .i64 x.lm] 40) = W1 := ⟨_, rfl⟩
        have b1 : Below wr.heap.size wr W1 := by rw [← hW1]; exact (Below.refl _ wr).alloc (Nat.le_refl _) _
        have hbx : W1.heap[zb]? = some (.cells #[.int .i64 x.job, .int .i64 x.nd, .int .i64 x.lm] 40 (0, 0)) := by rw [← hW1, ← hzb]; exact heap_alloc_new wr _
        have hM1 := hM'.below b1
        obtain ⟨⟨_, _, _, p3⟩, _⟩ := hM1.cells
        simp only [List.length_cons] at p3
        have q3 := frozen_at hM1.blk (k := 3)
        obtain ⟨ao2, hao2⟩ : ∃ ao2, (if c' = 1 then some ⟨g, o, none⟩ else some ⟨g, o + 3, none⟩ : Option Addr) = ao2 := ⟨_, rfl⟩
        have hnx := hM1.next hcc
        rw [hao2] at hnx
        obtain ⟨hM2, hC2⟩ := hnx
        obtain ⟨W2, hW2⟩ : ∃ W2, W1.setCell ⟨m, 3, none⟩ (.slice ao2 l2.length (c' - 1)) = W2 := ⟨_, rfl⟩
        rw [hW2] at hM2 hC2
        have hbx2 := box_keep hM1 hC2 hbx
        have bC : Chg (KM B m r W) W W2 := KM.trans (KM.trans hC' (Chg.of_below b1 _)) hC2
        obtain ⟨⟨_, y1, _, _⟩, _⟩ := hM2.cells
        have b0 : W2.cell? ⟨zb, 0, none⟩ = some (.int .i64 x.job) := cells_at hbx2 rfl
        have b1' : W2.cell? ⟨zb, 1, none⟩ = some (.int .i64 x.nd) := cells_at hbx2 rfl
        have b2' : W2.cell? ⟨zb, 2, none⟩ = some (.int .i64 x.lm) := cells_at hbx2 rfl
        have hz2 := bC.size
        have HM : Hid _ := hM2
        have HC : Hid _ := bC
        have HBX : Hid _ := hbx2
        have HP : Hid (pinV now s h l = pinV now s' noW (x :: l2)) := hp
        have HG : Hid (Pr.Good now free rs s') := hg'
        have HL : Hid (∀ y ∈ l2, OkW y) := fun y hy => hl' y (List.mem_cons_of_mem _ hy)
        clear hM' hC' hh' hl' hga hcl hp hg' hM1 hbx hbx2 b1 hcs hM2 hC2 bC
        by_cases hx : x.nd ≤ s'.fr
        · obtain ⟨g1, g2, g3⟩ := good_room HG.out hf hn hx xo.n1
          have CT := startByA_yes (HM.out.room_drew (.cells #[.iface 75 (.pointer (some ⟨r, 0, none⟩))] 102)) (heap_alloc_new W2.drew _) hx xo.n1 xo.n2 xo.l1 xo.l2 n0 n1 g1 g2 g3 (by simp; omega)
          clear g2
          go_upto_region 3 with (go_at_call 41; refine (held_no m4).mono ?_; rintro e w' ⟨rfl, rfl⟩)
          go_cut [37] (fun p wc => p = .bool false ∧ (∃ vr' vs', Mc B m r vr' ao2 (c' - 1) vs' now (stV now s' x) noW l2 wc) ∧ Chg (KM B m r W) W wc)
          case first =>
            go_region_held3 (fun x' => x'.cell? ⟨zb, 0, none⟩ = some (.int .i64 x.job) ∧ x'.cell? ⟨zb, 1, none⟩ = some (.int .i64 x.nd) ∧ x'.cell? ⟨zb, 2, none⟩ = some (.int .i64 x.lm) ∧ x'.cell? ⟨m, 1, none⟩ = some (.pointer (some ⟨r, 0, none⟩)))
              (first | exact ⟨b0, b1', b2', y1⟩ | exact ⟨cell_al b0 _, cell_al b1' _, cell_al b2' _, cell_al y1 _⟩ | assumption | exact z3)
              (first | (go_at_call 42; refine CT.mono ?_; rintro e w5 ⟨rfl, ⟨vr5, vs5, z1⟩, z2⟩; have z4 := box_keep (HM.out.room_drew _) z2 ((Below.heap_alloc _ _ _ (lt_of_blk HBX.out)).trans HBX.out); have z3 := And.intro (cells_at z4 (k := 0) rfl) (And.intro (cells_at z4 (k := 1) rfl) (And.intro (cells_at z4 (k := 2) rfl) z1.four.2.2.2))))
            all_goals
              go_wp2
              go_meet
              exact ⟨rfl, ⟨_, _, z1⟩, KM.trans HC.out (KM.trans (Chg.of_below ((Below.drew (Below.refl _ W2)).alloc (Nat.le_refl _) _) _) z2)⟩
          case rest =>
            obtain ⟨rfl, ⟨vr6, vs6, hM6⟩, hC6⟩ := hcut
            have HM6 : Hid _ := hM6
            have HC6 : Hid _ := hC6
            clear hM6 hC6 CT HM HC HBX b0 b1' b2' y1 p3 q3 hW2 hW1 hao2
            go_wp2
            go_roundg l2.length
            case measure => simp only [List.length_cons] at hgk; omega
            case rel => exact ⟨stV now s' x, noW, l2, vr6, ao2, c' - 1, vs6, rfl, HM6.out, HC6.out, HP.out.trans (pin_yes hx), good_st HG.out hx ⟨xo.n1, xo.n2⟩, fun _ => rfl, HL.out, by omega, Nat.le_trans (Nat.sub_le _ _) hcc2⟩
        · have hxn : s'.fr < x.nd := by omega
          have CT := startByA_no0 (HM.out.room_drew (.cells #[.iface 75 (.pointer (some ⟨r, 0, none⟩))] 102)) (heap_alloc_new W2.drew _) hxn
          go_upto_region 3 with (go_at_call 41; refine (held_no m4).mono ?_; rintro e w' ⟨rfl, rfl⟩)
          go_cut [37] (fun p wc => p = .bool true ∧ Mc B m r vr' ao2 (c' - 1) vs' now s' noW l2 wc ∧ Chg (KM B m r W) W wc ∧ wc.heap[zb]? = some (Obj.cells #[.int .i64 x.job, .int .i64 x.nd, .int .i64 x.lm] 40 (0, 0)))
          case first =>
            go_region_held3 (fun x' => x'.cell? ⟨zb, 0, none⟩ = some (.int .i64 x.job) ∧ x'.cell? ⟨zb, 1, none⟩ = some (.int .i64 x.nd) ∧ x'.cell? ⟨zb, 2, none⟩ = some (.int .i64 x.lm) ∧ x'.cell? ⟨m, 1, none⟩ = some (.pointer (some ⟨r, 0, none⟩)))
              (first | exact ⟨b0, b1', b2', y1⟩ | exact ⟨cell_al b0 _, cell_al b1' _, cell_al b2' _, cell_al y1 _⟩ | assumption | exact keepX (by assumption) z2)
              (first | (go_at_call 42; refine CT.mono ?_; rintro e w5 ⟨rfl, z2⟩))
            all_goals
              go_wp2
              go_meet
              have zb : Below W2.heap.size W2 w5 := ((Below.drew (Below.refl _ W2)).alloc (Nat.le_refl _) _).trans (z2.mono (by simp))
              exact ⟨rfl, HM.out.below zb, KM.trans HC.out (Chg.of_below zb _), (zb.block _ (lt_of_blk HBX.out)).trans HBX.out⟩
          case rest =>
            obtain ⟨rfl, hM6, hC6, hb6⟩ := hcut
            have k0 : wc.cell? ⟨zb, 0, none⟩ = some (.int .i64 x.job) := cells_at hb6 rfl
            have k1 : wc.cell? ⟨zb, 1, none⟩ = some (.int .i64 x.nd) := cells_at hb6 rfl
            have k2 : wc.cell? ⟨zb, 2, none⟩ = some (.int .i64 x.lm) := cells_at hb6 rfl
            have d4 := cells_at hM6.blk (k := 4) rfl
            have d5 := cells_at hM6.blk (k := 5) rfl
            have d6 := cells_at hM6.blk (k := 6) rfl
            have f4 := frozen_at hM6.blk (k := 4)
            have f5 := frozen_at hM6.blk (k := 5)
            have f6 := frozen_at hM6.blk (k := 6)
            have HM6 : Hid _ := hM6
            have HC6 : Hid _ := hC6
            have hxj : x.job ≠ -1 := by have := xo.j; omega
            clear hM6 hC6 hb6 CT HM HC HBX b0 b1' b2' y1 p3 q3 hW2 hW1 hao2
            go_wp2
            go_roundg l2.length
            case measure => simp only [List.length_cons] at hgk; omega
            case rel => exact ⟨s', x, l2, vr', ao2, c' - 1, vs', rfl, (HM6.out.hold x).1, KM.trans HC6.out (HM6.out.hold x).2, HP.out.trans (pin_no hxn hxj), HG.out, fun e => absurd e hxj, HL.out, by omega, Nat.le_trans (Nat.sub_le _ _) hcc2⟩
      · have HE : Hid (pinV now s h l = (s', h', x :: l2)) := by
          rw [hp]
          unfold pinV
          rw [if_pos hj]
          exact rfl
        have HM : Hid _ := hM'
        have HC : Hid _ := hC'
        clear hp hM' hC' hg' hh' hl'
        simp only [List.length_cons] at m3 hcc
        go_wp2_with (go_at_call 41; refine (held_yes m4 hj).mono ?_; rintro e w' ⟨rfl, rfl⟩)
        go_end0
        exact ⟨rfl, ⟨_, _, _, _, by rw [HE.out]; exact HM.out⟩, HC.out⟩
end Go.Proofs.Ytdkibcagbidelaa
