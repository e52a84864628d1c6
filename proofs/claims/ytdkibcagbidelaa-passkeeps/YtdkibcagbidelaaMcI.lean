/-
  LAYER 15: package pass: fill.
-/
import Derived.Test.YtdkibcagbidelaaMcE
import Derived.Test.YtdkibcagbidelaaMcF
import Derived.Test.YtdkibcagbidelaaMcH
import Derived.Test.YtdkibcagbidelaaPfQ
namespace Go.Proofs.Ytdkibcagbidelaa
open Go.RowKit Pr

theorem shA_eq (need : Int) (o : Option Stp) : shA need o = .tuple #[.int .i64 (atO o), .int .i64 (exO need o), .bool o.isSome] := by
  cases o <;> rfl
theorem row_runs {W : World} {B : Nat} {v : Value} {l : List Rn} (h : W.ownsRow B 45 2 v l.length (flatR l)) : ∃ ra rc, v = .slice ra l.length rc ∧ RunsAt W ra l := by
  rcases h.2 with ⟨rfl, h0⟩ | ⟨g, cap, cur, rfl, hb, hg, _, _, _, ht⟩
  · exact ⟨none, 0, by rw [h0], 0, 0, fun h => by omega, fun j s hs => by rw [List.length_eq_zero_iff.1 h0] at hs; simp at hs⟩
  · refine ⟨some ⟨g, 0, none⟩, cap, rfl, g, 0, fun _ => rfl, fun j s hs => ?_⟩
    have hj : j < l.length := (List.getElem?_eq_some_iff.1 hs).1
    obtain ⟨h1, h2⟩ := flatR_at l j s hs
    rw [← ht, List.getElem?_take_of_lt (by omega), Array.getElem?_toList] at h1 h2
    rw [Nat.zero_add]
    exact ⟨cells_at hg h1, cells_at hg h2⟩
theorem KM.transUU {B m r u : Nat} {w w1 w2 : World} (h1 : Chg (fun i => KM B m r w i ∨ i = u) w w1) (h2 : Chg (fun i => KM B m r w1 i ∨ i = u) w1 w2) : Chg (fun i => KM B m r w i ∨ i = u) w w2 := by
  refine h1.trans h2 (fun i hi hk => ?_)
  rcases hk with (e | e | ⟨hB, cs, t, ht, hc⟩) | e
  · exact .inl (.inl e)
  · exact .inl (.inr (.inl e))
  · refine Classical.byContradiction (fun hn => hn ?_)
    exact .inl (.inr (.inr ⟨hB, cs, t, ht, (h1.block i hi hn).symm.trans hc⟩))
  · exact .inr e
/-- Another's block stays. -/
theorem blk_keep {B m r i : Nat} {vr vs : Value} {ao : Option Addr} {c : Nat} {now : Int} {s : Ps} {h : Wt} {l : List Wt} {W W' : World} {cs : Array Value} {t : TypeId} (hM : Mc B m r vr ao c vs now s h l W) (hC : Chg (KM B m r W) W W') (hb : W.heap[i]? = some (.cells cs t (0, 0)))
    (h1 : t ≠ 77) (h2 : i ≠ r) (h3 : t ≠ 45) (h4 : t ≠ 3) : W'.heap[i]? = some (.cells cs t (0, 0)) := by
  refine (hC.block i (lt_of_blk hb) (fun e => ?_)).trans hb
  rcases e with e | e | ⟨_, cs', t', ht, hk⟩
  · exact tag_ne hb hM.blk h1 e
  · exact h2 e
  · exact tag_ne hb hk (by rcases ht with rfl | rfl <;> assumption) rfl
theorem blk_keepU {B m r u i : Nat} {vr vs : Value} {ao : Option Addr} {c : Nat} {now : Int} {s : Ps} {h : Wt} {l : List Wt} {W W' : World} {cs : Array Value} {t : TypeId} (hM : Mc B m r vr ao c vs now s h l W) (hC : Chg (fun i => KM B m r W i ∨ i = u) W W') (hb : W.heap[i]? = some (.cells cs t (0, 0)))
    (h1 : t ≠ 77) (h2 : i ≠ r) (h3 : t ≠ 45) (h4 : t ≠ 3) (h5 : i ≠ u) : W'.heap[i]? = some (.cells cs t (0, 0)) := by
  refine (hC.block i (lt_of_blk hb) (fun e => ?_)).trans hb
  rcases e with (e | e | ⟨_, cs', t', ht, hk⟩) | e
  · exact tag_ne hb hM.blk h1 e
  · exact h2 e
  · exact tag_ne hb hk (by rcases ht with rfl | rfl <;> assumption) rfl
  · exact h5 e
theorem fill_drop {now T X : Int} {s : Ps} {l : List Wt} {k : Nat} {w : Wt} (h : l[k]? = some w) : fillV now T s X (l.drop k) = (if w.nd ≤ s.fr ∧ now + w.lm ≤ T then fillV now T (stV now s w) X (l.drop (k + 1))
      else if w.nd ≤ s.fr ∧ w.nd ≤ X then fillV now T (stV now s w) (X - w.nd) (l.drop (k + 1)) else fillV now T s X (l.drop (k + 1))) := by
  obtain ⟨hk, rfl⟩ := List.getElem?_eq_some_iff.1 h
  rw [List.drop_eq_getElem_cons hk]
  rfl

set_option maxRecDepth 20000 in
theorem fill_none {B m r c : Nat} {vr vs : Value} {ao : Option Addr} {now : Int} {s : Ps} {h : Wt} {l : List Wt} {W : World} (hM : Mc B m r vr ao c vs now s h l W) (hj : h.job = -1) :
    Calls Try.prog 32 #[.pointer (some ⟨m, 0, none⟩)] W fun e W' => e = .returned (.tuple #[.int .i64 0, .int .i64 0]) ∧ W' = W := by
  obtain ⟨_, m4, _⟩ := hM.cells
  rw [hj] at m4
  clear hM
  go_enter Try.func32, Try.ntmps32
  go_wp2_with (go_at_call 41; refine (held_no m4).mono ?_; rintro e w' ⟨rfl, rfl⟩)
  go_ret2
  exact ⟨rfl, rfl⟩

set_option maxRecDepth 20000 in
set_option maxHeartbeats 1000000 in
theorem fill_hold {B m r c : Nat} {vr vs : Value} {ao : Option Addr} {now free : Int} {rs : List Rn} {s : Ps} {h : Wt} {l : List Wt} {W : World} (hM : Mc B m r vr ao c vs now s h l W) (hj : h.job ≠ -1) (n0 : 0 ≤ now) (n1 : now ≤ 2199023255552)
    (hg : Pr.Good now free rs s) (hf : free ≤ 256) (hn : rs.length * 16 + 4096 ≤ 140737488355328) (hB : B ≤ W.heap.size) (hl : ∀ x ∈ l, OkW x) (hc : l.length ≤ 35184372088832) (T X : Int) (hT : atO (shadowV now s.fr s.rs h.nd) = T) (hX : exO h.nd (shadowV now s.fr s.rs h.nd) = X) (hX1 : X ≤ 1152921504606846976) :
    Calls Try.prog 32 #[.pointer (some ⟨m, 0, none⟩)] W fun e W' => e = .returned (.tuple #[.int .i64 T, .int .i64 X]) ∧ (∃ vr' vs', Mc B m r vr' ao c vs' now (fillV now T s X l) h l W') ∧ Chg (KM B m r W) W W' := by
  obtain ⟨⟨m0, m1, m2, m3⟩, m4, m5, m6, m7⟩ := hM.cells
  have r0 : W.cell? ⟨r, 0, none⟩ = some (.int .i64 s.fr) := cells_at hM.room rfl
  obtain ⟨ra, rc, rfl, hRA⟩ := row_runs hM.runs
  have hsl : s.rs.length * 16 ≤ 140737488355328 := by
    have e1 := hg.fr
    have e2 := sumW_nn hg.pos
    have e3 : s.rs.length = rs.length + s.st.length := by rw [hg.rs]; simp
    have e4 := hg.nn
    omega
  have hsh : ∀ w', Below W.heap.size W w' → Calls Try.prog 43 #[.int .i64 now, .int .i64 s.fr, .slice ra s.rs.length rc, .int .i64 h.nd] w' fun e w'' => e = .returned (.tuple #[.int .i64 T, .int .i64 X, .bool (shadowV now s.fr s.rs h.nd).isSome]) ∧ Below w'.heap.size w' w'' := fun w' b => by
    have := pshadow_any (c := rc) (hRA.below b) hsl now s.fr h.nd
    rw [shA_eq, hT, hX] at this
    exact this
  have HM : Hid _ := hM
  have HG : Hid _ := hg
  have HL : Hid _ := hl
  clear hM hg hl hT hX hRA hsl
  go_enter Try.func32, Try.ntmps32
  go_upto_region 3 with (go_at_call 41; refine (held_yes m4 hj).mono ?_; rintro e w' ⟨rfl, rfl⟩)
  go_cut [2, 3] (fun p q wc => p = .int .i64 T ∧ q = .int .i64 X ∧ Below w'.heap.size w' wc)
  case first =>
    go_region_held3 (fun x' => x'.cell? ⟨m, 0, none⟩ = some (.int .i64 now) ∧ x'.cell? ⟨m, 1, none⟩ = some (.pointer (some ⟨r, 0, none⟩)) ∧ x'.cell? ⟨r, 0, none⟩ = some (.int .i64 s.fr) ∧ x'.cell? ⟨m, 2, none⟩ = some (.slice ra s.rs.length rc) ∧ x'.cell? ⟨m, 5, none⟩ = some (.int .i64 h.nd))
      (first | exact ⟨m0, m1, r0, m2, m5⟩ | assumption | exact ⟨(b2.cell (World.block_lt_of_cell? _ _ m0)).trans m0, (b2.cell (World.block_lt_of_cell? _ _ m1)).trans m1, (b2.cell (World.block_lt_of_cell? _ _ r0)).trans r0, (b2.cell (World.block_lt_of_cell? _ _ m2)).trans m2, (b2.cell (World.block_lt_of_cell? _ _ m5)).trans m5⟩)
      (first | (go_at_call 43; refine (hsh _ (drew_below _ 1)).mono ?_; rintro e w5 ⟨rfl, b2⟩))
    all_goals
      go_wp2
      go_meet
      exact ⟨rfl, rfl, (drew_below w' 1).trans b2⟩
  case rest =>
    obtain ⟨rfl, rfl, b1⟩ := hcut
    have hM1 := HM.out.below b1
    obtain ⟨uu, huu⟩ : ∃ uu, wc.heap.size = uu := ⟨_, rfl⟩
    obtain ⟨W2, hW2⟩ : ∃ W2, (wc.alloc (.cells #[.int .i64 X] 90)).alloc (.cells #[.int .i64 now, .int .i64 T] 94) = W2 := ⟨_, rfl⟩
    have b2 : Below wc.heap.size wc W2 := by rw [← hW2]; exact ((Below.refl _ wc).alloc (Nat.le_refl _) _).alloc (by simp) _
    have hu2 : W2.heap[uu]? = some (.cells #[.int .i64 X] 90 (0, 0)) := by
      rw [← hW2, ← huu]
      exact (Below.heap_alloc _ _ _ (by simp)).trans (heap_alloc_new wc _)
    have hd2 : W2.heap[uu + 1]? = some (.cells #[.int .i64 now, .int .i64 T] 94 (0, 0)) := by
      rw [← hW2, ← huu]
      have := heap_alloc_new (wc.alloc (.cells #[.int .i64 X] 90)) (.cells #[.int .i64 now, .int .i64 T] 94)
      rwa [World.size_alloc] at this
    have hM2 := hM1.below b2
    have B2 := b1.trans (b2.mono b1.size)
    obtain ⟨⟨y0, y1, y2, y3⟩, _⟩ := hM2.cells
    obtain ⟨⟨z0, _⟩, _⟩ := hM1.cells
    have hur : uu ≠ r := by have := lt_of_blk hM1.room; omega
    have hwu : w'.heap.size ≤ uu := by have := b1.size; omega
    have HM2 : Hid _ := hM2
    have HU2 : Hid _ := hu2
    have HD2 : Hid _ := hd2
    have HB2 : Hid _ := B2
    clear hM1 hM2 hu2 hd2 B2 b1 b2 hsh m0 m1 m2 m3 m4 m5 m6 m7 r0 HM
    obtain ⟨q, hq⟩ : ∃ q, l.length = q := ⟨_, rfl⟩
    rw [hq] at hc y3
    have HQ : Hid _ := hq
    clear hq
    go_wp2
    go_loopg [50] q (fun gk p wr => ∃ (j : Nat) (s' : Ps) (X' : Int) (vr' vs' : Value), j + gk = q ∧ p = .int .i64 j ∧ Mc B m r vr' ao c vs' now s' h l wr ∧ wr.heap[uu]? = some (Obj.cells #[.int .i64 X'] 90 (0, 0)) ∧ wr.heap[uu + 1]? = some (Obj.cells #[.int .i64 now, .int .i64 T] 94 (0, 0)) ∧ Chg (fun i => KM B m r w' i ∨ i = uu) w' wr ∧ fillV now T s X l = fillV now T s' X' (l.drop j) ∧ Pr.Good now free rs s' ∧ X' ≤ 1152921504606846976)
    case atStart => exact ⟨0, s, X, _, _, by omega, rfl, HM2.out, HU2.out, HD2.out, Chg.of_below HB2.out _, by simp, HG.out, hX1⟩
    case round =>
      obtain ⟨j, s', X', vr', vs', hj2, rfl, hM', hu', hd', hC', hfl, hg', hX'⟩ := hrel
      by_cases hlt : j < q
      · obtain ⟨xx, hr⟩ : ∃ xx, l[j]? = some xx := ⟨_, List.getElem?_eq_getElem (by have := HQ.out; omega)⟩
        have xo := HL.out xx (List.mem_of_getElem? hr)
        obtain ⟨g, o, hga, hcl⟩ := hM'.wait
        obtain ⟨rfl, cs, hcs⟩ := hga (by have := HQ.out; omega)
        obtain ⟨x0, x1, x2⟩ := hcl j xx hr
        rw [fill_drop hr] at hfl
        obtain ⟨zb, hzb⟩ : ∃ zb, wr.heap.size = zb := ⟨_, rfl⟩
        obtain ⟨W1, hW1⟩ : ∃ W1, wr.alloc (.cells #[.int .i64 xx.job, .int .i64 xx.nd, .int .i64 xx.lm] 40) = W1 := ⟨_, rfl⟩
        have b1 : Below wr.heap.size wr W1 := by rw [← hW1]; exact (Below.refl _ wr).alloc (Nat.le_refl _) _
        have hbx : W1.heap[zb]? = some (.cells #[.int .i64 xx.job, .int .i64 xx.nd, .int .i64 xx.lm] 40 (0, 0)) := by rw [← hW1, ← hzb]; exact heap_alloc_new wr _
        have hM1 := hM'.below b1
        have hu1 := (b1.block uu (lt_of_blk hu')).trans hu'
        have hd1 := (b1.block (uu + 1) (lt_of_blk hd')).trans hd'
        have hC1 : Chg (fun i => KM B m r w' i ∨ i = uu) w' W1 := KM.transUU hC' (Chg.of_below b1 _)
        have e0 : W1.cell? ⟨zb, 0, none⟩ = some (.int .i64 xx.job) := cells_at hbx rfl
        have e1 : W1.cell? ⟨zb, 1, none⟩ = some (.int .i64 xx.nd) := cells_at hbx rfl
        have e2 : W1.cell? ⟨zb, 2, none⟩ = some (.int .i64 xx.lm) := cells_at hbx rfl
        have e3 : W1.cell? ⟨m, 1, none⟩ = some (.pointer (some ⟨r, 0, none⟩)) := cells_at hM1.blk rfl
        have e4 : W1.cell? ⟨uu + 1, 0, none⟩ = some (.int .i64 now) := cells_at hd1 rfl
        have e5 : W1.cell? ⟨uu + 1, 1, none⟩ = some (.int .i64 T) := cells_at hd1 rfl
        have hz1 := hC1.size
        have HM1 : Hid _ := hM1
        have HU1 : Hid _ := hu1
        have HD1 : Hid _ := hd1
        have HC1 : Hid (Chg (fun i => KM B m r w' i ∨ i = uu) w' W1) := hC1
        have HBX : Hid _ := hbx
        have HG1 : Hid _ := hg'
        have HFL : Hid _ := hfl
        clear hM' hu' hd' hC' hM1 hu1 hd1 hC1 hbx hga hcl hcs hr hfl b1 hg'
        by_cases hx : xx.nd ≤ s'.fr
        · by_cases hd : now + xx.lm ≤ T
          · have HF : Hid _ := HFL.out.trans (if_pos ⟨hx, hd⟩)
            obtain ⟨g1, g2, g3⟩ := good_room HG1.out hf hn hx xo.n1
            have CT := startByB_yes (HM1.out.room_drew (.cells #[.iface 75 (.pointer (some ⟨r, 0, none⟩)), .iface 94 (.agg #[.int .i64 now, .int .i64 T])] 102)) (heap_alloc_new W1.drew _) hx hd xo.n1 xo.n2 xo.l1 xo.l2 n0 n1 g1 g2 g3 (by simp; omega)
            clear g2
            go_upto_region 8 with fail
            go_cut [65] (fun p wd => p = .bool false ∧ (∃ vr5 vs5, Mc B m r vr5 (some ⟨g, o, none⟩) c vs5 now (stV now s' xx) h l wd) ∧ wd.heap[uu]? = some (Obj.cells #[.int .i64 X'] 90 (0, 0)) ∧ wd.heap[uu + 1]? = some (Obj.cells #[.int .i64 now, .int .i64 T] 94 (0, 0)) ∧ Chg (fun i => KM B m r w' i ∨ i = uu) w' wd)
            case first =>
              go_region_held3 (fun x' => x'.cell? ⟨zb, 0, none⟩ = some (.int .i64 xx.job) ∧ x'.cell? ⟨zb, 1, none⟩ = some (.int .i64 xx.nd) ∧ x'.cell? ⟨zb, 2, none⟩ = some (.int .i64 xx.lm) ∧ x'.cell? ⟨m, 1, none⟩ = some (.pointer (some ⟨r, 0, none⟩)) ∧ x'.cell? ⟨uu + 1, 0, none⟩ = some (.int .i64 now) ∧ x'.cell? ⟨uu + 1, 1, none⟩ = some (.int .i64 T))
                (first | exact ⟨e0, e1, e2, e3, e4, e5⟩ | exact ⟨cell_al e0 _, cell_al e1 _, cell_al e2 _, cell_al e3 _, cell_al e4 _, cell_al e5 _⟩ | assumption | exact z3)
                (first | (go_at_call 42; refine CT.mono ?_; rintro e w5 ⟨rfl, ⟨vr5, vs5, z1⟩, z2⟩; have z4 := box_keep (HM1.out.room_drew _) z2 ((Below.heap_alloc _ _ _ (lt_of_blk HBX.out)).trans HBX.out); have z5 := blk_keep (HM1.out.room_drew _) z2 ((Below.heap_alloc _ _ _ (lt_of_blk HD1.out)).trans HD1.out) (by decide) (tag_ne HD1.out HM1.out.room (by decide)) (by decide) (by decide); have z6 := blk_keep (HM1.out.room_drew _) z2 ((Below.heap_alloc _ _ _ (lt_of_blk HU1.out)).trans HU1.out) (by decide) hur (by decide) (by decide); have z3 := And.intro (cells_at z4 (k := 0) rfl) (And.intro (cells_at z4 (k := 1) rfl) (And.intro (cells_at z4 (k := 2) rfl) (And.intro z1.four.2.2.2 (And.intro (cells_at z5 (k := 0) rfl) (cells_at z5 (k := 1) rfl)))))))
              all_goals
                go_wp2
                go_meet
                exact ⟨rfl, ⟨_, _, z1⟩, z6, z5, KM.transUU HC1.out ((KM.trans (Chg.of_below ((Below.drew (Below.refl _ W1)).alloc (Nat.le_refl _) _) _) z2).mono (fun _ _ h => .inl h))⟩
            case rest =>
              obtain ⟨rfl, ⟨vr5, vs5, hM6⟩, hu6, hd6, hC6⟩ := hcut
              have HM6 : Hid _ := hM6
              have HU6 : Hid _ := hu6
              have HD6 : Hid _ := hd6
              have HC6 : Hid (Chg (fun i => KM B m r w' i ∨ i = uu) w' wc) := hC6
              clear hM6 hu6 hd6 hC6 CT HM1 HU1 HD1 HC1 HBX e0 e1 e2 e3 e4 e5 hW1 hzb
              go_wp2
              go_roundg (q - (j + 1))
              case measure => omega
              case rel => exact ⟨j + 1, stV now s' xx, X', _, _, by omega, rfl, HM6.out, HU6.out, HD6.out, HC6.out, HF.out, good_st HG1.out hx ⟨xo.n1, xo.n2⟩, by omega⟩
          · have hnd : T < now + xx.lm := by omega
            have hno : ¬ (xx.nd ≤ s'.fr ∧ now + xx.lm ≤ T) := fun e => hd e.2
            have CT := startByB_no1 (HM1.out.room_drew (.cells #[.iface 75 (.pointer (some ⟨r, 0, none⟩)), .iface 94 (.agg #[.int .i64 now, .int .i64 T])] 102)) (heap_alloc_new W1.drew _) hx hnd xo.l1 xo.l2 n0 n1
            go_upto_region 8 with fail
            go_cut [65] (fun p wd => p = .bool true ∧ Below W1.heap.size W1 wd)
            case first =>
              go_region_held3 (fun x' => x'.cell? ⟨zb, 0, none⟩ = some (.int .i64 xx.job) ∧ x'.cell? ⟨zb, 1, none⟩ = some (.int .i64 xx.nd) ∧ x'.cell? ⟨zb, 2, none⟩ = some (.int .i64 xx.lm) ∧ x'.cell? ⟨m, 1, none⟩ = some (.pointer (some ⟨r, 0, none⟩)) ∧ x'.cell? ⟨uu + 1, 0, none⟩ = some (.int .i64 now) ∧ x'.cell? ⟨uu + 1, 1, none⟩ = some (.int .i64 T))
                (first | exact ⟨e0, e1, e2, e3, e4, e5⟩ | exact ⟨cell_al e0 _, cell_al e1 _, cell_al e2 _, cell_al e3 _, cell_al e4 _, cell_al e5 _⟩ | assumption | exact z3)
                (first | (go_at_call 42; refine CT.mono ?_; rintro e w5 ⟨rfl, z2⟩; have zb2 : Below W1.heap.size W1 w5 := ((Below.drew (Below.refl _ W1)).alloc (Nat.le_refl _) _).trans (z2.mono (by simp)); have z3 := And.intro ((zb2.cell (World.block_lt_of_cell? _ _ e0)).trans e0) (And.intro ((zb2.cell (World.block_lt_of_cell? _ _ e1)).trans e1) (And.intro ((zb2.cell (World.block_lt_of_cell? _ _ e2)).trans e2) (And.intro ((zb2.cell (World.block_lt_of_cell? _ _ e3)).trans e3) (And.intro ((zb2.cell (World.block_lt_of_cell? _ _ e4)).trans e4) ((zb2.cell (World.block_lt_of_cell? _ _ e5)).trans e5)))))))
              all_goals
                go_wp2
                go_meet
                exact ⟨rfl, zb2⟩
            case rest =>
              obtain ⟨rfl, bd⟩ := hcut
              have hM3 := HM1.out.below bd
              have hu3 := (bd.block uu (lt_of_blk HU1.out)).trans HU1.out
              have hd3 := (bd.block (uu + 1) (lt_of_blk HD1.out)).trans HD1.out
              have hb3 := (bd.block zb (lt_of_blk HBX.out)).trans HBX.out
              have hC3 : Chg (fun i => KM B m r w' i ∨ i = uu) w' wc := KM.transUU HC1.out (Chg.of_below bd _)
              have f0 : wc.cell? ⟨zb, 0, none⟩ = some (.int .i64 xx.job) := cells_at hb3 rfl
              have f1 : wc.cell? ⟨zb, 1, none⟩ = some (.int .i64 xx.nd) := cells_at hb3 rfl
              have f2 : wc.cell? ⟨zb, 2, none⟩ = some (.int .i64 xx.lm) := cells_at hb3 rfl
              have f3 : wc.cell? ⟨m, 1, none⟩ = some (.pointer (some ⟨r, 0, none⟩)) := cells_at hM3.blk rfl
              have hz3 := hC3.size
              have HM3 : Hid _ := hM3
              have HU3 : Hid _ := hu3
              have HD3 : Hid _ := hd3
              have HB3 : Hid _ := hb3
              have HC3 : Hid (Chg (fun i => KM B m r w' i ∨ i = uu) w' wc) := hC3
              clear hM3 hu3 hd3 hb3 hC3 bd CT HM1 HU1 HD1 HC1 HBX e0 e1 e2 e3 e4 e5 hW1 hzb
              by_cases he : xx.nd ≤ X'
              · have HF : Hid _ := HFL.out.trans ((if_neg hno).trans (if_pos ⟨hx, he⟩))
                obtain ⟨g1, g2, g3⟩ := good_room HG1.out hf hn hx xo.n1
                have CT := startByC_yes (HM3.out.room_drew (.cells #[.iface 75 (.pointer (some ⟨r, 0, none⟩)), .iface 75 (.pointer (some ⟨uu, 0, none⟩))] 102)) (heap_alloc_new wc.drew _) ((Below.heap_alloc _ _ _ (lt_of_blk HU3.out)).trans HU3.out) hur hx he hX' xo.n1 xo.n2 xo.l1 xo.l2 n0 n1 g1 g2 g3 (by simp; omega)
                clear g2
                go_upto_region 9 with fail
                go_region_held3 (fun x' => x'.cell? ⟨zb, 0, none⟩ = some (.int .i64 xx.job) ∧ x'.cell? ⟨zb, 1, none⟩ = some (.int .i64 xx.nd) ∧ x'.cell? ⟨zb, 2, none⟩ = some (.int .i64 xx.lm) ∧ x'.cell? ⟨m, 1, none⟩ = some (.pointer (some ⟨r, 0, none⟩)))
                  (first | exact ⟨f0, f1, f2, f3⟩ | exact ⟨cell_al f0 _, cell_al f1 _, cell_al f2 _, cell_al f3 _⟩ | assumption | exact z3)
                  (first | (go_at_call 42; refine CT.mono ?_; rintro e w5 ⟨rfl, ⟨vr5, vs5, z1⟩, z2, z7⟩; have z4 := blk_keepU (HM3.out.room_drew _) z2 ((Below.heap_alloc _ _ _ (lt_of_blk HB3.out)).trans HB3.out) (by decide) (tag_ne HB3.out HM3.out.room (by decide)) (by decide) (by decide) (tag_ne HB3.out HU3.out (by decide)); have z5 := blk_keepU (HM3.out.room_drew _) z2 ((Below.heap_alloc _ _ _ (lt_of_blk HD3.out)).trans HD3.out) (by decide) (tag_ne HD3.out HM3.out.room (by decide)) (by decide) (by decide) (tag_ne HD3.out HU3.out (by decide)); have z3 := And.intro (cells_at z4 (k := 0) rfl) (And.intro (cells_at z4 (k := 1) rfl) (And.intro (cells_at z4 (k := 2) rfl) z1.four.2.2.2))))
                all_goals
                  have HM6 : Hid _ := z1
                  have HU6 : Hid _ := z7
                  have HD6 : Hid _ := z5
                  have HC6 : Hid (Chg (fun i => KM B m r w' i ∨ i = uu) w' w5) := KM.transUU HC3.out (KM.transUU (Chg.of_below ((Below.drew (Below.refl _ wc)).alloc (Nat.le_refl _) _) _) z2)
                  have xo1 := xo.n1
                  clear z1 z2 z3 z4 z5 z7 CT HM3 HU3 HD3 HB3 HC3 f0 f1 f2 f3
                  go_wp2
                  go_roundg (q - (j + 1))
                  case measure => omega
                  case rel => exact ⟨j + 1, stV now s' xx, X' - xx.nd, _, _, by omega, rfl, HM6.out, HU6.out, HD6.out, HC6.out, HF.out, good_st HG1.out hx ⟨xo.n1, xo.n2⟩, by omega⟩
              · have hne : X' < xx.nd := by omega
                have HF : Hid _ := HFL.out.trans ((if_neg hno).trans (if_neg (fun e => he e.2)))
                have CT := startByC_no1 (HM3.out.room_drew (.cells #[.iface 75 (.pointer (some ⟨r, 0, none⟩)), .iface 75 (.pointer (some ⟨uu, 0, none⟩))] 102)) (heap_alloc_new wc.drew _) ((Below.heap_alloc _ _ _ (lt_of_blk HU3.out)).trans HU3.out) hx hne
                go_upto_region 9 with fail
                go_region_held3 (fun x' => x'.cell? ⟨zb, 0, none⟩ = some (.int .i64 xx.job) ∧ x'.cell? ⟨zb, 1, none⟩ = some (.int .i64 xx.nd) ∧ x'.cell? ⟨zb, 2, none⟩ = some (.int .i64 xx.lm) ∧ x'.cell? ⟨m, 1, none⟩ = some (.pointer (some ⟨r, 0, none⟩)))
                  (first | exact ⟨f0, f1, f2, f3⟩ | exact ⟨cell_al f0 _, cell_al f1 _, cell_al f2 _, cell_al f3 _⟩ | assumption | exact z3)
                  (first | (go_at_call 42; refine CT.mono ?_; rintro e w5 ⟨rfl, z2⟩; have zb2 : Below wc.heap.size wc w5 := ((Below.drew (Below.refl _ wc)).alloc (Nat.le_refl _) _).trans (z2.mono (by simp)); have z3 := And.intro ((zb2.cell (World.block_lt_of_cell? _ _ f0)).trans f0) (And.intro ((zb2.cell (World.block_lt_of_cell? _ _ f1)).trans f1) (And.intro ((zb2.cell (World.block_lt_of_cell? _ _ f2)).trans f2) ((zb2.cell (World.block_lt_of_cell? _ _ f3)).trans f3)))))
                all_goals
                  have HM6 : Hid _ := HM3.out.below zb2
                  have HU6 : Hid _ := (zb2.block uu (lt_of_blk HU3.out)).trans HU3.out
                  have HD6 : Hid _ := (zb2.block (uu + 1) (lt_of_blk HD3.out)).trans HD3.out
                  have HC6 : Hid (Chg (fun i => KM B m r w' i ∨ i = uu) w' w5) := KM.transUU HC3.out (Chg.of_below zb2 _)
                  clear z2 z3 zb2 CT HM3 HU3 HD3 HB3 HC3 f0 f1 f2 f3
                  go_wp2
                  go_roundg (q - (j + 1))
                  case measure => omega
                  case rel => exact ⟨j + 1, s', X', _, _, by omega, rfl, HM6.out, HU6.out, HD6.out, HC6.out, HF.out, HG1.out, by omega⟩
        · have hnx : s'.fr < xx.nd := by omega
          have HF : Hid _ := HFL.out.trans ((if_neg (fun e => hx e.1)).trans (if_neg (fun e => hx e.1)))
          have CT := startByB_no0 (HM1.out.room_drew (.cells #[.iface 75 (.pointer (some ⟨r, 0, none⟩)), .iface 94 (.agg #[.int .i64 now, .int .i64 T])] 102)) (heap_alloc_new W1.drew _) hnx
          go_upto_region 8 with fail
          go_cut [65] (fun p wd => p = .bool true ∧ Below W1.heap.size W1 wd)
          case first =>
            go_region_held3 (fun x' => x'.cell? ⟨zb, 0, none⟩ = some (.int .i64 xx.job) ∧ x'.cell? ⟨zb, 1, none⟩ = some (.int .i64 xx.nd) ∧ x'.cell? ⟨zb, 2, none⟩ = some (.int .i64 xx.lm) ∧ x'.cell? ⟨m, 1, none⟩ = some (.pointer (some ⟨r, 0, none⟩)) ∧ x'.cell? ⟨uu + 1, 0, none⟩ = some (.int .i64 now) ∧ x'.cell? ⟨uu + 1, 1, none⟩ = some (.int .i64 T))
              (first | exact ⟨e0, e1, e2, e3, e4, e5⟩ | exact ⟨cell_al e0 _, cell_al e1 _, cell_al e2 _, cell_al e3 _, cell_al e4 _, cell_al e5 _⟩ | assumption | exact z3)
              (first | (go_at_call 42; refine CT.mono ?_; rintro e w5 ⟨rfl, z2⟩; have zb2 : Below W1.heap.size W1 w5 := ((Below.drew (Below.refl _ W1)).alloc (Nat.le_refl _) _).trans (z2.mono (by simp)); have z3 := And.intro ((zb2.cell (World.block_lt_of_cell? _ _ e0)).trans e0) (And.intro ((zb2.cell (World.block_lt_of_cell? _ _ e1)).trans e1) (And.intro ((zb2.cell (World.block_lt_of_cell? _ _ e2)).trans e2) (And.intro ((zb2.cell (World.block_lt_of_cell? _ _ e3)).trans e3) (And.intro ((zb2.cell (World.block_lt_of_cell? _ _ e4)).trans e4) ((zb2.cell (World.block_lt_of_cell? _ _ e5)).trans e5)))))))
            all_goals
              go_wp2
              go_meet
              exact ⟨rfl, zb2⟩
          case rest =>
            obtain ⟨rfl, bd⟩ := hcut
            have hM3 := HM1.out.below bd
            have hu3 := (bd.block uu (lt_of_blk HU1.out)).trans HU1.out
            have hd3 := (bd.block (uu + 1) (lt_of_blk HD1.out)).trans HD1.out
            have hb3 := (bd.block zb (lt_of_blk HBX.out)).trans HBX.out
            have hC3 : Chg (fun i => KM B m r w' i ∨ i = uu) w' wc := KM.transUU HC1.out (Chg.of_below bd _)
            have f0 : wc.cell? ⟨zb, 0, none⟩ = some (.int .i64 xx.job) := cells_at hb3 rfl
            have f1 : wc.cell? ⟨zb, 1, none⟩ = some (.int .i64 xx.nd) := cells_at hb3 rfl
            have f2 : wc.cell? ⟨zb, 2, none⟩ = some (.int .i64 xx.lm) := cells_at hb3 rfl
            have f3 : wc.cell? ⟨m, 1, none⟩ = some (.pointer (some ⟨r, 0, none⟩)) := cells_at hM3.blk rfl
            have hz3 := hC3.size
            have HM3 : Hid _ := hM3
            have HU3 : Hid _ := hu3
            have HD3 : Hid _ := hd3
            have HB3 : Hid _ := hb3
            have HC3 : Hid (Chg (fun i => KM B m r w' i ∨ i = uu) w' wc) := hC3
            clear hM3 hu3 hd3 hb3 hC3 bd CT HM1 HU1 HD1 HC1 HBX e0 e1 e2 e3 e4 e5 hW1 hzb
            have CT := startByC_no0 (HM3.out.room_drew (.cells #[.iface 75 (.pointer (some ⟨r, 0, none⟩)), .iface 75 (.pointer (some ⟨uu, 0, none⟩))] 102)) (heap_alloc_new wc.drew _) ((Below.heap_alloc _ _ _ (lt_of_blk HU3.out)).trans HU3.out) hnx
            go_upto_region 9 with fail
            go_region_held3 (fun x' => x'.cell? ⟨zb, 0, none⟩ = some (.int .i64 xx.job) ∧ x'.cell? ⟨zb, 1, none⟩ = some (.int .i64 xx.nd) ∧ x'.cell? ⟨zb, 2, none⟩ = some (.int .i64 xx.lm) ∧ x'.cell? ⟨m, 1, none⟩ = some (.pointer (some ⟨r, 0, none⟩)))
              (first | exact ⟨f0, f1, f2, f3⟩ | exact ⟨cell_al f0 _, cell_al f1 _, cell_al f2 _, cell_al f3 _⟩ | assumption | exact z3)
              (first | (go_at_call 42; refine CT.mono ?_; rintro e w5 ⟨rfl, z2⟩; have zb2 : Below wc.heap.size wc w5 := ((Below.drew (Below.refl _ wc)).alloc (Nat.le_refl _) _).trans (z2.mono (by simp)); have z3 := And.intro ((zb2.cell (World.block_lt_of_cell? _ _ f0)).trans f0) (And.intro ((zb2.cell (World.block_lt_of_cell? _ _ f1)).trans f1) (And.intro ((zb2.cell (World.block_lt_of_cell? _ _ f2)).trans f2) ((zb2.cell (World.block_lt_of_cell? _ _ f3)).trans f3)))))
            all_goals
              have HM6 : Hid _ := HM3.out.below zb2
              have HU6 : Hid _ := (zb2.block uu (lt_of_blk HU3.out)).trans HU3.out
              have HD6 : Hid _ := (zb2.block (uu + 1) (lt_of_blk HD3.out)).trans HD3.out
              have HC6 : Hid (Chg (fun i => KM B m r w' i ∨ i = uu) w' w5) := KM.transUU HC3.out (Chg.of_below zb2 _)
              clear z2 z3 zb2 CT HM3 HU3 HD3 HB3 HC3 f0 f1 f2 f3
              go_wp2
              go_roundg (q - (j + 1))
              case measure => omega
              case rel => exact ⟨j + 1, s', X', _, _, by omega, rfl, HM6.out, HU6.out, HD6.out, HC6.out, HF.out, HG1.out, by omega⟩
      · obtain rfl : j = q := by omega
        have HF : Hid (fillV now T s X l = s') := by
          rw [hfl, List.drop_of_length_le (by have := HQ.out; omega)]
          exact rfl
        have HM6 : Hid _ := hM'
        have HC6 : Hid (Chg (fun i => KM B m r w' i ∨ i = uu) w' wr) := hC'
        clear hM' hu' hd' hC' hfl hg'
        go_wp2
        go_ret2
        exact ⟨rfl, ⟨_, _, by rw [HF.out]; exact HM6.out⟩, HC6.out.mono (fun i hi h => h.elim id (fun e => by omega))⟩
end Go.Proofs.Ytdkibcagbidelaa
