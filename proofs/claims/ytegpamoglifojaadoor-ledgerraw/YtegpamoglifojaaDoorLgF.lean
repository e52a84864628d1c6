/-
  LAYER 12: package ledger and its reference: Clone, Fade.
-/
import Derived.Test.YtegpamoglifojaaDoorLgD
namespace Go.Proofs.YtegpamoglifojaaDoor
open Go.RowKit Wd Ld Cg Lg

theorem Lg1.fresh {T : TypeId} {hd : Value → Array Value} {w w1 : World} {v : Value} {l : List Int} (hw : Wds l) (hf : l.length ≤ 1000000) (hrow : w1.ownsRow w.heap.size 28 1 v l.length (u64s l)) (b : Below w.heap.size w w1) :
    Lg1 T hd w.heap.size (w1.alloc (.cells (hd v) T)) w1.heap.size v l ∧ Below w.heap.size w (w1.alloc (.cells (hd v) T)) :=
  ⟨⟨heap_alloc_new _ _, row_kept hrow ((Below.refl _ w1).alloc (Nat.le_refl _) _), b.size, hw, hf⟩, b.alloc b.size _⟩
set_option maxRecDepth 20000 in
set_option maxHeartbeats 1000000 in
theorem clone_led {n f : Int} {B : Nat} {w : World} {d : Nat} {v : Value} {l : List Int} (h : Led n f B w d v l) :
    Calls Tryd.prog 13 #[.pointer (some ⟨d, 0, none⟩)] w fun e w' => ∃ d' v', e = .returned (.pointer (some ⟨d', 0, none⟩)) ∧ Led n f w.heap.size w' d' v' l ∧ Below w.heap.size w w' := by
  have hd := h.below (drew_below w)
  have hl := list_any hd
  have hw := h.wds
  have hf := h.few
  have S0 : Hid (w.drew.cell? ⟨d, 1, none⟩ = some (.int .i64 n) ∧ w.drew.cell? ⟨d, 2, none⟩ = some (.int .u64 f)) := show _ ∧ _ from ⟨Led.c1 hd, Led.c2 hd⟩
  have HW : Hid _ := hw
  clear h hd hw
  go_enter Tryd.func13, Tryd.ntmps13
  go_wp2_with fail
  go_region_held3 (fun w' => w'.cell? ⟨d, 1, none⟩ = some (.int .i64 n) ∧ w'.cell? ⟨d, 2, none⟩ = some (.int .u64 f)) (first | exact S0.out | exact S1 | exact ⟨allocC _ S1.1, allocC _ S1.2⟩)
    (first
    | (go_at_call 23; refine hl.mono ?_; rintro e w1 ⟨v1, rfl, r1, b1⟩; obtain ⟨ao1, c1, e1⟩ := sl_shape r1; subst e1; have S1 := And.intro (cellB b1 S0.out.1) (cellB b1 S0.out.2)))
  all_goals
    go_wp2
    go_ret
    have hfr := Lg1.fresh (w := w) (T := 50) (hd := pH n f) HW.out hf r1 ((drew_below w).trans b1)
    exact ⟨_, _, rfl, hfr.1, hfr.2⟩
theorem RLed.nine {c : Cf} {f : Int} {B : Nat} {w : World} {d : Nat} {v : Value} {l : List Int} (h : RLed c f B w d v l) :
    w.cell? ⟨d, 0, none⟩ = some (.int .i64 c.nodes) ∧ w.cell? ⟨d, 1, none⟩ = some (.int .i64 c.queue) ∧ w.cell? ⟨d, 2, none⟩ = some (.int .i64 c.limit) ∧ w.cell? ⟨d, 3, none⟩ = some (.int .i64 c.age) ∧ w.cell? ⟨d, 4, none⟩ = some (.int .i64 c.fair) ∧ w.cell? ⟨d, 5, none⟩ = some (.int .i64 c.size) ∧ w.cell? ⟨d, 6, none⟩ = some (.int .i64 c.period) ∧ w.cell? ⟨d, 7, none⟩ = some (.int .i64 c.half) ∧ w.cell? ⟨d, 8, none⟩ = some (.int .u64 f) :=
  ⟨cells_at h.blk rfl, cells_at h.blk rfl, cells_at h.blk rfl, cells_at h.blk rfl, cells_at h.blk rfl, cells_at h.blk rfl, cells_at h.blk rfl, cells_at h.blk rfl, cells_at h.blk rfl⟩
set_option maxRecDepth 20000 in
set_option maxHeartbeats 1000000 in
theorem rclone_led {c : Cf} {f : Int} {B : Nat} {w : World} {d : Nat} {v : Value} {l : List Int} (h : RLed c f B w d v l) :
    Calls Tryd.prog 14 #[.pointer (some ⟨d, 0, none⟩)] w fun e w' => ∃ d' v', e = .returned (.pointer (some ⟨d', 0, none⟩)) ∧ RLed c f w.heap.size w' d' v' l ∧ Below w.heap.size w w' := by
  have hd := h.below (drew_below w)
  have hl := rlist_any hd
  have hw := h.wds
  have hf := h.few
  have S0 : Hid (RLed c f B w.drew d v l) := hd
  have HW : Hid _ := hw
  clear h hd hw
  go_enter Tryd.func14, Tryd.ntmps14
  go_wp2_with fail
  go_region_held3 (fun w' => w'.cell? ⟨d, 0, none⟩ = some (.int .i64 c.nodes) ∧ w'.cell? ⟨d, 1, none⟩ = some (.int .i64 c.queue) ∧ w'.cell? ⟨d, 2, none⟩ = some (.int .i64 c.limit) ∧ w'.cell? ⟨d, 3, none⟩ = some (.int .i64 c.age) ∧ w'.cell? ⟨d, 4, none⟩ = some (.int .i64 c.fair) ∧ w'.cell? ⟨d, 5, none⟩ = some (.int .i64 c.size) ∧ w'.cell? ⟨d, 6, none⟩ = some (.int .i64 c.period) ∧ w'.cell? ⟨d, 7, none⟩ = some (.int .i64 c.half) ∧ w'.cell? ⟨d, 8, none⟩ = some (.int .u64 f))
    (first | exact RLed.nine S0.out | exact RLed.nine S1 | exact RLed.nine (S1.below ((Below.refl _ _).alloc (Nat.le_refl _) _)))
    (first
    | (go_at_call 34; refine hl.mono ?_; rintro e w1 ⟨v1, rfl, r1, b1⟩; obtain ⟨ao1, c1, e1⟩ := sl_shape r1; subst e1; have S1 := Lg1.below S0.out b1))
  all_goals
    go_wp2
    go_ret
    have hfr := Lg1.fresh (w := w) (T := 73) (hd := rH c f) HW.out hf r1 ((drew_below w).trans b1)
    exact ⟨_, _, rfl, hfr.1, hfr.2⟩
/-- The first j have faded. -/
def fadeJ (f : Int) (l : List Int) (j : Nat) : List Int := fadeL f (l.take j) ++ l.drop j
theorem fadeJ_len (f : Int) (l : List Int) (j : Nat) : (fadeJ f l j).length = l.length := by simp [fadeJ, fadeL]; omega
theorem fadeJ_at {f : Int} {l : List Int} {j : Nat} {u : Int} (h : l[j]? = some u) : (fadeJ f l j)[j]? = some u := by
  have hj := (List.getElem?_eq_some_iff.1 h).1
  unfold fadeJ
  rw [List.getElem?_append_right (by simp [fadeL]; omega)]
  simp [fadeL, Nat.min_eq_left (Nat.le_of_lt hj), h]
theorem fadeJ_set {f : Int} {l : List Int} {j : Nat} {u : Int} (h : l[j]? = some u) : (fadeJ f l j).set j (partV u f) = fadeJ f l (j + 1) := by
  obtain ⟨hj, rfl⟩ := List.getElem?_eq_some_iff.1 h
  unfold fadeJ
  have hl : (fadeL f (l.take j)).length = j := by simp [fadeL]; omega
  rw [List.set_append_right _ _ (by omega), hl, Nat.sub_self, List.drop_eq_getElem_cons hj, List.take_succ_eq_append_getElem hj]
  simp only [List.set_cons_zero, fadeL, List.map_append, List.map_cons, List.map_nil, List.append_assoc, List.singleton_append]
theorem fadeJ_zero (f : Int) (l : List Int) : fadeJ f l 0 = l := by simp [fadeJ, fadeL]
theorem fadeJ_all {f : Int} {l : List Int} : fadeJ f l l.length = fadeL f l := by simp [fadeJ]
set_option maxRecDepth 20000 in
set_option maxHeartbeats 2000000 in
theorem fade_led {n f : Int} {B : Nat} {w : World} {d : Nat} {v : Value} {l : List Int} (h : Led n f B w d v l) (hff : Word f) :
    Calls Tryd.prog 24 #[.pointer (some ⟨d, 0, none⟩)] w fun e w' => e = .returned (.tuple #[]) ∧ Led n f B w' d v (fadeL f l) ∧ Chg (LK d v) w w' := by
  obtain ⟨q, hq⟩ : ∃ q, l.length = q := ⟨_, rfl⟩
  have hwl := h.wds
  have hfew := h.few
  rw [← fadeJ_all]
  obtain ⟨ao, cp, hv, _, _⟩ := h.shape
  have c0 := h.c0
  rw [← fadeJ_zero f l] at h
  subst hv
  rw [hq] at h c0 hfew ⊢
  have HH : Hid _ := h
  have HWL : Hid _ := hwl
  clear h hwl
  go_enter Tryd.func24, Tryd.ntmps24
  go_wp2
  clear c0
  go_loopg [10] q (fun gk pj wr => ∃ j : Nat, j + gk = q ∧ pj = .int .i64 j ∧ Led n f B wr d (.slice ao q cp) (fadeJ f l j) ∧ Chg (LK d (.slice ao q cp)) w wr)
  case atStart => exact ⟨0, by omega, rfl, HH.out, Chg.refl _ _⟩
  case round =>
    obtain ⟨j, hj, rfl, hL, hC⟩ := hrel
    by_cases hlt : j < q
    · have hlt' : (j : Int) < q := by omega
      obtain ⟨u, hu⟩ : ∃ u, l[j]? = some u := ⟨_, List.getElem?_eq_getElem (by omega)⟩
      have hwu := Wds.get HWL.out hu
      have hju := fadeJ_at (f := f) hu
      have hset := fadeJ_set (f := f) hu
      obtain ⟨g, cp', hv, hc, hz⟩ := hL.at hju
      rw [fadeJ_len, hq] at hv
      cases hv
      have c0 := Led.c0 hL
      have c2 := Led.c2 hL
      have hcc := fun w => fade_any hwu hff w
      have hwy := part_word hwu hff
      generalize partV u f = y at hcc hwy hset
      have HL : Hid (Led n f B wr d (.slice (some ⟨g, 0, none⟩) q cp) (fadeJ f l j)) := hL
      have HC : Hid _ := hC
      have HS : Hid _ := hset
      have HWY : Hid _ := hwy
      clear hL hC hset hwy hwu hju hu HH
      go_wp2_with fail
      go_region_with (first
        | (go_at_call 45; refine (hcc _).mono ?_; rintro e w2 ⟨rfl, b2⟩; have y0 := cellB b2 c0; have y1 := cellB b2 c2; have y2 := cellB b2 hc; have y3 := (b2.frozen (p := ⟨g, j, none⟩) (World.block_lt_of_cell? _ _ hc)).trans hz))
      all_goals
        have hwr := Lg1.wrote HL.out (by decide) HWY.out rfl b2 (k := j)
        rw [HS.out] at hwr
        have HWR : Hid _ := hwr
        clear hwr
        go_wp2
        go_roundg (q - (j + 1))
        case measure => omega
        case rel => exact ⟨j + 1, by omega, rfl, HWR.out.1, HC.out.trans HWR.out.2 (fun _ _ e => e)⟩
    · obtain rfl : j = q := by omega
      have HL : Hid (Led n f B wr d (.slice ao j cp) (fadeJ f l j)) := hL
      have HC : Hid _ := hC
      clear hL hC
      go_wp2
      go_end0
      exact ⟨rfl, HL.out, HC.out⟩
end Go.Proofs.YtegpamoglifojaaDoor
