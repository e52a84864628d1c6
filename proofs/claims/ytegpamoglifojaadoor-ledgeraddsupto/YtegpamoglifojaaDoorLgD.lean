/-
  LAYER 12: package ledger and its reference: Charge.
-/
import Derived.Test.YtegpamoglifojaaDoorLgb
namespace Go.Proofs.YtegpamoglifojaaDoor
open Go.RowKit Wd Ld Cg Lg

theorem chV_chN {u n : Int} (h : 0 ≤ n) : chV u n = chN u n := by unfold chV chN; rw [if_neg (by omega)]
theorem chg_no1 {l : List Int} {N a n : Int} (h : okA l a = false) : chgE l N a n = 120 ∧ chgL l N a n = l := by
  unfold chgE chgL; simp [h]
theorem chg_no2 {l : List Int} {N a n : Int} (h : okA l a = true) (h2 : ¬ (0 ≤ n ∧ n ≤ N)) : chgE l N a n = 1 ∧ chgL l N a n = l := by
  unfold chgE chgL; rw [if_pos h, if_neg h2, if_neg (fun x => h2 x.2)]; exact ⟨rfl, rfl⟩
theorem chg_yes {l : List Int} {N n : Int} {k : Nat} {u : Int} (h : l[k]? = some u) (h0 : 0 ≤ n) (h1 : n ≤ N) : chgE l N k n = 0 ∧ chgL l N k n = l.set k (chN u n) := by
  have hk := (List.getElem?_eq_some_iff.1 h).1
  have ho : okA l k = true := okA_of (by omega) (by omega)
  unfold chgE chgL
  rw [if_pos ho, if_pos ⟨h0, h1⟩, if_pos ⟨ho, h0, h1⟩]
  simp [h]
theorem Lg1.wrote {T : TypeId} {hd : Value → Array Value} {B : Nat} {W w2 : World} {d : Nat} {v : Value} {l : List Int} (h : Lg1 T hd B W d v l) (hT : T ≠ 28) {g k : Nat} {x : Int} (hx : Word x) (hg : v.ownBlock = some g) (b : Below W.drew.heap.size W.drew w2) :
    Lg1 T hd B (w2.setCell ⟨g, k, none⟩ (.int .u64 x)) d v (l.set k x) ∧ Chg (LK d v) W (w2.setCell ⟨g, k, none⟩ (.int .u64 x)) := by
  have h2 := ((h.below (drew_below W)).below b).set hT (k := k) hx hg
  exact ⟨h2.1, ((Chg.of_below (drew_below W) (LK d v)).trans (Chg.of_below b (LK d v)) (fun _ _ e => e)).trans h2.2 (fun _ _ e => e)⟩
set_option maxRecDepth 20000 in
set_option maxHeartbeats 1000000 in
theorem charge_led {n f : Int} {B : Nat} {w : World} {d : Nat} {v : Value} {l : List Int} (h : Led n f B w d v l) (hn : n < 9223372036854775808) (a x : Int) :
    Calls Tryd.prog 25 #[.pointer (some ⟨d, 0, none⟩), .int .i64 a, .int .i64 x] w fun e w' => e = .returned (.int .i64 (chgE l n a x)) ∧ Led n f B w' d v (chgL l n a x) ∧ Chg (LK d v) w w' := by
  have hh := has_any h a
  cases hb : okA l a with
  | false =>
    obtain ⟨e1, e2⟩ := chg_no1 (N := n) (n := x) hb
    rw [e1, e2]
    rw [hb] at hh
    have HL : Hid (Led n f B w d v l) := h
    clear h
    go_enter Tryd.func25, Tryd.ntmps25
    go_wp2_with fail
    refine hh.mono ?_
    rintro e w1 ⟨rfl, rfl⟩
    go_wp2
    go_ret
    exact ⟨rfl, HL.out, Chg.refl _ _⟩
  | true =>
    rw [hb] at hh
    have c1 := h.c1
    by_cases hx0 : x < 0
    · obtain ⟨e1, e2⟩ := chg_no2 (N := n) (n := x) hb (by omega)
      rw [e1, e2]
      have HL : Hid (Led n f B w d v l) := h
      clear h
      go_enter Tryd.func25, Tryd.ntmps25
      go_wp2_with fail
      refine hh.mono ?_
      rintro e w1 ⟨rfl, rfl⟩
      go_wp2
      go_ret
      exact ⟨rfl, HL.out, Chg.refl _ _⟩
    · by_cases hx1 : n < x
      · obtain ⟨e1, e2⟩ := chg_no2 (N := n) (n := x) hb (by omega)
        rw [e1, e2]
        have HL : Hid (Led n f B w d v l) := h
        clear h
        go_enter Tryd.func25, Tryd.ntmps25
        go_wp2_with fail
        refine hh.mono ?_
        rintro e w1 ⟨rfl, rfl⟩
        go_wp2
        go_ret
        exact ⟨rfl, HL.out, Chg.refl _ _⟩
      · obtain ⟨h0, h1⟩ := okA_iff.1 hb
        obtain ⟨k, rfl⟩ : ∃ k : Nat, a = k := ⟨a.toNat, by omega⟩
        obtain ⟨u, hu⟩ : ∃ u, l[k]? = some u := ⟨_, List.getElem?_eq_getElem (by omega)⟩
        obtain ⟨e1, e2⟩ := chg_yes (N := n) (n := x) hu (by omega) (by omega)
        rw [e1, e2]
        have hwu := h.wds.get hu
        have hcc := fun w => charge_any (n := x) hwu (by omega) w
        rw [chV_chN (by omega)] at hcc
        have hwc := chN_word hwu (n := x) (by omega)
        generalize chN u x = y at hcc hwc
        obtain ⟨g, cp, rfl, hc, hz⟩ := h.at hu
        have c0 := h.c0
        have HH : Hid (Led n f B w d (.slice (some ⟨g, 0, none⟩) l.length cp) l) := h
        have HD : Hid (Led n f B w.drew d (.slice (some ⟨g, 0, none⟩) l.length cp) l) := show Led n f B w.drew d (.slice (some ⟨g, 0, none⟩) l.length cp) l from h.below (drew_below w)
        have HWC : Hid _ := hwc
        clear h hu hwu hwc HD
        go_enter Tryd.func25, Tryd.ntmps25
        go_wp2_with fail
        refine hh.mono ?_
        rintro e w1 ⟨rfl, rfl⟩
        go_wp2_with fail
        go_region_with (first
          | (go_at_call 47; refine (hcc _).mono ?_; rintro e w2 ⟨rfl, b2⟩; have y0 := cellB b2 c0; have y1 := cellB b2 hc; have y2 := (b2.frozen (p := ⟨g, k, none⟩) (World.block_lt_of_cell? _ _ hc)).trans hz))
        all_goals (go_wp2; go_ret; exact ⟨rfl, Lg1.wrote HH.out (by decide) HWC.out rfl b2⟩)
set_option maxRecDepth 20000 in
set_option maxHeartbeats 1000000 in
theorem rcharge_led {c : Cf} {f : Int} {B : Nat} {w : World} {d : Nat} {v : Value} {l : List Int} (h : RLed c f B w d v l) (hn : c.nodes < 9223372036854775808) (a x : Int) :
    Calls Tryd.prog 36 #[.pointer (some ⟨d, 0, none⟩), .int .i64 a, .int .i64 x] w fun e w' => e = .returned (.int .i64 (chgE l c.nodes a x)) ∧ RLed c f B w' d v (chgL l c.nodes a x) ∧ Chg (LK d v) w w' := by
  by_cases h0 : a < 0
  · obtain ⟨e1, e2⟩ := chg_no1 (N := c.nodes) (n := x) (okA_lo (l := l) (a := a) (by omega))
    rw [e1, e2]
    have HL : Hid (RLed c f B w d v l) := h
    clear h
    go_enter Tryd.func36, Tryd.ntmps36
    go_wp2
    go_ret
    exact ⟨rfl, HL.out, Chg.refl _ _⟩
  obtain ⟨ao, cp, rfl, _, _⟩ := h.shape
  have c9 := RLed.c9 h
  have c0 := RLed.c0 h
  by_cases h1 : a < l.length
  · have hb := okA_of (l := l) (a := a) (by omega) h1
    by_cases hx0 : x < 0
    · obtain ⟨e1, e2⟩ := chg_no2 (N := c.nodes) (n := x) hb (by omega)
      rw [e1, e2]
      have HL : Hid (RLed c f B w d (.slice ao l.length cp) l) := h
      clear h
      go_enter Tryd.func36, Tryd.ntmps36
      go_wp2
      go_ret
      exact ⟨rfl, HL.out, Chg.refl _ _⟩
    · by_cases hx1 : c.nodes < x
      · obtain ⟨e1, e2⟩ := chg_no2 (N := c.nodes) (n := x) hb (by omega)
        rw [e1, e2]
        have HL : Hid (RLed c f B w d (.slice ao l.length cp) l) := h
        clear h
        go_enter Tryd.func36, Tryd.ntmps36
        go_wp2
        go_ret
        exact ⟨rfl, HL.out, Chg.refl _ _⟩
      · obtain ⟨k, rfl⟩ : ∃ k : Nat, a = k := ⟨a.toNat, by omega⟩
        obtain ⟨u, hu⟩ : ∃ u, l[k]? = some u := ⟨_, List.getElem?_eq_getElem (by omega)⟩
        obtain ⟨e1, e2⟩ := chg_yes (N := c.nodes) (n := x) hu (by omega) (by omega)
        rw [e1, e2]
        have hwu := h.wds.get hu
        have hcc := fun w => rcharge_any (n := x) hwu (by omega) w
        rw [chV_chN (by omega)] at hcc
        have hwc := chN_word hwu (n := x) (by omega)
        generalize chN u x = y at hcc hwc
        obtain ⟨g, cp', hv, hc, hz⟩ := h.at hu
        cases hv
        have HH : Hid (RLed c f B w d (.slice (some ⟨g, 0, none⟩) l.length cp) l) := h
        have HWC : Hid _ := hwc
        clear h hu hwu hwc
        go_enter Tryd.func36, Tryd.ntmps36
        go_wp2_with fail
        go_region_with (first
          | (go_at_call 60; refine (hcc _).mono ?_; rintro e w2 ⟨rfl, b2⟩; have y0 := cellB b2 c9; have y1 := cellB b2 hc; have y2 := (b2.frozen (p := ⟨g, k, none⟩) (World.block_lt_of_cell? _ _ hc)).trans hz))
        all_goals (go_wp2; go_ret; exact ⟨rfl, Lg1.wrote HH.out (by decide) HWC.out rfl b2⟩)
  · obtain ⟨e1, e2⟩ := chg_no1 (N := c.nodes) (n := x) (okA_hi (l := l) (a := a) h1)
    rw [e1, e2]
    have HL : Hid (RLed c f B w d (.slice ao l.length cp) l) := h
    clear h
    go_enter Tryd.func36, Tryd.ntmps36
    go_wp2
    go_ret
    exact ⟨rfl, HL.out, Chg.refl _ _⟩
end Go.Proofs.YtegpamoglifojaaDoor
