/-
  LAYER 12: the reference's Fade; New of both.
-/
import Derived.Test.YtegpamoglifojaaDoorLgF
namespace Go.Proofs.YtegpamoglifojaaDoor
open Go.RowKit Wd Ld Cg Lg

set_option maxRecDepth 20000 in
set_option maxHeartbeats 2000000 in
theorem rfade_led {c : Cf} {f : Int} {B : Nat} {w : World} {d : Nat} {v : Value} {l : List Int} (h : RLed c f B w d v l) (hff : Word f) :
    Calls Tryd.prog 37 #[.pointer (some ⟨d, 0, none⟩)] w fun e w' => e = .returned (.tuple #[]) ∧ RLed c f B w' d v (fadeL f l) ∧ Chg (LK d v) w w' := by
  obtain ⟨q, hq⟩ : ∃ q, l.length = q := ⟨_, rfl⟩
  have hwl := h.wds
  have hfew := h.few
  rw [← fadeJ_all]
  obtain ⟨ao, cp, hv, _, _⟩ := h.shape
  have c0 := RLed.c9 h
  rw [← fadeJ_zero f l] at h
  subst hv
  rw [hq] at h c0 hfew ⊢
  have HH : Hid _ := h
  have HWL : Hid (Wds l) := hwl
  clear h hwl
  go_enter Tryd.func37, Tryd.ntmps37
  go_wp2
  clear c0
  go_loopg [8] q (fun gk pj wr => ∃ j : Nat, j + gk = q ∧ pj = .int .i64 j ∧ RLed c f B wr d (.slice ao q cp) (fadeJ f l j) ∧ Chg (LK d (.slice ao q cp)) w wr)
  case atStart => exact ⟨0, by omega, rfl, HH.out, Chg.refl _ _⟩
  case round =>
    obtain ⟨j, hj, rfl, hL, hC⟩ := hrel
    by_cases hlt : j < q
    · have hlt' : (j : Int) < q := by omega
      obtain ⟨u, hu⟩ : ∃ u, l[j]? = some u := ⟨_, List.getElem?_eq_getElem (by omega)⟩
      have hwu := Wds.get HWL.out hu
      have hju := fadeJ_at (f := f) hu
      have hset := fadeJ_set (f := f) hu
      obtain ⟨g, cp', hv, hc, hz⟩ := hL.at hju
      rw [fadeJ_len, hq] at hv
      cases hv
      have c0 := RLed.c9 hL
      have c2 := RLed.c8 hL
      have hcc := fun w => rfade_any hwu hff w
      have hwy := part_word hwu hff
      generalize partV u f = y at hcc hwy hset
      have HL : Hid (RLed c f B wr d (.slice (some ⟨g, 0, none⟩) q cp) (fadeJ f l j)) := hL
      have HC : Hid _ := hC
      have HS : Hid _ := hset
      have HWY : Hid _ := hwy
      clear hL hC hset hwy hwu hju hu HH
      go_wp2_with fail
      go_region_with (first
        | (go_at_call 61; refine (hcc _).mono ?_; rintro e w2 ⟨rfl, b2⟩; have y0 := cellB b2 c0; have y1 := cellB b2 c2; have y2 := cellB b2 hc; have y3 := (b2.frozen (p := ⟨g, j, none⟩) (World.block_lt_of_cell? _ _ hc)).trans hz))
      all_goals
        have hwr := Lg1.wrote HL.out (by decide) HWY.out rfl b2 (k := j)
        rw [HS.out] at hwr
        have HWR : Hid _ := hwr
        clear hwr
        go_wp2
        go_roundg (q - (j + 1))
        case measure => omega
        case rel => exact ⟨j + 1, by omega, rfl, HWR.out.1, HC.out.trans HWR.out.2 (fun _ _ e => e)⟩
    · obtain rfl : j = q := by omega
      have HL : Hid (RLed c f B wr d (.slice ao j cp) (fadeJ f l j)) := hL
      have HC : Hid _ := hC
      clear hL hC
      go_wp2
      go_end0
      exact ⟨rfl, HL.out, HC.out⟩
end Go.Proofs.YtegpamoglifojaaDoor
