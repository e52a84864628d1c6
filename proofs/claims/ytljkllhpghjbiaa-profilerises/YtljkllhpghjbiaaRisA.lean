/-
  ProfileRises, walked.
-/
import Derived.Test.YtljkllhpghjbiaaShown
import Derived.Test.YtljkllhpghjbiaaPrS
namespace Go.Proofs.Ytljkllhpghjbiaa
open Go.RowKit Pr

namespace Pr
theorem from_all {free : Int} {l : List Rn} : ∀ a, ∃ s, (fromV free l a).getLast? = some s ∧ s.fr = free + sumN l := by
  refine from_ind (l := l) (fun a h => ?_) (fun a n h ih => ?_)
  · rw [from_none h]
    exact ⟨_, rfl, by show atV free l a = _; rw [at_su, su_all (next_none h)]⟩
  · rw [from_some h]
    obtain ⟨s, h1, h2⟩ := ih
    exact ⟨s, by rw [List.getLast?_cons, h1]; rfl, h2⟩
theorem shA_parts (need : Int) (o : Option Stp) : ∃ xa xm xb, shA need o = .tuple #[.int .i64 xa, .int .i64 xm, .bool xb] ∧ ((o = none ∧ xa = 0 ∧ xm = 0 ∧ xb = false) ∨ ∃ s, o = some s ∧ xa = s.at_ ∧ xm = s.fr - need ∧ xb = true) := by
  cases o with
  | none => exact ⟨0, 0, false, rfl, .inl ⟨rfl, rfl, rfl, rfl⟩⟩
  | some s => exact ⟨_, _, _, rfl, .inr ⟨s, rfl, rfl, rfl, rfl⟩⟩
/-- Where the first that has enough stands, as the walk finds it. -/
def FirstI (need : Int) (S : List Stp) (j : Nat) (fi : Int) : Prop :=
  (fi = -1 ∧ (0 ≤ need → firstV need S = firstV need (S.drop j))) ∨ ∃ (k : Nat) (s : Stp), fi = k ∧ k < S.length ∧ 0 ≤ need ∧ need ≤ s.fr ∧ S[k]? = some s ∧ firstV need S = some s
theorem FirstI.no {need fi : Int} {S : List Stp} {j : Nat} {s : Stp} (h : FirstI need S j fi) (hs : S[j]? = some s) (hn : ¬ (fi < 0 ∧ 0 ≤ need ∧ need ≤ s.fr)) : FirstI need S (j + 1) fi := by
  rcases h with ⟨rfl, h⟩ | h
  · refine .inl ⟨rfl, fun h0 => ?_⟩
    rw [h h0, first_step hs, if_neg (by omega)]
  · exact .inr h
theorem FirstI.yes {need fi : Int} {S : List Stp} {j : Nat} {s : Stp} (h : FirstI need S j fi) (hs : S[j]? = some s) (h1 : fi < 0) (h2 : 0 ≤ need) (h3 : need ≤ s.fr) : FirstI need S (j + 1) j := by
  rcases h with ⟨rfl, h⟩ | ⟨k, u, rfl, _⟩
  · refine .inr ⟨j, s, rfl, (List.getElem?_eq_some_iff.1 hs).1, h2, h3, hs, ?_⟩
    rw [h h2, first_step hs, if_pos h3]
  · omega
theorem first_end {need fi xa xm : Int} {S : List Stp} {q : Nat} {xb : Bool} {o : Option Stp} (h : FirstI need S q fi) (hq : S.length = q) (ho : o = if 0 ≤ need then firstV need S else none)
    (hx : (o = none ∧ xa = 0 ∧ xm = 0 ∧ xb = false) ∨ ∃ s, o = some s ∧ xa = s.at_ ∧ xm = s.fr - need ∧ xb = true) :
    (xb = false ∧ fi = -1) ∨ ∃ (k : Nat) (s : Stp), xb = true ∧ fi = k ∧ k < q ∧ 0 ≤ need ∧ need ≤ s.fr ∧ S[k]? = some s ∧ xa = s.at_ ∧ xm = s.fr - need := by
  rcases h with ⟨rfl, h⟩ | ⟨k, s, rfl, hk, h0, h00, hs, hf⟩
  · have e : o = none := by
      rw [ho]
      split
      · rename_i h0
        rw [h h0, List.drop_of_length_le (by omega)]; rfl
      · rfl
    rcases hx with ⟨_, _, _, hb⟩ | ⟨s, hs, _⟩
    · exact .inl ⟨hb, rfl⟩
    · rw [e] at hs; cases hs
  · rw [if_pos h0, hf] at ho
    rcases hx with ⟨h1, _⟩ | ⟨u, hu, h1, h2, h3⟩
    · rw [ho] at h1; cases h1
    · rw [ho] at hu; cases hu
      exact .inr ⟨k, s, h3, rfl, by omega, h0, h00, hs, h1, h2⟩
end Pr

set_option maxHeartbeats 8000000 in
set_option maxRecDepth 20000 in
theorem rises_walk {w : World} {ao : Option Addr} {l : List Rn} {c : Nat} (hA : RunsAt w ao l) (hn : l.length * 16 + 16 ≤ 140737488355328) (now free t need : Int) :
    Calls Try.prog 5 #[.int .i64 now, .int .i64 free, .slice ao l.length c, .int .i64 t, .int .i64 need] w fun e w' => e = .returned (.bool true) ∧ Below w.heap.size w w' := by
  go_enter Try.func5, Try.ntmps5
  go_wp2_with fail
  refine (shown_any _).mono ?_
  rintro e w1 ⟨rfl, b1⟩
  go_wp2_with fail
  refine (psteps_any (hA.below b1) hn now free).mono ?_
  rintro e w2 ⟨v, rfl, hrow, b2⟩
  have B2 := b1.trans (b2.mono b1.size)
  have hst := stepsAt_row hrow
  clear hrow
  go_wp2_with fail
  refine (pshadow_any (hA.below B2) hn now free need).mono ?_
  by_cases hr : right free l = true
  · obtain ⟨⟨f0, f1⟩, hok⟩ : (0 ≤ free ∧ free ≤ 256) ∧ l.all okR = true := by simpa [right, okF] using hr
    have hS : stepsV now free l = fromV free l now := by unfold stepsV fromV; rw [if_pos hr]
    have hlen : 0 < (stepsV now free l).length := by rw [hS]; simp [fromV]
    have hsl := steps_len now free l
    have hwant := want_at (now := now) (t := t) hr
    have hlast : ∃ s, (stepsV now free l).getLast? = some s ∧ s.fr = free + sumN l := by rw [hS]; exact from_all now
    have hfirst : (stepsV now free l)[0]? = some ⟨now, atV free l now⟩ := by rw [hS]; rfl
    have hrise : ∀ i s t, (stepsV now free l)[i]? = some s → (stepsV now free l)[i + 1]? = some t → s.at_ < t.at_ ∧ s.fr < t.fr := by rw [hS]; exact from_rise hok now
    have hsh : shadowV now free l need = if 0 ≤ need then firstV need (stepsV now free l) else none := by unfold shadowV; by_cases h : 0 ≤ need <;> simp [hr, h]
    have hsb : ∀ s ∈ stepsV now free l, 0 ≤ s.fr ∧ s.fr ≤ 256 + 256 * l.length := steps_bound
    obtain ⟨xa, xm, xb, hx, hxx⟩ := shA_parts need (shadowV now free l need)
    rw [hx]
    rintro e w3 ⟨rfl, b3⟩
    have B3 := B2.trans (b3.mono B2.size)
    have st3 := hst.below b3
    obtain ⟨S, hSS⟩ : ∃ S, stepsV now free l = S := ⟨_, rfl⟩
    rw [hSS] at hlen hsl hwant hlast hfirst hrise hsh hsb st3
    obtain ⟨ao2, cap2, g2, rfl, hg2, hc2⟩ := st3
    obtain rfl := hg2 hlen
    obtain ⟨q, hq⟩ : ∃ q, S.length = q := ⟨_, rfl⟩
    obtain ⟨q1, hq1⟩ : ∃ q1, l.length = q1 := ⟨_, rfl⟩
    have hA3 := hA.below B3
    have HA3 : Hid (RunsAt w3 ao l) := hA3
    have HSB : Hid _ := hsb
    have HR : Hid _ := hr
    have HSH : Hid _ := hsh
    have HXX : Hid _ := hxx
    have HWA : Hid _ := hwant
    have HRI : Hid _ := hrise
    have HLA : Hid _ := hlast
    clear hr hsh hxx hwant hrise hlast hS hSS hst hx hg2 b1 b2 b3 B2 hA
    obtain ⟨g1, o1, hg1, hc1⟩ := hA3
    rw [hq] at hlen hsl ⊢
    rw [hq1] at hg1 hn hsl hsb ⊢
    have hne : ¬ (q : Int) = 0 := by omega
    go_wp2_with fail
    go_loopg [15, 16] q1 (fun gk p i wr => ∃ (j : Nat) (x : Int), j + gk = q1 ∧ p = .int .i64 x ∧ i = .int .i64 j ∧ w3 = wr ∧ x = free + sumN (l.take j))
    case atStart => exact ⟨0, free, by omega, rfl, rfl, rfl, by simp [sumN]⟩
    case round =>
      obtain ⟨j, x, hj, rfl, rfl, rfl, hx⟩ := hrel
      by_cases hlt : j < q1
      · obtain ⟨r, hr⟩ : ∃ r, l[j]? = some r := ⟨_, List.getElem?_eq_getElem (by omega)⟩
        obtain rfl := hg1 (by omega)
        obtain ⟨d1, _⟩ := hc1 j r hr
        have e1 := sumN_take hr
        have e2 := sumN_bound (take_all hok (j + 1))
        rw [List.length_take] at e2
        have e3 := sumN_bound (take_all hok j)
        rw [List.length_take] at e3
        have hok' := List.all_eq_true.1 hok r (List.mem_of_getElem? hr)
        have := okR_le hok'
        have x0 : 0 ≤ x := by omega
        have x1 : x ≤ 256 + 256 * q1 := by omega
        have HX : Hid (x + r.nd = free + sumN (l.take (j + 1))) := show x + r.nd = free + sumN (l.take (j + 1)) by omega
        clear hx e1 e2 e3 hc1 hg1 hr
        go_wp2_with fail
        go_roundg (q1 - (j + 1))
        case measure => omega
        case rel => exact ⟨j + 1, _, by omega, rfl, rfl, rfl, HX.out⟩
      · obtain rfl : j = q1 := by omega
        rw [List.take_of_length_le (by omega)] at hx
        obtain ⟨p, rfl⟩ : ∃ p, q = p + 1 := ⟨q - 1, by omega⟩
        obtain ⟨z, hz1, hz2⟩ := HLA.out
        rw [List.getLast?_eq_getElem?, hq, Nat.add_sub_cancel] at hz1
        obtain ⟨c1, c2⟩ := hc2 0 _ hfirst
        obtain ⟨c3, c4⟩ := hc2 p _ hz1
        rw [← hx] at hz2
        rw [hz2] at c4
        simp only [Nat.zero_mul, Nat.zero_add] at c1 c2
        have HC2 : Hid _ := hc2
        clear hx hz2 HLA hc2 hc1 hg1 hsb
        go_wp2_with fail
        clear c1 c2 c3 c4 hfirst hz1
        go_loopg [17, 18, 19] (p + 1) (fun gk wv fv iv wr => ∃ (m : Nat) (y fi : Int), m + gk = p + 1 ∧ wv = .int .i64 y ∧ fv = .int .i64 fi ∧ iv = .int .i64 m ∧ Below w3.heap.size w3 wr ∧ wantV t y (S.drop m) = AtV now free l t ∧ FirstI need S m fi)
        case atStart => exact ⟨0, 0, -1, by omega, rfl, rfl, rfl, Below.refl _ _, by simpa using HWA.out, .inl ⟨rfl, fun _ => by simp⟩⟩
        case round =>
          obtain ⟨m, y, fi, hm, rfl, rfl, rfl, hbw, hwa, hfi⟩ := hrel
          by_cases hlt : m < p + 1
          · obtain ⟨s, hs⟩ : ∃ s, S[m]? = some s := ⟨_, List.getElem?_eq_getElem (by omega)⟩
            obtain ⟨d1, d2⟩ := HC2.out m s hs
            replace d1 := cellB hbw d1
            replace d2 := cellB hbw d2
            obtain ⟨s0, s1⟩ := HSB.out s (List.mem_of_getElem? hs)
            rw [want_step hs] at hwa
            have HF : ¬ (fi < 0 ∧ 0 ≤ need ∧ need ≤ s.fr) → Hid (FirstI need S (m + 1) fi) := fun h => hfi.no hs h
            have HG : fi < 0 → 0 ≤ need → need ≤ s.fr → Hid (FirstI need S (m + 1) m) := fun h1 h2 h3 => hfi.yes hs h1 h2 h3
            have HW1 : s.at_ ≤ t → Hid (wantV t s.fr (S.drop (m + 1)) = AtV now free l t) := fun h => by rw [if_pos h] at hwa; exact hwa
            have HW2 : ¬ s.at_ ≤ t → Hid (wantV t y (S.drop (m + 1)) = AtV now free l t) := fun h => by rw [if_neg h] at hwa; exact hwa
            clear hfi hwa
            rcases m with _ | k
            · simp only [Nat.zero_mul, Nat.zero_add] at d1 d2
              clear hs
              have HBW : Hid (Below w3.heap.size w3 wr) := hbw
              clear hbw
              go_wp2_with fail
              go_quiet (fail)
              by_cases a1 : s.at_ ≤ t
              · have H1 := HW1 a1
                by_cases a3 : fi < 0
                · by_cases a4 : 0 ≤ need
                  · by_cases a5 : need ≤ s.fr
                    · have H2 := HG a3 a4 a5
                      clear HF HG HW1 HW2
                      go_wp2
                      go_roundg (p + 1 - (0 + 1))
                      case measure => omega
                      case rel => exact ⟨0 + 1, s.fr, ((0 : Nat) : Int), by omega, rfl, rfl, by simp, HBW.out.trans ((drew_below wr _).mono HBW.out.size), H1.out, H2.out⟩
                    · have H2 := HF (by omega)
                      clear HF HG HW1 HW2
                      go_wp2
                      go_roundg (p + 1 - (0 + 1))
                      case measure => omega
                      case rel => exact ⟨0 + 1, s.fr, fi, by omega, rfl, rfl, by simp, HBW.out.trans ((drew_below wr _).mono HBW.out.size), H1.out, H2.out⟩
                  · have H2 := HF (by omega)
                    clear HF HG HW1 HW2
                    go_wp2
                    go_roundg (p + 1 - (0 + 1))
                    case measure => omega
                    case rel => exact ⟨0 + 1, s.fr, fi, by omega, rfl, rfl, by simp, HBW.out.trans ((drew_below wr _).mono HBW.out.size), H1.out, H2.out⟩
                · have H2 := HF (by omega)
                  clear HF HG HW1 HW2
                  go_wp2
                  go_roundg (p + 1 - (0 + 1))
                  case measure => omega
                  case rel => exact ⟨0 + 1, s.fr, fi, by omega, rfl, rfl, by simp, HBW.out.trans ((drew_below wr _).mono HBW.out.size), H1.out, H2.out⟩
              · have H1 := HW2 (by omega)
                by_cases a3 : fi < 0
                · by_cases a4 : 0 ≤ need
                  · by_cases a5 : need ≤ s.fr
                    · have H2 := HG a3 a4 a5
                      clear HF HG HW1 HW2
                      go_wp2
                      go_roundg (p + 1 - (0 + 1))
                      case measure => omega
                      case rel => exact ⟨0 + 1, y, ((0 : Nat) : Int), by omega, rfl, rfl, by simp, HBW.out.trans ((drew_below wr _).mono HBW.out.size), H1.out, H2.out⟩
                    · have H2 := HF (by omega)
                      clear HF HG HW1 HW2
                      go_wp2
                      go_roundg (p + 1 - (0 + 1))
                      case measure => omega
                      case rel => exact ⟨0 + 1, y, fi, by omega, rfl, rfl, by simp, HBW.out.trans ((drew_below wr _).mono HBW.out.size), H1.out, H2.out⟩
                  · have H2 := HF (by omega)
                    clear HF HG HW1 HW2
                    go_wp2
                    go_roundg (p + 1 - (0 + 1))
                    case measure => omega
                    case rel => exact ⟨0 + 1, y, fi, by omega, rfl, rfl, by simp, HBW.out.trans ((drew_below wr _).mono HBW.out.size), H1.out, H2.out⟩
                · have H2 := HF (by omega)
                  clear HF HG HW1 HW2
                  go_wp2
                  go_roundg (p + 1 - (0 + 1))
                  case measure => omega
                  case rel => exact ⟨0 + 1, y, fi, by omega, rfl, rfl, by simp, HBW.out.trans ((drew_below wr _).mono HBW.out.size), H1.out, H2.out⟩
            · obtain ⟨u, hu⟩ : ∃ u, S[k]? = some u := ⟨_, List.getElem?_eq_getElem (by omega)⟩
              obtain ⟨d3, d4⟩ := HC2.out k u hu
              replace d3 := cellB hbw d3
              replace d4 := cellB hbw d4
              obtain ⟨r1, r2⟩ := HRI.out k u s hu hs
              have k1 : k < p + 1 := by omega
              have k2 : (k : Int) < (p : Int) + 1 := by omega
              have k3 : IntKind.i64.wrap (k : Int) = k := by rw [IntKind.wrap_i64]; omega
              have k5 : (0 : Int) ≤ (k : Int) + 1 := by omega
              have r3 : ¬ s.at_ ≤ u.at_ := by omega
              have r4 : ¬ s.fr ≤ u.fr := by omega
              have k4 : (k : Int) + 1 - 1 = k := by omega
              clear hs hu
              have HBW : Hid (Below w3.heap.size w3 wr) := hbw
              clear hbw
              go_wp2_with fail
              go_quiet (fail)
              by_cases a1 : s.at_ ≤ t
              · have H1 := HW1 a1
                by_cases a3 : fi < 0
                · by_cases a4 : 0 ≤ need
                  · by_cases a5 : need ≤ s.fr
                    · have H2 := HG a3 a4 a5
                      clear HF HG HW1 HW2
                      go_wp2
                      go_roundg (p + 1 - ((k + 1) + 1))
                      case measure => omega
                      case rel => exact ⟨(k + 1) + 1, s.fr, (((k + 1) : Nat) : Int), by omega, rfl, rfl, by simp, HBW.out.trans ((drew_below wr _).mono HBW.out.size), H1.out, H2.out⟩
                    · have H2 := HF (by omega)
                      clear HF HG HW1 HW2
                      go_wp2
                      go_roundg (p + 1 - ((k + 1) + 1))
                      case measure => omega
                      case rel => exact ⟨(k + 1) + 1, s.fr, fi, by omega, rfl, rfl, by simp, HBW.out.trans ((drew_below wr _).mono HBW.out.size), H1.out, H2.out⟩
                  · have H2 := HF (by omega)
                    clear HF HG HW1 HW2
                    go_wp2
                    go_roundg (p + 1 - ((k + 1) + 1))
                    case measure => omega
                    case rel => exact ⟨(k + 1) + 1, s.fr, fi, by omega, rfl, rfl, by simp, HBW.out.trans ((drew_below wr _).mono HBW.out.size), H1.out, H2.out⟩
                · have H2 := HF (by omega)
                  clear HF HG HW1 HW2
                  go_wp2
                  go_roundg (p + 1 - ((k + 1) + 1))
                  case measure => omega
                  case rel => exact ⟨(k + 1) + 1, s.fr, fi, by omega, rfl, rfl, by simp, HBW.out.trans ((drew_below wr _).mono HBW.out.size), H1.out, H2.out⟩
              · have H1 := HW2 (by omega)
                by_cases a3 : fi < 0
                · by_cases a4 : 0 ≤ need
                  · by_cases a5 : need ≤ s.fr
                    · have H2 := HG a3 a4 a5
                      clear HF HG HW1 HW2
                      go_wp2
                      go_roundg (p + 1 - ((k + 1) + 1))
                      case measure => omega
                      case rel => exact ⟨(k + 1) + 1, y, (((k + 1) : Nat) : Int), by omega, rfl, rfl, by simp, HBW.out.trans ((drew_below wr _).mono HBW.out.size), H1.out, H2.out⟩
                    · have H2 := HF (by omega)
                      clear HF HG HW1 HW2
                      go_wp2
                      go_roundg (p + 1 - ((k + 1) + 1))
                      case measure => omega
                      case rel => exact ⟨(k + 1) + 1, y, fi, by omega, rfl, rfl, by simp, HBW.out.trans ((drew_below wr _).mono HBW.out.size), H1.out, H2.out⟩
                  · have H2 := HF (by omega)
                    clear HF HG HW1 HW2
                    go_wp2
                    go_roundg (p + 1 - ((k + 1) + 1))
                    case measure => omega
                    case rel => exact ⟨(k + 1) + 1, y, fi, by omega, rfl, rfl, by simp, HBW.out.trans ((drew_below wr _).mono HBW.out.size), H1.out, H2.out⟩
                · have H2 := HF (by omega)
                  clear HF HG HW1 HW2
                  go_wp2
                  go_roundg (p + 1 - ((k + 1) + 1))
                  case measure => omega
                  case rel => exact ⟨(k + 1) + 1, y, fi, by omega, rfl, rfl, by simp, HBW.out.trans ((drew_below wr _).mono HBW.out.size), H1.out, H2.out⟩
          · obtain rfl : m = p + 1 := by omega
            rw [List.drop_of_length_le (by omega)] at hwa
            have hat := pat_any (c := c) (RunsAt.below HA3.out hbw) (by rw [hq1]; exact hn) now free t
            rw [hq1, ← hwa] at hat
            have hfe := first_end hfi hq HSH.out HXX.out
            clear hwa hfi
            go_wp2_with fail
            refine hat.mono ?_
            rintro e w4 ⟨rfl, b4⟩
            have B4 := B3.trans ((hbw.trans (b4.mono hbw.size)).mono B3.size)
            have B5 := hbw.trans (b4.mono hbw.size)
            rcases hfe with ⟨rfl, rfl⟩ | ⟨k, s, rfl, rfl, hk, h0, h00, hs, rfl, rfl⟩
            · unfold wantV
              go_wp2_with fail
              go_ret
              exact ⟨rfl, B4⟩
            · obtain ⟨d1, d2⟩ := HC2.out k s hs
              replace d1 := cellB B5 d1
              replace d2 := cellB B5 d2
              obtain ⟨s0, s1⟩ := HSB.out s (List.mem_of_getElem? hs)
              rw [hq1] at s1
              have s2 : s.fr - need ≤ 9007199254740992 := by omega
              have s3 : 0 ≤ s.fr - need := by omega
              unfold wantV
              clear hs
              go_wp2_with fail
              go_ret
              exact ⟨rfl, B4⟩
  · have hS : stepsV now free l = [] := by unfold stepsV; rw [if_neg hr]
    have hsh : shadowV now free l need = none := by unfold shadowV; rw [if_neg (by simp [hr])]
    have hat : AtV now free l t = 0 := by unfold AtV; rw [if_neg (by simp [hr])]
    rw [hsh]
    rintro e w3 ⟨rfl, b3⟩
    have B3 := B2.trans (b3.mono B2.size)
    unfold shA
    obtain ⟨ao2, cap2, g2, rfl, _, _⟩ := hst
    rw [hS, List.length_nil]
    go_wp2_with fail
    refine (pat_any (hA.below B3) hn now free t).mono ?_
    rw [hat]
    rintro e w4 ⟨rfl, b4⟩
    go_wp2
    go_ret
    exact ⟨rfl, B3.trans (b4.mono B3.size)⟩
end Go.Proofs.Ytljkllhpghjbiaa
