/-
  LAYER 12, LedgerScript: same, act.
-/
import Derived.Test.YtegpamoglifojaaDoorLwB
namespace Go.Proofs.YtegpamoglifojaaDoor
open Go.RowKit Wd Ld Cg Lg

/-- A list that was handed out, its first j written over. -/
structure OvU (w : World) (l : List Int) (ao : Option Addr) (c j : Nat) (W : World) (vs : List Value) : Prop where
  row : W.ownsRow w.heap.size 28 1 (.slice ao l.length c) l.length vs
  rest : ∀ k u, j ≤ k → l[k]? = some u → vs[k]? = some (.int .u64 u)
  over : 0 < j → vs[0]? = some (.int .u64 99)
  bel : Below w.heap.size w W
theorem OvU.drew {w : World} {l : List Int} {ao : Option Addr} {c j k : Nat} {W : World} {vs : List Value} (h : OvU w l ao c j W vs) : OvU w l ao c j (W.drewN k) vs :=
  ⟨row_kept h.row (drewN_below W k), h.rest, h.over, h.bel.trans ((drewN_below W k).mono h.bel.size)⟩
theorem OvU.at {w : World} {l : List Int} {ao : Option Addr} {c j : Nat} {W : World} {vs : List Value} (h : OvU w l ao c j W vs) {u : Int} (hu : l[j]? = some u) : ∃ g, ao = some ⟨g, 0, none⟩ ∧ W.cell? ⟨g, j, none⟩ = some (.int .u64 u) ∧ W.frozen? ⟨g, j, none⟩ = false := by
  have hj := (List.getElem?_eq_some_iff.1 hu).1
  rcases h.row.2 with ⟨_, h0⟩ | ⟨g, cap, cur, hv, r⟩
  · omega
  · simp at hv
    obtain ⟨rfl, rfl⟩ := hv
    exact ⟨g, rfl, by rw [h.row.cellAt j (by omega)]; exact h.rest j u (Nat.le_refl _) hu, h.row.frozenAt j⟩
theorem OvU.put {w : World} {l : List Int} {g c j : Nat} {W : World} {vs : List Value} (h : OvU w l (some ⟨g, 0, none⟩) c j W vs) (hj : j < l.length) : OvU w l (some ⟨g, 0, none⟩) c (j + 1) (W.setCell ⟨g, j, none⟩ (.int .u64 99)) (vs.set j (.int .u64 99)) := by
  have hs := h.row.stored j (.int .u64 99)
  have hl := h.row.1
  refine ⟨hs.1, fun k u hk hu => ?_, fun _ => ?_, h.bel.setCell (p := ⟨g, j, none⟩) (h.row.lt g rfl).1 _⟩
  · rw [List.getElem?_set_ne (by omega)]
    exact h.rest k u (by omega) hu
  · by_cases e : j = 0
    · subst e
      rw [List.getElem?_set_self (by omega)]
    · rw [List.getElem?_set_ne e]
      exact h.over (by omega)
theorem OvU.app {w : World} {l : List Int} {ao : Option Addr} {c : Nat} {W W' : World} {vs : List Value} {v' : Value} (h : OvU w l ao c l.length W vs) (o : W'.ownsRow w.heap.size 28 1 v' (l.length + 2) (vs ++ [.int .u64 99, .int .u64 99])) : ∃ g cap, v' = .slice (some ⟨g, 0, none⟩) (l.length + 2) cap ∧ W'.cell? ⟨g, 0, none⟩ = some (.int .u64 99) := by
  rcases o.2 with ⟨_, h0⟩ | ⟨g, cap, cur, rfl, r⟩
  · omega
  · refine ⟨g, cap, rfl, ?_⟩
    rw [o.cellAt 0 (by omega)]
    have hl := h.row.1
    by_cases e : 0 < l.length
    · rw [List.getElem?_append_left (by omega)]
      exact h.over e
    · have : vs = [] := List.eq_nil_of_length_eq_zero (by omega)
      subst this
      rfl
set_option maxRecDepth 20000 in
set_option maxHeartbeats 4000000 in
theorem same_any {c : Cf} {F : Int} {B B' : Nat} {w : World} {t d : Nat} {tv dv : Value} {l : List Int} (hP : Led c.nodes F B w t tv l) (hR : RLed c F B' w d dv l) :
    Calls Tryd.prog 16 #[.pointer (some ⟨t, 0, none⟩), .pointer (some ⟨d, 0, none⟩)] w fun e w' => e = .returned (.bool true) ∧ Below w.heap.size w w' := by
  obtain ⟨i28, hi0, hz0, hz1, hz2⟩ := info_parts Tryd.inf28
  have hfew := hP.few
  go_enter Tryd.func16, Tryd.ntmps16
  go_wp2_with fail
  refine (list_any hP).mono ?_
  rintro e w1 ⟨v1, rfl, r1, b1⟩
  obtain ⟨ao, c1, e1, A1, _⟩ := WdsAt.of_row r1
  subst e1
  go_wp2_with fail
  refine (rlist_any (hR.below b1)).mono ?_
  rintro e w2 ⟨v2, rfl, r2, b2⟩
  obtain ⟨ao2, c2, e2, A2, _⟩ := WdsAt.of_row r2
  subst e2
  go_wp2_with fail
  refine (usages_any (A1.below b2) A2 (by omega)).mono ?_
  rintro e w3 ⟨rfl, b3⟩
  have bb : Below w1.heap.size w1 w3 := b2.trans (b3.mono b2.size)
  have r3 := row_kept r1 bb
  have B3 : Below w.heap.size w w3 := b1.trans (bb.mono b1.size)
  have P3 := hP.below B3
  have om := own_any P3 (-1)
  rw [own_no (okA_lo (by omega))] at om
  have ol := own_any P3 l.length
  rw [own_no (okA_hi (by omega))] at ol
  have HO : Hid (OvU w l ao c1 0 w3 (u64s l)) := ⟨r3, fun k u _ hu => u64s_at hu, fun h => by omega, B3⟩
  have HP3 : Hid (Led c.nodes F B w t tv l) := hP
  clear r1 r2 r3 b1 b2 b3 bb A1 A2 P3 hP hR B3
  go_wp2_with fail
  refine om.mono ?_
  rintro e wq ⟨rfl, hwq⟩
  rw [hwq]
  clear hwq om
  go_wp2_with fail
  refine ol.mono ?_
  rintro e wq ⟨rfl, hwq⟩
  rw [hwq]
  clear hwq ol
  obtain ⟨q, hq⟩ : ∃ q, l.length = q := ⟨_, rfl⟩
  rw [hq] at hfew ⊢
  have HQ : Hid (l.length = q) := hq
  clear hq
  go_wp2_with fail
  go_loopg [34] q (fun gk pj wr => ∃ (j : Nat) (vs : List Value), j + gk = q ∧ pj = .int .i64 j ∧ OvU w l ao c1 j wr vs)
  case atStart => exact ⟨0, _, by omega, rfl, HO.out⟩
  case round =>
    clear HO
    obtain ⟨j, vs, hj, rfl, hO⟩ := hrel
    by_cases hlt : j < q
    · have hlt' : (j : Int) < q := by omega
      obtain ⟨u, hu⟩ : ∃ u, l[j]? = some u := ⟨_, List.getElem?_eq_getElem (by rw [HQ.out]; exact hlt)⟩
      obtain ⟨g, rfl, hc, hz⟩ := hO.at hu
      have ho := fun n => own_any ((HP3.out.below hO.bel).below (drewN_below wr n)) j
      rw [own_of hu] at ho
      have HO : Hid (OvU w l (some ⟨g, 0, none⟩) c1 j wr vs) := hO
      clear hO hu
      go_wp2_with fail
      go_quiet ((go_at_call 26; exact Calls.quiet_of_same (ho _)))
      have HO2 : Hid (OvU w l (some ⟨g, 0, none⟩) c1 (j + 1) ((wr.drewN nq).setCell ⟨g, j, none⟩ (.int .u64 99)) (vs.set j (.int .u64 99))) := HO.out.drew.put (by rw [HQ.out]; exact hlt)
      clear HO ho
      go_wp2
      go_roundg (q - (j + 1))
      case measure => omega
      case rel => exact ⟨j + 1, _, by omega, rfl, HO2.out⟩
    · obtain rfl : j = q := by omega
      have hrow := hO.row
      rw [HQ.out] at hrow
      have HO : Hid (OvU w l ao c1 l.length wr vs) := by rw [HQ.out]; exact hO
      have hbz := hO.bel.size
      clear hO
      go_wp2_with (at_builtin; refine wpList_append_own_at _ rfl (.tmp 51) (.tmp 52) 24 rfl w.heap.size 28 i28 _ 1 8 Tryd.underlying24 hi0 hz0 hz1 hz2 rfl (by decide) _ j vs rfl (hrow.alloc _) ⟨wr.heap.size, 0, none⟩ 2 2 [.int .u64 99, .int .u64 99] rfl rfl (new_cells wr [.int .u64 99, .int .u64 99] 28) (fun u hu => by simp at hu; subst hu; rfl) (Nat.le_trans (m := 35184372088832) (by omega) (by decide)) (by omega) (by simp; omega) ?_; intro v' w7 o7 g7 _ _; have o8 := o7; rw [← HQ.out] at o8; obtain ⟨g', cap', e', hc'⟩ := OvU.app HO.out o8; rw [HQ.out] at e'; subst e')
      go_ret
      exact ⟨by simp, below_gr (HO.out.bel.alloc hbz _) (hrow.alloc _) (Nat.le_refl _) g7⟩
end Go.Proofs.YtegpamoglifojaaDoor
