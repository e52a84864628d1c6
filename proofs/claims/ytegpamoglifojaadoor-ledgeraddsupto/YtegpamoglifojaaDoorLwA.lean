/-
  LAYER 12, the statements: among, plain, usages; the statements' head.
-/
import Derived.Test.YtegpamoglifojaaDoorLgN
import Derived.Test.YtegpamoglifojaaDoorLgb
namespace Go.Proofs.YtegpamoglifojaaDoor
open Go.RowKit Wd Ld Cg Lg

theorem drewN_below (w : World) (k : Nat) : Below w.heap.size w (w.drewN k) := ⟨rfl, rfl, rfl, Nat.le_refl _, fun _ _ => rfl⟩
def amgV (i n : Int) : Int := if i.tmod n < 0 then i.tmod n + n else i.tmod n
theorem tmod_lo (i n : Int) (h : 1 ≤ n) : -n < i.tmod n ∧ i.tmod n < n := by
  have h0 := Int.emod_nonneg i (show n ≠ 0 by omega)
  have h1 := Int.emod_lt_of_pos i (show 0 < n by omega)
  rw [Int.tmod_eq_emod]
  split <;> omega
theorem amgV_in (i : Int) {n : Int} (h : 1 ≤ n) : 0 ≤ amgV i n ∧ amgV i n < n := by
  have := tmod_lo i n h
  unfold amgV
  split <;> omega
theorem among_any (i n : Int) (w : World) (h1 : 1 ≤ n) (h2 : n ≤ 1152921504606846976) : Calls Tryd.prog 12 #[.int .i64 i, .int .i64 n] w fun e w' => e = .returned (.int .i64 (amgV i n)) ∧ w = w' := by
  obtain ⟨t1, t2⟩ := tmod_lo i n h1
  by_cases h0 : i.tmod n < 0
  · have e0 : amgV i n = i.tmod n + n := by unfold amgV; rw [if_pos h0]
    rw [e0]
    go_enter Tryd.func12, Tryd.ntmps12
    go_wp2
    go_ret
    exact ⟨rfl, rfl⟩
  · have e0 : amgV i n = i.tmod n := by unfold amgV; rw [if_neg h0]
    rw [e0]
    go_enter Tryd.func12, Tryd.ntmps12
    go_wp2
    go_ret
    exact ⟨rfl, rfl⟩
theorem plain_any (w : World) : Calls Tryd.prog 28 #[] w fun e w' => e = .returned (.agg #[.int .i64 4, .int .i64 8, .int .i64 10, .int .i64 1, .int .i64 0, .int .i64 0, .int .i64 100, .int .i64 100]) ∧ Below w.heap.size w w' := by
  go_enter Tryd.func28, Tryd.ntmps28
  go_wp2
  exact bodyPost_ret (v := .agg #[.int .i64 4, .int .i64 8, .int .i64 10, .int .i64 1, .int .i64 0, .int .i64 0, .int .i64 100, .int .i64 100]) (by simp [results, Tryd.results28, go_sem]) rfl ⟨rfl, by repeat first | exact (Below.refl _ _).alloc (Nat.le_refl _) _ | refine Below.setCell ?_ (by simp) _⟩
def cEx : Cf := ⟨4, 8, 10, 1, 0, 0, 100, 100⟩
theorem ex_rng : Rng cEx := by constructor <;> simp only [cEx] <;> omega
theorem ex_chk : chkZ cEx = 0 := by
  unfold chkZ
  rw [if_neg (fun h => h ex_rng), if_neg (by decide)]
  decide
theorem ex_fac : facZ cEx = 4611686018427387904 := by
  have h : expV 100 100 = 1 * 4294967296 := by decide
  show ((halfN (expV 100 100) : Nat) : Int) = _
  rw [h, half_whole (by decide)]
  rfl
set_option maxRecDepth 20000 in
set_option maxHeartbeats 1000000 in
theorem usages_any {w : World} {ao bo : Option Addr} {l : List Int} {c c' : Nat} (hA : WdsAt w ao l) (hB : WdsAt w bo l) (hl : l.length ≤ 140737488355328) :
    Calls Tryd.prog 11 #[.slice ao l.length c, .slice bo l.length c'] w fun e w' => e = .returned (.bool true) ∧ Below w.heap.size w w' := by
  obtain ⟨q, hq⟩ : ∃ q, l.length = q := ⟨_, rfl⟩
  obtain ⟨g, o, hg, hc⟩ := hA
  obtain ⟨g', o', hg', hc'⟩ := hB
  rw [hq] at hg hg' hl ⊢
  have HQ : Hid (l.length = q) := hq
  clear hq
  go_enter Tryd.func11, Tryd.ntmps11
  go_wp2
  go_loopg [13] q (fun gk pj wr => ∃ i : Nat, i + gk = q ∧ pj = .int .i64 i ∧ Below w.heap.size w wr)
  case atStart => exact ⟨0, by omega, rfl, Below.refl _ _⟩
  case round =>
    obtain ⟨i, hi, rfl, hb⟩ := hrel
    by_cases hlt : i < q
    · have hlt' : (i : Int) < q := by omega
      obtain ⟨x, hx⟩ : ∃ x, l[i]? = some x := ⟨_, List.getElem?_eq_getElem (by rw [HQ.out]; exact hlt)⟩
      obtain rfl := hg (by omega)
      obtain rfl := hg' (by omega)
      have d0 := cellB hb (hc i x hx)
      have d1 := cellB hb (hc' i x hx)
      have HB : Hid _ := hb
      clear hc hc' hg hg' hx hb
      go_wp2_with fail
      go_quiet (fail)
      go_wp2
      go_roundg (q - (i + 1))
      case measure => omega
      case rel => exact ⟨i + 1, by omega, rfl, HB.out.trans ((drewN_below wr _).mono HB.out.size)⟩
    · obtain rfl : i = q := by omega
      go_wp2
      go_ret
      exact ⟨rfl, hb⟩
theorem fade1 : fadeL 4611686018427387904 [0, 30064771072] = [0, 15032385536] := by decide
set_option maxRecDepth 20000 in
set_option maxHeartbeats 4000000 in
theorem shown_any (w : World) (hT : Tab w) : Calls Tryd.prog 8 #[] w fun e w' => e = .returned (.bool true) ∧ Below w.heap.size w w' := by
  go_enter Tryd.func8, Tryd.ntmps8
  go_wp2_with fail
  refine (plain_any _).mono ?_
  rintro e w1 ⟨rfl, b1⟩
  have hnew := new_led ex_chk (cp := 0) (l := []) (ao := none) (Tab.below b1 hT) ⟨0, 0, fun h => by simp at h, fun k n hn => by simp at hn⟩ (fun _ h => by simp at h) (fun _ => ⟨rfl, rfl⟩) (by simp)
  rw [ex_fac] at hnew
  simp only [cfV, cEx, List.length_nil] at hnew
  go_wp2_with fail
  refine hnew.mono ?_
  rintro e w2 ⟨d, v, rfl, L2, b2⟩
  have BB : Hid (Below w.heap.size w w1) := b1
  have B2 : Hid (Below w1.heap.size w1 w2) := b2
  have hw1 := b1.size
  have hw2 := b2.size
  clear hnew b1 b2
  go_wp2_with fail
  refine (open_led L2 hw2 (by simp)).mono ?_
  rintro e w3 ⟨rfl, v3, L3, c3, _⟩
  have B3 : Hid (Below w1.heap.size w1 w3) := L2.bel c3 B2.out hw2
  have hw3 := B3.out.size
  clear L2 c3 B2
  simp only [List.length_nil, List.nil_append] at L3 ⊢
  go_wp2_with fail
  refine (open_led L3 hw3 (by simp)).mono ?_
  rintro e w4 ⟨rfl, v4, L4, c4, _⟩
  have B4 : Hid (Below w1.heap.size w1 w4) := L3.bel c4 B3.out hw3
  have hw4 := B4.out.size
  clear L3 c4 B3
  have e1 : chgE ([0] ++ [0]) 4 1 3 = 0 ∧ chgL ([0] ++ [0]) 4 1 3 = [0, 12884901888] := by decide
  have hc1 := charge_led L4 (by omega) 1 3
  rw [e1.1, e1.2] at hc1
  simp only [List.length_singleton]
  go_wp2_with fail
  refine hc1.mono ?_
  rintro e w5 ⟨rfl, L5, c5⟩
  have B5 : Hid (Below w1.heap.size w1 w5) := L4.bel c5 B4.out hw4
  have hw5 := B5.out.size
  clear L4 c5 B4 e1 hc1
  have e1 : chgE [0, 12884901888] 4 1 4 = 0 ∧ chgL [0, 12884901888] 4 1 4 = [0, 30064771072] := by decide
  have hc1 := charge_led L5 (by omega) 1 4
  rw [e1.1, e1.2] at hc1
  go_wp2_with fail
  refine hc1.mono ?_
  rintro e w6 ⟨rfl, L6, c6⟩
  have B6 : Hid (Below w1.heap.size w1 w6) := L5.bel c6 B5.out hw5
  have hw6 := B6.out.size
  clear L5 c6 B5 e1 hc1
  have e1 : chgE [0, 30064771072] 4 2 1 = 120 ∧ chgL [0, 30064771072] 4 2 1 = [0, 30064771072] := by decide
  have hc1 := charge_led L6 (by omega) 2 1
  rw [e1.1, e1.2] at hc1
  go_wp2_with fail
  refine hc1.mono ?_
  rintro e w7 ⟨rfl, L7, c7⟩
  have B7 : Hid (Below w1.heap.size w1 w7) := L6.bel c7 B6.out hw6
  have hw7 := B7.out.size
  clear L6 c7 B6 e1 hc1
  have ho := own_any L7 1
  rw [show ownV [0, 30064771072] 1 = 30064771072 by decide] at ho
  go_wp2_with fail
  refine ho.mono ?_
  rintro e w8 ⟨rfl, hw8⟩
  rw [hw8]
  clear hw8 ho
  have hfd := fade_led L7 (by unfold Word; omega)
  rw [fade1] at hfd
  go_wp2_with fail
  refine hfd.mono ?_
  rintro e w9 ⟨rfl, L9, c9⟩
  have B9 : Hid (Below w1.heap.size w1 w9) := L7.bel c9 B7.out hw7
  have hw9 := B9.out.size
  clear L7 c9 B7 hfd
  have ho := own_any L9 1
  rw [show ownV [0, 15032385536] 1 = 15032385536 by decide] at ho
  go_wp2_with fail
  refine ho.mono ?_
  rintro e w8 ⟨rfl, hw8⟩
  rw [hw8]
  clear hw8 ho
  have ba : Below w9.heap.size w9 (w9.alloc (.cells #[.int .i64 0, .int .i64 1, .int .i64 1] 3)) := (Below.refl _ w9).alloc (Nat.le_refl _) _
  have L10 := L9.below ba
  have B10 : Hid (Below w1.heap.size w1 (w9.alloc (.cells #[.int .i64 0, .int .i64 1, .int .i64 1] 3))) := B9.out.trans (ba.mono hw9)
  have hA : IntsAt (w9.alloc (.cells #[.int .i64 0, .int .i64 1, .int .i64 1] 3)) (some ⟨w9.heap.size, 0, none⟩) [0, 1, 1] := ⟨w9.heap.size, 0, fun _ => rfl, fun k n hn => by
    rw [Nat.zero_add]
    refine cells_at (heap_alloc_new _ _) ?_
    have hk : k < 3 := by simpa using (List.getElem?_eq_some_iff.1 hn).1
    have h3 : k = 0 ∨ k = 1 ∨ k = 2 := by omega
    rcases h3 with rfl | rfl | rfl <;> (simp at hn; subst hn; rfl)⟩
  have hs := sum_any (c := 3) L10 hA (by simp)
  rw [show sumV [0, 15032385536] [0, 1, 1] 0 = 30064771072 by decide] at hs
  simp only [List.length_cons, List.length_nil, Nat.zero_add, Nat.reduceAdd] at hs
  clear ba hA
  go_wp2_with fail
  refine hs.mono ?_
  rintro e w8 ⟨rfl, hw8⟩
  rw [hw8]
  clear hw8 hs
  have hcl := clone_led L10
  go_wp2_with fail
  refine hcl.mono ?_
  rintro e w11 ⟨d', v', rfl, _, b11⟩
  have L11 := L10.below b11
  have B11 : Hid (Below w1.heap.size w1 w11) := B10.out.trans (b11.mono B10.out.size)
  clear b11 B10 L10 hcl B9 L9
  go_wp2_with fail
  refine (list_any L11).mono ?_
  rintro e w12 ⟨v'', rfl, r12, b12⟩
  obtain ⟨ao, cc, hv⟩ := sl_shape r12
  simp only [List.length_cons, List.length_nil, Nat.zero_add, Nat.reduceAdd] at hv
  subst hv
  have B12 : Hid (Below w1.heap.size w1 w12) := B11.out.trans (b12.mono B11.out.size)
  clear r12 b12 L11 B11
  go_wp2
  go_ret
  exact ⟨rfl, BB.out.trans (B12.out.mono hw1)⟩
end Go.Proofs.YtegpamoglifojaaDoor
