/-
  TEXTS: SrF, SrH.
-/
import Derived.Test.YtceoibfliggalaaGreatDoorKv9
import Derived.Deep.CutBlock
import Derived.Deep.DeepCutAuto
import Derived.Test.YtceoibfliggalaaGreatDoorKv10
namespace Go.Proofs.YtceoibfliggalaaGreatDoor
open Go.RowKit Wd Tr Cg Lg
def SymP (L : Nat) : Prop := ∀ (S : Slx) (w : World) (b a m c N cap : Nat) (r : List Value) (P A B Q : List Ev), A.length + B.length ≤ L → 0 < A.length → 0 < B.length → P.length = a → P.length + A.length = m → P.length + A.length + B.length = c →
  P.length + A.length + B.length + Q.length = N → N ≤ 1099511627776 → SrtE A → SrtE B → AcrE A B → RwE S w b (P ++ (A ++ (B ++ Q))) r →
  Calls Tryz.prog 192 #[.slice (some ⟨b, 0, none⟩) N cap, .int .i64 a, .int .i64 m, .int .i64 c, .func (.func 151) #[] #[]] w fun e w' => e = .returned (.tuple #[]) ∧ (∃ C, C.Perm (A ++ B) ∧ SrtE C ∧ RwE S w' b (P ++ (C ++ Q)) r) ∧ Chg (fun k => k = b) w w'
structure Bnd (a m c mid lo hi : Nat) : Prop where
 am : a + 2 ≤ m
 mc : m + 2 ≤ c
 md : mid = (a + c) / 2
 cs : (mid < m ∧ lo = mid + m - c ∧ hi = mid) ∨ (m ≤ mid ∧ lo = a ∧ hi = m)
theorem Bnd.ok {a m c mid lo hi : Nat} (h : Bnd a m c mid lo hi) : a ≤ lo ∧ lo ≤ hi ∧ hi ≤ m ∧ hi ≤ mid ∧ a < mid ∧ mid < c ∧ mid + m - lo ≤ c ∧ c ≤ mid + m - a + (c - a) := by
 obtain ⟨h1, h2, h3, h4⟩ := h
 omega
set_option maxHeartbeats 4000000 in
set_option maxRecDepth 20000 in
theorem sym_both {L : Nat} (ih : SymP L) {S : Slx} {w : World} {b a m c N cap : Nat} {r : List Value} (P A B Q : List Ev) (hL : A.length + B.length ≤ L + 1) (hA : 1 < A.length) (hB : 1 < B.length) (ha : P.length = a) (hm : P.length + A.length = m) (hc : P.length + A.length + B.length = c)
  (hN : P.length + A.length + B.length + Q.length = N) (hsz : N ≤ 1099511627776) (hsA : SrtE A) (hsB : SrtE B) (ho : AcrE A B) (hR : RwE S w b (P ++ (A ++ (B ++ Q))) r) :
  Calls Tryz.prog 192 #[.slice (some ⟨b, 0, none⟩) N cap, .int .i64 a, .int .i64 m, .int .i64 c, .func (.func 151) #[] #[]] w fun e w' => e = .returned (.tuple #[]) ∧ (∃ C, C.Perm (A ++ B) ∧ SrtE C ∧ RwE S w' b (P ++ (C ++ Q)) r) ∧ Chg (fun k => k = b) w w' := by
 obtain ⟨mid, hmd⟩ : ∃ mid, (a + c) / 2 = mid := ⟨_, rfl⟩
 obtain ⟨n, hn⟩ : ∃ n, mid + m = n := ⟨_, rfl⟩
 obtain ⟨lo, hlo⟩ : ∃ lo, (if mid < m then n - c else a) = lo := ⟨_, rfl⟩
 obtain ⟨hi, hhi⟩ : ∃ hi, (if mid < m then mid else m) = hi := ⟨_, rfl⟩
 have hbnd : Bnd a m c mid lo hi := by
  refine ⟨by omega, by omega, hmd.symm, ?_⟩
  by_cases h : mid < m
  ·rw [if_pos h] at hlo hhi; left; omega
  ·rw [if_neg h] at hlo hhi; right; omega
 have HBN : Hid (Bnd a m c mid lo hi) := hbnd
 have HALL : Hid (P.length = a ∧ P.length + A.length = m ∧ P.length + A.length + B.length = c ∧ P.length + A.length + B.length + Q.length = N ∧ N ≤ 1099511627776 ∧ A.length + B.length ≤ L + 1 ∧ 1 < A.length ∧ 1 < B.length) := ⟨ha, hm, hc, hN, hsz, hL, hA, hB⟩
 have HSS : Hid (SrtE A ∧ SrtE B ∧ AcrE A B) := ⟨hsA, hsB, ho⟩
 have HIH : Hid (SymP L) := ih
 obtain ⟨D, hD⟩ : ∃ D, P ++ (A ++ (B ++ Q)) = D := ⟨_, rfl⟩
 have HD : Hid (P ++ (A ++ (B ++ Q)) = D) := hD
 have HLD : Hid (D.length = N) := by show D.length = N; rw [← hD]; simp; omega
 have HDA : Hid (∀ k y, A[k]? = some y → D[a + k]? = some y) := by
  intro k y hk
  have h1 := (List.getElem?_eq_some_iff.1 hk).1
  rw [← hD, List.getElem?_append_right (by omega), List.getElem?_append_left (by omega), show a + k - P.length = k by omega]
  exact hk
 have HDB : Hid (∀ k y, B[k]? = some y → D[m + k]? = some y) := by
  intro k y hk
  have h1 := (List.getElem?_eq_some_iff.1 hk).1
  rw [← hD, List.getElem?_append_right (by omega), List.getElem?_append_right (by omega), List.getElem?_append_left (by omega), show m + k - P.length - A.length = k by omega]
  exact hk
 have HMO : Hid (Mono (fun k => !decide (tmE D (n - 1 - k) < tmE D k)) lo hi) := by
  intro k l h1 h2 h3 h4
  have h5 : ¬ tmE D (n - 1 - l) < tmE D l := by simpa using h4
  show (!decide (tmE D (n - 1 - k) < tmE D k)) = true
  have q := hbnd.ok
  have e1 := tm_rise (P := P) (A := A) (Q := B ++ Q) hsA (k := k) (l := l) (by omega) h2 (by omega)
  have e2 := tm_rise (P := P ++ A) (A := B) (Q := Q) hsB (k := n - 1 - l) (l := n - 1 - k) (by rw [List.length_append]; omega) (by omega) (by rw [List.length_append]; omega)
  rw [List.append_assoc] at e2
  rw [hD] at e1 e2
  rw [decide_eq_false (by omega)]
  rfl
 have HR : Hid (RwE S w b D r) := by show RwE S w b D r; rw [← hD]; exact hR
 have h1 : ¬ wrap64 ((m : Int) - (a : Int)) = 1 := by unfold wrap64; omega
 have h2 : ¬ wrap64 ((c : Int) - (m : Int)) = 1 := by unfold wrap64; omega
 have HB0 : Hid ((wrap64 ((m : Int) - (a : Int)) == 1) = false ∧ (wrap64 ((c : Int) - (m : Int)) == 1) = false) := ⟨beq_eq_false_iff_ne.2 h1, beq_eq_false_iff_ne.2 h2⟩
 have hclo := clo_any
 have HMID : Hid (wrap64 (IntKind.u64.wrap (wrap64 ((a : Int) + (c : Int))) / 2) = (mid : Int)) := by
  show wrap64 (IntKind.u64.wrap (wrap64 ((a : Int) + (c : Int))) / 2) = (mid : Int)
  rw [mid_wrap a c (by clear h1 h2; omega), hmd]
 have HNN : Hid (wrap64 ((mid : Int) + (m : Int)) = (n : Int)) := by
  show wrap64 ((mid : Int) + (m : Int)) = (n : Int)
  rw [wrapA mid m (by clear h1 h2; omega), hn]
 have HNC : Hid (mid < m → wrap64 ((n : Int) - (c : Int)) = ((n - c : Nat) : Int)) := by
  intro h
  exact wrapS n c (by clear h1 h2; have := hbnd.ok; omega) (by clear h1 h2; omega)
 have HN1 : Hid (wrap64 ((n : Int) - 1) = ((n - 1 : Nat) : Int)) := by
  show wrap64 ((n : Int) - 1) = ((n - 1 : Nat) : Int)
  exact wrapS n 1 (by clear h1 h2; have := hbnd.ok; omega) (by clear h1 h2; omega)
 have HLH : Hid ((if mid < m then n - c else a) = lo ∧ (if mid < m then mid else m) = hi ∧ mid + m = n) := ⟨hlo, hhi, hn⟩
 clear hL hA hB ha hm hc hN hsz hsA hsB ho hR hD hmd hn hlo hhi hbnd ih
 go_enter Tryz.func192, Tryz.ntmps192
 go_upto_region 25 with fail
 rw [HMID.out]
 go_upto_region 26 with fail
 rw [HNN.out]
 simp only [HB0.out.1, HB0.out.2]
 go_upto_region 27 with fail
 clear h1 h2
 obtain ⟨bm, hbm⟩ : ∃ bm, decide (mid < m) = bm := ⟨_, rfl⟩
 have HBM : Hid (decide (mid < m) = bm) := hbm
 clear hbm
 go_cut [140] (fun v x => v = .bool bm ∧ w = x)
 case first =>
  as_aux_lemma =>
   go_wp2
   go_meet
   exact ⟨by rw [← HBM.out], rfl⟩
 case rest =>
 obtain ⟨rfl, hx⟩ := hcut
 rw [← hx]
 clear hx
 go_upto_if 140 with fail
 go_cut [20, 21] (fun v1 v2 x => v1 = .int .i64 lo ∧ v2 = .int .i64 hi ∧ w = x)
 case first =>
  as_aux_lemma =>
   cases bm with
   | true =>
    have hmm := of_decide_eq_true HBM.out
    have e1 := HLH.out.1
    have e2 := HLH.out.2.1
    rw [if_pos hmm] at e1 e2
    have HE : Hid (n - c = lo ∧ mid = hi) := ⟨e1, e2⟩
    have HWC : Hid (wrap64 ((n : Int) - (c : Int)) = ((n - c : Nat) : Int)) := HNC.out hmm
    clear e1 e2
    go_wp2
    go_meet
    exact ⟨by rw [HWC.out, HE.out.1], by rw [HE.out.2], rfl⟩
   | false =>
    have hmm := of_decide_eq_false HBM.out
    have e1 := HLH.out.1
    have e2 := HLH.out.2.1
    rw [if_neg hmm] at e1 e2
    have HE : Hid (a = lo ∧ m = hi) := ⟨e1, e2⟩
    clear e1 e2
    go_wp2
    go_meet
    exact ⟨by rw [HE.out.1], by rw [HE.out.2], rfl⟩
 case rest =>
 obtain ⟨rfl, rfl, hw⟩ := hcut
 obtain rfl := hw
 as_aux_lemma =>
  go_upto_region 32 with fail
  go_wp2
  rw [HN1.out]
  go_loopg [20, 21] (hi - lo) (fun gk v1 v2 wr => ∃ i j : Nat, j - i = gk ∧ v1 = .int .i64 i ∧ v2 = .int .i64 j ∧ Half (fun k => !decide (tmE D (n - 1 - k) < tmE D k)) lo hi i j ∧ RwE S wr b D r ∧ Chg (fun k => k = b) w wr)
  case atStart => exact ⟨lo, hi, rfl, rfl, rfl, Half.start HBN.out.ok.2.1, HR.out, Chg.refl _ _⟩
  case round =>
   obtain ⟨i, j, hgk, rfl, rfl, hhalf, hrow, hchg⟩ := hrel
   have HROW : Hid (RwE S wr b D r) := hrow
   have HCHG : Hid (Chg (fun k => k = b) w wr) := hchg
   have HH : Hid (Half (fun k => !decide (tmE D (n - 1 - k) < tmE D k)) lo hi i j) := hhalf
   have HGK : Hid (j - i = gk) := hgk
   clear hgk hhalf hrow hchg HR
   by_cases hlt : (i : Int) < (j : Int)
   ·obtain ⟨h, hh⟩ : ∃ h, (i + j) / 2 = h := ⟨_, rfl⟩
    obtain ⟨q, hq⟩ : ∃ q, n - 1 - h = q := ⟨_, rfl⟩
    have HHB : Hid (i ≤ h ∧ h < j ∧ h < N ∧ q < N ∧ (i + j) / 2 = h ∧ q + h = n - 1) := by
     obtain ⟨b1, b2, b3, _⟩ := HH.out
     obtain ⟨a1, a2, a3, a4, a5, a6, a7, a8⟩ := HALL.out
     have q1 := HBN.out.ok
     have q2 := HLH.out.2.2
     exact ⟨by omega, by omega, by omega, by omega, hh, by omega⟩
    have HQ : Hid (IntKind.i64.wrap (((n - 1 : Nat) : Int) - (h : Int)) = (q : Int)) := by
     show IntKind.i64.wrap (((n - 1 : Nat) : Int) - (h : Int)) = (q : Int)
     have q3 := HHB.out
     rw [iwrapS (n - 1) h (by omega) (by have := HALL.out; have := HLH.out.2.2; omega), hq]
    have hmid : wrap64 (IntKind.u64.wrap (wrap64 ((i : Int) + (j : Int))) / 2) = (h : Int) := by
     rw [mid_wrap i j (by obtain ⟨b1, b2, b3, _⟩ := HH.out; obtain ⟨a1, a2, a3, a4, a5, a6, a7, a8⟩ := HALL.out; have q1 := HBN.out.ok; omega), hh]
    have hhN' : (h : Int) < N := by clear hmid; have := HHB.out; omega
    have hqN' : (q : Int) < N := by clear hmid; have := HHB.out; omega
    have hhN : h < N := HHB.out.2.2.1
    have hqN : q < N := HHB.out.2.2.2.1
    obtain ⟨x, hx⟩ : ∃ x, D[q]? = some x := ⟨_, List.getElem?_eq_getElem (by rw [HLD.out]; exact hqN)⟩
    obtain ⟨y, hy⟩ : ∃ y, D[h]? = some y := ⟨_, List.getElem?_eq_getElem (by rw [HLD.out]; exact hhN)⟩
    obtain ⟨x0, x1, x2⟩ := HROW.out.at hx
    obtain ⟨y0, y1, y2⟩ := HROW.out.at hy
    have HTY : Hid (tmE D h = y.tm ∧ tmE D (n - 1 - h) = x.tm) := ⟨tmE_at hy, by rw [hq]; exact tmE_at hx⟩
    clear hx hy hh hq
    go_upto_region 35 with fail
    rw [hmid]
    clear hmid
    have wq := HQ.out
    by_cases hxy : x.tm < y.tm
    ·have hcm := cmp_lt hxy
     have HN : Hid (Half (fun k => !decide (tmE D (n - 1 - k) < tmE D k)) lo hi i h) := HH.out.down HMO.out HHB.out.1 HHB.out.2.1 (by show (!decide (tmE D (n - 1 - h) < tmE D h)) = false; rw [HTY.out.1, HTY.out.2, decide_eq_true hxy]; rfl)
     clear hxy
     as_aux_lemma =>
      refine wp_region_last (S := (fun x' : World => Below wr.heap.size wr x')) (L := 99) (by kernel_rfl) ?_
      have HSW0 : (fun x' : World => Below wr.heap.size wr x') (wr.drew) := drew_below wr
      have HF : Hid (∀ xx : World, (fun x' : World => Below wr.heap.size wr x') xx → _ ∧ _ ∧ _ ∧ _ ∧ _ ∧ _ ∧ True) := fun xx hSx => ⟨cellB hSx x0, cellB hSx x1, cellB hSx x2, cellB hSx y0, cellB hSx y1, cellB hSx y2, trivial⟩
      refine tk 0 HSW0 (h := ?_)
      refine tk 1 HSW0 (h := ?_)
      refine tk 2 HSW0 (h := ?_)
      refine tk 3 HSW0 (h := ?_)
      refine tk 4 HSW0 (h := ?_)
      refine tk 5 HSW0 (h := ?_)
      refine tk 6 HSW0 (h := ?_)
      refine tk 7 HSW0 (h := ?_)
      refine tk 8 HSW0 (h := ?_)
      refine tk 9 HSW0 (h := ?_)
      refine tk 10 HSW0 (h := ?_)
      refine last_one (i := 11) (by kernel_rfl) rfl ?_
      intro K hK
      go_simp
      go_at_call 151
      refine (hclo _ _ _ _ _ _ _ _ _ _ _).mono ?_
      rintro e Z1 ⟨rfl, bz1⟩
      have HSZ1 : (fun x' : World => Below wr.heap.size wr x') Z1 := HSW0.trans (bz1.mono HSW0.size)
      go_simp
      refine hK.out _ _ (fun _ => HSZ1) (fun _ => ?_)
      clear hK K HSW0
      refine tk 12 HSZ1 (h := ?_)
      try rw [hcm]
      refine tk 13 HSZ1 (h := ?_)
      refine last_done (by kernel_rfl) ?_ _
      have HB1 : Hid (Below wr.heap.size wr Z1) := HSZ1
      clear HSZ1 bz1 x0 x1 x2 y0 y1 y2 hcm hclo wq
      go_wp2
      go_roundg (h - i)
      case measure => have := HGK.out; have := HHB.out; omega
      case rel => exact ⟨i, h, rfl, rfl, rfl, HN.out, RwE.below HB1.out HROW.out, HCHG.out.trans (Chg.of_below HB1.out _) (fun _ _ e => e)⟩
    ·have hcm := cmp_ge (Int.not_lt.1 hxy)
     have HN : Hid (Half (fun k => !decide (tmE D (n - 1 - k) < tmE D k)) lo hi (h + 1) j) := HH.out.up HMO.out HHB.out.1 HHB.out.2.1 (by show (!decide (tmE D (n - 1 - h) < tmE D h)) = true; rw [HTY.out.1, HTY.out.2, decide_eq_false hxy]; rfl)
     have HW1 : Hid (wrap64 ((h : Int) + 1) = ((h + 1 : Nat) : Int)) := by show wrap64 ((h : Int) + 1) = ((h + 1 : Nat) : Int); have := HALL.out; clear wq; unfold wrap64; omega
     clear hxy
     as_aux_lemma =>
      refine wp_region_last (S := (fun x' : World => Below wr.heap.size wr x')) (L := 99) (by kernel_rfl) ?_
      have HSW0 : (fun x' : World => Below wr.heap.size wr x') (wr.drew) := drew_below wr
      have HF : Hid (∀ xx : World, (fun x' : World => Below wr.heap.size wr x') xx → _ ∧ _ ∧ _ ∧ _ ∧ _ ∧ _ ∧ True) := fun xx hSx => ⟨cellB hSx x0, cellB hSx x1, cellB hSx x2, cellB hSx y0, cellB hSx y1, cellB hSx y2, trivial⟩
      refine tk 0 HSW0 (h := ?_)
      refine tk 1 HSW0 (h := ?_)
      refine tk 2 HSW0 (h := ?_)
      refine tk 3 HSW0 (h := ?_)
      refine tk 4 HSW0 (h := ?_)
      refine tk 5 HSW0 (h := ?_)
      refine tk 6 HSW0 (h := ?_)
      refine tk 7 HSW0 (h := ?_)
      refine tk 8 HSW0 (h := ?_)
      refine tk 9 HSW0 (h := ?_)
      refine tk 10 HSW0 (h := ?_)
      refine last_one (i := 11) (by kernel_rfl) rfl ?_
      intro K hK
      go_simp
      go_at_call 151
      refine (hclo _ _ _ _ _ _ _ _ _ _ _).mono ?_
      rintro e Z1 ⟨rfl, bz1⟩
      have HSZ1 : (fun x' : World => Below wr.heap.size wr x') Z1 := HSW0.trans (bz1.mono HSW0.size)
      go_simp
      refine hK.out _ _ (fun _ => HSZ1) (fun _ => ?_)
      clear hK K HSW0
      refine tk 12 HSZ1 (h := ?_)
      try rw [hcm]
      refine tk 13 HSZ1 (h := ?_)
      refine last_done (by kernel_rfl) ?_ _
      have HB1 : Hid (Below wr.heap.size wr Z1) := HSZ1
      clear HSZ1 bz1 x0 x1 x2 y0 y1 y2 hcm hclo wq
      go_wp2
      go_roundg (j - (h + 1))
      case measure => have := HGK.out; have := HHB.out; omega
      case rel => exact ⟨h + 1, j, rfl, by rw [HW1.out], rfl, HN.out, RwE.below HB1.out HROW.out, HCHG.out.trans (Chg.of_below HB1.out _) (fun _ _ e => e)⟩
   ·obtain rfl : i = j := by have := HH.out.2.1; omega
    obtain ⟨e, he⟩ : ∃ e, n - i = e := ⟨_, rfl⟩
    obtain ⟨L1, hL1⟩ : ∃ L1, A.take (i - a) = L1 := ⟨_, rfl⟩
    obtain ⟨L2, hL2⟩ : ∃ L2, A.drop (i - a) = L2 := ⟨_, rfl⟩
    obtain ⟨R1, hR1⟩ : ∃ R1, B.take (e - m) = R1 := ⟨_, rfl⟩
    obtain ⟨R2, hR2⟩ : ∃ R2, B.drop (e - m) = R2 := ⟨_, rfl⟩
    have hpos : lo ≤ i ∧ i ≤ hi ∧ a ≤ i ∧ i ≤ m ∧ i ≤ mid ∧ m ≤ e ∧ e ≤ c ∧ e + i = n ∧ mid + m = n ∧ a < mid ∧ mid < c := by
     obtain ⟨b1, b2, b3, _⟩ := HH.out
     have q1 := HBN.out.ok
     have q2 := HLH.out.2.2
     omega
    have HPOS : Hid (lo ≤ i ∧ i ≤ hi ∧ a ≤ i ∧ i ≤ m ∧ i ≤ mid ∧ m ≤ e ∧ e ≤ c ∧ e + i = n ∧ mid + m = n ∧ a < mid ∧ mid < c) := hpos
    have HAB : Hid (L1 ++ L2 = A ∧ R1 ++ R2 = B) := ⟨by rw [← hL1, ← hL2, List.take_append_drop], by rw [← hR1, ← hR2, List.take_append_drop]⟩
    have HLN : Hid (L1.length = i - a ∧ L2.length = m - i ∧ R1.length = e - m ∧ R2.length = c - e) := by
     obtain ⟨a1, a2, a3, a4, a5, a6, a7, a8⟩ := HALL.out
     refine ⟨by rw [← hL1, List.length_take]; omega, by rw [← hL2, List.length_drop]; omega, by rw [← hR1, List.length_take]; omega, by rw [← hR2, List.length_drop]; omega⟩
    have hX : ∀ x ∈ L1 ++ R1, ∀ y ∈ L2 ++ R2, x.R y := by
     obtain ⟨s1, s2, s3⟩ := HSS.out
     obtain ⟨b1, b2, b3, b4, b5⟩ := HH.out
     obtain ⟨n1, n2, n3, n4⟩ := HLN.out
     refine cross (by rw [HAB.out.1]; exact s1) (by rw [HAB.out.2]; exact s2) (by rw [HAB.out.1, HAB.out.2]; exact s3) ?_ ?_
     ·intro x y hx hy
      have hx1 : 0 < L1.length := by cases L1 with
       | nil => simp at hx
       | cons z l => simp
      have hy1 : 0 < R2.length := by cases R2 with
       | nil => simp at hy
       | cons z l => simp
      have ex : D[i - 1]? = some x := by
       rw [List.getLast?_eq_getElem?, ← hL1, List.getElem?_take_of_lt (by rw [hL1]; omega)] at hx
       have := HDA.out _ _ hx
       rw [hL1, show a + (L1.length - 1) = i - 1 by omega] at this
       exact this
      have ey : D[e]? = some y := by
       rw [List.head?_eq_getElem?, ← hR2, List.getElem?_drop] at hy
       have := HDB.out _ _ hy
       rw [show m + (e - m + 0) = e by omega] at this
       exact this
      have hT := b4 (i - 1) (by have := HBN.out.cs; omega) (by omega)
      have hT' : ¬ tmE D (n - 1 - (i - 1)) < tmE D (i - 1) := by simpa using hT
      rw [show n - 1 - (i - 1) = e by omega, tmE_at ex, tmE_at ey] at hT'
      omega
     ·intro x y hx hy
      have hx1 : 0 < R1.length := by cases R1 with
       | nil => simp at hx
       | cons z l => simp
      have hy1 : 0 < L2.length := by cases L2 with
       | nil => simp at hy
       | cons z l => simp
      have ex : D[e - 1]? = some x := by
       rw [List.getLast?_eq_getElem?, ← hR1, List.getElem?_take_of_lt (by rw [hR1]; omega)] at hx
       have := HDB.out _ _ hx
       rw [hR1, show m + (R1.length - 1) = e - 1 by omega] at this
       exact this
      have ey : D[i]? = some y := by
       rw [List.head?_eq_getElem?, ← hL2, List.getElem?_drop] at hy
       have := HDA.out _ _ hy
       rw [show a + (i - a + 0) = i by omega] at this
       exact this
      have hT := b5 i (by omega) (by have := HBN.out.cs; omega)
      have hT' : tmE D (n - 1 - i) < tmE D i := by simpa using hT
      rw [show n - 1 - i = e - 1 by omega, tmE_at ex, tmE_at ey] at hT'
      exact hT'
    have HX : Hid (∀ x ∈ L1 ++ R1, ∀ y ∈ L2 ++ R2, x.R y) := hX
    have HSP : Hid (SrtE L1 ∧ SrtE L2 ∧ SrtE R1 ∧ SrtE R2 ∧ AcrE L1 R1 ∧ AcrE L2 R2) := by
     obtain ⟨s1, s2, s3⟩ := HSS.out
     rw [← HAB.out.1, ← HAB.out.2] at s3
     rw [← HAB.out.1] at s1
     rw [← HAB.out.2] at s2
     exact ⟨(srt_app.1 s1).1, (srt_app.1 s1).2.1, (srt_app.1 s2).1, (srt_app.1 s2).2.1, fun x hx y hy => s3 x (List.mem_append_left _ hx) y (List.mem_append_left _ hy), fun x hx y hy => s3 x (List.mem_append_right _ hx) y (List.mem_append_right _ hy)⟩
    have HDD : Hid (D = P ++ (L1 ++ (L2 ++ (R1 ++ (R2 ++ Q))))) := by
     show D = P ++ (L1 ++ (L2 ++ (R1 ++ (R2 ++ Q))))
     rw [← HD.out, ← HAB.out.1, ← HAB.out.2]; simp
    have HNI : Hid (wrap64 ((n : Int) - (i : Int)) = (e : Int)) := by
     show wrap64 ((n : Int) - (i : Int)) = (e : Int)
     rw [wrapS n i (by omega) (by have := HALL.out; omega), he]
    have HRW2 : Hid (RwE S wr b D r) := HROW.out
    clear hX hpos hL1 hL2 hR1 hR2 he HH HGK HMO HDA HDB HSS HROW hclo hlt HLH
    as_aux_lemma =>
     go_upto_region 39 with fail
     rw [HNI.out]
     obtain ⟨V, hV⟩ : ∃ V : World, V = wr := ⟨_, rfl⟩
     rw [← hV] at HRW2 HCHG
     rw [← hV]
     clear hV
     obtain ⟨bb, hbb⟩ : ∃ bb, (decide (i < m) && decide (m < e)) = bb := ⟨_, rfl⟩
     have HBB : Hid ((decide (i < m) && decide (m < e)) = bb) := hbb
     clear hbb
     go_cut [185] (fun v x => v = .bool bb ∧ V = x)
     case first =>
      as_aux_lemma =>
       by_cases q2 : i < m
       ·have q4 : (i : Int) < (m : Int) := by omega
        go_wp2
        go_meet
        exact ⟨by rw [← HBB.out]; simp [q2], rfl⟩
       ·have q4 : ¬ (i : Int) < (m : Int) := by omega
        go_wp2
        go_meet
        exact ⟨by rw [← HBB.out, decide_eq_false (by omega)]; rfl, rfl⟩
     case rest =>
     obtain ⟨rfl, hx⟩ := hcut
     rw [← hx]
     clear hx
     go_upto_if 185 with fail
     as_aux_lemma =>
      go_cut [191] (fun _ x => RwE S x b (P ++ (L1 ++ (R1 ++ (L2 ++ (R2 ++ Q))))) r ∧ Chg (fun k => k = b) w x)
      case first =>
       as_aux_lemma =>
        cases bb with
        | true =>
         have q1 : i < m ∧ m < e := by simpa using HBB.out
         have hrot := rotate_any (S := S) (w := V) (b := b) (a := i) (m := m) (c := e) (N := N) (cap := cap) (r := r) (fv := .func (.func 151) #[] #[]) (P ++ L1) L2 R1 (R2 ++ Q) (by have := HLN.out; omega) (by have := HLN.out; omega) (by have := HLN.out; have := HALL.out; have := HPOS.out; rw [List.length_append]; omega) (by have := HLN.out; have := HALL.out; have := HPOS.out; rw [List.length_append]; omega) (by have := HLN.out; have := HALL.out; have := HPOS.out; rw [List.length_append]; omega) (by have := HLD.out; rw [HDD.out] at this; simpa using this) HALL.out.2.2.2.2.1 (by have := HRW2.out; rw [HDD.out] at this; simpa using this)
         go_wp2_with (go_at_call 197; refine hrot.mono ?_; rintro e w1 ⟨rfl, hR1, hc1⟩)
         go_meet
         exact ⟨by simpa using hR1, HCHG.out.trans hc1 (fun _ _ e => e)⟩
        | false =>
         have HEQ : Hid (D = P ++ (L1 ++ (R1 ++ (L2 ++ (R2 ++ Q))))) := by
          show D = P ++ (L1 ++ (R1 ++ (L2 ++ (R2 ++ Q))))
          have n1 := HLN.out
          have n2 := HPOS.out
          have n3 : ¬ (i < m ∧ m < e) := by intro h; have := HBB.out; rw [decide_eq_true h.1, decide_eq_true h.2] at this; cases this
          rcases (by omega : L2.length = 0 ∨ R1.length = 0) with h | h
          ·have := List.eq_nil_of_length_eq_zero h; subst this; rw [HDD.out]; simp
          ·have := List.eq_nil_of_length_eq_zero h; subst this; rw [HDD.out]; simp
         go_wp2
         go_meet
         exact ⟨by rw [← HEQ.out]; exact HRW2.out, HCHG.out⟩
      case rest =>
      obtain ⟨hr1, hc1⟩ := hcut
      have HR1 : Hid (RwE S wc b (P ++ (L1 ++ (R1 ++ (L2 ++ (R2 ++ Q))))) r) := hr1
      have HC1 : Hid (Chg (fun k => k = b) w wc) := hc1
      clear hr1 hc1 HRW2 HCHG
      obtain ⟨V1, hV1⟩ : ∃ V1 : World, V1 = wc := ⟨_, rfl⟩
      rw [← hV1] at HR1 HC1
      rw [← hV1]
      clear hV1
      as_aux_lemma =>
       go_upto_region 41 with fail
       clear HBB
       obtain ⟨bb, hbb⟩ : ∃ bb, (decide (a < i) && decide (i < mid)) = bb := ⟨_, rfl⟩
       have HBB : Hid ((decide (a < i) && decide (i < mid)) = bb) := hbb
       clear hbb
       go_cut [199] (fun v x => v = .bool bb ∧ V1 = x)
       case first =>
        as_aux_lemma =>
         by_cases q2 : a < i
         ·have q4 : (a : Int) < (i : Int) := by omega
          go_wp2
          go_meet
          exact ⟨by rw [← HBB.out]; simp [q2], rfl⟩
         ·have q4 : ¬ (a : Int) < (i : Int) := by omega
          go_wp2
          go_meet
          exact ⟨by rw [← HBB.out, decide_eq_false (by omega)]; rfl, rfl⟩
       case rest =>
       obtain ⟨rfl, hx⟩ := hcut
       rw [← hx]
       clear hx
       go_upto_if 199 with fail
       as_aux_lemma =>
        go_cut [205] (fun _ x => ∃ C1, C1.Perm (L1 ++ R1) ∧ SrtE C1 ∧ RwE S x b (P ++ (C1 ++ (L2 ++ (R2 ++ Q)))) r ∧ Chg (fun k => k = b) w x)
        case first =>
         as_aux_lemma =>
          cases bb with
          | true =>
           have q1 : a < i ∧ i < mid := by simpa using HBB.out
           have hrec := HIH.out S V1 b a i mid N cap r P L1 R1 (L2 ++ (R2 ++ Q)) (by have := HLN.out; have := HALL.out; have := HPOS.out; omega) (by have := HLN.out; omega) (by have := HLN.out; have := HPOS.out; omega) HALL.out.1 (by have := HLN.out; have := HALL.out; have := HPOS.out; omega) (by have := HLN.out; have := HALL.out; have := HPOS.out; omega) (by have := HLN.out; have := HALL.out; have := HPOS.out; rw [List.length_append, List.length_append]; omega) HALL.out.2.2.2.2.1 HSP.out.1 HSP.out.2.2.1 HSP.out.2.2.2.2.1 HR1.out
           go_wp2_with (go_at_call 192; refine hrec.mono ?_; rintro e w1 ⟨rfl, ⟨C1, p1, s1, hR1⟩, hc1⟩)
           go_meet
           exact ⟨C1, p1, s1, hR1, HC1.out.trans hc1 (fun _ _ e => e)⟩
          | false =>
           have HEQ : Hid (SrtE (L1 ++ R1)) := by
            show SrtE (L1 ++ R1)
            have n1 := HLN.out
            have n2 := HPOS.out
            have n3 : ¬ (a < i ∧ i < mid) := by intro h; have := HBB.out; rw [decide_eq_true h.1, decide_eq_true h.2] at this; cases this
            rcases (by omega : L1.length = 0 ∨ R1.length = 0) with h | h
            ·have := List.eq_nil_of_length_eq_zero h; subst this; simpa using HSP.out.2.2.1
            ·have := List.eq_nil_of_length_eq_zero h; subst this; simpa using HSP.out.1
           go_wp2
           go_meet
           exact ⟨L1 ++ R1, List.Perm.refl _, HEQ.out, by simpa using HR1.out, HC1.out⟩
        case rest =>
        obtain ⟨C1, p1, s1, hr2, hc2⟩ := hcut
        have HR2 : Hid (RwE S wc b (P ++ (C1 ++ (L2 ++ (R2 ++ Q)))) r) := hr2
        have HC2 : Hid (Chg (fun k => k = b) w wc) := hc2
        have HP1 : Hid (C1.Perm (L1 ++ R1) ∧ SrtE C1 ∧ C1.length = L1.length + R1.length) := ⟨p1, s1, by have := p1.length_eq; rw [List.length_append] at this; exact this⟩
        clear hr2 hc2 HR1 HC1 p1 s1
        have HEND : Hid (∀ C2 W, C2.Perm (L2 ++ R2) → SrtE C2 → RwE S W b (P ++ (C1 ++ (C2 ++ Q))) r → ∃ C, C.Perm (A ++ B) ∧ SrtE C ∧ RwE S W b (P ++ (C ++ Q)) r) := by
         intro C2 W p2 s2 hW
         obtain ⟨t1, t2⟩ := cross_done HX.out HP1.out.1 p2 HP1.out.2.1 s2
         rw [HAB.out.1, HAB.out.2] at t2
         exact ⟨C1 ++ C2, t2, t1, by simpa using hW⟩
        as_aux_lemma =>
         go_upto_region 43 with fail
         by_cases q1 : mid < e ∧ e < c
         ·have q2 : (mid : Int) < (e : Int) := by omega
          have q3 : (e : Int) < (c : Int) := by omega
          have hrec := HIH.out S wc b mid e c N cap r (P ++ C1) L2 R2 Q (by have := HLN.out; have := HALL.out; have := HPOS.out; omega) (by have := HLN.out; have := HPOS.out; omega) (by have := HLN.out; omega) (by have := HP1.out.2.2; have := HLN.out; have := HALL.out; have := HPOS.out; rw [List.length_append]; omega) (by have := HP1.out.2.2; have := HLN.out; have := HALL.out; have := HPOS.out; rw [List.length_append]; omega) (by have := HP1.out.2.2; have := HLN.out; have := HALL.out; have := HPOS.out; rw [List.length_append]; omega) (by have := HP1.out.2.2; have := HLN.out; have := HALL.out; have := HPOS.out; rw [List.length_append]; omega) HALL.out.2.2.2.2.1 HSP.out.2.1 HSP.out.2.2.2.1 HSP.out.2.2.2.2.2 (by have := HR2.out; simpa using this)
          go_wp2_with (go_at_call 192; refine hrec.mono ?_; rintro e w1 ⟨rfl, ⟨C2, p2, s2, hR3⟩, hc3⟩)
          go_end0
          exact ⟨rfl, HEND.out C2 w1 p2 s2 (by simpa using hR3), HC2.out.trans hc3 (fun _ _ e => e)⟩
         ·have HEQ : Hid (SrtE (L2 ++ R2)) := by
           show SrtE (L2 ++ R2)
           have n1 := HLN.out
           have n2 := HPOS.out
           rcases (by omega : L2.length = 0 ∨ R2.length = 0) with h | h
           ·have := List.eq_nil_of_length_eq_zero h; subst this; simpa using HSP.out.2.2.2.1
           ·have := List.eq_nil_of_length_eq_zero h; subst this; simpa using HSP.out.2.1
          by_cases q2 : mid < e
          ·have q3 : ¬ (e : Int) < (c : Int) := by omega
           have q4 : (mid : Int) < (e : Int) := by omega
           go_wp2
           go_end0
           exact ⟨rfl, HEND.out (L2 ++ R2) wc (List.Perm.refl _) HEQ.out (by simpa using HR2.out), HC2.out⟩
          ·have q4 : ¬ (mid : Int) < (e : Int) := by omega
           go_wp2
           go_end0
           exact ⟨rfl, HEND.out (L2 ++ R2) wc (List.Perm.refl _) HEQ.out (by simpa using HR2.out), HC2.out⟩
theorem sym_any : ∀ L, SymP L
 | 0 => fun S w b a m c N cap r P A B Q hL hA hB => by omega
 | L + 1 => fun S w b a m c N cap r P A B Q hL hA hB ha hm hc hN hsz hsA hsB ho hR => by
  by_cases h1 : A.length = 1
  ·obtain ⟨x, rfl⟩ := List.length_eq_one_iff.1 h1
   exact sym_left P B Q x hB ha (by simpa using hm) (by simpa using hc) (by simpa using hN) hsz hsB ho (by simpa using hR)
  ·by_cases h2 : B.length = 1
   ·obtain ⟨x, rfl⟩ := List.length_eq_one_iff.1 h2
    exact sym_right P A Q x (by omega) ha hm (by simpa using hc) (by simpa using hN) hsz hsA ho (by simpa using hR)
   ·exact sym_both (sym_any L) P A B Q hL (by omega) (by omega) ha hm hc hN hsz hsA hsB ho hR
end Go.Proofs.YtceoibfliggalaaGreatDoor
namespace Go.Proofs.YtceoibfliggalaaGreatDoor
open Go.RowKit Wd Tr Cg Lg
set_option maxHeartbeats 2000000 in
set_option maxRecDepth 20000 in
theorem stable_any {S : Slx} {w : World} {b N cap : Nat} {r : List Value} (D : List Ev) (hN : D.length = N) (hsz : N ≤ 1000000) (hO : D.Pairwise Ev.O) (hR : RwE S w b D r) :
  Calls Tryz.prog 178 #[.slice (some ⟨b, 0, none⟩) N cap, .int .i64 N, .func (.func 151) #[] #[]] w fun e w' => e = .returned (.tuple #[]) ∧ (∃ C, C.Perm D ∧ SrtE C ∧ RwE S w' b C r) ∧ Chg (fun k => k = b) w w' := by
 have HALL : Hid (D.length = N ∧ N ≤ 1000000) := ⟨hN, hsz⟩
 have HR : Hid (RwE S w b D r) := hR
 have HO : Hid (D.Pairwise Ev.O) := hO
 clear hN hsz hO hR
 go_enter Tryz.func178, Tryz.ntmps178
 go_wp2
 go_loopg [7, 8] N (fun gk v1 v2 wr => ∃ (bs : List (List Ev)) (rest : List Ev) (a : Nat), rest.length = gk ∧ v1 = .int .i64 a ∧ v2 = .int .i64 ((a + 20 : Nat) : Int) ∧ a = bs.flatten.length ∧ Raw0 D bs rest ∧ (∀ f ∈ bs, f.length = 20) ∧ RwE S wr b (bs.flatten ++ rest) r ∧ Chg (fun k => k = b) w wr)
 case atStart => exact ⟨[], D, 0, HALL.out.1, rfl, rfl, rfl, Raw0.start HO.out, by simp, by simpa using HR.out, Chg.refl _ _⟩
 case round =>
  obtain ⟨bs, rest, a, hgk, rfl, rfl, ha, hraw, hf, hrow, hchg⟩ := hrel
  have HROW : Hid (RwE S wr b (bs.flatten ++ rest) r) := hrow
  have HCHG : Hid (Chg (fun k => k = b) w wr) := hchg
  have HRAW : Hid (Raw0 D bs rest) := hraw
  have HF : Hid (∀ f ∈ bs, f.length = 20) := hf
  have HL : Hid (a + rest.length = N ∧ bs.flatten.length = a ∧ N ≤ 1000000 ∧ rest.length = gk) := by
   have := hraw.perm.length_eq
   rw [List.length_append] at this
   exact ⟨by have := HALL.out.1; omega, ha.symm, HALL.out.2, hgk⟩
  clear hgk ha hraw hf hrow hchg HR HO
  by_cases hlt : a + 20 ≤ N
  ·have hlt' : ((a + 20 : Nat) : Int) ≤ (N : Int) := by omega
   have hins := insertion_some (S := S) (w := wr) (b := b) (a := a) (c := a + 20) (N := N) (cap := cap) (r := r) bs.flatten (rest.take 20) (rest.drop 20) (by rw [List.length_take]; have := HL.out; omega) HL.out.2.1 (by rw [List.length_take]; have := HL.out; omega) (by rw [List.length_take, List.length_drop]; have := HL.out; omega) (by have := HL.out; omega) (HRAW.out.ord.sublist (List.take_sublist _ _)) (by rw [List.take_append_drop]; exact HROW.out)
   have HW : Hid (wrap64 ((a : Int) + 20 + 20) = ((a + 20 + 20 : Nat) : Int)) := by show wrap64 ((a : Int) + 20 + 20) = ((a + 20 + 20 : Nat) : Int); have := HL.out; unfold wrap64; omega
   go_wp2_with (go_at_call 191; refine hins.mono ?_; rintro e w1 ⟨rfl, ⟨C, hp, hs, hR1⟩, hc1⟩)
   go_roundg (rest.length - 20)
   case measure => have := HL.out; omega
   case rel =>
    have hl := hp.length_eq
    rw [List.length_take] at hl
    refine ⟨bs ++ [C], rest.drop 20, a + 20, by rw [List.length_drop], rfl, by rw [HW.out], ?_, Raw0.step (X := rest.take 20) (by rw [List.take_append_drop]; exact HRAW.out) hp hs, ?_, by simpa using hR1, HCHG.out.trans hc1 (fun _ _ e => e)⟩
    ·have := HL.out
     rw [List.flatten_append, List.length_append]; simp only [List.flatten_cons, List.flatten_nil, List.append_nil]; omega
    ·intro f hf
     rcases List.mem_append.1 hf with hf | hf
     ·exact HF.out f hf
     ·simp at hf; subst hf; have := HL.out; omega
  ·have hlt' : ¬ ((a + 20 : Nat) : Int) ≤ (N : Int) := by omega
   have hins : Calls Tryz.prog 191 #[.slice (some ⟨b, 0, none⟩) N cap, .int .i64 a, .int .i64 N, .func (.func 151) #[] #[]] wr fun e w' => e = .returned (.tuple #[]) ∧ (∃ C, Grp D (bs ++ [C]) ∧ C.length ≤ 20 ∧ RwE S w' b ((bs ++ [C]).flatten) r) ∧ Chg (fun k => k = b) wr w' := by
    by_cases h0 : rest.length = 0
    ·have e0 := List.eq_nil_of_length_eq_zero h0
     have e1 : a = N := by have := HL.out; omega
     subst e1
     refine (insertion_none (by have := HL.out; omega)).mono ?_
     rintro e w1 ⟨rfl, rfl⟩
     have h1 := HRAW.out
     have h2 := HROW.out
     rw [e0] at h1 h2
     exact ⟨rfl, ⟨[], h1.done.more, by simp, by simpa using h2⟩, Chg.refl _ _⟩
    ·refine (insertion_some (S := S) (w := wr) (b := b) (a := a) (c := N) (N := N) (cap := cap) (r := r) bs.flatten rest [] (by omega) HL.out.2.1 (by have := HL.out; omega) (by have := HL.out; rw [List.length_nil]; omega) (by have := HL.out; omega) HRAW.out.ord (by simpa using HROW.out)).mono ?_
     rintro e w1 ⟨rfl, ⟨C, hp, hs, hR1⟩, hc1⟩
     refine ⟨rfl, ⟨C, (Raw0.step (X := rest) (rest := []) (by simpa using HRAW.out) hp hs).done, by have := hp.length_eq; have := HL.out; omega, by simpa using hR1⟩, hc1⟩
   go_upto_region 6 with fail
   go_wp2_with (go_at_call 191; refine hins.mono ?_; rintro e w1 ⟨rfl, ⟨C, hG, hCl, hR1⟩, hc1⟩)
   have HG : Hid (Grp D (bs ++ [C]) ∧ Full 20 bs C) := ⟨hG, HF.out, hCl⟩
   have HR1 : Hid (RwE S w1 b ((bs ++ [C]).flatten) r) := hR1
   have HC1 : Hid (Chg (fun k => k = b) w w1) := HCHG.out.trans hc1 (fun _ _ e => e)
   clear hG hCl hR1 hc1 hins HROW HCHG HRAW HF hlt hlt'
   clear HL
   obtain ⟨V, hV⟩ : ∃ V : World, V = w1 := ⟨_, rfl⟩
   rw [← hV] at HR1 HC1
   rw [← hV]
   clear hV
   go_loopg [6] (N - 20) (fun gk v wr => ∃ (s : Nat) (fs : List (List Ev)) (l : List Ev), N - s = gk ∧ 0 < s ∧ s ≤ 2 * N + 20 ∧ v = .int .i64 s ∧ Grp D (fs ++ [l]) ∧ Full s fs l ∧ RwE S wr b ((fs ++ [l]).flatten) r ∧ Chg (fun k => k = b) w wr)
   case atStart => exact ⟨20, bs, C, by omega, by omega, by omega, rfl, HG.out.1, HG.out.2, HR1.out, HC1.out⟩
   case round =>
    clear HR1 HC1 HG
    obtain ⟨s, fs, l, hgk, hs0, hsb, rfl, hG, hF, hrow, hchg⟩ := hrel
    have HROW : Hid (RwE S wr b ((fs ++ [l]).flatten) r) := hrow
    have HCHG : Hid (Chg (fun k => k = b) w wr) := hchg
    have HG : Hid (Grp D (fs ++ [l]) ∧ Full s fs l) := ⟨hG, hF⟩
    have HS : Hid (N - s = gk ∧ 0 < s ∧ s ≤ 2 * N + 20 ∧ D.length = N ∧ N ≤ 1000000) := ⟨hgk, hs0, hsb, HALL.out.1, HALL.out.2⟩
    clear hgk hs0 hsb hG hF hrow hchg
    by_cases hlt : s < N
    ·have hlt' : (s : Int) < (N : Int) := by omega
     have HLT : Hid (s < N) := hlt
     have HW2 : Hid (wrap64 (2 * (s : Int)) = ((0 + 2 * s : Nat) : Int)) := by show wrap64 (2 * (s : Int)) = ((0 + 2 * s : Nat) : Int); have := HS.out; unfold wrap64; omega
     have HW3 : Hid (wrap64 ((s : Int) * 2) = ((2 * s : Nat) : Int)) := by show wrap64 ((s : Int) * 2) = ((2 * s : Nat) : Int); have := HS.out; unfold wrap64; omega
     clear hlt
     go_upto_region 8 with fail
     go_wp2
     obtain ⟨V2, hV2⟩ : ∃ V2 : World, V2 = wr := ⟨_, rfl⟩
     rw [← hV2] at HROW HCHG
     rw [← hV2]
     clear hV2
     go_loopg [7, 8] N (fun gk v1 v2 wr => ∃ (a : Nat) (X fs : List (List Ev)) (l : List Ev), N - a = gk ∧ v1 = .int .i64 a ∧ v2 = .int .i64 ((a + 2 * s : Nat) : Int) ∧ X.flatten.length = a ∧ Grp D (X ++ (fs ++ [l])) ∧ Full s fs l ∧ (∀ f ∈ X, f.length = 2 * s) ∧ RwE S wr b ((X ++ (fs ++ [l])).flatten) r ∧ Chg (fun k => k = b) w wr)
     case atStart => exact ⟨0, [], fs, l, by omega, rfl, by rw [HW2.out], rfl, HG.out.1, HG.out.2, by simp, HROW.out, HCHG.out⟩
     case round =>
      clear HROW HCHG HG
      obtain ⟨a, X, fs, l, hgk, rfl, rfl, ha, hG, hF, hX, hrow, hchg⟩ := hrel
      have HROW : Hid (RwE S wr b ((X ++ (fs ++ [l])).flatten) r) := hrow
      have HCHG : Hid (Chg (fun k => k = b) w wr) := hchg
      have HG : Hid (Grp D (X ++ (fs ++ [l])) ∧ Full s fs l ∧ (∀ f ∈ X, f.length = 2 * s) ∧ X.flatten.length = a) := ⟨hG, hF, hX, ha⟩
      have HA : Hid (N - a = gk ∧ a ≤ N) := ⟨hgk, by have := grp_len hG hF; have := HS.out; omega⟩
      clear hgk hG hF hX ha hrow hchg
      by_cases hab : a + 2 * s ≤ N
      ·have hab' : ((a + 2 * s : Nat) : Int) ≤ (N : Int) := by omega
       obtain ⟨f, g, Q, hfl, hf1, hg1, sf, sg, ac, hmk⟩ := two_blocks HG.out.1 HG.out.2.1 HS.out.2.1 (by rw [HG.out.2.2.2, HS.out.2.2.2.1]; exact hab)
       have HMK : Hid (∀ C, C.Perm (f ++ g) → SrtE C → ∃ fs2 l2, Grp D ((X ++ [C]) ++ (fs2 ++ [l2])) ∧ Full s fs2 l2 ∧ ((X ++ [C]) ++ (fs2 ++ [l2])).flatten = X.flatten ++ (C ++ Q)) := hmk
       have HLQ : Hid (a + s + s + Q.length = N) := by
        show a + s + s + Q.length = N
        have h1 := HG.out.1.perm.length_eq
        rw [hfl] at h1
        simp only [List.length_append] at h1
        have := HG.out.2.2.2
        have := HS.out.2.2.2.1
        omega
       have HLEN2 : Hid (f.length = s ∧ g.length = s) := ⟨hf1, hg1⟩
       have HWM : Hid (wrap64 ((a : Int) + (s : Int)) = ((a + s : Nat) : Int)) := by show wrap64 ((a : Int) + (s : Int)) = ((a + s : Nat) : Int); have := HS.out; unfold wrap64; omega
       have hsy : Calls Tryz.prog 192 #[.slice (some ⟨b, 0, none⟩) N cap, .int .i64 a, .int .i64 (wrap64 ((a : Int) + (s : Int))), .int .i64 ((a + 2 * s : Nat) : Int), .func (.func 151) #[] #[]] wr fun e w' => e = .returned (.tuple #[]) ∧ (∃ C, C.Perm (f ++ g) ∧ SrtE C ∧ RwE S w' b (X.flatten ++ (C ++ Q)) r) ∧ Chg (fun k => k = b) wr w' := by
        rw [HWM.out]
        have e1 := HG.out.2.2.2
        have e2 := HS.out
        have e3 := HLQ.out
        exact sym_any (f.length + g.length) S wr b a (a + s) (a + 2 * s) N cap r X.flatten f g Q (Nat.le_refl _) (by omega) (by omega) e1 (by omega) (by omega) (by omega) (by omega) sf sg ac (by rw [← hfl]; exact HROW.out)
       have HWB : Hid (∀ z : Int, z = 2 * (s : Int) → wrap64 (((a + 2 * s : Nat) : Int) + z) = ((a + 2 * s + 2 * s : Nat) : Int)) := by intro z hz; have := HS.out; have := HLQ.out; subst hz; unfold wrap64; omega
       have HW2' : Hid (wrap64 (2 * (s : Int)) = 2 * (s : Int)) := by show wrap64 (2 * (s : Int)) = 2 * (s : Int); have := HS.out; unfold wrap64; omega
       clear hfl hf1 hg1 sf sg ac hmk
       simp only [Int.natCast_add, Int.natCast_mul] at hsy hab' ⊢
       go_wp2_with (go_at_call 192; refine hsy.mono ?_; rintro e w2 ⟨rfl, ⟨C, p, sC, hR2⟩, hc2⟩)
       clear hsy hab'
       go_roundg (N - (a + 2 * s))
       case measure => have := HA.out; have := HS.out; omega
       case rel =>
        obtain ⟨fs2, l2, hG2, hF2, hfl2⟩ := HMK.out C p sC
        refine ⟨a + 2 * s, X ++ [C], fs2, l2, rfl, by simp, ?_, ?_, hG2, hF2, ?_, by rw [hfl2]; exact hR2, HCHG.out.trans hc2 (fun _ _ e => e)⟩
        ·have := HWB.out (2 * (s : Int)) rfl
         rw [HW2'.out]
         simpa using this
        ·have h1 := p.length_eq
         have h2 := HLEN2.out
         rw [List.length_append] at h1
         rw [List.flatten_append, List.length_append, HG.out.2.2.2]
         simp only [List.flatten_cons, List.flatten_nil, List.append_nil]
         omega
        ·intro k hk
         have h1 := p.length_eq
         have h2 := HLEN2.out
         rw [List.length_append] at h1
         rcases List.mem_append.1 hk with hk | hk
         ·exact HG.out.2.2.1 k hk
         ·simp at hk; subst hk; omega
      ·have hab' : ¬ ((a + 2 * s : Nat) : Int) ≤ (N : Int) := by omega
       have HWM : Hid (wrap64 ((a : Int) + (s : Int)) = ((a + s : Nat) : Int)) := by show wrap64 ((a : Int) + (s : Int)) = ((a + s : Nat) : Int); have := HS.out; have := HA.out; unfold wrap64; omega
       have HNX : Hid (∀ C W, Grp D (X ++ [C]) → Full (2 * s) X C → RwE S W b ((X ++ [C]).flatten) r → Chg (fun k => k = b) w W → ∃ (s' : Nat) (fs : List (List Ev)) (l : List Ev), N - s' = N - 2 * s ∧ 0 < s' ∧ s' ≤ 2 * N + 20 ∧ Value.int .i64 (wrap64 ((s : Int) * 2)) = .int .i64 s' ∧ Grp D (fs ++ [l]) ∧ Full s' fs l ∧ RwE S W b ((fs ++ [l]).flatten) r ∧ Chg (fun k => k = b) w W) := by
        intro C W h1 h2 h3 h4
        have e1 := HS.out
        have e2 := HLT.out
        exact ⟨2 * s, X, C, rfl, by omega, by omega, by rw [HW3.out], h1, h2, h3, h4⟩
       by_cases hms : a + s < N
       ·have hms' : wrap64 ((a : Int) + (s : Int)) < (N : Int) := by rw [HWM.out]; omega
        obtain ⟨f, g, hfl, hf1, hg1, sf, sg, ac, hmk⟩ := last_two' HG.out.1 HG.out.2.1 HG.out.2.2.1 (by rw [HG.out.2.2.2, HS.out.2.2.2.1]; omega) (by rw [HG.out.2.2.2, HS.out.2.2.2.1]; exact hms)
        have HMK : Hid (∀ C, C.Perm (f ++ g) → SrtE C → Grp D (X ++ [C]) ∧ Full (2 * s) X C) := hmk
        have HLQ : Hid (a + s + g.length = N) := by
         show a + s + g.length = N
         have h1 := HG.out.1.perm.length_eq
         rw [hfl] at h1
         simp only [List.length_append] at h1
         have := HG.out.2.2.2
         have := HS.out.2.2.2.1
         omega
        have hsy : Calls Tryz.prog 192 #[.slice (some ⟨b, 0, none⟩) N cap, .int .i64 a, .int .i64 (wrap64 ((a : Int) + (s : Int))), .int .i64 N, .func (.func 151) #[] #[]] wr fun e w' => e = .returned (.tuple #[]) ∧ (∃ C, C.Perm (f ++ g) ∧ SrtE C ∧ RwE S w' b (X.flatten ++ (C ++ [])) r) ∧ Chg (fun k => k = b) wr w' := by
         rw [HWM.out]
         have e1 := HG.out.2.2.2
         have e2 := HS.out
         have e3 := HLQ.out
         exact sym_any (f.length + g.length) S wr b a (a + s) N N cap r X.flatten f g [] (Nat.le_refl _) (by omega) (by omega) e1 (by omega) (by omega) (by rw [List.length_nil]; omega) (by omega) sf sg ac (by have := HROW.out; rw [hfl] at this; simpa using this)
        clear hfl hf1 hg1 sf sg ac hmk
        simp only [Int.natCast_add, Int.natCast_mul] at hab' ⊢
        go_wp2_with (go_at_call 192; refine hsy.mono ?_; rintro e w2 ⟨rfl, ⟨C, p, sC, hR2⟩, hc2⟩)
        clear hsy hab' hms'
        go_roundg (N - 2 * s)
        case measure => have := HS.out; have := HLT.out; omega
        case rel =>
         obtain ⟨h1, h2⟩ := HMK.out C p sC
         exact HNX.out C w2 h1 h2 (by simpa using hR2) (HCHG.out.trans hc2 (fun _ _ e => e))
       ·have hms' : ¬ wrap64 ((a : Int) + (s : Int)) < (N : Int) := by rw [HWM.out]; omega
        obtain ⟨C, hG2, hF2, hfl⟩ := last_one' HG.out.1 HG.out.2.1 HS.out.2.1 HG.out.2.2.1 (by rw [HG.out.2.2.2, HS.out.2.2.2.1]; omega)
        have HC : Hid (Grp D (X ++ [C]) ∧ Full (2 * s) X C ∧ (X ++ [C]).flatten = (X ++ (fs ++ [l])).flatten) := ⟨hG2, hF2, hfl⟩
        clear hG2 hF2 hfl
        simp only [Int.natCast_add, Int.natCast_mul] at hab' ⊢
        go_wp2
        clear hab' hms'
        go_roundg (N - 2 * s)
        case measure => have := HS.out; have := HLT.out; omega
        case rel => exact HNX.out C wr HC.out.1 HC.out.2.1 (by rw [HC.out.2.2]; exact HROW.out) HCHG.out
    ·have hlt' : ¬ (s : Int) < (N : Int) := by omega
     have hone := grp_one HG.out.1 HG.out.2 HS.out.2.1 (by rw [HS.out.2.2.2.1]; omega)
     have HONE : Hid (SrtE (fs ++ [l]).flatten) := hone
     clear hone
     go_wp2
     go_end0
     exact ⟨rfl, ⟨(fs ++ [l]).flatten, HG.out.1.perm, HONE.out, HROW.out⟩, HCHG.out⟩
theorem stable_none {w : World} {ao : Option Addr} {cap : Nat} {fv : Value} :
  Calls Tryz.prog 178 #[.slice ao 0 cap, .int .i64 0, fv] w fun e w' => e = .returned (.tuple #[]) ∧ w' = w := by
 have hins := insertion_none (w := w) (ao := ao) (a := 0) (N := 0) (cap := cap) (fv := fv) (by omega)
 go_enter Tryz.func178, Tryz.ntmps178
 go_wp2
 refine wp_loop_rounds 1 ?_
 rw [rounds_succ]
 go_wp2_with (go_at_call 191; refine hins.mono ?_; rintro e w1 ⟨rfl, rfl⟩)
 refine wp_loop_rounds 1 ?_
 rw [rounds_succ]
 go_wp2
 go_end0
 exact ⟨rfl, rfl⟩
theorem sort_some {S : Slx} {w : World} {b N cap : Nat} {r : List Value} (D : List Ev) (hN : D.length = N) (hsz : N ≤ 1000000) (hO : D.Pairwise Ev.O) (hR : RwE S w b D r) :
  Calls Tryz.prog 150 #[.slice (some ⟨b, 0, none⟩) N cap, .func (.func 151) #[] #[]] w fun e w' => e = .returned (.tuple #[]) ∧ (∃ C, C.Perm D ∧ SrtE C ∧ RwE S w' b C r) ∧ Chg (fun k => k = b) w w' := by
 have hs := stable_any (cap := cap) D hN hsz hO hR
 go_enter Tryz.func150, Tryz.ntmps150
 go_wp2_with (go_at_call 178; refine hs.mono ?_; rintro e w1 ⟨rfl, h1, h2⟩)
 go_end0
 exact ⟨rfl, h1, h2⟩
theorem sort_none {w : World} {ao : Option Addr} {cap : Nat} {fv : Value} :
  Calls Tryz.prog 150 #[.slice ao 0 cap, fv] w fun e w' => e = .returned (.tuple #[]) ∧ w' = w := by
 have hs := stable_none (w := w) (ao := ao) (cap := cap) (fv := fv)
 go_enter Tryz.func150, Tryz.ntmps150
 go_wp2_with (go_at_call 178; refine hs.mono ?_; rintro e w1 ⟨rfl, rfl⟩)
 go_end0
 exact ⟨rfl, rfl⟩
end Go.Proofs.YtceoibfliggalaaGreatDoor
