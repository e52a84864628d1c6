/-
  LAYER 13: package share: sums: a closure that calls itself.
  LAYER 13: package share: Shares.
  LAYER 13: package share: Effective.
  LAYER 13: package share: Factors.
  LAYER 13, the statements: plain; the statements' head.
-/
import Derived.Test.YtjgllfpnmmopdaaGreatDoorXsf
import Derived.Laws.MakeOwn
import Derived.Test.YtjgllfpnmmopdaaGreatDoorXcp
import Derived.Test.YtjgllfpnmmopdaaGreatDoorLdr
namespace Go.Proofs.YtjgllfpnmmopdaaGreatDoor
open Go.RowKit Wd Tr Go.Maps

namespace Tr
/-- Done, and all below n. -/
def SubD (l : List Ac) (n : Nat) (D : Nat → Prop) : Nat → Prop := fun i => D i ∨ (i < l.length ∧ Blw l n i)
theorem sub_next {l : List Ac} {p j k : Nat} {D : Nat → Prop} (hk : (kidsV l p)[j]? = some k) : SubD l k (DoneTo l p D j) = DoneTo l p D (j + 1) := by
  funext i
  apply propext
  constructor
  · rintro (h1 | ⟨hi, hb⟩)
    · rcases h1 with h1 | ⟨m, k', hm, r⟩
      · exact .inl h1
      · exact .inr ⟨m, k', by omega, r⟩
    · exact .inr ⟨j, k, by omega, hk, hi, hb⟩
  · rintro (h1 | ⟨m, k', hm, hk', hi, hb⟩)
    · exact .inl (.inl h1)
    · by_cases e : m = j
      · subst e
        rw [hk] at hk'
        cases hk'
        exact .inr ⟨hi, hb⟩
      · exact .inl (.inr ⟨m, k', by omega, hk', hi, hb⟩)
theorem sub_end {l : List Ac} {n : Nat} {D : Nat → Prop} (hn : n < l.length) : (fun i => DoneAll l n D i ∨ i = n) = SubD l n D := by
  funext i
  apply propext
  constructor
  · rintro ((h | ⟨h1, h2, _⟩) | rfl)
    · exact .inl h
    · exact .inr ⟨h1, h2⟩
    · exact .inr ⟨hn, below_self l i⟩
  · rintro (h | ⟨h1, h2⟩)
    · exact .inl (.inl h)
    · by_cases e : i = n
      · exact .inr e
      · exact .inl (.inr ⟨h1, h2, e⟩)
theorem take_succ {α : Type} {l : List α} {j : Nat} {a : α} (h : l[j]? = some a) : l.take (j + 1) = l.take j ++ [a] := by
  rw [List.take_add_one, h]
  rfl
end Tr
/-- The row of sums, as far as it is done. -/
def RowS (w : World) (sb : Nat) (l : List Ac) (D : Nat → Prop) : Prop := ∃ f, RowF w sb l.length f ∧ ∀ j, j < l.length → D j → f j = sumV l j
theorem RowS.below {w w' : World} {sb : Nat} {l : List Ac} {D : Nat → Prop} (h : RowS w sb l D) (b : Below w.heap.size w w') : RowS w' sb l D := by
  obtain ⟨f, h1, h2⟩ := h
  exact ⟨f, h1.below b, h2⟩
theorem RowS.set {w : World} {sb : Nat} {l : List Ac} {D : Nat → Prop} (h : RowS w sb l D) (n : Nat) : RowS (w.setCell ⟨sb, n, none⟩ (.int .u64 (sumV l n))) sb l (fun i => D i ∨ i = n) := by
  obtain ⟨f, h1, h2⟩ := h
  refine ⟨_, h1.set n _, fun j hj hd => ?_⟩
  unfold updF
  by_cases e : j = n
  · rw [if_pos e, e]
  · rw [if_neg e]
    exact h2 j hj (hd.elim id (fun h => absurd h e))
set_option maxHeartbeats 1000000 in
set_option maxRecDepth 20000 in
theorem sum1_any {WF : World} {B m g o c fa ca sa sb : Nat} {l : List Ac} {v : Nat → Value} (hwu : Wu l) (hus : UsOk l) (hacs : Acs WF g o l) (hbro : Bro WF B m l l.length v) (kf : fa ≠ sb) (kc : ca ≠ sb) (ks : sa ≠ sb) (kw : WF.heap.size ≤ sb) :
    ∀ (f : Nat) {n d : Nat} {D : Nat → Prop} {w : World}, Below WF.heap.size WF w →
      (w.cell? ⟨fa, 0, none⟩ = some (.slice (some ⟨g, o, none⟩) l.length c) ∧ w.cell? ⟨fa, 1, none⟩ = some (.map (some m)) ∧ w.cell? ⟨sa, 0, none⟩ = some (.slice (some ⟨sb, 0, none⟩) l.length l.length) ∧ w.cell? ⟨ca, 0, none⟩ = some (.func (.func 115) #[] #[.pointer (some ⟨fa, 0, none⟩), .pointer (some ⟨ca, 0, none⟩), .pointer (some ⟨sa, 0, none⟩)])) →
      RowS w sb l D → n < l.length → Dep l d n → 4 < d + f →
      Calls Tryz.prog 115 #[.int .i64 (n : Int), .pointer (some ⟨fa, 0, none⟩), .pointer (some ⟨ca, 0, none⟩), .pointer (some ⟨sa, 0, none⟩)] w fun e w' => e = .returned (.int .u64 (sumV l n)) ∧ RowS w' sb l (SubD l n D) ∧ Chg (fun j => j = sb) w w' := by
  intro f
  induction f with
  | zero =>
    intro n d D w _ _ _ hn hd hf
    obtain ⟨e, h1, h2⟩ := hwu.deep hn
    have := dep_uniq hd h2
    omega
  | succ f ih =>
    intro n d D w hbel hc hrow hn hd hf
    have hb0 := hbro.below hbel
    have hlk := hb0.look hwu.len hn
    obtain ⟨xa, xc, hv⟩ := sl_shape (hb0.row n hn)
    rw [hv] at hlk
    have HDE : Hid (DoneTo l n D (kidP l n l.length).length = DoneAll l n D) := done_end hwu
    have HPL : Hid ((kidP l n l.length).length = (kidsV l n).length) := rfl
    obtain ⟨nk, hnk⟩ : ∃ nk, (kidP l n l.length).length = nk := ⟨_, rfl⟩
    have hnk64 : nk ≤ 64 := by have := kidP_le l n l.length; have := hwu.len; omega
    rw [hnk] at hlk
    obtain ⟨a, ha, hac⟩ := (hacs.below hbel).at hn
    have x0 := hac.us
    rw [← us_of ha] at x0
    obtain ⟨S, hS⟩ : ∃ S, sumV l n = S := ⟨_, rfl⟩
    have HSE : Hid (sumTo (sumV l) (usOf l n) ((kidsV l n).take nk) = S) := by
      rw [← hS, sum_kids hwu hn, ← hnk, HPL.out, List.take_length]
      exact rfl
    rw [hS]
    have HSS : Hid _ := hS
    have HNK : Hid _ := hnk
    have HW : Hid (Wu l) := hwu
    have HU : Hid (UsOk l) := hus
    have HV : Hid _ := hv
    have HIH : Hid _ := @ih
    have HBRO : Hid (Bro WF B m l l.length v) := hbro
    have HBEL : Hid _ := hbel
    have HRO : Hid (RowS w sb l D) := hrow
    have HC : Hid (w.cell? ⟨fa, 0, none⟩ = some (.slice (some ⟨g, o, none⟩) l.length c) ∧ w.cell? ⟨fa, 1, none⟩ = some (.map (some m)) ∧ w.cell? ⟨sa, 0, none⟩ = some (.slice (some ⟨sb, 0, none⟩) l.length l.length) ∧ w.cell? ⟨ca, 0, none⟩ = some (.func (.func 115) #[] #[.pointer (some ⟨fa, 0, none⟩), .pointer (some ⟨ca, 0, none⟩), .pointer (some ⟨sa, 0, none⟩)])) := hc
    have HNn : Hid (n < l.length) := hn
    have HDD : Hid (Dep l d n) := hd
    have HF : Hid _ := hf
    obtain ⟨c0, c1, _, _⟩ := hc
    have hn' : (n : Int) < l.length := by omega
    clear hbel hrow ih hb0 hv hnk hac ha hS hn hd hf hwu hus hbro hacs
    generalize togN l (↑n) l.length = tg at *
    have hfl := fld0 (.slice xa nk xc) (.int .u64 tg)
    go_enter Tryz.func115, Tryz.ntmps115
    go_wp2
    clear c0 c1 hlk hfl x0
    go_loopg [6, 21] nk (fun gk t x wr => ∃ j : Nat, j + gk = nk ∧ t = .int .u64 (sumTo (sumV l) (usOf l n) ((kidsV l n).take j)) ∧ x = .int .i64 j ∧ RowS wr sb l (DoneTo l n D j) ∧ Chg (fun j => j = sb) w wr)
    case atStart => exact ⟨0, by omega, rfl, rfl, by rw [done_start]; exact HRO.out, Chg.refl _ _⟩
    case round =>
      obtain ⟨j, hj, rfl, rfl, hr, hch⟩ := hrel
      by_cases hlt : j < nk
      · have hlt' : (j : Int) < nk := by omega
        obtain ⟨k, hk⟩ : ∃ k, (kidsV l n)[j]? = some k := ⟨_, List.getElem?_eq_getElem (by rw [← HPL.out, HNK.out]; exact hlt)⟩
        have hkm := List.mem_of_getElem? hk
        obtain ⟨hk0, hkl, hku⟩ := HW.out.kid hkm
        have B1 : Below WF.heap.size WF wr := hch.below HBEL.out HBEL.out.size (fun i hi => by omega)
        obtain ⟨b, cc, hvv, hcell⟩ := ints_cell ((HBRO.out.below B1).row n HNn.out) (j := j) (k := k) hk
        rw [HV.out, HNK.out] at hvv
        obtain ⟨rfl, rfl⟩ : xa = some ⟨b, 0, none⟩ ∧ xc = cc := by
          have := Value.slice.inj hvv
          exact ⟨this.1, this.2.2⟩
        have cb := hch.cell HC.out.2.2.2 kc
        have hv2 := HIH.out (n := k) (d := d + 1) (D := DoneTo l n D j) (w := wr) B1 ⟨hch.cell HC.out.1 kf, hch.cell HC.out.2.1 kf, hch.cell HC.out.2.2.1 ks, cb⟩ hr hkl (HW.out.kid_dep hkm HDD.out) (by have := HF.out; omega)
        rw [sub_next hk] at hv2
        have hsw : Word (sumTo (sumV l) (usOf l n) ((kidsV l n).take j)) := sumTo_word (us_word HU.out n) (fun k _ => sum_word HU.out k)
        have c2 := qadd_any (sumTo (sumV l) (usOf l n) ((kidsV l n).take j)) (sumV l k) hsw (sum_word HU.out k)
        have HE : Hid (narV (sumTo (sumV l) (usOf l n) ((kidsV l n).take j) + sumV l k) = sumTo (sumV l) (usOf l n) ((kidsV l n).take (j + 1))) := show narV _ = _ by rw [take_succ hk, sumTo_last]; rfl
        have HCH : Hid _ := hch
        clear hr hch hk hkm hk0 hkl hku B1 hvv hsw
        generalize sumTo (sumV l) (usOf l n) ((kidsV l n).take j) = T at *
        generalize sumV l k = Sk at *
        obtain ⟨NT, hNT⟩ : ∃ NT, narV (T + Sk) = NT := ⟨_, rfl⟩
        rw [hNT] at c2
        have HN : Hid _ := hNT
        clear hNT
        go_wp2_with fail
        refine hv2.mono ?_
        rintro e w1 ⟨rfl, hi1, hc1⟩
        have HI1 : Hid _ := hi1
        have HC1 : Hid _ := hc1
        clear hv2 hi1 hc1 cb hcell
        go_wp2_with fail
        refine (c2 _).mono ?_
        rintro e w2 ⟨rfl, hb2⟩
        have HI2 : Hid (RowS w2 sb l (DoneTo l n D (j + 1))) := RowS.below HI1.out hb2
        have HC2 : Hid (Chg (fun j => j = sb) w w2) := (HCH.out.trans HC1.out (fun _ _ h => h)).trans (Chg.of_below hb2 (fun j => j = sb)) (fun _ _ h => h)
        clear hb2 c2
        go_wp2
        go_roundg (nk - (j + 1))
        case measure => omega
        case rel => exact ⟨j + 1, by omega, by rw [← HN.out, HE.out], rfl, HI2.out, HC2.out⟩
      · obtain rfl : j = nk := by omega
        have hr2 : RowS wr sb l (DoneAll l n D) := by rw [← HDE.out, HNK.out]; exact hr
        have c3 := hch.cell HC.out.2.2.1 ks
        obtain ⟨ff, hrf, _⟩ := id hr2
        have z1 := hrf.cell HNn.out
        have z2 := hrf.free n
        have hend := RowS.set hr2 n
        rw [sub_end HNn.out, HSS.out] at hend
        have HEND : Hid _ := hend
        have HCH : Hid (Chg (fun j => j = sb) w (wr.setCell ⟨sb, n, none⟩ (.int .u64 S))) := show Chg (fun j => j = sb) w (wr.setCell ⟨sb, n, none⟩ (.int .u64 S)) from hch.setCell _ _ (.inl rfl)
        rw [HSE.out]
        clear hr hch hr2 hrf hend
        go_wp2
        go_ret
        exact ⟨rfl, HEND.out, HCH.out⟩
theorem Tryz.infU : (Tryz.prog.info? 29).map (fun i => (i.zero, i.size, i.bytes)) = some (some (.int .u64 0), 1, 8) := by kernel_rfl
/-- make([]uint64, L) -/
theorem make_u64 (w : World) {L : Nat} (hL : L ≤ 64) : ∃ w', (Instr.makeSlice 42 (.int .i64 (L : Int)) (.int .i64 (L : Int))).run Tryz.prog w = .ok (.slice (some ⟨w.heap.size, 0, none⟩) L L) w' ∧ RowF w' w.heap.size L (fun _ => 0) ∧ Below w.heap.size w w' ∧ w'.heap.size = w.heap.size + 1 := by
  obtain ⟨i0, hi0, hz0, hz1, hz2⟩ := info_parts Tryz.infU
  have hmk := run_makeSlice (P := Tryz.prog) w 42 29 i0 _ Tryz.underlying42 hi0 hz0 .i64 .i64 (L : Int) (L : Int) (by omega) (Int.le_refl _) (by rw [hz1]; simp; omega) (by rw [hz2]; omega) (by omega)
  simp only [Int.toNat_natCast, hz1] at hmk
  refine ⟨_, hmk, ⟨_, heap_alloc_new w _, by simp [madeCells], fun k hk => ?_⟩, (Below.refl _ _).alloc (Nat.le_refl _) _, by simp⟩
  rw [show (Value.int .u64 0).cells = #[.int .u64 0] from rfl]
  simp [madeCells, hk, Nat.mod_one]
set_option maxHeartbeats 1000000 in
set_option maxRecDepth 20000 in
theorem sums_any {w : World} {B m g o c : Nat} {l : List Ac} {v : Nat → Value} (hwu : Wu l) (hus : UsOk l) (hacs : Acs w g o l) (hbro : Bro w B m l l.length v) :
    Calls Tryz.prog 96 #[.agg #[.slice (some ⟨g, o, none⟩) l.length c, .map (some m)]] w fun e w' => ∃ sb, e = .returned (.slice (some ⟨sb, 0, none⟩) l.length l.length) ∧ w.heap.size ≤ sb ∧ RowF w' sb l.length (sumV l) ∧ Below w.heap.size w w' := by
  have hmf : ∀ (fn : Fn) (first cap : Array Value) (w : World), (Instr.makeFunc fn first cap).run Tryz.prog w = .ok (.func fn first cap) w := fun _ _ _ _ => rfl
  have hl := hwu.len
  obtain ⟨L, hL⟩ : ∃ L, l.length = L := ⟨_, rfl⟩
  have HL : Hid (l.length = L) := hL
  obtain ⟨w1, hw1⟩ : ∃ w1, w.alloc (.cells #[.slice (some ⟨g, o, none⟩) L c, .map (some m)] 105) = w1 := ⟨_, rfl⟩
  have b1 : Below w.heap.size w w1 := by rw [← hw1]; exact (Below.refl _ _).alloc (Nat.le_refl _) _
  have p0 : w1.cell? ⟨w.heap.size, 0, none⟩ = some (.slice (some ⟨g, o, none⟩) L c) := by rw [← hw1]; simp [go_sem]
  have p1 : w1.cell? ⟨w.heap.size, 1, none⟩ = some (.map (some m)) := by rw [← hw1]; simp [go_sem]
  have z1 : w1.heap.size = w.heap.size + 1 := by rw [← hw1]; simp
  obtain ⟨w2, hmk, hrow, b2, z2⟩ := make_u64 w1 (L := L) (by omega)
  obtain ⟨w3, hw3⟩ : ∃ w3, (w2.alloc (.cells #[.slice (some ⟨w1.heap.size, 0, none⟩) L L] 42)).alloc (.cells #[.func (.func 115) #[] #[.pointer (some ⟨w.heap.size, 0, none⟩), .pointer (some ⟨w2.heap.size + 1, 0, none⟩), .pointer (some ⟨w2.heap.size, 0, none⟩)]] 109) = w3 := ⟨_, rfl⟩
  have b3 : Below w2.heap.size w2 w3 := by rw [← hw3]; exact ((Below.refl _ _).alloc (Nat.le_refl _) _).alloc (by simp) _
  have q1 : w3.cell? ⟨w2.heap.size, 0, none⟩ = some (.slice (some ⟨w1.heap.size, 0, none⟩) L L) := by rw [← hw3]; simp [go_sem]
  have q2 : w3.cell? ⟨w2.heap.size + 1, 0, none⟩ = some (.func (.func 115) #[] #[.pointer (some ⟨w.heap.size, 0, none⟩), .pointer (some ⟨w2.heap.size + 1, 0, none⟩), .pointer (some ⟨w2.heap.size, 0, none⟩)]) := by rw [← hw3]; simp [go_sem]
  have B2 : Below w.heap.size w w2 := b1.trans (b2.mono (by omega))
  have B3 : Below w.heap.size w w3 := B2.trans (b3.mono (by omega))
  have hcall := sum1_any (c := c) (fa := w.heap.size) (ca := w2.heap.size + 1) (sa := w2.heap.size) (sb := w1.heap.size) hwu hus hacs hbro (by omega) (by omega) (by omega) (by omega) 5 (n := 0) (d := 0) (D := fun _ => False) (w := w3) B3
    ⟨by rw [hL]; exact keepC b3 (keepC b2 p0), keepC b3 (keepC b2 p1), by rw [hL]; exact q1, q2⟩ ⟨_, by rw [hL]; exact hrow.below b3, fun _ _ h => h.elim⟩ hwu.pos rfl (by omega)
  have HZ : Hid (w.heap.size ≤ w1.heap.size ∧ w1.heap.size < w2.heap.size) := ⟨by omega, by omega⟩
  have HB3 : Hid _ := B3
  have HP : Hid (∀ j, j < L → SubD l 0 (fun _ => False) j) := fun j hj => .inr ⟨by rw [hL]; exact hj, hwu.below_root (by rw [hL]; exact hj)⟩
  rw [hL]
  clear hwu hus hacs hbro hL b1 b2 b3 B2 B3 hrow z2 hl p1
  rw [z1] at hmk
  obtain ⟨sb, hsb⟩ : ∃ sb, w1.heap.size = sb := ⟨_, rfl⟩
  have HSB : Hid _ := hsb
  rw [hsb] at hcall q1 HZ z1 hw3
  subst z1
  go_enter Tryz.func96, Tryz.ntmps96
  go_wp2_with fail
  refine hcall.mono ?_
  rintro e w4 ⟨rfl, hr, hc⟩
  have q4 := hc.cell q1 (show ¬ w2.heap.size = w.heap.size + 1 by have := HZ.out; omega)
  have HR : Hid (RowF w4 (w.heap.size + 1) L (sumV l)) := show RowF w4 (w.heap.size + 1) L (sumV l) by
    obtain ⟨f, h1, h2⟩ := hr
    rw [HL.out] at h1 h2
    exact h1.congr (fun j hj => h2 j hj (HP.out j hj))
  have HB : Hid (Below w.heap.size w w4) := show Below w.heap.size w w4 from hc.below HB3.out HB3.out.size (fun i hi => by omega)
  clear hr hc hcall q1 q2 p0
  go_wp2
  go_ret
  exact ⟨w.heap.size + 1, rfl, by omega, HR.out, HB.out⟩
theorem RowF.setAt {w : World} {b L : Nat} {f f' : Nat → Int} (h : RowF w b L f) {k : Nat} {x : Int} (hx : f' k = x) (ho : ∀ j, j < L → j ≠ k → f' j = f j) : RowF (w.setCell ⟨b, k, none⟩ (.int .u64 x)) b L f' :=
  (h.set k x).congr (fun j hj => by
    unfold updF
    by_cases e : j = k
    · rw [if_pos e, e, hx]
    · rw [if_neg e, ho j hj e])
set_option maxHeartbeats 1000000 in
set_option maxRecDepth 20000 in
theorem used_any {w : World} {B m g o c : Nat} {l : List Ac} {v : Nat → Value} {fl : Int} (hwu : Wu l) (hus : UsOk l) (hacs : Acs w g o l) (hbro : Bro w B m l l.length v) (hfl : Word fl) :
    Calls Tryz.prog 71 #[.agg #[.slice (some ⟨g, o, none⟩) l.length c, .map (some m)], .int .u64 fl] w fun e w' => ∃ sb, e = .returned (.slice (some ⟨sb, 0, none⟩) l.length l.length) ∧ w.heap.size ≤ sb ∧ RowF w' sb l.length (uV l (wV l fl)) ∧ Below w.heap.size w w' := by
  have hW := wOk hwu hus hfl
  have bF : Below w.heap.size w (w.alloc (.cells #[.slice (some ⟨g, o, none⟩) l.length c, .map (some m)] 105)) := (Below.refl _ _).alloc (Nat.le_refl _) _
  have hs := sums_any (c := c) hwu hus (hacs.below bF) (hbro.below bF)
  have hl := hwu.len
  have hp := hwu.pos
  have HP : Hid (∀ j x, j < l.length → Calls Tryz.prog 74 #[.int .u64 (sumV l j), .int .u64 9223372036854775808, .int .u64 (wV l fl)] x fun e w' => e = .returned (.int .u64 (uV l (wV l fl) j)) ∧ Below x.heap.size x w') := fun j x hj => by
    have hu := u_word hus hW.word (hW.most j hj)
    exact spart_any (sum_word hus j) ⟨by omega, by omega⟩ hW.word (show sumV l j * 9223372036854775808 / wV l fl < _ by unfold uV at hu; omega) x
  have hmx : (wV l fl = fl ∧ sumV l 0 < fl) ∨ (wV l fl = sumV l 0 ∧ ¬ sumV l 0 < fl) := by
    unfold wV
    by_cases h : sumV l 0 < fl
    · exact .inl ⟨if_pos h, h⟩
    · exact .inr ⟨if_neg h, h⟩
  obtain ⟨L, hL⟩ : ∃ L, l.length = L := ⟨_, rfl⟩
  have HL : Hid (l.length = L) := hL
  rw [hL] at hs hl hp HP bF ⊢
  obtain ⟨W, hW'⟩ : ∃ W, wV l fl = W := ⟨_, rfl⟩
  rw [hW'] at hmx HP ⊢
  have HB1 : Hid _ := bF
  have hl' : (0 : Int) < L := by omega
  clear hwu hus hacs hbro hfl hW hW' hL bF
  go_enter Tryz.func71, Tryz.ntmps71
  go_wp2_with fail
  refine hs.mono ?_
  rintro e w1 ⟨sb, rfl, hsb, hr, hb⟩
  simp only [World.size_alloc] at hsb
  have c0 := hr.cell hp
  obtain ⟨S0, hS0⟩ : ∃ S, sumV l 0 = S := ⟨_, rfl⟩
  rw [hS0] at c0 hmx
  have HR : Hid (RowF w1 sb L (sumV l)) := hr
  have HB : Hid (Below w.heap.size w w1) := HB1.out.trans (hb.mono (by simp))
  have HSB : Hid (w.heap.size ≤ sb) := show w.heap.size ≤ sb by omega
  clear hr hb hs hS0 hsb HB1
  have HMX : Hid _ := hmx
  clear hmx
  go_upto_region 2 with fail
  go_cut [6] (fun x wq => x = .int .u64 W ∧ w1 = wq)
  case first =>
    rcases HMX.out with ⟨h1, h2⟩ | ⟨h1, h2⟩
    · have H1 : Hid _ := h1
      clear h1 HMX
      go_wp2
      go_meet
      exact ⟨by rw [H1.out], rfl⟩
    · have H1 : Hid _ := h1
      clear h1 HMX
      go_wp2
      go_meet
      exact ⟨by rw [H1.out], rfl⟩
  case rest =>
    obtain ⟨rfl, rfl⟩ := hcut
    clear c0
    go_wp2
    go_loopg [18] L (fun gk x wr => ∃ j : Nat, j + gk = L ∧ x = .int .i64 j ∧ RowF wr sb L (fun i => if i < j then uV l W i else sumV l i) ∧ Below w.heap.size w wr)
    case atStart => exact ⟨0, by omega, rfl, by simpa using HR.out, HB.out⟩
    case round =>
      obtain ⟨j, hj, rfl, hr, hb⟩ := hrel
      by_cases hlt : j < L
      · have hlt' : (j : Int) < L := by omega
        have c1 := hr.cell hlt
        simp only [Nat.lt_irrefl, if_false] at c1
        have c2 := hr.free j
        have cp := HP.out j wr hlt
        have HRR : Hid (∀ x, Below wr.heap.size wr x → RowF (x.setCell ⟨sb, j, none⟩ (.int .u64 (uV l W j))) sb L (fun i => if i < j + 1 then uV l W i else sumV l i)) := fun x hx => (hr.below hx).setAt (by rw [if_pos (by omega)]) (fun i _ hne => by
          by_cases h : i < j
          · rw [if_pos h, if_pos (by omega)]
          · rw [if_neg h, if_neg (by omega)])
        have HBB : Hid _ := hb
        clear hr hb
        generalize sumV l j = Sj at *
        generalize uV l W j = Uj at *
        go_wp2_with fail
        refine cp.mono ?_
        rintro e w2 ⟨rfl, hb2⟩
        have d1 := keepC hb2 c1
        have d2 := keepF hb2 c1 c2
        have HR2 : Hid _ := HRR.out w2 hb2
        have HB2 : Hid (Below w.heap.size w (w2.setCell ⟨sb, j, none⟩ (.int .u64 Uj))) := (HBB.out.trans (hb2.mono HBB.out.size)).setCell HSB.out _
        clear hb2 cp c1 c2
        go_wp2
        go_roundg (L - (j + 1))
        case measure => omega
        case rel => exact ⟨j + 1, by omega, rfl, HR2.out, HB2.out⟩
      · obtain rfl : j = L := by omega
        have HRR : Hid (RowF wr sb j (uV l W)) := show RowF wr sb j (uV l W) from hr.congr (fun i hi => if_pos hi)
        have HBB : Hid _ := hb
        clear hr hb
        go_wp2
        go_ret
        exact ⟨sb, rfl, HSB.out, HRR.out, HBB.out⟩
end Go.Proofs.YtjgllfpnmmopdaaGreatDoor
namespace Go.Proofs.YtjgllfpnmmopdaaGreatDoor
open Go.RowKit Wd Tr Go.Maps

def SharesP (w : World) (l : List Ac) (e : Ending) (w' : World) : Prop :=
  (loadE l = 0 → ∃ nb db, e = .returned (.tuple #[.slice (some ⟨nb, 0, none⟩) l.length l.length, .slice (some ⟨db, 0, none⟩) l.length l.length]) ∧ w.heap.size ≤ nb ∧ w.heap.size ≤ db ∧ nb ≠ db ∧ RowF w' nb l.length (numV l) ∧ RowF w' db l.length (denV l)) ∧
  (loadE l ≠ 0 → e = .returned (.tuple #[.slice none 0 0, .slice none 0 0])) ∧ Below w.heap.size w w'
set_option maxHeartbeats 2000000 in
set_option maxRecDepth 20000 in
theorem shares_any {w : World} {ao : Option Addr} {l : List Ac} {c : Nat} (hA : AcsAt w ao l) (hs : ∀ a ∈ l, a.nm.size ≤ maxLen) (hn : l.length * 48 ≤ 140737488355328) (hc : l.length ≤ c) :
    Calls Tryz.prog 35 #[.slice ao l.length c] w (SharesP w l) := by
  have hmf : ∀ (fn : Fn) (first cap : Array Value) (w : World), (Instr.makeFunc fn first cap).run Tryz.prog w = .ok (.func fn first cap) w := fun _ _ _ _ => rfl
  obtain ⟨w2, hw2⟩ : ∃ w2, (w.alloc (.cells #[.slice none 0 0] 42)).alloc (.cells #[.slice none 0 0] 42) = w2 := ⟨_, rfl⟩
  have b2 : Below w.heap.size w w2 := by rw [← hw2]; exact ((Below.refl _ _).alloc (Nat.le_refl _) _).alloc (by simp) _
  have z2 : w2.heap.size = w.heap.size + 1 + 1 := by rw [← hw2]; simp
  have T2 : w2.heap[w.heap.size]? = some (.cells #[.slice none 0 0] 42 (0, 0)) := by
    rw [← hw2]
    exact heap_keep ((Below.refl _ _).alloc (Nat.le_refl _) _) (heap_alloc_new w _)
  have U2 : w2.heap[w.heap.size + 1]? = some (.cells #[.slice none 0 0] 42 (0, 0)) := by
    rw [← hw2]
    have := heap_alloc_new (w.alloc (.cells #[.slice none 0 0] 42)) (.cells #[.slice none 0 0] 42)
    simpa using this
  have hfam := famof_any (c := c) (hA.below b2) hs hn hc
  by_cases hE : loadE l = 0
  · have hwu : Wu l := wf_load hE
    have hl := hwu.len
    obtain ⟨g, o, hao, hcl⟩ := hA
    obtain rfl := hao hwu.pos
    have HE : Hid (loadE l = 0) := hE
    have HCL : Hid (Acs w g o l) := hcl
    have HWU : Hid (Wu l) := hwu
    have HB2 : Hid _ := b2
    have HZ2 : Hid _ := z2
    have HT2 : Hid _ := T2
    have HU2 : Hid _ := U2
    have hp := hwu.pos
    obtain ⟨L, hL⟩ : ∃ L, l.length = L := ⟨_, rfl⟩
    have HL : Hid (l.length = L) := hL
    rw [hL] at hfam hl hp ⊢
    have hp' : (0 : Int) < L := by omega
    clear hcl hs hn hc hE hao b2 z2 T2 U2 hwu hL
    go_enter Tryz.func35, Tryz.ntmps35
    go_wp2_with fail
    refine hfam.mono ?_
    rintro e w3 ⟨h1, _, hb3⟩
    obtain ⟨m, v, rfl, hbro⟩ := h1 HE.out
    rw [HL.out]
    obtain ⟨w4, hw4⟩ : ∃ w4, w3.alloc (.cells #[.slice (some ⟨g, o, none⟩) L c, .map (some m)] 105) = w4 := ⟨_, rfl⟩
    have b34 : Below w3.heap.size w3 w4 := by rw [← hw4]; exact (Below.refl _ _).alloc (Nat.le_refl _) _
    have HBR : Hid (Bro w4 w2.heap.size m l l.length v) := hbro.below b34
    have B4 : Below w.heap.size w w4 := (HB2.out.trans (hb3.mono HB2.out.size)).trans (b34.mono (by have := HB2.out.size; have := hb3.size; omega))
    have T4 := heap_keep b34 (heap_keep hb3 HT2.out)
    have U4 := heap_keep b34 (heap_keep hb3 HU2.out)
    have F4 : w4.heap[w3.heap.size]? = some (.cells #[.slice (some ⟨g, o, none⟩) L c, .map (some m)] 105 (0, 0)) := by rw [← hw4]; exact heap_alloc_new w3 _
    have HF4 : Hid _ := F4
    have HT4 : Hid _ := T4
    have HU4 : Hid _ := U4
    have HB4 : Hid _ := B4
    have z4 : w.heap.size + 1 + 1 ≤ w3.heap.size := by have := hb3.size; have := HZ2.out; omega
    have HZ4 : Hid _ := z4
    obtain ⟨wB, hmk1, hr1, bB, zB⟩ := make_u64 w4.drew (L := L) (by omega)
    obtain ⟨wC, hmk2, hr2, bC, zC⟩ := make_u64 wB (L := L) (by omega)
    have TB := heap_keep bB (show w4.drew.heap[w.heap.size]? = _ from T4)
    have UB := heap_keep bB (show w4.drew.heap[w.heap.size + 1]? = _ from U4)
    have TC := heap_keep bC TB
    have UC := heap_keep bC UB
    have zw4 : w3.heap.size < w4.heap.size := (Array.getElem?_eq_some_iff.1 F4).1
    simp only [World.size_drew] at hmk1 hr1 zB bB
    obtain ⟨wD, hmk3, hr3, bD, zD⟩ := make_u64 (wB.setCell ⟨w.heap.size, 0, none⟩ (.slice (some ⟨w4.heap.size, 0, none⟩) L L)) (L := L) (by omega)
    have TB' : (wB.setCell ⟨w.heap.size, 0, none⟩ (.slice (some ⟨w4.heap.size, 0, none⟩) L L)).heap[w.heap.size]? = some (.cells #[.slice (some ⟨w4.heap.size, 0, none⟩) L L] 42 (0, 0)) := heap_setCell_same _ _ 0 _ _ _ TB
    have UB' : (wB.setCell ⟨w.heap.size, 0, none⟩ (.slice (some ⟨w4.heap.size, 0, none⟩) L L)).heap[w.heap.size + 1]? = some (.cells #[.slice none 0 0] 42 (0, 0)) := set_block UB (by omega)
    have TD := heap_keep bD TB'
    have UD := heap_keep bD UB'
    rw [World.size_setCell] at hmk3 hr3 zD
    rw [zB] at hmk2 hr2 hmk3 hr3 zD zC
    have tB0 := cells_at (k := 0) TB rfl
    have tB1 := frozen_at (k := 0) TB
    have tC0 := cells_at (k := 0) TC rfl
    have tC1 := frozen_at (k := 0) TC
    have uC0 := cells_at (k := 0) UC rfl
    have uC1 := frozen_at (k := 0) UC
    have uD0 := cells_at (k := 0) UD rfl
    have uD1 := frozen_at (k := 0) UD
    have ne1 : w.heap.size + 1 ≠ w.heap.size := by omega
    have CB : Chg (fun j => j = w.heap.size ∨ j = w.heap.size + 1) w4 wB := (Chg.of_below (drew_below w4) _).trans (Chg.of_below (show Below w4.drew.heap.size w4.drew wB from bB) (fun j => j = w.heap.size ∨ j = w.heap.size + 1)) (fun _ _ h => h)
    have CC : Chg (fun j => j = w.heap.size ∨ j = w.heap.size + 1) w4 wC := CB.trans (Chg.of_below bC (fun j => j = w.heap.size ∨ j = w.heap.size + 1)) (fun _ _ h => h)
    have CD : Chg (fun j => j = w.heap.size ∨ j = w.heap.size + 1) w4 wD := (CB.setCell _ _ (.inl (.inl rfl))).trans (Chg.of_below bD (fun j => j = w.heap.size ∨ j = w.heap.size + 1)) (fun _ _ h => h)
    have rBC := hr1.below bC
    have rBD : RowF wD w4.heap.size L (fun _ => 0) := (hr1.other (g := w.heap.size) (k := 0) (by omega)).below bD
    have HX : Hid (_ ∧ _ ∧ _ ∧ _ ∧ _ ∧ _ ∧ _ ∧ _ ∧ _ ∧ _ ∧ _) := ⟨CC, CD, TC, UC, TD, UD, rBC, hr2, rBD, hr3, zw4⟩
    clear h1 hfam hbro hb3 b34 T4 U4 F4 B4 TB UB TC UC TB' UB' TD UD CB CC CD rBC rBD hr1 hr2 hr3 bB bC bD zB zC zD
    go_upto_region 4 with fail
    go_cut [4] (fun x wq => x = .pointer (some ⟨w3.heap.size, 0, none⟩) ∧ ∃ nb db, nb ≠ db ∧ w4.heap.size ≤ nb ∧ w4.heap.size ≤ db ∧ wq.heap[w.heap.size]? = some (.cells #[.slice (some ⟨nb, 0, none⟩) L L] 42 (0, 0)) ∧ wq.heap[w.heap.size + 1]? = some (.cells #[.slice (some ⟨db, 0, none⟩) L L] 42 (0, 0)) ∧ RowF wq nb L (fun _ => 0) ∧ RowF wq db L (fun _ => 0) ∧ Chg (fun j => j = w.heap.size ∨ j = w.heap.size + 1) w4 wq)
    case first =>
      go_region_with (fail)
      all_goals
        go_wp2
        go_meet
        obtain ⟨CC, CD, TC, UC, TD, UD, rBC, rC, rBD, rD, zw⟩ := HX.out
        have z4 := HZ4.out
        first
          | exact ⟨rfl, w4.heap.size, w4.heap.size + 1, by omega, by omega, by omega, set_block (heap_setCell_same _ _ 0 _ _ _ TC) (by omega), heap_setCell_same _ _ 0 _ _ _ (set_block UC (by omega)), (rBC.other (by omega)).other (by omega), (rC.other (by omega)).other (by omega), (CC.setCell _ _ (.inl (.inl rfl))).setCell _ _ (.inl (.inr rfl))⟩
          | exact ⟨rfl, w4.heap.size + 1, w4.heap.size, by omega, by omega, by omega, set_block (heap_setCell_same _ _ 0 _ _ _ TC) (by omega), heap_setCell_same _ _ 0 _ _ _ (set_block UC (by omega)), (rC.other (by omega)).other (by omega), (rBC.other (by omega)).other (by omega), (CC.setCell _ _ (.inl (.inl rfl))).setCell _ _ (.inl (.inr rfl))⟩
          | exact ⟨rfl, w4.heap.size, w4.heap.size + 1, by omega, by omega, by omega, set_block TD (by omega), heap_setCell_same _ _ 0 _ _ _ UD, rBD.other (by omega), rD.other (by omega), CD.setCell _ _ (.inl (.inr rfl))⟩
    case rest =>
      obtain ⟨rfl, nb, db, hnd, hn4, hd4, TQ, UQ, rN, rD, CQ⟩ := hcut
      obtain ⟨_, _, _, _, _, _, _, _, _, _, zw⟩ := HX.out
      have z4 := HZ4.out
      have x1 := cells_at (k := 0) TQ rfl
      have x2 := cells_at (k := 0) UQ rfl
      have x3 := rN.cell hp
      have x4 := rN.free 0
      have x5 := rD.cell hp
      have x6 := rD.free 0
      have n1 : nb ≠ w.heap.size := by omega
      have n2 : nb ≠ w.heap.size + 1 := by omega
      have n3 : db ≠ w.heap.size := by omega
      have n4 : db ≠ w.heap.size + 1 := by omega
      have F4q : wc.heap[w3.heap.size]? = some (.cells #[.slice (some ⟨g, o, none⟩) L c, .map (some m)] 105 (0, 0)) := (CQ.block w3.heap.size zw (by omega)).trans HF4.out
      have HSZ : Hid (nb < wc.heap.size ∧ db < wc.heap.size) := ⟨rN.lt, rD.lt⟩
      obtain ⟨w6, hw6⟩ : ∃ w6, ((wc.setCell ⟨nb, 0, none⟩ (.int .u64 1)).setCell ⟨db, 0, none⟩ (.int .u64 1)).drew = w6 := ⟨_, rfl⟩
      have HT6 : Hid (w6.heap[w.heap.size]? = some (.cells #[.slice (some ⟨nb, 0, none⟩) L L] 42 (0, 0))) := show w6.heap[w.heap.size]? = _ by rw [← hw6]; exact set_block (set_block TQ (Ne.symm n1)) (Ne.symm n3)
      have HU6 : Hid (w6.heap[w.heap.size + 1]? = some (.cells #[.slice (some ⟨db, 0, none⟩) L L] 42 (0, 0))) := show w6.heap[w.heap.size + 1]? = _ by rw [← hw6]; exact set_block (set_block UQ (Ne.symm n2)) (Ne.symm n4)
      have HF6 : Hid (w6.heap[w3.heap.size]? = some (.cells #[.slice (some ⟨g, o, none⟩) L c, .map (some m)] 105 (0, 0))) := show w6.heap[w3.heap.size]? = _ by rw [← hw6]; exact set_block (set_block F4q (by omega)) (by omega)
      have HN6 : Hid (RowF w6 nb L (updF (fun _ => 0) 0 1)) := show RowF w6 nb L _ by rw [← hw6]; exact ((rN.set 0 1).other hnd).below (drew_below _)
      have HD6 : Hid (RowF w6 db L (updF (fun _ => 0) 0 1)) := show RowF w6 db L _ by rw [← hw6]; exact ((rD.other (Ne.symm hnd)).set 0 1).below (drew_below _)
      have C6 : Chg (fun j => j = w.heap.size ∨ j = w.heap.size + 1) w4 w6 := by rw [← hw6]; exact ((CQ.setCell _ _ (.inr hn4)).setCell _ _ (.inr hd4)).drew
      have HC6 : Hid _ := C6
      have HB6 : Hid (Below w.heap.size w w6) := show Below w.heap.size w w6 from C6.below HB4.out HB4.out.size (fun i hi => by omega)
      have HA6 : Hid (∀ x, Chg (fun j => j = nb ∨ j = db) w6 x → Acs x g o l) := fun x hx k a ha => by
        have hgl : g < w.heap.size := World.block_lt_of_cell? w _ (HCL.out k a ha).nm
        have hb := hx.below HB6.out HB6.out.size (fun i hi => by omega)
        exact (HCL.out k a ha).lo hb hgl
      have HR6 : Hid (∀ x, Chg (fun j => j = nb ∨ j = db) w6 x → Bro x w2.heap.size m l l.length v) := fun x hx => by
        have z2 := HZ2.out
        have hb4 : Chg (fun j => (j = w.heap.size ∨ j = w.heap.size + 1) ∨ w4.heap.size ≤ j) w4 x := (C6.mono (fun _ _ h => .inl h)).trans hx (fun i hi h => .inr (by omega))
        exact HBR.out.chg hb4 (fun j hj => by omega)
      have HNE : Hid (nb ≠ db ∧ nb ≠ w.heap.size ∧ nb ≠ w.heap.size + 1 ∧ db ≠ w.heap.size ∧ db ≠ w.heap.size + 1 ∧ nb ≠ w3.heap.size ∧ db ≠ w3.heap.size ∧ w4.heap.size ≤ nb ∧ w4.heap.size ≤ db) := ⟨hnd, n1, n2, n3, n4, by omega, by omega, hn4, hd4⟩
      clear TQ UQ rN rD CQ F4q C6 hn4 hd4 zw z4 HX
      go_upto_region 5 with fail
      go_cut [4] (fun x wq => x = .pointer (some ⟨w3.heap.size, 0, none⟩) ∧ w6 = wq)
      case first =>
        go_region_with (fail)
        all_goals
          go_wp2
          go_meet
          exact ⟨rfl, rfl⟩
      case rest =>
        obtain ⟨rfl, rfl⟩ := hcut
        obtain ⟨hnd, n1, n2, n3, n4, n5, n6, hn4, hd4⟩ := HNE.out
        have f0 := cells_at (k := 0) HF6.out rfl
        have f1 := cells_at (k := 1) HF6.out rfl
        have t0 := cells_at (k := 0) HT6.out rfl
        have u0 := cells_at (k := 0) HU6.out rfl
        have hinv : InvS w6 m g o c w.heap.size w3.heap.size (w.heap.size + 1) nb db l (fun j => j = 0) w6 := ⟨Chg.refl _ _, by rw [HL.out]; exact t0, by rw [HL.out]; exact f0, f1, by rw [HL.out]; exact u0,
          ⟨_, by rw [HL.out]; exact HN6.out, fun j _ hj => by rw [hj, num_root]; rfl⟩, ⟨_, by rw [HL.out]; exact HD6.out, fun j _ hj => by rw [hj, den_root]; rfl⟩, hnd⟩
        have hdn := down_sh (WF := w6) (w := w6) (L := L) (c := c) (ao := some ⟨g, o, none⟩) (g1 := w.heap.size) (g2 := w3.heap.size) (g3 := w.heap.size + 1) (K := fun j => j = nb ∨ j = db) (Inv := InvS w6 m g o c w.heap.size w3.heap.size (w.heap.size + 1) nb db l) HWU.out HR6.out
          (fun j hj => by
            rcases hj with rfl | rfl
            · exact HN6.out.lt
            · exact HD6.out.lt) (Chg.refl _ _) (fun _ _ _ h b => h.st b) (fun D k x => visS_any HWU.out HA6.out HR6.out (Ne.symm n1) (Ne.symm n5) (Ne.symm n2) (Ne.symm n3) (Ne.symm n6) (Ne.symm n4) D k x) hinv
        clear hinv t0 u0 x1 x2 x3 x4 x5 x6
        go_wp2_with fail
        refine hdn.mono ?_
        rintro e w7 ⟨rfl, hi, hch⟩
        obtain ⟨fn, rn, hfn⟩ := hi.num
        obtain ⟨fd, rd, hfd⟩ := hi.den
        have q1 := hi.c1
        have q3 := hi.c3
        rw [HL.out] at rn hfn rd hfd q1 q3
        have T7 : w7.heap[w.heap.size]? = some (.cells #[.slice (some ⟨nb, 0, none⟩) L L] 42 (0, 0)) := (hch.block w.heap.size (Array.getElem?_eq_some_iff.1 HT6.out).1 (by omega)).trans HT6.out
        have U7 : w7.heap[w.heap.size + 1]? = some (.cells #[.slice (some ⟨db, 0, none⟩) L L] 42 (0, 0)) := (hch.block (w.heap.size + 1) (Array.getElem?_eq_some_iff.1 HU6.out).1 (by omega)).trans HU6.out
        have RN : RowF w7 nb L (numV l) := rn.congr (fun j hj => hfn j hj hj)
        have RD : RowF w7 db L (denV l) := rd.congr (fun j hj => hfd j hj hj)
        have hB7 : Below w.heap.size w w7 := hch.below HB6.out HB6.out.size (fun i hi => by have := HZ4.out; have := HB4.out.size; omega)
        have s1 := frozen_at (k := 0) T7
        have s3 := frozen_at (k := 0) U7
        obtain ⟨w8, hw8⟩ : ∃ w8, ((w7.setCell ⟨w.heap.size, 0, none⟩ (.slice (some ⟨nb, 0, none⟩) L L)).setCell ⟨w.heap.size + 1, 0, none⟩ (.slice (some ⟨db, 0, none⟩) L L)).drew = w8 := ⟨_, rfl⟩
        have T8 : w8.heap[w.heap.size]? = some (.cells #[.slice (some ⟨nb, 0, none⟩) L L] 42 (0, 0)) := by rw [← hw8]; exact set_block (heap_setCell_same _ _ 0 _ _ _ T7) (by omega)
        have U8 : w8.heap[w.heap.size + 1]? = some (.cells #[.slice (some ⟨db, 0, none⟩) L L] 42 (0, 0)) := by rw [← hw8]; exact heap_setCell_same _ _ 0 _ _ _ (set_block U7 (by omega))
        have HRN : Hid (RowF w8 nb L (numV l)) := show RowF w8 nb L (numV l) by rw [← hw8]; exact ((RN.other n1).other n2).below (drew_below _)
        have HRD : Hid (RowF w8 db L (denV l)) := show RowF w8 db L (denV l) by rw [← hw8]; exact ((RD.other n3).other n4).below (drew_below _)
        have HB8 : Hid (Below w.heap.size w w8) := show Below w.heap.size w w8 by rw [← hw8]; exact ((hB7.setCell (by simp) _).setCell (by simp) _).drew
        have HT8 : Hid _ := T8
        have HU8 : Hid _ := U8
        clear hi hch hdn rn hfn rd hfd T7 U7 RN RD hB7 T8 U8 f0 f1
        go_upto_region 7 with fail
        go_cut [4] (fun x wq => x = .pointer (some ⟨w3.heap.size, 0, none⟩) ∧ w8 = wq)
        case first =>
          go_region_with (fail)
          all_goals
            go_wp2
            go_meet
            exact ⟨rfl, rfl⟩
        case rest =>
          obtain ⟨rfl, rfl⟩ := hcut
          have y1 := cells_at (k := 0) HT8.out rfl
          have y2 := cells_at (k := 0) HU8.out rfl
          go_wp2
          refine bodyPost_ret (v := .tuple #[.slice (some ⟨nb, 0, none⟩) L L, .slice (some ⟨db, 0, none⟩) L L]) (by simp [results, Tryz.results35, go_sem, y1, y2]) rfl ⟨fun _ => ⟨nb, db, by rw [HL.out], ?_, ?_, hnd, by rw [HL.out]; exact HRN.out, by rw [HL.out]; exact HRD.out⟩, fun h => absurd HE.out h, HB8.out⟩
          · have := HB4.out.size; omega
          · have := HB4.out.size; omega
  · obtain ⟨er, her⟩ : ∃ er, loadE l = er := ⟨_, rfl⟩
    have HR : Hid (loadE l ≠ 0) := hE
    have HB2 : Hid _ := b2
    have HZ2 : Hid _ := z2
    have HT2 : Hid _ := T2
    have HU2 : Hid _ := U2
    clear hs hn hc her b2 z2 T2 U2 hE hA
    go_enter Tryz.func35, Tryz.ntmps35
    go_wp2_with fail
    refine hfam.mono ?_
    rintro e w3 ⟨_, h2, hb3⟩
    obtain rfl := h2 HR.out
    have b34 : Below w3.heap.size w3 (w3.alloc (.cells #[.slice none 0 0, .map none] 105)) := (Below.refl _ _).alloc (Nat.le_refl _) _
    have T4 := heap_keep b34 (heap_keep hb3 HT2.out)
    have U4 := heap_keep b34 (heap_keep hb3 HU2.out)
    have c0 := cells_at (k := 0) T4 rfl
    have c1 := cells_at (k := 0) U4 rfl
    have f0 := frozen_at (k := 0) T4
    have f1 := frozen_at (k := 0) U4
    have hne : w.heap.size + 1 ≠ w.heap.size := by omega
    have B4 : Hid (Below w.heap.size w (w3.alloc (.cells #[.slice none 0 0, .map none] 105))) := (HB2.out.trans (hb3.mono HB2.out.size)).trans (b34.mono (by have := HB2.out.size; have := hb3.size; omega))
    clear T4 U4 hb3 h2 hfam b34
    go_wp2
    refine bodyPost_ret (v := .tuple #[.slice none 0 0, .slice none 0 0]) (by simp [results, Tryz.results35, go_sem, *]) rfl ⟨fun h => absurd h HR.out, fun _ => rfl, ?_⟩
    exact (B4.out.setCell (by simp) _).setCell (by simp) _
end Go.Proofs.YtjgllfpnmmopdaaGreatDoor
namespace Go.Proofs.YtjgllfpnmmopdaaGreatDoor
open Go.RowKit Wd Tr Go.Maps Cg

def flZ (cf : Cf) : Int := cZ cf * 4294967296
def EffP (w : World) (cf : Cf) (l : List Ac) (e : Ending) (w' : World) : Prop :=
  (loadE l = 0 ∧ chkZ cf = 0 → ∃ ub, e = .returned (.slice (some ⟨ub, 0, none⟩) l.length l.length) ∧ w.heap.size ≤ ub ∧ RowF w' ub l.length (efV l (wV l (flZ cf)))) ∧
  (¬ (loadE l = 0 ∧ chkZ cf = 0) → e = .returned (.slice none 0 0)) ∧ Below w.heap.size w w'
theorem fl_word {cf : Cf} (h : chkZ cf = 0) : Word (flZ cf) := by
  obtain ⟨r, _, _⟩ := chk_ok h
  have := c_box r
  unfold flZ
  exact ⟨by omega, by omega⟩
def StE (w : World) (kf g o L c m : Nat) (cf : Cf) (x : World) : Prop := St w w.heap.size cf x ∧ x.cell? ⟨kf, 0, none⟩ = some (.slice (some ⟨g, o, none⟩) L c) ∧ x.cell? ⟨kf, 1, none⟩ = some (.map (some m))
theorem StE.keep {w x y : World} {kf g o L c m : Nat} {cf : Cf} (h : StE w kf g o L c m cf x) (b : Below x.heap.size x y) : StE w kf g o L c m cf y := ⟨keepW h.1 b, keepC b h.2.1, keepC b h.2.2⟩
theorem StE.far {w x u : World} {kf g o L c m : Nat} {cf : Cf} {a : Value} (h : StE w kf g o L c m cf x) (hu : StE w kf g o L c m cf u) : StE w kf g o L c m cf (x.setCell ⟨u.heap.size, 0, none⟩ a) := by
  have n1 := World.block_lt_of_cell? u _ hu.1.1
  have n2 := World.block_lt_of_cell? u _ hu.2.1
  simp only at n1 n2
  have y1 : w.heap.size ≠ u.heap.size := by omega
  have y2 : kf ≠ u.heap.size := by omega
  have z := hu.1.2.2.2.2.2.2.2.2.2
  obtain ⟨⟨a0, a1, a2, a3, a4, a5, a6, a7, bb, zz⟩, d0, d1⟩ := h
  exact ⟨⟨far_cell a0 (.inl y1), far_cell a1 (.inl y1), far_cell a2 (.inl y1), far_cell a3 (.inl y1), far_cell a4 (.inl y1), far_cell a5 (.inl y1), far_cell a6 (.inl y1), far_cell a7 (.inl y1), bb.setCell z _, by simp; omega⟩, far_cell d0 (.inl y2), far_cell d1 (.inl y2)⟩
set_option maxHeartbeats 2000000 in
set_option maxRecDepth 20000 in
theorem effective_any {w : World} {ao : Option Addr} {l : List Ac} {c : Nat} {cf : Cf} (hA : AcsAt w ao l) (hs : ∀ a ∈ l, a.nm.size ≤ maxLen) (hus : UsOk l) (hn : l.length * 48 ≤ 140737488355328) (hc : l.length ≤ c) :
    Calls Tryz.prog 36 #[cfV cf, .slice ao l.length c] w (EffP w cf l) := by
  have hmf : ∀ (fn : Fn) (first cap : Array Value) (w : World), (Instr.makeFunc fn first cap).run Tryz.prog w = .ok (.func fn first cap) w := fun _ _ _ _ => rfl
  have hS := St.new w cf
  have c1 := pcheck_any cf
  unfold cfV at *
  obtain ⟨w2, hw2⟩ : ∃ w2, w.alloc (.cells #[.int .i64 cf.nodes, .int .i64 cf.queue, .int .i64 cf.limit, .int .i64 cf.age, .int .i64 cf.fair, .int .i64 cf.size, .int .i64 cf.period, .int .i64 cf.half] 23) = w2 := ⟨_, rfl⟩
  have b2 : Below w.heap.size w w2 := by rw [← hw2]; exact (Below.refl _ _).alloc (Nat.le_refl _) _
  rw [hw2] at hS
  have hfam := famof_any (c := c) (hA.below b2) hs hn hc
  by_cases hE : loadE l = 0
  · have hwu : Wu l := wf_load hE
    have hl := hwu.len
    obtain ⟨g, o, hao, hcl⟩ := hA
    obtain rfl := hao hwu.pos
    have HE : Hid (loadE l = 0) := hE
    have HCL : Hid (Acs w g o l) := hcl
    have HWU : Hid (Wu l) := hwu
    have HUS : Hid (UsOk l) := hus
    have HB2 : Hid _ := b2
    have hp := hwu.pos
    obtain ⟨L, hL⟩ : ∃ L, l.length = L := ⟨_, rfl⟩
    have HL : Hid (l.length = L) := hL
    rw [hL] at hfam hl hp ⊢
    have HS2 : Hid (St w w.heap.size cf w2) := hS
    clear hcl hs hn hc hE hao b2 hwu hL hus hS
    by_cases hK : chkZ cf = 0
    · have HK : Hid (chkZ cf = 0) := hK
      rw [hK] at c1
      have cF := pFloor_yes hK
      unfold cfV at cF
      have HFW : Hid (Word (flZ cf)) := fl_word hK
      have HFE : Hid (cZ cf * 4294967296 = flZ cf) := show cZ cf * 4294967296 = flZ cf from rfl
      rw [HFE.out] at cF
      clear hK
      go_enter Tryz.func36, Tryz.ntmps36
      go_wp2_with fail
      refine hfam.mono ?_
      rintro e w3 ⟨h1, _, hb3⟩
      obtain ⟨m, v, rfl, hbro⟩ := h1 HE.out
      rw [HL.out]
      obtain ⟨w4, hw4⟩ : ∃ w4, w3.alloc (.cells #[.slice (some ⟨g, o, none⟩) L c, .map (some m)] 105) = w4 := ⟨_, rfl⟩
      have b34 : Below w3.heap.size w3 w4 := by rw [← hw4]; exact (Below.refl _ _).alloc (Nat.le_refl _) _
      have HBR : Hid (Bro w4 w2.heap.size m l l.length v) := hbro.below b34
      have s4 : St w w.heap.size cf w4 := keepW (keepW HS2.out hb3) b34
      have F4 : w4.heap[w3.heap.size]? = some (.cells #[.slice (some ⟨g, o, none⟩) L c, .map (some m)] 105 (0, 0)) := by rw [← hw4]; exact heap_alloc_new w3 _
      have HF4 : Hid _ := F4
      have HS4 : Hid (St w w.heap.size cf w4) := s4
      obtain ⟨s0, s1, s2, s3, s4', s5, s6, s7, _, _⟩ := id s4
      clear h1 hfam hbro hb3 b34 s4
      go_wp2_with fail
      refine (c1 _).mono ?_
      rintro e w5 ⟨rfl, hb5⟩
      have HB5 : Hid (Below w4.heap.size w4 w5) := hb5
      have hE5 : StE w w3.heap.size g o L c m cf w5 := ⟨keepW HS4.out hb5, keepC hb5 (cells_at (k := 0) F4 rfl), keepC hb5 (cells_at (k := 1) F4 rfl)⟩
      have hus5 : ∀ x, Below w5.heap.size w5 x → Calls Tryz.prog 71 #[.agg #[.slice (some ⟨g, o, none⟩) L c, .map (some m)], .int .u64 (flZ cf)] x fun e w' => ∃ sb, e = .returned (.slice (some ⟨sb, 0, none⟩) L L) ∧ x.heap.size ≤ sb ∧ RowF w' sb L (uV l (wV l (flZ cf))) ∧ Below x.heap.size x w' := fun x hx => by
        have := used_any (c := c) HWU.out HUS.out (HCL.out.lo ((HS4.out.bel.trans (hb5.mono HS4.out.2.2.2.2.2.2.2.2.2)).trans (hx.mono (by have := HS4.out.2.2.2.2.2.2.2.2.2; have := hb5.size; omega))) (fun k a ha => World.block_lt_of_cell? w _ (HCL.out k a ha).nm)) ((HBR.out.below hb5).below hx) HFW.out (w := x)
        rw [HL.out] at this
        exact this
      have HU5 : Hid _ := hus5
      have hz5 := hE5.1.2.2.2.2.2.2.2.2.2
      obtain ⟨kf, hkf⟩ : ∃ kf, w3.heap.size = kf := ⟨_, rfl⟩
      rw [hkf] at hE5 ⊢
      have HKF : Hid (w3.heap.size = kf) := hkf
      have HV : Hid (StE w kf g o L c m cf w5) := hE5
      have HS : Hid (StE w kf g o L c m cf w5.drew) := hE5.keep (drew_below w5)
      have HZ5 : Hid _ := hz5
      clear F4 hb5 hE5 hus5 hz5 s0 s1 s2 s3 s4' s5 s6 s7 hkf
      generalize hFL : flZ cf = FL at *
      have HFL : Hid (flZ cf = FL) := hFL
      clear hFL
      go_upto_region 4 with fail
      go_cut [7] (fun b wq => ∃ g7 sb : Nat, b = .pointer (some ⟨g7, 0, none⟩) ∧ wq.heap[g7]? = some (.cells #[.slice (some ⟨sb, 0, none⟩) L L] 42 (0, 0)) ∧ RowF wq sb L (uV l (wV l FL)) ∧ w5.heap.size ≤ sb ∧ w5.heap.size ≤ g7 ∧ g7 ≠ sb ∧ Below w5.heap.size w5 wq)
      case first =>
        go_region_held3 (fun x => (x.cell? ⟨w.heap.size, 0, none⟩ = some (.int .i64 cf.nodes) ∧ x.cell? ⟨w.heap.size, 1, none⟩ = some (.int .i64 cf.queue) ∧ x.cell? ⟨w.heap.size, 2, none⟩ = some (.int .i64 cf.limit) ∧ x.cell? ⟨w.heap.size, 3, none⟩ = some (.int .i64 cf.age) ∧ x.cell? ⟨w.heap.size, 4, none⟩ = some (.int .i64 cf.fair) ∧ x.cell? ⟨w.heap.size, 5, none⟩ = some (.int .i64 cf.size) ∧ x.cell? ⟨w.heap.size, 6, none⟩ = some (.int .i64 cf.period) ∧ x.cell? ⟨w.heap.size, 7, none⟩ = some (.int .i64 cf.half) ∧ Below w.heap.size w x ∧ w.heap.size ≤ x.heap.size) ∧ x.cell? ⟨kf, 0, none⟩ = some (.slice (some ⟨g, o, none⟩) L c) ∧ x.cell? ⟨kf, 1, none⟩ = some (.map (some m))) (first | exact HS.out | exact HY.out | exact HX.out | exact StE.far HY.out HX.out | exact StE.far HY.out HV.out | exact StE.far HY.out HS.out | exact StE.keep HY.out ((Below.refl _ _).alloc (Nat.le_refl _) _) | exact StE.keep (by assumption) (by assumption) | exact StE.keep (by assumption) ((Below.refl _ _).alloc (Nat.le_refl _) _) | exact StE.keep HS.out ((Below.refl _ _).alloc (Nat.le_refl _) _) | exact StE.far (by assumption) (by assumption) | exact StE.far (by assumption) HS.out | exact StE.keep HX.out ((Below.refl _ _).alloc (Nat.le_refl _) _))
          (first
          | (go_at_call 72; refine (cF _).mono ?_; rintro e x ⟨rfl, hx⟩; have HX : Hid (StE w kf g o L c m cf x) := StE.keep (by first | exact HS.out | assumption) hx; have BX : Hid (Below w5.heap.size w5 x) := (by first | exact (drew_below w5).trans hx | exact (((Below.refl _ w5).alloc (Nat.le_refl _) _).drew).trans (hx.mono (by simp))); obtain ⟨hc1, hf1⟩ := bkeep hx)
          | (go_at_call 71; refine (HU5.out _ (by first | exact BX.out | exact BX.out.alloc BX.out.size _)).mono ?_; rintro e y ⟨sb, rfl, hsb, hr, hy⟩; have HY : Hid (StE w kf g o L c m cf y) := StE.keep (by first | exact HX.out | assumption) hy; obtain ⟨hc3, hf3⟩ := bkeep hy; (first | (have g3 := trans_keep hc1 hc3; have j3 := trans_keepF hc1 hf1 hf3) | skip)))
        all_goals
          have HXs : Hid _ := hx
          have HYs : Hid _ := hy
          have HRr : Hid (RowF y sb L (uV l (wV l FL))) := hr
          have HSb : Hid _ := hsb
          clear HS HX HY HV hc1 hf1 hc3 hf3 hr hx hy hsb
          go_wp2
          go_meet
          have sx := HXs.out.size
          have sy := HYs.out.size
          have ss := HSb.out
          have sbx := BX.out.size
          simp only [World.size_alloc, World.size_drew] at sx sy ss
          first
            | exact ⟨w5.heap.size, sb, rfl, heap_setCell_same _ _ 0 _ _ _ (heap_keep HYs.out (heap_keep HXs.out (heap_alloc_new w5 _))), HRr.out.other (by omega), by omega, by omega, by omega, (BX.out.trans (HYs.out.mono BX.out.size)).setCell (Nat.le_refl _) _⟩
            | exact ⟨x.heap.size, sb, rfl, heap_setCell_same _ _ 0 _ _ _ (heap_keep HYs.out (heap_alloc_new x _)), HRr.out.other (by omega), by omega, by omega, by omega, ((BX.out.alloc (by omega) _).trans (HYs.out.mono (by simp; omega))).setCell (by simp; omega) _⟩
            | exact ⟨y.heap.size, sb, rfl, heap_alloc_new y _, HRr.out.below ((Below.refl _ _).alloc (Nat.le_refl _) _), by omega, by omega, by have := HRr.out.lt; omega, (BX.out.trans (HYs.out.mono BX.out.size)).alloc (by omega) _⟩
      case rest =>
        obtain ⟨g7, sb, rfl, hg7, hr, hsb, hg7', hne, hb6⟩ := hcut
        have hz5 := HZ5.out
        have hE6 := HV.out.keep hb6
        have f0 := hE6.2.1
        have f1 := hE6.2.2
        have t0 := cells_at (k := 0) hg7 rfl
        have hkl : kf < w5.heap.size := World.block_lt_of_cell? w5 _ HV.out.2.1
        have hW := wOk HWU.out HUS.out HFW.out
        have hinv : InvE wc m g o c g7 kf sb l (wV l FL) (fun j => j = 0) wc := ⟨Chg.refl _ _, by rw [HL.out]; exact t0, by rw [HL.out]; exact f0, f1, ⟨_, by rw [HL.out]; exact hr, fun j _ => ⟨fun h => by rw [h, ef_root], fun _ => rfl⟩⟩⟩
        have hac' : ∀ x, Chg (fun j => j = sb) wc x → Acs x g o l := fun x hx => by
          have hb := hx.below (hE6.1.bel) hE6.1.2.2.2.2.2.2.2.2.2 (fun i hi => by omega)
          exact HCL.out.lo hb (fun k a ha => World.block_lt_of_cell? w _ (HCL.out k a ha).nm)
        have hbr : ∀ x, Chg (fun j => j = sb) wc x → Bro x w2.heap.size m l l.length v := fun x hx =>
          (HBR.out.below HB5.out).below (hx.below hb6 hb6.size (fun i hi => by omega))
        have hdn := down_ef (WF := wc) (w := wc) (L := L) (c := c) (ao := some ⟨g, o, none⟩) (g1 := g7) (g2 := kf) (K := fun j => j = sb) (Inv := InvE wc m g o c g7 kf sb l (wV l FL)) HWU.out hbr
          (fun j hj => by rw [hj]; exact hr.lt) (Chg.refl _ _) (fun _ _ _ h b => h.st b) (fun D k x => visE_any HWU.out HUS.out hW hac' hbr hne (by omega) D k x) hinv
        have HBE : Hid (Below w.heap.size w wc) := hE6.1.bel
        clear hinv hac' hbr hE6 hg7 hr t0 hb6 HV HS HU5
        go_wp2_with fail
        refine hdn.mono ?_
        rintro e w7 ⟨rfl, hi, hch⟩
        obtain ⟨fn, rn, hfn⟩ := hi.row
        have q1 := hi.c1
        rw [HL.out] at rn hfn q1
        have HRW : Hid (RowF w7 sb L (efV l (wV l FL))) := show RowF w7 sb L (efV l (wV l FL)) from rn.congr (fun j hj => (hfn j hj).1 hj)
        have HB7 : Hid (Below w.heap.size w w7) := show Below w.heap.size w w7 from hch.below HBE.out HBE.out.size (fun i hi => by omega)
        clear hi hch hdn rn hfn f0 f1
        go_wp2
        go_ret
        exact ⟨fun _ => ⟨sb, by rw [HL.out]; rfl, by omega, by rw [HL.out, HFL.out]; exact HRW.out⟩, fun h => absurd ⟨HE.out, HK.out⟩ h, HB7.out⟩
    · have HK : Hid (¬ chkZ cf = 0) := hK
      obtain ⟨er, her⟩ : ∃ er, chkZ cf = er := ⟨_, rfl⟩
      rw [her] at c1 hK
      have hK' : (er == 0) = false := by simp [hK]
      clear her
      go_enter Tryz.func36, Tryz.ntmps36
      go_wp2_with fail
      refine hfam.mono ?_
      rintro e w3 ⟨h1, _, hb3⟩
      obtain ⟨m, v, rfl, hbro⟩ := h1 HE.out
      rw [HL.out]
      obtain ⟨w4, hw4⟩ : ∃ w4, w3.alloc (.cells #[.slice (some ⟨g, o, none⟩) L c, .map (some m)] 105) = w4 := ⟨_, rfl⟩
      have b34 : Below w3.heap.size w3 w4 := by rw [← hw4]; exact (Below.refl _ _).alloc (Nat.le_refl _) _
      have s4 : St w w.heap.size cf w4 := keepW (keepW HS2.out hb3) b34
      have HS4 : Hid (St w w.heap.size cf w4) := s4
      obtain ⟨s0, s1, s2, s3, s4', s5, s6, s7, _, _⟩ := id s4
      clear h1 hfam hbro hb3 b34 s4
      go_wp2_with fail
      refine (c1 _).mono ?_
      rintro e w5 ⟨rfl, hb5⟩
      have HB : Hid (Below w.heap.size w w5) := (keepW HS4.out hb5).bel
      clear hb5 s0 s1 s2 s3 s4' s5 s6 s7
      go_wp2
      go_ret
      exact ⟨fun h => absurd h.2 HK.out, fun _ => rfl, HB.out⟩
  · have HE : Hid (¬ loadE l = 0) := hE
    have HS2 : Hid (St w w.heap.size cf w2) := hS
    clear hs hn hc hE hA b2 hus hS c1
    go_enter Tryz.func36, Tryz.ntmps36
    go_wp2_with fail
    refine hfam.mono ?_
    rintro e w3 ⟨_, h2, hb3⟩
    obtain rfl := h2 HE.out
    have HB : Hid (Below w.heap.size w (w3.alloc (.cells #[.slice none 0 0, .map none] 105))) := ((keepW HS2.out hb3).bel).alloc (by have := (keepW HS2.out hb3).2.2.2.2.2.2.2.2.2; omega) _
    clear hb3 h2 hfam
    go_wp2
    go_ret
    exact ⟨fun h => absurd h.1 HE.out, fun _ => rfl, HB.out⟩
end Go.Proofs.YtjgllfpnmmopdaaGreatDoor
namespace Go.Proofs.YtjgllfpnmmopdaaGreatDoor
open Go.RowKit Wd Tr Go.Maps Cg Ld

def FacP (w : World) (cf : Cf) (l : List Ac) (e : Ending) (w' : World) : Prop :=
  (loadE l = 0 ∧ chkZ cf = 0 → ∃ ub, e = .returned (.slice (some ⟨ub, 0, none⟩) l.length l.length) ∧ w.heap.size ≤ ub ∧ RowF w' ub l.length (facV l (wV l (flZ cf)))) ∧
  (¬ (loadE l = 0 ∧ chkZ cf = 0) → e = .returned (.slice none 0 0)) ∧ Below w.heap.size w w'
theorem keepF2 {W w : World} {a0 a1 : Addr} {v0 v1 : Value} (hb : Below W.heap.size W w) (h : W.cell? a0 = some v0 ∧ W.cell? a1 = some v1) : w.cell? a0 = some v0 ∧ w.cell? a1 = some v1 :=
  ⟨keepC hb h.1, keepC hb h.2⟩
theorem setF2 {W : World} {nb db ub j k : Nat} {u v0 v1 : Value} (h1 : nb ≠ ub) (h2 : db ≠ ub) (h : W.cell? ⟨nb, j, none⟩ = some v0 ∧ W.cell? ⟨db, j, none⟩ = some v1) : (W.setCell ⟨ub, k, none⟩ u).cell? ⟨nb, j, none⟩ = some v0 ∧ (W.setCell ⟨ub, k, none⟩ u).cell? ⟨db, j, none⟩ = some v1 :=
  ⟨far_cell h.1 (.inl h1), far_cell h.2 (.inl h2)⟩
set_option maxHeartbeats 2000000 in
set_option maxRecDepth 20000 in
theorem factors_any {w : World} {ao : Option Addr} {l : List Ac} {c : Nat} {cf : Cf} (hT : Tab w) (hA : AcsAt w ao l) (hs : ∀ a ∈ l, a.nm.size ≤ maxLen) (hus : UsOk l) (hn : l.length * 48 ≤ 140737488355328) (hc : l.length ≤ c) :
    Calls Tryz.prog 16 #[cfV cf, .slice ao l.length c] w (FacP w cf l) := by
  have hS := St.new w cf
  obtain ⟨w2, hw2⟩ : ∃ w2, w.alloc (.cells #[.int .i64 cf.nodes, .int .i64 cf.queue, .int .i64 cf.limit, .int .i64 cf.age, .int .i64 cf.fair, .int .i64 cf.size, .int .i64 cf.period, .int .i64 cf.half] 23) = w2 := ⟨_, rfl⟩
  have b2 : Below w.heap.size w w2 := by rw [← hw2]; exact (Below.refl _ _).alloc (Nat.le_refl _) _
  rw [hw2] at hS
  have hsh := shares_any (c := c) (hA.below b2) hs hn hc
  have HEF : Hid (∀ x, Below w.heap.size w x → Calls Tryz.prog 36 #[cfV cf, .slice ao l.length c] x (EffP x cf l)) := fun x hx => effective_any (hA.below hx) hs hus hn hc
  unfold cfV at *
  have HS2 : Hid (St w w.heap.size cf w2) := hS
  obtain ⟨L, hL⟩ : ∃ L, l.length = L := ⟨_, rfl⟩
  have HL : Hid (l.length = L) := hL
  have HUS : Hid (UsOk l) := hus
  have HT : Hid (Tab w) := hT
  rw [hL] at hsh HEF ⊢
  clear hA hs hn hc b2 hS hus hT hL
  by_cases hOK : loadE l = 0 ∧ chkZ cf = 0
  · have HOK : Hid (loadE l = 0 ∧ chkZ cf = 0) := hOK
    have hwu : Wu l := wf_load hOK.1
    have HWU : Hid (Wu l) := hwu
    have hl : L ≤ 64 := by rw [← HL.out]; exact hwu.len
    have hW : WOk l (wV l (flZ cf)) := wOk hwu HUS.out (fl_word hOK.2)
    obtain ⟨W, hWW⟩ : ∃ W, wV l (flZ cf) = W := ⟨_, rfl⟩
    have HWW : Hid (wV l (flZ cf) = W) := hWW
    rw [hWW] at hW
    have HW : Hid (WOk l W) := hW
    clear hOK hwu hW hWW
    go_enter Tryz.func16, Tryz.ntmps16
    go_wp2_with fail
    refine hsh.mono ?_
    rintro e w3 ⟨h1, _, hb3⟩
    obtain ⟨nb, db, rfl, hnb, hdb, hnd, rN, rD⟩ := h1 HOK.out.1
    rw [HL.out] at rN rD ⊢
    have s3' := keepW HS2.out hb3
    have HB3 : Hid (Below w.heap.size w w3) := s3'.bel
    have hef := HEF.out w3 s3'.bel
    have hz3 := s3'.2.2.2.2.2.2.2.2.2
    have HR3 : Hid (RowF w3 nb L (numV l) ∧ RowF w3 db L (denV l)) := ⟨rN, rD⟩
    obtain ⟨s0, s1, s2, s3, s4, s5, s6, s7, _, _⟩ := id s3'
    clear h1 hsh hb3 s3' rN rD
    go_wp2_with fail
    refine hef.mono ?_
    rintro e w4 ⟨h1, _, hb4⟩
    obtain ⟨ub, rfl, hub, rE⟩ := h1 HOK.out
    rw [HWW.out, HL.out] at rE
    rw [HL.out]
    have HR4 : Hid (RowF w4 nb L (numV l) ∧ RowF w4 db L (denV l) ∧ RowF w4 ub L (efV l W)) := ⟨HR3.out.1.below hb4, HR3.out.2.below hb4, rE⟩
    have HB4 : Hid (Below w.heap.size w w4) := HB3.out.trans (hb4.mono hz3)
    have HUB : Hid (ub ≠ nb ∧ ub ≠ db ∧ w.heap.size ≤ ub) := ⟨by have := HR3.out.1.lt; omega, by have := HR3.out.2.lt; omega, by omega⟩
    clear h1 hef hb4 rE s0 s1 s2 s3 s4 s5 s6 s7 HEF
    go_wp2
    go_loopg [20] L (fun gk x wr => ∃ j : Nat, j + gk = L ∧ x = .int .i64 j ∧ RowF wr nb L (numV l) ∧ RowF wr db L (denV l) ∧ RowF wr ub L (fun i => if i < j then facV l W i else efV l W i) ∧ Below w.heap.size w wr)
    case atStart => exact ⟨0, by omega, rfl, HR4.out.1, HR4.out.2.1, by simpa using HR4.out.2.2, HB4.out⟩
    case round =>
      obtain ⟨j, hj, rfl, rN, rD, rE, hb⟩ := hrel
      by_cases hlt : j < L
      · have hlt' : (j : Int) < L := by omega
        have hjl : j < l.length := by rw [HL.out]; exact hlt
        have e1 := rE.cell hlt
        simp only [Nat.lt_irrefl, if_false] at e1
        have e2 := rE.free j
        have n1 := rN.cell hlt
        have d1 := rD.cell hlt
        obtain ⟨q1, q2, q3, q4⟩ := den_word HWU.out hjl
        obtain ⟨u1, u2, u3⟩ := ef_word HWU.out HUS.out HW.out hjl
        obtain ⟨t1, t2, t3⟩ := at_pos q1 q2 q4
        have t4 : atN (numV l j) (denV l j) < 18446744073709551616 := by unfold atN; split <;> omega
        have cA := atl_any (n := numV l j) (d := denV l j) (by omega) q3
        have cP := spow_any (e := efV l W j) (n := atN (numV l j) (denV l j)) (d := atD (numV l j) (denV l j)) (by omega) u3 t1 t4 t2 t3
        have hpw := pow_word (e := efV l W j) (by omega) q1 q2 q4
        have HH : Hid (∀ x, Below w.heap.size w x → Calls Tryz.prog 37 #[.int .u64 (powV (efV l W j) (numV l j) (denV l j))] x fun r w' => r = .returned (.int .u64 (facV l W j)) ∧ Below x.heap.size x w') := fun x hx => by
          have := half_any (powV (efV l W j) (numV l j) (denV l j)).toNat (by have := hpw.2; have := hpw.1; omega) x (Tab.below hx HT.out)
          rw [Int.toNat_of_nonneg hpw.1] at this
          exact this
        rw [show narV (cl (cl (efV l W j * atD (numV l j) (denV l j)) 2147483648) (atN (numV l j) (denV l j))) = powV (efV l W j) (numV l j) (denV l j) from rfl] at cP
        have HRR : Hid (∀ x, Below wr.heap.size wr x → RowF (x.setCell ⟨ub, j, none⟩ (.int .u64 (facV l W j))) ub L (fun i => if i < j + 1 then facV l W i else efV l W i)) := fun x hx => (rE.below hx).setAt (by rw [if_pos (by omega)]) (fun i _ hne => by
          by_cases h : i < j
          · rw [if_pos h, if_pos (by omega)]
          · rw [if_neg h, if_neg (by omega)])
        have HRN : Hid (RowF wr nb L (numV l) ∧ RowF wr db L (denV l)) := ⟨rN, rD⟩
        have HBB : Hid _ := hb
        have hu := HUB.out
        clear rN rD rE hb q1 q2 q3 q4 u1 u2 u3 t1 t2 t3 t4 hpw hjl
        generalize powV (efV l W j) (numV l j) (denV l j) = PW at *
        generalize hNJ : numV l j = NJ at *
        generalize hDJ : denV l j = DJ at *
        generalize efV l W j = EJ at *
        generalize hFJ : facV l W j = FJ at *
        clear hNJ hDJ hFJ
        have HS : Hid (wr.drew.cell? ⟨nb, j, none⟩ = some (.int .u64 NJ) ∧ wr.drew.cell? ⟨db, j, none⟩ = some (.int .u64 DJ)) := ⟨n1, d1⟩
        have un1 := Ne.symm hu.1
        have un2 := Ne.symm hu.2.1
        clear n1 d1 hu
        go_upto_region 6 with fail
        go_region_held3 (fun x => x.cell? ⟨nb, j, none⟩ = some (.int .u64 NJ) ∧ x.cell? ⟨db, j, none⟩ = some (.int .u64 DJ)) (first | exact HS.out | exact keepF2 (by assumption) (by assumption) | exact setF2 un1 un2 (by assumption))
          (first
          | (go_at_call 39; refine (cA _).mono ?_; rintro e x ⟨rfl, hx⟩; have BX : Hid (Below wr.heap.size wr x) := (drew_below wr).trans hx)
          | (go_at_call 38; refine (cP _).mono ?_; rintro e y ⟨rfl, hy⟩; have BY : Hid (Below wr.heap.size wr y) := BX.out.trans (hy.mono BX.out.size))
          | (go_at_call 37; refine (HH.out _ (HBB.out.trans (BY.out.mono HBB.out.size))).mono ?_; rintro e z ⟨rfl, hz⟩; have BZ : Hid (Below wr.heap.size wr z) := BY.out.trans (hz.mono BY.out.size); have y3 := keepC BZ.out e1; have y4 := keepF BZ.out e1 e2))
        all_goals
          have HR2 : Hid _ := HRR.out z BZ.out
          have HN2 : Hid (RowF (z.setCell ⟨ub, j, none⟩ (.int .u64 FJ)) nb L (numV l) ∧ RowF (z.setCell ⟨ub, j, none⟩ (.int .u64 FJ)) db L (denV l)) := ⟨(HRN.out.1.below BZ.out).other un1, (HRN.out.2.below BZ.out).other un2⟩
          have HB2 : Hid (Below w.heap.size w (z.setCell ⟨ub, j, none⟩ (.int .u64 FJ))) := (HBB.out.trans (BZ.out.mono HBB.out.size)).setCell HUB.out.2.2 _
          clear HS hx hy hz e1 e2 y3 y4 cA cP
          go_wp2
          go_roundg (L - (j + 1))
          case measure => omega
          case rel => exact ⟨j + 1, by omega, rfl, HN2.out.1, HN2.out.2, HR2.out, HB2.out⟩
      · obtain rfl : j = L := by omega
        have HRR : Hid (RowF wr ub j (facV l W)) := show RowF wr ub j (facV l W) from rE.congr (fun i hi => if_pos hi)
        have HBB : Hid _ := hb
        clear rE hb rN rD
        go_wp2
        go_ret
        exact ⟨fun _ => ⟨ub, by rw [HL.out]; rfl, HUB.out.2.2, by rw [HL.out, HWW.out]; exact HRR.out⟩, fun h => absurd HOK.out h, HBB.out⟩
  · have HOK : Hid (¬ (loadE l = 0 ∧ chkZ cf = 0)) := hOK
    have hvv : ∀ e w3, SharesP w2 l e w3 → ∃ va vb, e = .returned (.tuple #[va, vb]) ∧ Below w2.heap.size w2 w3 := fun e w3 h => by
      by_cases h0 : loadE l = 0
      · obtain ⟨nb, db, h1, _⟩ := h.1 h0
        exact ⟨_, _, h1, h.2.2⟩
      · exact ⟨_, _, h.2.1 h0, h.2.2⟩
    clear hOK
    go_enter Tryz.func16, Tryz.ntmps16
    go_wp2_with fail
    refine hsh.mono ?_
    intro e w3 h
    obtain ⟨va, vb, rfl, hb3⟩ := hvv e w3 h
    have s3' := keepW HS2.out hb3
    have HB3 : Hid (Below w.heap.size w w3) := s3'.bel
    have hef := HEF.out w3 s3'.bel
    have hz3 := s3'.2.2.2.2.2.2.2.2.2
    obtain ⟨s0, s1, s2, s3, s4, s5, s6, s7, _, _⟩ := id s3'
    clear h hvv hsh hb3 s3'
    go_wp2_with fail
    refine hef.mono ?_
    rintro e w4 ⟨_, h2, hb4⟩
    obtain rfl := h2 HOK.out
    have HB4 : Hid (Below w.heap.size w w4) := HB3.out.trans (hb4.mono hz3)
    clear h2 hef hb4 s0 s1 s2 s3 s4 s5 s6 s7 HEF hz3
    go_wp2
    refine wp_loop_rounds 1 ?_
    rw [rounds_succ]
    go_wp2
    go_ret
    exact ⟨fun h => absurd h HOK.out, fun _ => rfl, HB4.out⟩
end Go.Proofs.YtjgllfpnmmopdaaGreatDoor
namespace Go.Proofs.YtjgllfpnmmopdaaGreatDoor
open Go.RowKit Wd Tr Go.Maps Cg Ld

def cEx : Cf := ⟨4, 8, 10, 1, 1000, 0, 100, 100⟩
theorem ex_rng : Rng cEx := by constructor <;> simp only [cEx] <;> omega
theorem ex_chk : chkZ cEx = 0 := by
  unfold chkZ
  rw [if_neg (fun h => h ex_rng), if_neg (by decide)]
  decide
def lEx : List Ac := [⟨⟨#[114, 111, 111, 116]⟩, -1, 1, false, 0⟩, ⟨⟨#[97]⟩, 0, 3, false, 0⟩, ⟨⟨#[98]⟩, 0, 1, false, 0⟩, ⟨⟨#[100]⟩, 1, 5, false, 429496729600⟩]
theorem ex_load : loadE lEx = 0 := by kernel_rfl
theorem ex_num : numV lEx 3 = 15 := by kernel_rfl
theorem ex_den : denV lEx 3 = 20 := by kernel_rfl
theorem ex_w : wV lEx (flZ cEx) = 1717986918400 := by kernel_rfl
theorem ex_e0 : efV lEx 1717986918400 0 = 2305843009213693952 := by kernel_rfl
theorem ex_e2 : efV lEx 1717986918400 2 = 576460752303423488 := by kernel_rfl
theorem ex_e3 : efV lEx 1717986918400 3 = 2305843009213693952 := by kernel_rfl
theorem ex_f0 : facV lEx 1717986918400 0 = 7755900482342532474 := by kernel_rfl
theorem ex_f1 : facV lEx 1717986918400 1 = 7320595236211045639 := by kernel_rfl
theorem ex_f2 : facV lEx 1717986918400 2 = 7755900482342532474 := by kernel_rfl
theorem ex_us : UsOk lEx := fun n a h => by
  match n, h with
  | 0, h => cases h; exact ⟨by decide, by decide⟩
  | 1, h => cases h; exact ⟨by decide, by decide⟩
  | 2, h => cases h; exact ⟨by decide, by decide⟩
  | 3, h => cases h; exact ⟨by decide, by decide⟩
  | n + 4, h => simp [lEx] at h
theorem ex_nm : ∀ a ∈ lEx, a.nm.size ≤ maxLen := fun a h => by
  simp only [lEx, List.mem_cons, List.not_mem_nil, or_false] at h
  rcases h with rfl | rfl | rfl | rfl <;> decide
def exCs : Array Value := #[.string ⟨#[114, 111, 111, 116]⟩, .int .i64 (-1), .int .i64 1, .bool false, .int .u64 0, .string ⟨#[97]⟩, .int .i64 0, .int .i64 3, .bool false, .int .u64 0, .string ⟨#[98]⟩, .int .i64 0, .int .i64 1, .bool false, .int .u64 0, .string ⟨#[100]⟩, .int .i64 1, .int .i64 5, .bool false, .int .u64 429496729600]
theorem ex_acs (w : World) : AcsAt (w.alloc (.cells exCs 31)) (some ⟨w.heap.size, 0, none⟩) lEx := by
  refine ⟨w.heap.size, 0, fun _ => rfl, fun k a h => ?_⟩
  have hh := heap_alloc_new w (.cells exCs 31)
  match k, h with
  | 0, h => cases h; exact ⟨cells_at (k := 0) hh rfl, cells_at (k := 1) hh rfl, cells_at (k := 2) hh rfl, cells_at (k := 3) hh rfl, cells_at (k := 4) hh rfl⟩
  | 1, h => cases h; exact ⟨cells_at (k := 5) hh rfl, cells_at (k := 6) hh rfl, cells_at (k := 7) hh rfl, cells_at (k := 8) hh rfl, cells_at (k := 9) hh rfl⟩
  | 2, h => cases h; exact ⟨cells_at (k := 10) hh rfl, cells_at (k := 11) hh rfl, cells_at (k := 12) hh rfl, cells_at (k := 13) hh rfl, cells_at (k := 14) hh rfl⟩
  | 3, h => cases h; exact ⟨cells_at (k := 15) hh rfl, cells_at (k := 16) hh rfl, cells_at (k := 17) hh rfl, cells_at (k := 18) hh rfl, cells_at (k := 19) hh rfl⟩
  | n + 4, h => simp [lEx] at h
end Go.Proofs.YtjgllfpnmmopdaaGreatDoor
