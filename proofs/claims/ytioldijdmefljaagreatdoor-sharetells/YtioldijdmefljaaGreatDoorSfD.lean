/-
  LAYER 13: package share: down: each account behind its parent.
-/
import Derived.Test.YtioldijdmefljaaGreatDoorSfC
import Derived.Test.YtioldijdmefljaaGreatDoorRgA
import Derived.Laws.ByValue
import Derived.Laws.EntriesVeiled
namespace Go.Proofs.YtioldijdmefljaaGreatDoor
open Go.RowKit Wd Tr Go.Maps

namespace Tr
section
variable {l : List Ac} {n k k' j : Nat}
theorem Wu.below_kid (h : Wu l) (hk : k ∈ kidsV l n) (hj : j < l.length) (hb : Blw l k j) : Blw l n j ∧ j ≠ n := by
  have := Tr.below_kid h (by rw [kids_plain]; exact hk) (by rwa [List.length_map]) (blw_plain.2 hb)
  exact ⟨blw_plain.1 this.1, this.2⟩
theorem Wu.below_split (h : Wu l) (hj : j < l.length) (hb : Blw l n j) (hne : j ≠ n) : ∃ k, k ∈ kidsV l n ∧ Blw l k j := by
  obtain ⟨k, h1, h2⟩ := Tr.below_split h (by rwa [List.length_map]) (blw_plain.2 hb) hne
  exact ⟨k, by rw [kids_plain] at h1; exact h1, blw_plain.1 h2⟩
theorem Wu.below_one (h : Wu l) (hk : k ∈ kidsV l n) (hk' : k' ∈ kidsV l n) (hn : n < l.length) (hj : j < l.length) (hb : Blw l k j) (hb' : Blw l k' j) : k = k' :=
  Tr.below_one h (by rw [kids_plain]; exact hk) (by rw [kids_plain]; exact hk') (by rwa [List.length_map]) (by rwa [List.length_map]) (blw_plain.2 hb) (blw_plain.2 hb')
theorem Wu.below_root (h : Wu l) (hj : j < l.length) : Blw l 0 j := by
  obtain ⟨d, _, hd⟩ := h.deep hj
  have key : ∀ d j, Dep l d j → Blw l 0 j := fun d => by
    induction d with
    | zero => exact fun j hd => ⟨0, hd⟩
    | succ d ih => exact fun j hd => below_up hd.1 (ih _ hd.2)
  exact key d j hd
end
/-- What is done when j of p's children are done. -/
def DoneTo (l : List Ac) (p : Nat) (D : Nat → Prop) (j : Nat) : Nat → Prop := fun i => D i ∨ ∃ (m k : Nat), m < j ∧ (kidsV l p)[m]? = some k ∧ i < l.length ∧ Blw l k i
def DoneAll (l : List Ac) (p : Nat) (D : Nat → Prop) : Nat → Prop := fun i => D i ∨ (i < l.length ∧ Blw l p i ∧ i ≠ p)
section
variable {l : List Ac} {p j k : Nat} {D : Nat → Prop}
theorem done_start : DoneTo l p D 0 = D := by
  funext i
  apply propext
  exact ⟨fun h => h.elim id (fun ⟨m, k, hm, _⟩ => absurd hm (by omega)), .inl⟩
theorem done_end (h : Wu l) : DoneTo l p D (kidsV l p).length = DoneAll l p D := by
  funext i
  apply propext
  constructor
  · rintro (h1 | ⟨m, k, hm, hk, hi, hb⟩)
    · exact .inl h1
    · have := h.below_kid (List.mem_of_getElem? hk) hi hb
      exact .inr ⟨hi, this.1, this.2⟩
  · rintro (h1 | ⟨hi, hb, hne⟩)
    · exact .inl h1
    · obtain ⟨k, hk, hb⟩ := h.below_split hi hb hne
      obtain ⟨m, hm⟩ := List.getElem?_of_mem hk
      exact .inr ⟨m, k, (List.getElem?_eq_some_iff.1 hm).1, hm, hi, hb⟩
theorem kids_nodup (l : List Ac) (p : Nat) : (kidsV l p).Nodup := (range_nodup _).filter _
theorem done_not (h : Wu l) (hp : p < l.length) (hk : (kidsV l p)[j]? = some k) (hD : ∀ i, i < l.length → Blw l p i → i ≠ p → ¬ D i) {i : Nat} (hi : i < l.length) (hb : Blw l k i) : ¬ DoneTo l p D j i := by
  have hkm := List.mem_of_getElem? hk
  rintro (h1 | ⟨m, k', hm, hk', _, hb'⟩)
  · have := h.below_kid hkm hi hb
    exact hD i hi this.1 this.2 h1
  · have e := h.below_one hkm (List.mem_of_getElem? hk') hp hi hb hb'
    subst e
    have h1 := (List.getElem?_eq_some_iff.1 hk)
    have h2 := (List.getElem?_eq_some_iff.1 hk')
    obtain ⟨a1, a2⟩ := h1
    obtain ⟨b1, b2⟩ := h2
    exact (List.pairwise_iff_getElem.1 (kids_nodup l p)) m j b1 a1 hm (by rw [a2, b2])
theorem done_next (h : Wu l) (hk : (kidsV l p)[j]? = some k) : DoneAll l k (fun i => DoneTo l p D j i ∨ i = k) = DoneTo l p D (j + 1) := by
  have hkl := (h.kid (List.mem_of_getElem? hk)).2.1
  funext i
  apply propext
  constructor
  · rintro ((h1 | rfl) | ⟨hi, hb, _⟩)
    · rcases h1 with h1 | ⟨m, k', hm, r⟩
      · exact .inl h1
      · exact .inr ⟨m, k', by omega, r⟩
    · exact .inr ⟨j, i, by omega, hk, hkl, below_self l i⟩
    · exact .inr ⟨j, k, by omega, hk, hi, hb⟩
  · rintro (h1 | ⟨m, k', hm, hk', hi, hb⟩)
    · exact .inl (.inl (.inl h1))
    · by_cases e : m = j
      · subst e
        rw [hk] at hk'
        cases hk'
        by_cases e2 : i = k
        · exact .inl (.inr e2)
        · exact .inr ⟨hi, hb, e2⟩
      · exact .inl (.inl (.inr ⟨m, k', by omega, hk', hi, hb⟩))
end
end Tr
theorem fld0 (a b : Value) (w : World) : (Instr.field 49 (.agg #[a, b]) 0).run Tryz.prog w = .ok a w := by
  simp [Instr.field, run_underlying Tryz.underlying49, asAgg, part, isAgg, run_underlying Tryz.underlying47]
theorem fld1 (a b : Value) (w : World) : (Instr.field 49 (.agg #[a, b]) 1).run Tryz.prog w = .ok b w := by
  simp [Instr.field, run_underlying Tryz.underlying49, asAgg, part, isAgg, run_underlying Tryz.underlying30]
theorem ints_cell {W : World} {B n : Nat} {v : Value} {ks : List Nat} (h : W.ownsRow B 3 1 v n (ints ks)) {j k : Nat} (hk : ks[j]? = some k) : ∃ b c, v = .slice (some ⟨b, 0, none⟩) n c ∧ W.cell? ⟨b, j, none⟩ = some (.int .i64 (k : Int)) := by
  have hx : (ints ks)[j]? = some (.int .i64 (k : Int)) := by simp [ints, hk]
  rcases h.2 with ⟨_, h0⟩ | ⟨g, cap, cur, e, _, hh, _, _, _, ht⟩
  · have := h.1
    rw [h0] at this
    have := List.eq_nil_of_length_eq_zero (by simpa using this : (ints ks).length = 0)
    rw [this] at hx
    cases hx
  · refine ⟨g, cap, e, cells_at hh ?_⟩
    rw [← ht] at hx
    rw [List.getElem?_take] at hx
    split at hx
    · simpa using hx
    · cases hx

set_option maxHeartbeats 1000000 in
set_option maxRecDepth 20000 in
theorem below_sh {WF : World} {B m fa va ba g1 g2 g3 : Nat} {l : List Ac} {v : Nat → Value} {K : Nat → Prop} {Inv : (Nat → Prop) → World → Prop} (hwu : Wu l) (hbr : ∀ x, Chg K WF x → Bro x B m l l.length v)
    (kf : ¬ K fa) (kv : ¬ K va) (kb : ¬ K ba)
    (hvis : ∀ (D : Nat → Prop) (k : Nat) (w : World), Inv D w → k ≠ 0 → k < l.length → D (up l k) → ¬ D k → Calls Tryz.prog 16 #[.int .i64 (k : Int), .int .i64 (up l k : Nat), .pointer (some ⟨g1, 0, none⟩), .pointer (some ⟨g2, 0, none⟩), .pointer (some ⟨g3, 0, none⟩)] w fun e w' => e = .returned (.tuple #[]) ∧ Inv (fun j => D j ∨ j = k) w' ∧ Chg K w w') :
    ∀ (f : Nat) {p d : Nat} {D : Nat → Prop} {w : World}, Chg K WF w → w.cell? ⟨fa, 1, none⟩ = some (.map (some m)) → w.cell? ⟨va, 0, none⟩ = some (.func (.func 16) #[] #[.pointer (some ⟨g1, 0, none⟩), .pointer (some ⟨g2, 0, none⟩), .pointer (some ⟨g3, 0, none⟩)]) →
      w.cell? ⟨ba, 0, none⟩ = some (.func (.func 38) #[] #[.pointer (some ⟨fa, 0, none⟩), .pointer (some ⟨va, 0, none⟩), .pointer (some ⟨ba, 0, none⟩)]) →
      Inv D w → p < l.length → Dep l d p → 4 < d + f → D p → (∀ i, i < l.length → Blw l p i → i ≠ p → ¬ D i) →
      Calls Tryz.prog 38 #[.int .i64 (p : Int), .pointer (some ⟨fa, 0, none⟩), .pointer (some ⟨va, 0, none⟩), .pointer (some ⟨ba, 0, none⟩)] w fun e w' => e = .returned (.tuple #[]) ∧ Inv (DoneAll l p D) w' ∧ Chg K w w' := by
  intro f
  induction f with
  | zero =>
    intro p d D w _ _ _ _ _ hp hd hf
    obtain ⟨e, h1, h2⟩ := hwu.deep hp
    have := dep_uniq hd h2
    omega
  | succ f ih =>
    intro p d D w hbel c1 cv cb hinv hp hd hf hDp hDn
    have hb0 := hbr w hbel
    have hlk := hb0.look hwu.len hp
    obtain ⟨sa, sc, hv⟩ := sl_shape (hb0.row p hp)
    rw [hv] at hlk
    have HDE : Hid (DoneTo l p D (kidP l p l.length).length = DoneAll l p D) := done_end hwu
    have HPL : Hid ((kidP l p l.length).length = (kidsV l p).length) := rfl
    obtain ⟨nk, hnk⟩ : ∃ nk, (kidP l p l.length).length = nk := ⟨_, rfl⟩
    have hnk64 : nk ≤ 64 := by have := kidP_le l p l.length; have := hwu.len; omega
    rw [hnk] at hlk
    have HNK : Hid _ := hnk
    have HW : Hid (Wu l) := hwu
    have HV : Hid _ := hv
    have HVIS : Hid _ := hvis
    have HIH : Hid _ := @ih
    have HBRO : Hid (∀ x, Chg K WF x → Bro x B m l l.length v) := hbr
    have HBEL : Hid _ := hbel
    have HINV : Hid _ := hinv
    have HDp : Hid _ := hDp
    have HDn : Hid _ := hDn
    have HC : Hid (w.cell? ⟨fa, 1, none⟩ = some (.map (some m)) ∧ w.cell? ⟨va, 0, none⟩ = some (.func (.func 16) #[] #[.pointer (some ⟨g1, 0, none⟩), .pointer (some ⟨g2, 0, none⟩), .pointer (some ⟨g3, 0, none⟩)]) ∧ w.cell? ⟨ba, 0, none⟩ = some (.func (.func 38) #[] #[.pointer (some ⟨fa, 0, none⟩), .pointer (some ⟨va, 0, none⟩), .pointer (some ⟨ba, 0, none⟩)])) := ⟨c1, cv, cb⟩
    have HPp : Hid (p < l.length) := hp
    have HDD : Hid (Dep l d p) := hd
    have HF : Hid _ := hf
    clear hbel hinv hDp hDn hvis ih hb0 hv hnk cv cb hp hd hf hwu hbr
    generalize togN l (↑p) l.length = tg at *
    have hfl := fld0 (.slice sa nk sc) (.int .u64 tg)
    go_enter Tryz.func38, Tryz.ntmps38
    go_wp2
    go_loopg [13] nk (fun gk x wr => ∃ j : Nat, j + gk = nk ∧ x = .int .i64 j ∧ Inv (DoneTo l p D j) wr ∧ Chg K w wr)
    case atStart => exact ⟨0, by omega, rfl, by rw [done_start]; exact HINV.out, Chg.refl _ _⟩
    case round =>
      obtain ⟨j, hj, rfl, hi, hch⟩ := hrel
      by_cases hlt : j < nk
      · have hlt' : (j : Int) < nk := by omega
        obtain ⟨k, hk⟩ : ∃ k, (kidsV l p)[j]? = some k := ⟨_, List.getElem?_eq_getElem (by rw [← HPL.out, HNK.out]; exact hlt)⟩
        have hkm := List.mem_of_getElem? hk
        obtain ⟨hk0, hkl, hku⟩ := HW.out.kid hkm
        have B1 : Chg K WF wr := HBEL.out.trans hch (fun _ _ h => h)
        obtain ⟨b, c, hvv, hcell⟩ := ints_cell ((HBRO.out wr B1).row p HPp.out) (j := j) (k := k) hk
        rw [HV.out, HNK.out] at hvv
        obtain ⟨rfl, rfl⟩ : sa = some ⟨b, 0, none⟩ ∧ sc = c := by
          have := Value.slice.inj hvv
          exact ⟨this.1, this.2.2⟩
        have cv := hch.cell HC.out.2.1 kv
        have cb := hch.cell HC.out.2.2 kb
        have c1' := hch.cell HC.out.1 kf
        have hnd : ∀ i, i < l.length → Blw l k i → ¬ DoneTo l p D j i := fun i hi hb => done_not HW.out HPp.out hk HDn.out hi hb
        have hv1 := HVIS.out (DoneTo l p D j) k wr hi hk0 hkl (by rw [hku]; exact .inl HDp.out) (hnd k hkl (below_self l k))
        rw [hku] at hv1
        have HB2 : Hid (∀ x, Inv (fun i => DoneTo l p D j i ∨ i = k) x → Chg K wr x → Calls Tryz.prog 38 #[.int .i64 (k : Int), .pointer (some ⟨fa, 0, none⟩), .pointer (some ⟨va, 0, none⟩), .pointer (some ⟨ba, 0, none⟩)] x fun e w' => e = .returned (.tuple #[]) ∧ Inv (DoneAll l k (fun i => DoneTo l p D j i ∨ i = k)) w' ∧ Chg K x w') := fun x hx hcx =>
          HIH.out (d := d + 1) (B1.trans hcx (fun _ _ h => h)) (hcx.cell c1' kf) (hcx.cell cv kv) (hcx.cell cb kb) hx hkl (HW.out.kid_dep hkm HDD.out) (by have := HF.out; omega) (.inr rfl) (fun i hi hb hne h => h.elim (hnd i hi hb) hne)
        have HCB : Hid _ := cb
        have HN : Hid (DoneAll l k (fun i => DoneTo l p D j i ∨ i = k) = DoneTo l p D (j + 1)) := done_next HW.out hk
        have HCH : Hid _ := hch
        clear hi hch hk hkm hk0 hkl hku B1 hvv hnd cb c1'
        go_wp2_with fail
        refine hv1.mono ?_
        rintro e w1 ⟨rfl, hi1, hc1⟩
        have cb1 := hc1.cell HCB.out kb
        have hv2 := HB2.out w1 hi1 hc1
        have HC1 : Hid _ := hc1
        clear hv1 hi1 hc1
        go_wp2_with fail
        refine hv2.mono ?_
        rintro e w2 ⟨rfl, hi2, hc2⟩
        rw [HN.out] at hi2
        have HI2 : Hid _ := hi2
        have HC2 : Hid (Chg K w w2) := (HCH.out.trans HC1.out (fun _ _ h => h)).trans hc2 (fun _ _ h => h)
        clear hv2 hi2 hc2 cv cb1 hcell
        go_wp2
        go_roundg (nk - (j + 1))
        case measure => omega
        case rel => exact ⟨j + 1, by omega, rfl, HI2.out, HC2.out⟩
      · obtain rfl : j = nk := by omega
        have HI : Hid (Inv (DoneAll l p D) wr) := show Inv (DoneAll l p D) wr by rw [← HDE.out, HNK.out]; exact hi
        have HCH : Hid _ := hch
        clear hi hch
        go_wp2
        go_end0
        exact ⟨rfl, HI.out, HCH.out⟩
set_option maxHeartbeats 1000000 in
set_option maxRecDepth 20000 in
theorem down_sh {WF w : World} {B m L c g1 g2 g3 : Nat} {ao : Option Addr} {l : List Ac} {v : Nat → Value} {K : Nat → Prop} {Inv : (Nat → Prop) → World → Prop} (hwu : Wu l) (hbr : ∀ x, Chg K WF x → Bro x B m l l.length v)
    (kl : ∀ j, K j → j < w.heap.size) (hbel : Chg K WF w) (hst : ∀ D x y, Inv D x → Below x.heap.size x y → Inv D y)
    (hvis : ∀ (D : Nat → Prop) (k : Nat) (w : World), Inv D w → k ≠ 0 → k < l.length → D (up l k) → ¬ D k → Calls Tryz.prog 16 #[.int .i64 (k : Int), .int .i64 (up l k : Nat), .pointer (some ⟨g1, 0, none⟩), .pointer (some ⟨g2, 0, none⟩), .pointer (some ⟨g3, 0, none⟩)] w fun e w' => e = .returned (.tuple #[]) ∧ Inv (fun j => D j ∨ j = k) w' ∧ Chg K w w')
    (hinv : Inv (fun j => j = 0) w) :
    Calls Tryz.prog 15 #[.agg #[.slice ao L c, .map (some m)], .func (.func 16) #[] #[.pointer (some ⟨g1, 0, none⟩), .pointer (some ⟨g2, 0, none⟩), .pointer (some ⟨g3, 0, none⟩)]] w fun e w' => e = .returned (.tuple #[]) ∧ Inv (fun j => j < l.length) w' ∧ Chg K w w' := by
  have hD : DoneAll l 0 (fun j => j = 0) = fun j => j < l.length := by
    funext i
    apply propext
    constructor
    · rintro (rfl | ⟨hi, _⟩)
      · exact hwu.pos
      · exact hi
    · intro hi
      by_cases e : i = 0
      · exact .inl e
      · exact .inr ⟨hi, hwu.below_root hi, e⟩
  have hmf : ∀ (fn : Fn) (first cap : Array Value) (w : World), (Instr.makeFunc fn first cap).run Tryz.prog w = .ok (.func fn first cap) w := fun _ _ _ _ => rfl
  obtain ⟨w3, hw3⟩ : ∃ w3, ((w.alloc (.cells #[.slice ao L c, .map (some m)] 42)).alloc (.cells #[.func (.func 16) #[] #[.pointer (some ⟨g1, 0, none⟩), .pointer (some ⟨g2, 0, none⟩), .pointer (some ⟨g3, 0, none⟩)]] 50)).alloc (.cells #[.func (.func 38) #[] #[.pointer (some ⟨w.heap.size, 0, none⟩), .pointer (some ⟨w.heap.size + 1, 0, none⟩), .pointer (some ⟨w.heap.size + 1 + 1, 0, none⟩)]] 71) = w3 := ⟨_, rfl⟩
  have b3 : Below w.heap.size w w3 := by rw [← hw3]; exact (((Below.refl _ _).alloc (Nat.le_refl _) _).alloc (by simp) _).alloc (by simp; omega) _
  have q1 : w3.cell? ⟨w.heap.size, 1, none⟩ = some (.map (some m)) := by rw [← hw3]; simp [go_sem]
  have q2 : w3.cell? ⟨w.heap.size + 1, 0, none⟩ = some (.func (.func 16) #[] #[.pointer (some ⟨g1, 0, none⟩), .pointer (some ⟨g2, 0, none⟩), .pointer (some ⟨g3, 0, none⟩)]) := by rw [← hw3]; simp [go_sem]
  have q3 : w3.cell? ⟨w.heap.size + 1 + 1, 0, none⟩ = some (.func (.func 38) #[] #[.pointer (some ⟨w.heap.size, 0, none⟩), .pointer (some ⟨w.heap.size + 1, 0, none⟩), .pointer (some ⟨w.heap.size + 1 + 1, 0, none⟩)]) := by rw [← hw3]; simp [go_sem]
  have hb := below_sh (fa := w.heap.size) (va := w.heap.size + 1) (ba := w.heap.size + 1 + 1) (WF := WF) (K := K) (Inv := Inv) hwu hbr (fun h => by have := kl _ h; omega) (fun h => by have := kl _ h; omega) (fun h => by have := kl _ h; omega) hvis 5 (p := 0) (d := 0) (D := fun j => j = 0) (w := w3)
    (hbel.trans (Chg.of_below b3 K) (fun _ _ h => h)) q1 q2 q3 (hst _ _ _ hinv b3) hwu.pos rfl (by omega) rfl (fun i _ _ hne => hne)
  rw [hD] at hb
  have HB : Hid (Below w.heap.size w w3) := b3
  have HK : Hid _ := kl
  clear hvis hinv hst hbel kl hwu hbr hD b3 q1 q2
  go_enter Tryz.func15, Tryz.ntmps15
  go_wp2_with fail
  refine hb.mono ?_
  rintro e w4 ⟨rfl, hi, hc⟩
  have HI : Hid _ := hi
  have HC : Hid (Chg K w w4) := (Chg.of_below HB.out K).trans hc (fun _ _ h => h)
  clear hi hc q3
  go_wp2
  go_end0
  exact ⟨rfl, HI.out, HC.out⟩

set_option maxHeartbeats 1000000 in
set_option maxRecDepth 20000 in
theorem below_ef {WF : World} {B m fa va ba g1 g2 : Nat} {l : List Ac} {v : Nat → Value} {K : Nat → Prop} {Inv : (Nat → Prop) → World → Prop} (hwu : Wu l) (hbr : ∀ x, Chg K WF x → Bro x B m l l.length v)
    (kf : ¬ K fa) (kv : ¬ K va) (kb : ¬ K ba)
    (hvis : ∀ (D : Nat → Prop) (k : Nat) (w : World), Inv D w → k ≠ 0 → k < l.length → D (up l k) → ¬ D k → Calls Tryz.prog 24 #[.int .i64 (k : Int), .int .i64 (up l k : Nat), .pointer (some ⟨g1, 0, none⟩), .pointer (some ⟨g2, 0, none⟩)] w fun e w' => e = .returned (.tuple #[]) ∧ Inv (fun j => D j ∨ j = k) w' ∧ Chg K w w') :
    ∀ (f : Nat) {p d : Nat} {D : Nat → Prop} {w : World}, Chg K WF w → w.cell? ⟨fa, 1, none⟩ = some (.map (some m)) → w.cell? ⟨va, 0, none⟩ = some (.func (.func 24) #[] #[.pointer (some ⟨g1, 0, none⟩), .pointer (some ⟨g2, 0, none⟩)]) →
      w.cell? ⟨ba, 0, none⟩ = some (.func (.func 38) #[] #[.pointer (some ⟨fa, 0, none⟩), .pointer (some ⟨va, 0, none⟩), .pointer (some ⟨ba, 0, none⟩)]) →
      Inv D w → p < l.length → Dep l d p → 4 < d + f → D p → (∀ i, i < l.length → Blw l p i → i ≠ p → ¬ D i) →
      Calls Tryz.prog 38 #[.int .i64 (p : Int), .pointer (some ⟨fa, 0, none⟩), .pointer (some ⟨va, 0, none⟩), .pointer (some ⟨ba, 0, none⟩)] w fun e w' => e = .returned (.tuple #[]) ∧ Inv (DoneAll l p D) w' ∧ Chg K w w' := by
  intro f
  induction f with
  | zero =>
    intro p d D w _ _ _ _ _ hp hd hf
    obtain ⟨e, h1, h2⟩ := hwu.deep hp
    have := dep_uniq hd h2
    omega
  | succ f ih =>
    intro p d D w hbel c1 cv cb hinv hp hd hf hDp hDn
    have hb0 := hbr w hbel
    have hlk := hb0.look hwu.len hp
    obtain ⟨sa, sc, hv⟩ := sl_shape (hb0.row p hp)
    rw [hv] at hlk
    have HDE : Hid (DoneTo l p D (kidP l p l.length).length = DoneAll l p D) := done_end hwu
    have HPL : Hid ((kidP l p l.length).length = (kidsV l p).length) := rfl
    obtain ⟨nk, hnk⟩ : ∃ nk, (kidP l p l.length).length = nk := ⟨_, rfl⟩
    have hnk64 : nk ≤ 64 := by have := kidP_le l p l.length; have := hwu.len; omega
    rw [hnk] at hlk
    have HNK : Hid _ := hnk
    have HW : Hid (Wu l) := hwu
    have HV : Hid _ := hv
    have HVIS : Hid _ := hvis
    have HIH : Hid _ := @ih
    have HBRO : Hid (∀ x, Chg K WF x → Bro x B m l l.length v) := hbr
    have HBEL : Hid _ := hbel
    have HINV : Hid _ := hinv
    have HDp : Hid _ := hDp
    have HDn : Hid _ := hDn
    have HC : Hid (w.cell? ⟨fa, 1, none⟩ = some (.map (some m)) ∧ w.cell? ⟨va, 0, none⟩ = some (.func (.func 24) #[] #[.pointer (some ⟨g1, 0, none⟩), .pointer (some ⟨g2, 0, none⟩)]) ∧ w.cell? ⟨ba, 0, none⟩ = some (.func (.func 38) #[] #[.pointer (some ⟨fa, 0, none⟩), .pointer (some ⟨va, 0, none⟩), .pointer (some ⟨ba, 0, none⟩)])) := ⟨c1, cv, cb⟩
    have HPp : Hid (p < l.length) := hp
    have HDD : Hid (Dep l d p) := hd
    have HF : Hid _ := hf
    clear hbel hinv hDp hDn hvis ih hb0 hv hnk cv cb hp hd hf hwu hbr
    generalize togN l (↑p) l.length = tg at *
    have hfl := fld0 (.slice sa nk sc) (.int .u64 tg)
    go_enter Tryz.func38, Tryz.ntmps38
    go_wp2
    go_loopg [13] nk (fun gk x wr => ∃ j : Nat, j + gk = nk ∧ x = .int .i64 j ∧ Inv (DoneTo l p D j) wr ∧ Chg K w wr)
    case atStart => exact ⟨0, by omega, rfl, by rw [done_start]; exact HINV.out, Chg.refl _ _⟩
    case round =>
      obtain ⟨j, hj, rfl, hi, hch⟩ := hrel
      by_cases hlt : j < nk
      · have hlt' : (j : Int) < nk := by omega
        obtain ⟨k, hk⟩ : ∃ k, (kidsV l p)[j]? = some k := ⟨_, List.getElem?_eq_getElem (by rw [← HPL.out, HNK.out]; exact hlt)⟩
        have hkm := List.mem_of_getElem? hk
        obtain ⟨hk0, hkl, hku⟩ := HW.out.kid hkm
        have B1 : Chg K WF wr := HBEL.out.trans hch (fun _ _ h => h)
        obtain ⟨b, c, hvv, hcell⟩ := ints_cell ((HBRO.out wr B1).row p HPp.out) (j := j) (k := k) hk
        rw [HV.out, HNK.out] at hvv
        obtain ⟨rfl, rfl⟩ : sa = some ⟨b, 0, none⟩ ∧ sc = c := by
          have := Value.slice.inj hvv
          exact ⟨this.1, this.2.2⟩
        have cv := hch.cell HC.out.2.1 kv
        have cb := hch.cell HC.out.2.2 kb
        have c1' := hch.cell HC.out.1 kf
        have hnd : ∀ i, i < l.length → Blw l k i → ¬ DoneTo l p D j i := fun i hi hb => done_not HW.out HPp.out hk HDn.out hi hb
        have hv1 := HVIS.out (DoneTo l p D j) k wr hi hk0 hkl (by rw [hku]; exact .inl HDp.out) (hnd k hkl (below_self l k))
        rw [hku] at hv1
        have HB2 : Hid (∀ x, Inv (fun i => DoneTo l p D j i ∨ i = k) x → Chg K wr x → Calls Tryz.prog 38 #[.int .i64 (k : Int), .pointer (some ⟨fa, 0, none⟩), .pointer (some ⟨va, 0, none⟩), .pointer (some ⟨ba, 0, none⟩)] x fun e w' => e = .returned (.tuple #[]) ∧ Inv (DoneAll l k (fun i => DoneTo l p D j i ∨ i = k)) w' ∧ Chg K x w') := fun x hx hcx =>
          HIH.out (d := d + 1) (B1.trans hcx (fun _ _ h => h)) (hcx.cell c1' kf) (hcx.cell cv kv) (hcx.cell cb kb) hx hkl (HW.out.kid_dep hkm HDD.out) (by have := HF.out; omega) (.inr rfl) (fun i hi hb hne h => h.elim (hnd i hi hb) hne)
        have HCB : Hid _ := cb
        have HN : Hid (DoneAll l k (fun i => DoneTo l p D j i ∨ i = k) = DoneTo l p D (j + 1)) := done_next HW.out hk
        have HCH : Hid _ := hch
        clear hi hch hk hkm hk0 hkl hku B1 hvv hnd cb c1'
        go_wp2_with fail
        refine hv1.mono ?_
        rintro e w1 ⟨rfl, hi1, hc1⟩
        have cb1 := hc1.cell HCB.out kb
        have hv2 := HB2.out w1 hi1 hc1
        have HC1 : Hid _ := hc1
        clear hv1 hi1 hc1
        go_wp2_with fail
        refine hv2.mono ?_
        rintro e w2 ⟨rfl, hi2, hc2⟩
        rw [HN.out] at hi2
        have HI2 : Hid _ := hi2
        have HC2 : Hid (Chg K w w2) := (HCH.out.trans HC1.out (fun _ _ h => h)).trans hc2 (fun _ _ h => h)
        clear hv2 hi2 hc2 cv cb1 hcell
        go_wp2
        go_roundg (nk - (j + 1))
        case measure => omega
        case rel => exact ⟨j + 1, by omega, rfl, HI2.out, HC2.out⟩
      · obtain rfl : j = nk := by omega
        have HI : Hid (Inv (DoneAll l p D) wr) := show Inv (DoneAll l p D) wr by rw [← HDE.out, HNK.out]; exact hi
        have HCH : Hid _ := hch
        clear hi hch
        go_wp2
        go_end0
        exact ⟨rfl, HI.out, HCH.out⟩
set_option maxHeartbeats 1000000 in
set_option maxRecDepth 20000 in
theorem down_ef {WF w : World} {B m L c g1 g2 : Nat} {ao : Option Addr} {l : List Ac} {v : Nat → Value} {K : Nat → Prop} {Inv : (Nat → Prop) → World → Prop} (hwu : Wu l) (hbr : ∀ x, Chg K WF x → Bro x B m l l.length v)
    (kl : ∀ j, K j → j < w.heap.size) (hbel : Chg K WF w) (hst : ∀ D x y, Inv D x → Below x.heap.size x y → Inv D y)
    (hvis : ∀ (D : Nat → Prop) (k : Nat) (w : World), Inv D w → k ≠ 0 → k < l.length → D (up l k) → ¬ D k → Calls Tryz.prog 24 #[.int .i64 (k : Int), .int .i64 (up l k : Nat), .pointer (some ⟨g1, 0, none⟩), .pointer (some ⟨g2, 0, none⟩)] w fun e w' => e = .returned (.tuple #[]) ∧ Inv (fun j => D j ∨ j = k) w' ∧ Chg K w w')
    (hinv : Inv (fun j => j = 0) w) :
    Calls Tryz.prog 15 #[.agg #[.slice ao L c, .map (some m)], .func (.func 24) #[] #[.pointer (some ⟨g1, 0, none⟩), .pointer (some ⟨g2, 0, none⟩)]] w fun e w' => e = .returned (.tuple #[]) ∧ Inv (fun j => j < l.length) w' ∧ Chg K w w' := by
  have hD : DoneAll l 0 (fun j => j = 0) = fun j => j < l.length := by
    funext i
    apply propext
    constructor
    · rintro (rfl | ⟨hi, _⟩)
      · exact hwu.pos
      · exact hi
    · intro hi
      by_cases e : i = 0
      · exact .inl e
      · exact .inr ⟨hi, hwu.below_root hi, e⟩
  have hmf : ∀ (fn : Fn) (first cap : Array Value) (w : World), (Instr.makeFunc fn first cap).run Tryz.prog w = .ok (.func fn first cap) w := fun _ _ _ _ => rfl
  obtain ⟨w3, hw3⟩ : ∃ w3, ((w.alloc (.cells #[.slice ao L c, .map (some m)] 42)).alloc (.cells #[.func (.func 24) #[] #[.pointer (some ⟨g1, 0, none⟩), .pointer (some ⟨g2, 0, none⟩)]] 50)).alloc (.cells #[.func (.func 38) #[] #[.pointer (some ⟨w.heap.size, 0, none⟩), .pointer (some ⟨w.heap.size + 1, 0, none⟩), .pointer (some ⟨w.heap.size + 1 + 1, 0, none⟩)]] 71) = w3 := ⟨_, rfl⟩
  have b3 : Below w.heap.size w w3 := by rw [← hw3]; exact (((Below.refl _ _).alloc (Nat.le_refl _) _).alloc (by simp) _).alloc (by simp; omega) _
  have q1 : w3.cell? ⟨w.heap.size, 1, none⟩ = some (.map (some m)) := by rw [← hw3]; simp [go_sem]
  have q2 : w3.cell? ⟨w.heap.size + 1, 0, none⟩ = some (.func (.func 24) #[] #[.pointer (some ⟨g1, 0, none⟩), .pointer (some ⟨g2, 0, none⟩)]) := by rw [← hw3]; simp [go_sem]
  have q3 : w3.cell? ⟨w.heap.size + 1 + 1, 0, none⟩ = some (.func (.func 38) #[] #[.pointer (some ⟨w.heap.size, 0, none⟩), .pointer (some ⟨w.heap.size + 1, 0, none⟩), .pointer (some ⟨w.heap.size + 1 + 1, 0, none⟩)]) := by rw [← hw3]; simp [go_sem]
  have hb := below_ef (fa := w.heap.size) (va := w.heap.size + 1) (ba := w.heap.size + 1 + 1) (WF := WF) (K := K) (Inv := Inv) hwu hbr (fun h => by have := kl _ h; omega) (fun h => by have := kl _ h; omega) (fun h => by have := kl _ h; omega) hvis 5 (p := 0) (d := 0) (D := fun j => j = 0) (w := w3)
    (hbel.trans (Chg.of_below b3 K) (fun _ _ h => h)) q1 q2 q3 (hst _ _ _ hinv b3) hwu.pos rfl (by omega) rfl (fun i _ _ hne => hne)
  rw [hD] at hb
  have HB : Hid (Below w.heap.size w w3) := b3
  have HK : Hid _ := kl
  clear hvis hinv hst hbel kl hwu hbr hD b3 q1 q2
  go_enter Tryz.func15, Tryz.ntmps15
  go_wp2_with fail
  refine hb.mono ?_
  rintro e w4 ⟨rfl, hi, hc⟩
  have HI : Hid _ := hi
  have HC : Hid (Chg K w w4) := (Chg.of_below HB.out K).trans hc (fun _ _ h => h)
  clear hi hc q3
  go_wp2
  go_end0
  exact ⟨rfl, HI.out, HC.out⟩
end Go.Proofs.YtioldijdmefljaaGreatDoor
