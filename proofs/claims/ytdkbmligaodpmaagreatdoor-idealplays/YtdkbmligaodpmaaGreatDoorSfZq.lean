/-
  LAYER 13: package share: sums: a closure that calls itself.
  LAYER 13: package share: Shares.
  LAYER 13: package share: Effective.
  LAYER 13: package share: Factors.
  LAYER 13, the statements: plain; the statements' head.
-/
import Derived.Test.YtdkbmligaodpmaaGreatDoorXsg
import Derived.Laws.MakeOwn
import Derived.Test.YtdkbmligaodpmaaGreatDoorXcq
import Derived.Test.YtdkbmligaodpmaaGreatDoorLdrq
namespace Go.Proofs.YtdkbmligaodpmaaGreatDoor
open Go.RowKit Wd Tr Go.Maps

namespace Tr
/-- Done, and all below n. -/
def SubD (l : List Ac) (n : Nat) (D : Nat → Prop) : Nat → Prop := fun i => D i ∨ (i < l.length ∧ Blw l n i)
theorem sub_next {l : List Ac} {p j k : Nat} {D : Nat → Prop} (hk : (kidsV l p)[j]? = some k) : SubD l k (DoneTo l p D j) = DoneTo l p D (j + 1) := by
  funext i
  apply propext
  constructor
  · rintro (h1 | ⟨hi, hb⟩)
    · rcases h1 with h1 | ⟨m, k', hm, r⟩
      · exact .inl h1
      · exact .inr ⟨m, k', by omega, r⟩
    · exact .inr ⟨j, k, by omega, hk, hi, hb⟩
  · rintro (h1 | ⟨m, k', hm, hk', hi, hb⟩)
    · exact .inl (.inl h1)
    · by_cases e : m = j
      · subst e
        rw [hk] at hk'
        cases hk'
        exact .inr ⟨hi, hb⟩
      · exact .inl (.inr ⟨m, k', by omega, hk', hi, hb⟩)
theorem sub_end {l : List Ac} {n : Nat} {D : Nat → Prop} (hn : n < l.length) : (fun i => DoneAll l n D i ∨ i = n) = SubD l n D := by
  funext i
  apply propext
  constructor
  · rintro ((h | ⟨h1, h2, _⟩) | rfl)
    · exact .inl h
    · exact .inr ⟨h1, h2⟩
    · exact .inr ⟨hn, below_self l i⟩
  · rintro (h | ⟨h1, h2⟩)
    · exact .inl (.inl h)
    · by_cases e : i = n
      · exact .inr e
      · exact .inl (.inr ⟨h1, h2, e⟩)
theorem take_succ {α : Type} {l : List α} {j : Nat} {a : α} (h : l[j]? = some a) : l.take (j + 1) = l.take j ++ [a] := by
  rw [List.take_add_one, h]
  rfl
end Tr
/-- The row of sums, as far as it is done. -/
def RowS (w : World) (sb : Nat) (l : List Ac) (D : Nat → Prop) : Prop := ∃ f, RowF w sb l.length f ∧ ∀ j, j < l.length → D j → f j = sumV l j
theorem RowS.below {w w' : World} {sb : Nat} {l : List Ac} {D : Nat → Prop} (h : RowS w sb l D) (b : Below w.heap.size w w') : RowS w' sb l D := by
  obtain ⟨f, h1, h2⟩ := h
  exact ⟨f, h1.below b, h2⟩
theorem RowS.set {w : World} {sb : Nat} {l : List Ac} {D : Nat → Prop} (h : RowS w sb l D) (n : Nat) : RowS (w.setCell ⟨sb, n, none⟩ (.int .u64 (sumV l n))) sb l (fun i => D i ∨ i = n) := by
  obtain ⟨f, h1, h2⟩ := h
  refine ⟨_, h1.set n _, fun j hj hd => ?_⟩
  unfold updF
  by_cases e : j = n
  · rw [if_pos e, e]
  · rw [if_neg e]
    exact h2 j hj (hd.elim id (fun h => absurd h e))
theorem Tryz.infU : (Tryz.prog.info? 60).map (fun i => (i.zero, i.size, i.bytes)) = some (some (.int .u64 0), 1, 8) := by kernel_rfl
/-- make([]uint64, L) -/
theorem make_u64 (w : World) {L : Nat} (hL : L ≤ 64) : ∃ w', (Instr.makeSlice 57 (.int .i64 (L : Int)) (.int .i64 (L : Int))).run Tryz.prog w = .ok (.slice (some ⟨w.heap.size, 0, none⟩) L L) w' ∧ RowF w' w.heap.size L (fun _ => 0) ∧ Below w.heap.size w w' ∧ w'.heap.size = w.heap.size + 1 := by
  obtain ⟨i0, hi0, hz0, hz1, hz2⟩ := info_parts Tryz.infU
  have hmk := run_makeSlice (P := Tryz.prog) w 57 60 i0 _ Tryz.underlying57 hi0 hz0 .i64 .i64 (L : Int) (L : Int) (by omega) (Int.le_refl _) (by rw [hz1]; simp; omega) (by rw [hz2]; omega) (by omega)
  simp only [Int.toNat_natCast, hz1] at hmk
  refine ⟨_, hmk, ⟨_, heap_alloc_new w _, by simp [madeCells], fun k hk => ?_⟩, (Below.refl _ _).alloc (Nat.le_refl _) _, by simp⟩
  rw [show (Value.int .u64 0).cells = #[.int .u64 0] from rfl]
  simp [madeCells, hk, Nat.mod_one]
theorem RowF.setAt {w : World} {b L : Nat} {f f' : Nat → Int} (h : RowF w b L f) {k : Nat} {x : Int} (hx : f' k = x) (ho : ∀ j, j < L → j ≠ k → f' j = f j) : RowF (w.setCell ⟨b, k, none⟩ (.int .u64 x)) b L f' :=
  (h.set k x).congr (fun j hj => by
    unfold updF
    by_cases e : j = k
    · rw [if_pos e, e, hx]
    · rw [if_neg e, ho j hj e])
end Go.Proofs.YtdkbmligaodpmaaGreatDoor
namespace Go.Proofs.YtdkbmligaodpmaaGreatDoor
open Go.RowKit Wd Tr Go.Maps

def SharesP (w : World) (l : List Ac) (e : Ending) (w' : World) : Prop :=
  (loadE l = 0 → ∃ nb db, e = .returned (.tuple #[.slice (some ⟨nb, 0, none⟩) l.length l.length, .slice (some ⟨db, 0, none⟩) l.length l.length]) ∧ w.heap.size ≤ nb ∧ w.heap.size ≤ db ∧ nb ≠ db ∧ RowF w' nb l.length (numV l) ∧ RowF w' db l.length (denV l)) ∧
  (loadE l ≠ 0 → e = .returned (.tuple #[.slice none 0 0, .slice none 0 0])) ∧ Below w.heap.size w w'
set_option maxHeartbeats 2000000 in
set_option maxRecDepth 20000 in
theorem shares_any {w : World} {ao : Option Addr} {l : List Ac} {c : Nat} (hA : AcsAt w ao l) (hs : ∀ a ∈ l, a.nm.size ≤ maxLen) (hn : l.length * 48 ≤ 140737488355328) (hc : l.length ≤ c) :
    Calls Tryz.prog 111 #[.slice ao l.length c] w (SharesP w l) := by
  have hmf : ∀ (fn : Fn) (first cap : Array Value) (w : World), (Instr.makeFunc fn first cap).run Tryz.prog w = .ok (.func fn first cap) w := fun _ _ _ _ => rfl
  obtain ⟨w2, hw2⟩ : ∃ w2, (w.alloc (.cells #[.slice none 0 0] 57)).alloc (.cells #[.slice none 0 0] 57) = w2 := ⟨_, rfl⟩
  have b2 : Below w.heap.size w w2 := by rw [← hw2]; exact ((Below.refl _ _).alloc (Nat.le_refl _) _).alloc (by simp) _
  have z2 : w2.heap.size = w.heap.size + 1 + 1 := by rw [← hw2]; simp
  have T2 : w2.heap[w.heap.size]? = some (.cells #[.slice none 0 0] 57 (0, 0)) := by
    rw [← hw2]
    exact heap_keep ((Below.refl _ _).alloc (Nat.le_refl _) _) (heap_alloc_new w _)
  have U2 : w2.heap[w.heap.size + 1]? = some (.cells #[.slice none 0 0] 57 (0, 0)) := by
    rw [← hw2]
    have := heap_alloc_new (w.alloc (.cells #[.slice none 0 0] 57)) (.cells #[.slice none 0 0] 57)
    simpa using this
  have hfam := famof_any (c := c) (hA.below b2) hs hn hc
  by_cases hE : loadE l = 0
  · have hwu : Wu l := wf_load hE
    have hl := hwu.len
    obtain ⟨g, o, hao, hcl⟩ := hA
    obtain rfl := hao hwu.pos
    have HE : Hid (loadE l = 0) := hE
    have HCL : Hid (Acs w g o l) := hcl
    have HWU : Hid (Wu l) := hwu
    have HB2 : Hid _ := b2
    have HZ2 : Hid _ := z2
    have HT2 : Hid _ := T2
    have HU2 : Hid _ := U2
    have hp := hwu.pos
    obtain ⟨L, hL⟩ : ∃ L, l.length = L := ⟨_, rfl⟩
    have HL : Hid (l.length = L) := hL
    rw [hL] at hfam hl hp ⊢
    have hp' : (0 : Int) < L := by omega
    clear hcl hs hn hc hE hao b2 z2 T2 U2 hwu hL
    go_enter Tryz.func111, Tryz.ntmps111
    go_wp2_with fail
    refine hfam.mono ?_
    rintro e w3 ⟨h1, _, hb3⟩
    obtain ⟨m, v, rfl, hbro⟩ := h1 HE.out
    rw [HL.out]
    obtain ⟨w4, hw4⟩ : ∃ w4, w3.alloc (.cells #[.slice (some ⟨g, o, none⟩) L c, .map (some m)] 204) = w4 := ⟨_, rfl⟩
    have b34 : Below w3.heap.size w3 w4 := by rw [← hw4]; exact (Below.refl _ _).alloc (Nat.le_refl _) _
    have HBR : Hid (Bro w4 w2.heap.size m l l.length v) := hbro.below b34
    have B4 : Below w.heap.size w w4 := (HB2.out.trans (hb3.mono HB2.out.size)).trans (b34.mono (by have := HB2.out.size; have := hb3.size; omega))
    have T4 := heap_keep b34 (heap_keep hb3 HT2.out)
    have U4 := heap_keep b34 (heap_keep hb3 HU2.out)
    have F4 : w4.heap[w3.heap.size]? = some (.cells #[.slice (some ⟨g, o, none⟩) L c, .map (some m)] 204 (0, 0)) := by rw [← hw4]; exact heap_alloc_new w3 _
    have HF4 : Hid _ := F4
    have HT4 : Hid _ := T4
    have HU4 : Hid _ := U4
    have HB4 : Hid _ := B4
    have z4 : w.heap.size + 1 + 1 ≤ w3.heap.size := by have := hb3.size; have := HZ2.out; omega
    have HZ4 : Hid _ := z4
    obtain ⟨wB, hmk1, hr1, bB, zB⟩ := make_u64 w4.drew (L := L) (by omega)
    obtain ⟨wC, hmk2, hr2, bC, zC⟩ := make_u64 wB (L := L) (by omega)
    have TB := heap_keep bB (show w4.drew.heap[w.heap.size]? = _ from T4)
    have UB := heap_keep bB (show w4.drew.heap[w.heap.size + 1]? = _ from U4)
    have TC := heap_keep bC TB
    have UC := heap_keep bC UB
    have zw4 : w3.heap.size < w4.heap.size := (Array.getElem?_eq_some_iff.1 F4).1
    simp only [World.size_drew] at hmk1 hr1 zB bB
    obtain ⟨wD, hmk3, hr3, bD, zD⟩ := make_u64 (wB.setCell ⟨w.heap.size, 0, none⟩ (.slice (some ⟨w4.heap.size, 0, none⟩) L L)) (L := L) (by omega)
    have TB' : (wB.setCell ⟨w.heap.size, 0, none⟩ (.slice (some ⟨w4.heap.size, 0, none⟩) L L)).heap[w.heap.size]? = some (.cells #[.slice (some ⟨w4.heap.size, 0, none⟩) L L] 57 (0, 0)) := heap_setCell_same _ _ 0 _ _ _ TB
    have UB' : (wB.setCell ⟨w.heap.size, 0, none⟩ (.slice (some ⟨w4.heap.size, 0, none⟩) L L)).heap[w.heap.size + 1]? = some (.cells #[.slice none 0 0] 57 (0, 0)) := set_block UB (by omega)
    have TD := heap_keep bD TB'
    have UD := heap_keep bD UB'
    rw [World.size_setCell] at hmk3 hr3 zD
    rw [zB] at hmk2 hr2 hmk3 hr3 zD zC
    have tB0 := cells_at (k := 0) TB rfl
    have tB1 := frozen_at (k := 0) TB
    have tC0 := cells_at (k := 0) TC rfl
    have tC1 := frozen_at (k := 0) TC
    have uC0 := cells_at (k := 0) UC rfl
    have uC1 := frozen_at (k := 0) UC
    have uD0 := cells_at (k := 0) UD rfl
    have uD1 := frozen_at (k := 0) UD
    have ne1 : w.heap.size + 1 ≠ w.heap.size := by omega
    have CB : Chg (fun j => j = w.heap.size ∨ j = w.heap.size + 1) w4 wB := (Chg.of_below (drew_below w4) _).trans (Chg.of_below (show Below w4.drew.heap.size w4.drew wB from bB) (fun j => j = w.heap.size ∨ j = w.heap.size + 1)) (fun _ _ h => h)
    have CC : Chg (fun j => j = w.heap.size ∨ j = w.heap.size + 1) w4 wC := CB.trans (Chg.of_below bC (fun j => j = w.heap.size ∨ j = w.heap.size + 1)) (fun _ _ h => h)
    have CD : Chg (fun j => j = w.heap.size ∨ j = w.heap.size + 1) w4 wD := (CB.setCell _ _ (.inl (.inl rfl))).trans (Chg.of_below bD (fun j => j = w.heap.size ∨ j = w.heap.size + 1)) (fun _ _ h => h)
    have rBC := hr1.below bC
    have rBD : RowF wD w4.heap.size L (fun _ => 0) := (hr1.other (g := w.heap.size) (k := 0) (by omega)).below bD
    have HX : Hid (_ ∧ _ ∧ _ ∧ _ ∧ _ ∧ _ ∧ _ ∧ _ ∧ _ ∧ _ ∧ _) := ⟨CC, CD, TC, UC, TD, UD, rBC, hr2, rBD, hr3, zw4⟩
    clear h1 hfam hbro hb3 b34 T4 U4 F4 B4 TB UB TC UC TB' UB' TD UD CB CC CD rBC rBD hr1 hr2 hr3 bB bC bD zB zC zD
    go_upto_region 4 with fail
    go_cut [4] (fun x wq => x = .pointer (some ⟨w3.heap.size, 0, none⟩) ∧ ∃ nb db, nb ≠ db ∧ w4.heap.size ≤ nb ∧ w4.heap.size ≤ db ∧ wq.heap[w.heap.size]? = some (.cells #[.slice (some ⟨nb, 0, none⟩) L L] 57 (0, 0)) ∧ wq.heap[w.heap.size + 1]? = some (.cells #[.slice (some ⟨db, 0, none⟩) L L] 57 (0, 0)) ∧ RowF wq nb L (fun _ => 0) ∧ RowF wq db L (fun _ => 0) ∧ Chg (fun j => j = w.heap.size ∨ j = w.heap.size + 1) w4 wq)
    case first =>
      go_region_with (fail)
      all_goals
        go_wp2
        go_meet
        obtain ⟨CC, CD, TC, UC, TD, UD, rBC, rC, rBD, rD, zw⟩ := HX.out
        have z4 := HZ4.out
        first
          | exact ⟨rfl, w4.heap.size, w4.heap.size + 1, by omega, by omega, by omega, set_block (heap_setCell_same _ _ 0 _ _ _ TC) (by omega), heap_setCell_same _ _ 0 _ _ _ (set_block UC (by omega)), (rBC.other (by omega)).other (by omega), (rC.other (by omega)).other (by omega), (CC.setCell _ _ (.inl (.inl rfl))).setCell _ _ (.inl (.inr rfl))⟩
          | exact ⟨rfl, w4.heap.size + 1, w4.heap.size, by omega, by omega, by omega, set_block (heap_setCell_same _ _ 0 _ _ _ TC) (by omega), heap_setCell_same _ _ 0 _ _ _ (set_block UC (by omega)), (rC.other (by omega)).other (by omega), (rBC.other (by omega)).other (by omega), (CC.setCell _ _ (.inl (.inl rfl))).setCell _ _ (.inl (.inr rfl))⟩
          | exact ⟨rfl, w4.heap.size, w4.heap.size + 1, by omega, by omega, by omega, set_block TD (by omega), heap_setCell_same _ _ 0 _ _ _ UD, rBD.other (by omega), rD.other (by omega), CD.setCell _ _ (.inl (.inr rfl))⟩
    case rest =>
      obtain ⟨rfl, nb, db, hnd, hn4, hd4, TQ, UQ, rN, rD, CQ⟩ := hcut
      obtain ⟨_, _, _, _, _, _, _, _, _, _, zw⟩ := HX.out
      have z4 := HZ4.out
      have x1 := cells_at (k := 0) TQ rfl
      have x2 := cells_at (k := 0) UQ rfl
      have x3 := rN.cell hp
      have x4 := rN.free 0
      have x5 := rD.cell hp
      have x6 := rD.free 0
      have n1 : nb ≠ w.heap.size := by omega
      have n2 : nb ≠ w.heap.size + 1 := by omega
      have n3 : db ≠ w.heap.size := by omega
      have n4 : db ≠ w.heap.size + 1 := by omega
      have F4q : wc.heap[w3.heap.size]? = some (.cells #[.slice (some ⟨g, o, none⟩) L c, .map (some m)] 204 (0, 0)) := (CQ.block w3.heap.size zw (by omega)).trans HF4.out
      have HSZ : Hid (nb < wc.heap.size ∧ db < wc.heap.size) := ⟨rN.lt, rD.lt⟩
      obtain ⟨w6, hw6⟩ : ∃ w6, ((wc.setCell ⟨nb, 0, none⟩ (.int .u64 1)).setCell ⟨db, 0, none⟩ (.int .u64 1)).drew = w6 := ⟨_, rfl⟩
      have HT6 : Hid (w6.heap[w.heap.size]? = some (.cells #[.slice (some ⟨nb, 0, none⟩) L L] 57 (0, 0))) := show w6.heap[w.heap.size]? = _ by rw [← hw6]; exact set_block (set_block TQ (Ne.symm n1)) (Ne.symm n3)
      have HU6 : Hid (w6.heap[w.heap.size + 1]? = some (.cells #[.slice (some ⟨db, 0, none⟩) L L] 57 (0, 0))) := show w6.heap[w.heap.size + 1]? = _ by rw [← hw6]; exact set_block (set_block UQ (Ne.symm n2)) (Ne.symm n4)
      have HF6 : Hid (w6.heap[w3.heap.size]? = some (.cells #[.slice (some ⟨g, o, none⟩) L c, .map (some m)] 204 (0, 0))) := show w6.heap[w3.heap.size]? = _ by rw [← hw6]; exact set_block (set_block F4q (by omega)) (by omega)
      have HN6 : Hid (RowF w6 nb L (updF (fun _ => 0) 0 1)) := show RowF w6 nb L _ by rw [← hw6]; exact ((rN.set 0 1).other hnd).below (drew_below _)
      have HD6 : Hid (RowF w6 db L (updF (fun _ => 0) 0 1)) := show RowF w6 db L _ by rw [← hw6]; exact ((rD.other (Ne.symm hnd)).set 0 1).below (drew_below _)
      have C6 : Chg (fun j => j = w.heap.size ∨ j = w.heap.size + 1) w4 w6 := by rw [← hw6]; exact ((CQ.setCell _ _ (.inr hn4)).setCell _ _ (.inr hd4)).drew
      have HC6 : Hid _ := C6
      have HB6 : Hid (Below w.heap.size w w6) := show Below w.heap.size w w6 from C6.below HB4.out HB4.out.size (fun i hi => by omega)
      have HA6 : Hid (∀ x, Chg (fun j => j = nb ∨ j = db) w6 x → Acs x g o l) := fun x hx k a ha => by
        have hgl : g < w.heap.size := World.block_lt_of_cell? w _ (HCL.out k a ha).nm
        have hb := hx.below HB6.out HB6.out.size (fun i hi => by omega)
        exact (HCL.out k a ha).lo hb hgl
      have HR6 : Hid (∀ x, Chg (fun j => j = nb ∨ j = db) w6 x → Bro x w2.heap.size m l l.length v) := fun x hx => by
        have z2 := HZ2.out
        have hb4 : Chg (fun j => (j = w.heap.size ∨ j = w.heap.size + 1) ∨ w4.heap.size ≤ j) w4 x := (C6.mono (fun _ _ h => .inl h)).trans hx (fun i hi h => .inr (by omega))
        exact HBR.out.chg hb4 (fun j hj => by omega)
      have HNE : Hid (nb ≠ db ∧ nb ≠ w.heap.size ∧ nb ≠ w.heap.size + 1 ∧ db ≠ w.heap.size ∧ db ≠ w.heap.size + 1 ∧ nb ≠ w3.heap.size ∧ db ≠ w3.heap.size ∧ w4.heap.size ≤ nb ∧ w4.heap.size ≤ db) := ⟨hnd, n1, n2, n3, n4, by omega, by omega, hn4, hd4⟩
      clear TQ UQ rN rD CQ F4q C6 hn4 hd4 zw z4 HX
      go_upto_region 5 with fail
      go_cut [4] (fun x wq => x = .pointer (some ⟨w3.heap.size, 0, none⟩) ∧ w6 = wq)
      case first =>
        go_region_with (fail)
        all_goals
          go_wp2
          go_meet
          exact ⟨rfl, rfl⟩
      case rest =>
        obtain ⟨rfl, rfl⟩ := hcut
        obtain ⟨hnd, n1, n2, n3, n4, n5, n6, hn4, hd4⟩ := HNE.out
        have f0 := cells_at (k := 0) HF6.out rfl
        have f1 := cells_at (k := 1) HF6.out rfl
        have t0 := cells_at (k := 0) HT6.out rfl
        have u0 := cells_at (k := 0) HU6.out rfl
        have hinv : InvS w6 m g o c w.heap.size w3.heap.size (w.heap.size + 1) nb db l (fun j => j = 0) w6 := ⟨Chg.refl _ _, by rw [HL.out]; exact t0, by rw [HL.out]; exact f0, f1, by rw [HL.out]; exact u0,
          ⟨_, by rw [HL.out]; exact HN6.out, fun j _ hj => by rw [hj, num_root]; rfl⟩, ⟨_, by rw [HL.out]; exact HD6.out, fun j _ hj => by rw [hj, den_root]; rfl⟩, hnd⟩
        have hdn := down_sh (WF := w6) (w := w6) (L := L) (c := c) (ao := some ⟨g, o, none⟩) (g1 := w.heap.size) (g2 := w3.heap.size) (g3 := w.heap.size + 1) (K := fun j => j = nb ∨ j = db) (Inv := InvS w6 m g o c w.heap.size w3.heap.size (w.heap.size + 1) nb db l) HWU.out HR6.out
          (fun j hj => by
            rcases hj with rfl | rfl
            · exact HN6.out.lt
            · exact HD6.out.lt) (Chg.refl _ _) (fun _ _ _ h b => h.st b) (fun D k x => visS_any HWU.out HA6.out HR6.out (Ne.symm n1) (Ne.symm n5) (Ne.symm n2) (Ne.symm n3) (Ne.symm n6) (Ne.symm n4) D k x) hinv
        clear hinv t0 u0 x1 x2 x3 x4 x5 x6
        go_wp2_with fail
        refine hdn.mono ?_
        rintro e w7 ⟨rfl, hi, hch⟩
        obtain ⟨fn, rn, hfn⟩ := hi.num
        obtain ⟨fd, rd, hfd⟩ := hi.den
        have q1 := hi.c1
        have q3 := hi.c3
        rw [HL.out] at rn hfn rd hfd q1 q3
        have T7 : w7.heap[w.heap.size]? = some (.cells #[.slice (some ⟨nb, 0, none⟩) L L] 57 (0, 0)) := (hch.block w.heap.size (Array.getElem?_eq_some_iff.1 HT6.out).1 (by omega)).trans HT6.out
        have U7 : w7.heap[w.heap.size + 1]? = some (.cells #[.slice (some ⟨db, 0, none⟩) L L] 57 (0, 0)) := (hch.block (w.heap.size + 1) (Array.getElem?_eq_some_iff.1 HU6.out).1 (by omega)).trans HU6.out
        have RN : RowF w7 nb L (numV l) := rn.congr (fun j hj => hfn j hj hj)
        have RD : RowF w7 db L (denV l) := rd.congr (fun j hj => hfd j hj hj)
        have hB7 : Below w.heap.size w w7 := hch.below HB6.out HB6.out.size (fun i hi => by have := HZ4.out; have := HB4.out.size; omega)
        have s1 := frozen_at (k := 0) T7
        have s3 := frozen_at (k := 0) U7
        obtain ⟨w8, hw8⟩ : ∃ w8, ((w7.setCell ⟨w.heap.size, 0, none⟩ (.slice (some ⟨nb, 0, none⟩) L L)).setCell ⟨w.heap.size + 1, 0, none⟩ (.slice (some ⟨db, 0, none⟩) L L)).drew = w8 := ⟨_, rfl⟩
        have T8 : w8.heap[w.heap.size]? = some (.cells #[.slice (some ⟨nb, 0, none⟩) L L] 57 (0, 0)) := by rw [← hw8]; exact set_block (heap_setCell_same _ _ 0 _ _ _ T7) (by omega)
        have U8 : w8.heap[w.heap.size + 1]? = some (.cells #[.slice (some ⟨db, 0, none⟩) L L] 57 (0, 0)) := by rw [← hw8]; exact heap_setCell_same _ _ 0 _ _ _ (set_block U7 (by omega))
        have HRN : Hid (RowF w8 nb L (numV l)) := show RowF w8 nb L (numV l) by rw [← hw8]; exact ((RN.other n1).other n2).below (drew_below _)
        have HRD : Hid (RowF w8 db L (denV l)) := show RowF w8 db L (denV l) by rw [← hw8]; exact ((RD.other n3).other n4).below (drew_below _)
        have HB8 : Hid (Below w.heap.size w w8) := show Below w.heap.size w w8 by rw [← hw8]; exact ((hB7.setCell (by simp) _).setCell (by simp) _).drew
        have HT8 : Hid _ := T8
        have HU8 : Hid _ := U8
        clear hi hch hdn rn hfn rd hfd T7 U7 RN RD hB7 T8 U8 f0 f1
        go_upto_region 7 with fail
        go_cut [4] (fun x wq => x = .pointer (some ⟨w3.heap.size, 0, none⟩) ∧ w8 = wq)
        case first =>
          go_region_with (fail)
          all_goals
            go_wp2
            go_meet
            exact ⟨rfl, rfl⟩
        case rest =>
          obtain ⟨rfl, rfl⟩ := hcut
          have y1 := cells_at (k := 0) HT8.out rfl
          have y2 := cells_at (k := 0) HU8.out rfl
          go_wp2
          refine bodyPost_ret (v := .tuple #[.slice (some ⟨nb, 0, none⟩) L L, .slice (some ⟨db, 0, none⟩) L L]) (by simp [results, Tryz.results111, go_sem, y1, y2]) rfl ⟨fun _ => ⟨nb, db, by rw [HL.out], ?_, ?_, hnd, by rw [HL.out]; exact HRN.out, by rw [HL.out]; exact HRD.out⟩, fun h => absurd HE.out h, HB8.out⟩
          · have := HB4.out.size; omega
          · have := HB4.out.size; omega
  · obtain ⟨er, her⟩ : ∃ er, loadE l = er := ⟨_, rfl⟩
    have HR : Hid (loadE l ≠ 0) := hE
    have HB2 : Hid _ := b2
    have HZ2 : Hid _ := z2
    have HT2 : Hid _ := T2
    have HU2 : Hid _ := U2
    clear hs hn hc her b2 z2 T2 U2 hE hA
    go_enter Tryz.func111, Tryz.ntmps111
    go_wp2_with fail
    refine hfam.mono ?_
    rintro e w3 ⟨_, h2, hb3⟩
    obtain rfl := h2 HR.out
    have b34 : Below w3.heap.size w3 (w3.alloc (.cells #[.slice none 0 0, .map none] 204)) := (Below.refl _ _).alloc (Nat.le_refl _) _
    have T4 := heap_keep b34 (heap_keep hb3 HT2.out)
    have U4 := heap_keep b34 (heap_keep hb3 HU2.out)
    have c0 := cells_at (k := 0) T4 rfl
    have c1 := cells_at (k := 0) U4 rfl
    have f0 := frozen_at (k := 0) T4
    have f1 := frozen_at (k := 0) U4
    have hne : w.heap.size + 1 ≠ w.heap.size := by omega
    have B4 : Hid (Below w.heap.size w (w3.alloc (.cells #[.slice none 0 0, .map none] 204))) := (HB2.out.trans (hb3.mono HB2.out.size)).trans (b34.mono (by have := HB2.out.size; have := hb3.size; omega))
    clear T4 U4 hb3 h2 hfam b34
    go_wp2
    refine bodyPost_ret (v := .tuple #[.slice none 0 0, .slice none 0 0]) (by simp [results, Tryz.results111, go_sem, *]) rfl ⟨fun h => absurd h HR.out, fun _ => rfl, ?_⟩
    exact (B4.out.setCell (by simp) _).setCell (by simp) _
end Go.Proofs.YtdkbmligaodpmaaGreatDoor
namespace Go.Proofs.YtdkbmligaodpmaaGreatDoor
open Go.RowKit Wd Tr Go.Maps Cg

def flZ (cf : Cf) : Int := cZ cf * 4294967296
def EffP (w : World) (cf : Cf) (l : List Ac) (e : Ending) (w' : World) : Prop :=
  (loadE l = 0 ∧ chkZ cf = 0 → ∃ ub, e = .returned (.slice (some ⟨ub, 0, none⟩) l.length l.length) ∧ w.heap.size ≤ ub ∧ RowF w' ub l.length (efV l (wV l (flZ cf)))) ∧
  (¬ (loadE l = 0 ∧ chkZ cf = 0) → e = .returned (.slice none 0 0)) ∧ Below w.heap.size w w'
theorem fl_word {cf : Cf} (h : chkZ cf = 0) : Word (flZ cf) := by
  obtain ⟨r, _, _⟩ := chk_ok h
  have := c_box r
  unfold flZ
  exact ⟨by omega, by omega⟩
def StE (w : World) (kf g o L c m : Nat) (cf : Cf) (x : World) : Prop := St w w.heap.size cf x ∧ x.cell? ⟨kf, 0, none⟩ = some (.slice (some ⟨g, o, none⟩) L c) ∧ x.cell? ⟨kf, 1, none⟩ = some (.map (some m))
theorem StE.keep {w x y : World} {kf g o L c m : Nat} {cf : Cf} (h : StE w kf g o L c m cf x) (b : Below x.heap.size x y) : StE w kf g o L c m cf y := ⟨keepW h.1 b, keepC b h.2.1, keepC b h.2.2⟩
theorem StE.far {w x u : World} {kf g o L c m : Nat} {cf : Cf} {a : Value} (h : StE w kf g o L c m cf x) (hu : StE w kf g o L c m cf u) : StE w kf g o L c m cf (x.setCell ⟨u.heap.size, 0, none⟩ a) := by
  have n1 := World.block_lt_of_cell? u _ hu.1.1
  have n2 := World.block_lt_of_cell? u _ hu.2.1
  simp only at n1 n2
  have y1 : w.heap.size ≠ u.heap.size := by omega
  have y2 : kf ≠ u.heap.size := by omega
  have z := hu.1.2.2.2.2.2.2.2.2.2
  obtain ⟨⟨a0, a1, a2, a3, a4, a5, a6, a7, bb, zz⟩, d0, d1⟩ := h
  exact ⟨⟨far_cell a0 (.inl y1), far_cell a1 (.inl y1), far_cell a2 (.inl y1), far_cell a3 (.inl y1), far_cell a4 (.inl y1), far_cell a5 (.inl y1), far_cell a6 (.inl y1), far_cell a7 (.inl y1), bb.setCell z _, by simp; omega⟩, far_cell d0 (.inl y2), far_cell d1 (.inl y2)⟩
end Go.Proofs.YtdkbmligaodpmaaGreatDoor
namespace Go.Proofs.YtdkbmligaodpmaaGreatDoor
open Go.RowKit Wd Tr Go.Maps Cg Ld

def FacP (w : World) (cf : Cf) (l : List Ac) (e : Ending) (w' : World) : Prop :=
  (loadE l = 0 ∧ chkZ cf = 0 → ∃ ub, e = .returned (.slice (some ⟨ub, 0, none⟩) l.length l.length) ∧ w.heap.size ≤ ub ∧ RowF w' ub l.length (facV l (wV l (flZ cf)))) ∧
  (¬ (loadE l = 0 ∧ chkZ cf = 0) → e = .returned (.slice none 0 0)) ∧ Below w.heap.size w w'
theorem keepF2 {W w : World} {a0 a1 : Addr} {v0 v1 : Value} (hb : Below W.heap.size W w) (h : W.cell? a0 = some v0 ∧ W.cell? a1 = some v1) : w.cell? a0 = some v0 ∧ w.cell? a1 = some v1 :=
  ⟨keepC hb h.1, keepC hb h.2⟩
theorem setF2 {W : World} {nb db ub j k : Nat} {u v0 v1 : Value} (h1 : nb ≠ ub) (h2 : db ≠ ub) (h : W.cell? ⟨nb, j, none⟩ = some v0 ∧ W.cell? ⟨db, j, none⟩ = some v1) : (W.setCell ⟨ub, k, none⟩ u).cell? ⟨nb, j, none⟩ = some v0 ∧ (W.setCell ⟨ub, k, none⟩ u).cell? ⟨db, j, none⟩ = some v1 :=
  ⟨far_cell h.1 (.inl h1), far_cell h.2 (.inl h2)⟩
end Go.Proofs.YtdkbmligaodpmaaGreatDoor
namespace Go.Proofs.YtdkbmligaodpmaaGreatDoor
open Go.RowKit Wd Tr Go.Maps Cg Ld

def cEx : Cf := ⟨4, 8, 10, 1, 1000, 0, 100, 100⟩
theorem ex_rng : Rng cEx := by constructor <;> simp only [cEx] <;> omega
theorem ex_chk : chkZ cEx = 0 := by
  unfold chkZ
  rw [if_neg (fun h => h ex_rng), if_neg (by decide)]
  decide
def lEx : List Ac := [⟨⟨#[114, 111, 111, 116]⟩, -1, 1, false, 0⟩, ⟨⟨#[97]⟩, 0, 3, false, 0⟩, ⟨⟨#[98]⟩, 0, 1, false, 0⟩, ⟨⟨#[100]⟩, 1, 5, false, 429496729600⟩]
theorem ex_load : loadE lEx = 0 := by kernel_rfl
theorem ex_num : numV lEx 3 = 15 := by kernel_rfl
theorem ex_den : denV lEx 3 = 20 := by kernel_rfl
theorem ex_w : wV lEx (flZ cEx) = 1717986918400 := by kernel_rfl
theorem ex_e0 : efV lEx 1717986918400 0 = 2305843009213693952 := by kernel_rfl
theorem ex_e2 : efV lEx 1717986918400 2 = 576460752303423488 := by kernel_rfl
theorem ex_e3 : efV lEx 1717986918400 3 = 2305843009213693952 := by kernel_rfl
theorem ex_f0 : facV lEx 1717986918400 0 = 7755900482342532474 := by kernel_rfl
theorem ex_f1 : facV lEx 1717986918400 1 = 7320595236211045639 := by kernel_rfl
theorem ex_f2 : facV lEx 1717986918400 2 = 7755900482342532474 := by kernel_rfl
theorem ex_us : UsOk lEx := fun n a h => by
  match n, h with
  | 0, h => cases h; exact ⟨by decide, by decide⟩
  | 1, h => cases h; exact ⟨by decide, by decide⟩
  | 2, h => cases h; exact ⟨by decide, by decide⟩
  | 3, h => cases h; exact ⟨by decide, by decide⟩
  | n + 4, h => simp [lEx] at h
theorem ex_nm : ∀ a ∈ lEx, a.nm.size ≤ maxLen := fun a h => by
  simp only [lEx, List.mem_cons, List.not_mem_nil, or_false] at h
  rcases h with rfl | rfl | rfl | rfl <;> decide
def exCs : Array Value := #[.string ⟨#[114, 111, 111, 116]⟩, .int .i64 (-1), .int .i64 1, .bool false, .int .u64 0, .string ⟨#[97]⟩, .int .i64 0, .int .i64 3, .bool false, .int .u64 0, .string ⟨#[98]⟩, .int .i64 0, .int .i64 1, .bool false, .int .u64 0, .string ⟨#[100]⟩, .int .i64 1, .int .i64 5, .bool false, .int .u64 429496729600]
theorem ex_acs (w : World) : AcsAt (w.alloc (.cells exCs 62)) (some ⟨w.heap.size, 0, none⟩) lEx := by
  refine ⟨w.heap.size, 0, fun _ => rfl, fun k a h => ?_⟩
  have hh := heap_alloc_new w (.cells exCs 62)
  match k, h with
  | 0, h => cases h; exact ⟨cells_at (k := 0) hh rfl, cells_at (k := 1) hh rfl, cells_at (k := 2) hh rfl, cells_at (k := 3) hh rfl, cells_at (k := 4) hh rfl⟩
  | 1, h => cases h; exact ⟨cells_at (k := 5) hh rfl, cells_at (k := 6) hh rfl, cells_at (k := 7) hh rfl, cells_at (k := 8) hh rfl, cells_at (k := 9) hh rfl⟩
  | 2, h => cases h; exact ⟨cells_at (k := 10) hh rfl, cells_at (k := 11) hh rfl, cells_at (k := 12) hh rfl, cells_at (k := 13) hh rfl, cells_at (k := 14) hh rfl⟩
  | 3, h => cases h; exact ⟨cells_at (k := 15) hh rfl, cells_at (k := 16) hh rfl, cells_at (k := 17) hh rfl, cells_at (k := 18) hh rfl, cells_at (k := 19) hh rfl⟩
  | n + 4, h => simp [lEx] at h
end Go.Proofs.YtdkbmligaodpmaaGreatDoor
