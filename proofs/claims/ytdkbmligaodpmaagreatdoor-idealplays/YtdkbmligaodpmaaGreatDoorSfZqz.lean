/-
 LAYER 13: package share: sums: a closure that calls itself.
 LAYER 13: package share: Shares.
 LAYER 13: package share: Effective.
 LAYER 13: package share: Factors.
 LAYER 13, the statements: plain; the statements' head.
-/
import Derived.Test.YtdkbmligaodpmaaGreatDoorXsgz
import Derived.Test.YtdkbmligaodpmaaGreatDoorXcqz
import Derived.Test.YtdkbmligaodpmaaGreatDoorLdrqz
import Derived.Laws.MakeOwn
namespace Go.Proofs.YtdkbmligaodpmaaGreatDoor
open Go.RowKit Wd Tr Go.Maps

namespace Tr
end Tr
theorem Tryz.infU : (Tryz.prog.info? 60).map (fun i => (i.zero, i.size, i.bytes)) = some (some (.int .u64 0), 1, 8) := by kernel_rfl
theorem make_u64 (w : World) {L : Nat} (hL : L ≤ 64) : ∃ w', (Instr.makeSlice 57 (.int .i64 (L : Int)) (.int .i64 (L : Int))).run Tryz.prog w = .ok (.slice (some ⟨w.heap.size, 0, none⟩) L L) w' ∧ RowF w' w.heap.size L (fun _ => 0) ∧ Below w.heap.size w w' ∧ w'.heap.size = w.heap.size + 1 := by
 obtain ⟨i0, hi0, hz0, hz1, hz2⟩ := info_parts Tryz.infU
 have hmk := run_makeSlice (P := Tryz.prog) w 57 60 i0 _ Tryz.underlying57 hi0 hz0 .i64 .i64 (L : Int) (L : Int) (by omega) (Int.le_refl _) (by rw [hz1]; simp; omega) (by rw [hz2]; omega) (by omega)
 simp only [Int.toNat_natCast, hz1] at hmk
 refine ⟨_, hmk, ⟨_, heap_alloc_new w _, by simp [madeCells], fun k hk => ?_⟩, (Below.refl _ _).alloc (Nat.le_refl _) _, by simp⟩
 rw [show (Value.int .u64 0).cells = #[.int .u64 0] from rfl]
 simp [madeCells, hk, Nat.mod_one]
end Go.Proofs.YtdkbmligaodpmaaGreatDoor
namespace Go.Proofs.YtdkbmligaodpmaaGreatDoor
open Go.RowKit Wd Tr Go.Maps

def SharesP (w : World) (l : List Ac) (e : Ending) (w' : World) : Prop :=
 (loadE l = 0 → ∃ nb db, e = .returned (.tuple #[.slice (some ⟨nb, 0, none⟩) l.length l.length, .slice (some ⟨db, 0, none⟩) l.length l.length]) ∧ w.heap.size ≤ nb ∧ w.heap.size ≤ db ∧ nb ≠ db ∧ RowF w' nb l.length (numV l) ∧ RowF w' db l.length (denV l)) ∧
 (loadE l ≠ 0 → e = .returned (.tuple #[.slice none 0 0, .slice none 0 0])) ∧ Below w.heap.size w w'
set_option maxHeartbeats 2000000 in
set_option maxRecDepth 20000 in
theorem shares_any {w : World} {ao : Option Addr} {l : List Ac} {c : Nat} (hA : AcsAt w ao l) (hs : ∀ a ∈ l, a.nm.size ≤ maxLen) (hn : l.length * 48 ≤ 140737488355328) (hc : l.length ≤ c) :
  Calls Tryz.prog 111 #[.slice ao l.length c] w (SharesP w l) := by
 have hmf : ∀ (fn : Fn) (first cap : Array Value) (w : World), (Instr.makeFunc fn first cap).run Tryz.prog w = .ok (.func fn first cap) w := fun _ _ _ _ => rfl
 obtain ⟨w2, hw2⟩ : ∃ w2, (w.alloc (.cells #[.slice none 0 0] 57)).alloc (.cells #[.slice none 0 0] 57) = w2 := ⟨_, rfl⟩
 have b2 : Below w.heap.size w w2 := by rw [← hw2]; exact ((Below.refl _ _).alloc (Nat.le_refl _) _).alloc (by simp) _
 have z2 : w2.heap.size = w.heap.size + 1 + 1 := by rw [← hw2]; simp
 have T2 : w2.heap[w.heap.size]? = some (.cells #[.slice none 0 0] 57 (0, 0)) := by
  rw [← hw2]
  exact heap_keep ((Below.refl _ _).alloc (Nat.le_refl _) _) (heap_alloc_new w _)
 have U2 : w2.heap[w.heap.size + 1]? = some (.cells #[.slice none 0 0] 57 (0, 0)) := by
  rw [← hw2]
  have := heap_alloc_new (w.alloc (.cells #[.slice none 0 0] 57)) (.cells #[.slice none 0 0] 57)
  simpa using this
 have hfam := famof_any (c := c) (hA.below b2) hs hn hc
 by_cases hE : loadE l = 0
 ·have hwu : Wu l := wf_load hE
  have hl := hwu.len
  obtain ⟨g, o, hao, hcl⟩ := hA
  obtain rfl := hao hwu.pos
  have HE : Hid (loadE l = 0) := hE
  have HCL : Hid (Acs w g o l) := hcl
  have HWU : Hid (Wu l) := hwu
  have HB2 : Hid _ := b2
  have HZ2 : Hid _ := z2
  have HT2 : Hid _ := T2
  have HU2 : Hid _ := U2
  have hp := hwu.pos
  obtain ⟨L, hL⟩ : ∃ L, l.length = L := ⟨_, rfl⟩
  have HL : Hid (l.length = L) := hL
  rw [hL] at hfam hl hp ⊢
  have hp' : (0 : Int) < L := by omega
  clear hcl hs hn hc hE hao b2 z2 T2 U2 hwu hL
  go_enter Tryz.func111, Tryz.ntmps111
  go_wp2_with fail
  refine hfam.mono ?_
  rintro e w3 ⟨h1, _, hb3⟩
  obtain ⟨m, v, rfl, hbro⟩ := h1 HE.out
  rw [HL.out]
  obtain ⟨w4, hw4⟩ : ∃ w4, w3.alloc (.cells #[.slice (some ⟨g, o, none⟩) L c, .map (some m)] 204) = w4 := ⟨_, rfl⟩
  have b34 : Below w3.heap.size w3 w4 := by rw [← hw4]; exact (Below.refl _ _).alloc (Nat.le_refl _) _
  have HBR : Hid (Bro w4 w2.heap.size m l l.length v) := hbro.below b34
  have B4 : Below w.heap.size w w4 := (HB2.out.trans (hb3.mono HB2.out.size)).trans (b34.mono (by have := HB2.out.size; have := hb3.size; omega))
  have T4 := heap_keep b34 (heap_keep hb3 HT2.out)
  have U4 := heap_keep b34 (heap_keep hb3 HU2.out)
  have F4 : w4.heap[w3.heap.size]? = some (.cells #[.slice (some ⟨g, o, none⟩) L c, .map (some m)] 204 (0, 0)) := by rw [← hw4]; exact heap_alloc_new w3 _
  have HF4 : Hid _ := F4
  have HT4 : Hid _ := T4
  have HU4 : Hid _ := U4
  have HB4 : Hid _ := B4
  have z4 : w.heap.size + 1 + 1 ≤ w3.heap.size := by have := hb3.size; have := HZ2.out; omega
  have HZ4 : Hid _ := z4
  obtain ⟨wB, hmk1, hr1, bB, zB⟩ := make_u64 w4.drew (L := L) (by omega)
  obtain ⟨wC, hmk2, hr2, bC, zC⟩ := make_u64 wB (L := L) (by omega)
  have TB := heap_keep bB (show w4.drew.heap[w.heap.size]? = _ from T4)
  have UB := heap_keep bB (show w4.drew.heap[w.heap.size + 1]? = _ from U4)
  have TC := heap_keep bC TB
  have UC := heap_keep bC UB
  have zw4 : w3.heap.size < w4.heap.size := (Array.getElem?_eq_some_iff.1 F4).1
  simp only [World.size_drew] at hmk1 hr1 zB bB
  obtain ⟨wD, hmk3, hr3, bD, zD⟩ := make_u64 (wB.setCell ⟨w.heap.size, 0, none⟩ (.slice (some ⟨w4.heap.size, 0, none⟩) L L)) (L := L) (by omega)
  have TB' : (wB.setCell ⟨w.heap.size, 0, none⟩ (.slice (some ⟨w4.heap.size, 0, none⟩) L L)).heap[w.heap.size]? = some (.cells #[.slice (some ⟨w4.heap.size, 0, none⟩) L L] 57 (0, 0)) := heap_setCell_same _ _ 0 _ _ _ TB
  have UB' : (wB.setCell ⟨w.heap.size, 0, none⟩ (.slice (some ⟨w4.heap.size, 0, none⟩) L L)).heap[w.heap.size + 1]? = some (.cells #[.slice none 0 0] 57 (0, 0)) := set_block UB (by omega)
  have TD := heap_keep bD TB'
  have UD := heap_keep bD UB'
  rw [World.size_setCell] at hmk3 hr3 zD
  rw [zB] at hmk2 hr2 hmk3 hr3 zD zC
  have tB0 := cells_at (k := 0) TB rfl
  have tB1 := frozen_at (k := 0) TB
  have tC0 := cells_at (k := 0) TC rfl
  have tC1 := frozen_at (k := 0) TC
  have uC0 := cells_at (k := 0) UC rfl
  have uC1 := frozen_at (k := 0) UC
  have uD0 := cells_at (k := 0) UD rfl
  have uD1 := frozen_at (k := 0) UD
  have ne1 : w.heap.size + 1 ≠ w.heap.size := by omega
  have CB : Chg (fun j => j = w.heap.size ∨ j = w.heap.size + 1) w4 wB := (Chg.of_below (drew_below w4) _).trans (Chg.of_below (show Below w4.drew.heap.size w4.drew wB from bB) (fun j => j = w.heap.size ∨ j = w.heap.size + 1)) (fun _ _ h => h)
  have CC : Chg (fun j => j = w.heap.size ∨ j = w.heap.size + 1) w4 wC := CB.trans (Chg.of_below bC (fun j => j = w.heap.size ∨ j = w.heap.size + 1)) (fun _ _ h => h)
  have CD : Chg (fun j => j = w.heap.size ∨ j = w.heap.size + 1) w4 wD := (CB.setCell _ _ (.inl (.inl rfl))).trans (Chg.of_below bD (fun j => j = w.heap.size ∨ j = w.heap.size + 1)) (fun _ _ h => h)
  have rBC := hr1.below bC
  have rBD : RowF wD w4.heap.size L (fun _ => 0) := (hr1.other (g := w.heap.size) (k := 0) (by omega)).below bD
  have HX : Hid (_ ∧ _ ∧ _ ∧ _ ∧ _ ∧ _ ∧ _ ∧ _ ∧ _ ∧ _ ∧ _) := ⟨CC, CD, TC, UC, TD, UD, rBC, hr2, rBD, hr3, zw4⟩
  clear h1 hfam hbro hb3 b34 T4 U4 F4 B4 TB UB TC UC TB' UB' TD UD CB CC CD rBC rBD hr1 hr2 hr3 bB bC bD zB zC zD
  go_upto_region 4 with fail
  go_cut [4] (fun x wq => x = .pointer (some ⟨w3.heap.size, 0, none⟩) ∧ ∃ nb db, nb ≠ db ∧ w4.heap.size ≤ nb ∧ w4.heap.size ≤ db ∧ wq.heap[w.heap.size]? = some (.cells #[.slice (some ⟨nb, 0, none⟩) L L] 57 (0, 0)) ∧ wq.heap[w.heap.size + 1]? = some (.cells #[.slice (some ⟨db, 0, none⟩) L L] 57 (0, 0)) ∧ RowF wq nb L (fun _ => 0) ∧ RowF wq db L (fun _ => 0) ∧ Chg (fun j => j = w.heap.size ∨ j = w.heap.size + 1) w4 wq)
  case first =>
   go_region_with (fail)
   all_goals
    go_wp2
    go_meet
    obtain ⟨CC, CD, TC, UC, TD, UD, rBC, rC, rBD, rD, zw⟩ := HX.out
    have z4 := HZ4.out
    first
     | exact ⟨rfl, w4.heap.size, w4.heap.size + 1, by omega, by omega, by omega, set_block (heap_setCell_same _ _ 0 _ _ _ TC) (by omega), heap_setCell_same _ _ 0 _ _ _ (set_block UC (by omega)), (rBC.other (by omega)).other (by omega), (rC.other (by omega)).other (by omega), (CC.setCell _ _ (.inl (.inl rfl))).setCell _ _ (.inl (.inr rfl))⟩
     | exact ⟨rfl, w4.heap.size + 1, w4.heap.size, by omega, by omega, by omega, set_block (heap_setCell_same _ _ 0 _ _ _ TC) (by omega), heap_setCell_same _ _ 0 _ _ _ (set_block UC (by omega)), (rC.other (by omega)).other (by omega), (rBC.other (by omega)).other (by omega), (CC.setCell _ _ (.inl (.inl rfl))).setCell _ _ (.inl (.inr rfl))⟩
     | exact ⟨rfl, w4.heap.size, w4.heap.size + 1, by omega, by omega, by omega, set_block TD (by omega), heap_setCell_same _ _ 0 _ _ _ UD, rBD.other (by omega), rD.other (by omega), CD.setCell _ _ (.inl (.inr rfl))⟩
  case rest =>
   obtain ⟨rfl, nb, db, hnd, hn4, hd4, TQ, UQ, rN, rD, CQ⟩ := hcut
   obtain ⟨_, _, _, _, _, _, _, _, _, _, zw⟩ := HX.out
   have z4 := HZ4.out
   have x1 := cells_at (k := 0) TQ rfl
   have x2 := cells_at (k := 0) UQ rfl
   have x3 := rN.cell hp
   have x4 := rN.free 0
   have x5 := rD.cell hp
   have x6 := rD.free 0
   have n1 : nb ≠ w.heap.size := by omega
   have n2 : nb ≠ w.heap.size + 1 := by omega
   have n3 : db ≠ w.heap.size := by omega
   have n4 : db ≠ w.heap.size + 1 := by omega
   have F4q : wc.heap[w3.heap.size]? = some (.cells #[.slice (some ⟨g, o, none⟩) L c, .map (some m)] 204 (0, 0)) := (CQ.block w3.heap.size zw (by omega)).trans HF4.out
   have HSZ : Hid (nb < wc.heap.size ∧ db < wc.heap.size) := ⟨rN.lt, rD.lt⟩
   obtain ⟨w6, hw6⟩ : ∃ w6, ((wc.setCell ⟨nb, 0, none⟩ (.int .u64 1)).setCell ⟨db, 0, none⟩ (.int .u64 1)).drew = w6 := ⟨_, rfl⟩
   have HT6 : Hid (w6.heap[w.heap.size]? = some (.cells #[.slice (some ⟨nb, 0, none⟩) L L] 57 (0, 0))) := show w6.heap[w.heap.size]? = _ by rw [← hw6]; exact set_block (set_block TQ (Ne.symm n1)) (Ne.symm n3)
   have HU6 : Hid (w6.heap[w.heap.size + 1]? = some (.cells #[.slice (some ⟨db, 0, none⟩) L L] 57 (0, 0))) := show w6.heap[w.heap.size + 1]? = _ by rw [← hw6]; exact set_block (set_block UQ (Ne.symm n2)) (Ne.symm n4)
   have HF6 : Hid (w6.heap[w3.heap.size]? = some (.cells #[.slice (some ⟨g, o, none⟩) L c, .map (some m)] 204 (0, 0))) := show w6.heap[w3.heap.size]? = _ by rw [← hw6]; exact set_block (set_block F4q (by omega)) (by omega)
   have HN6 : Hid (RowF w6 nb L (updF (fun _ => 0) 0 1)) := show RowF w6 nb L _ by rw [← hw6]; exact ((rN.set 0 1).other hnd).below (drew_below _)
   have HD6 : Hid (RowF w6 db L (updF (fun _ => 0) 0 1)) := show RowF w6 db L _ by rw [← hw6]; exact ((rD.other (Ne.symm hnd)).set 0 1).below (drew_below _)
   have C6 : Chg (fun j => j = w.heap.size ∨ j = w.heap.size + 1) w4 w6 := by rw [← hw6]; exact ((CQ.setCell _ _ (.inr hn4)).setCell _ _ (.inr hd4)).drew
   have HC6 : Hid _ := C6
   have HB6 : Hid (Below w.heap.size w w6) := show Below w.heap.size w w6 from C6.below HB4.out HB4.out.size (fun i hi => by omega)
   have HA6 : Hid (∀ x, Chg (fun j => j = nb ∨ j = db) w6 x → Acs x g o l) := fun x hx k a ha => by
    have hgl : g < w.heap.size := World.block_lt_of_cell? w _ (HCL.out k a ha).nm
    have hb := hx.below HB6.out HB6.out.size (fun i hi => by omega)
    exact (HCL.out k a ha).lo hb hgl
   have HR6 : Hid (∀ x, Chg (fun j => j = nb ∨ j = db) w6 x → Bro x w2.heap.size m l l.length v) := fun x hx => by
    have z2 := HZ2.out
    have hb4 : Chg (fun j => (j = w.heap.size ∨ j = w.heap.size + 1) ∨ w4.heap.size ≤ j) w4 x := (C6.mono (fun _ _ h => .inl h)).trans hx (fun i hi h => .inr (by omega))
    exact HBR.out.chg hb4 (fun j hj => by omega)
   have HNE : Hid (nb ≠ db ∧ nb ≠ w.heap.size ∧ nb ≠ w.heap.size + 1 ∧ db ≠ w.heap.size ∧ db ≠ w.heap.size + 1 ∧ nb ≠ w3.heap.size ∧ db ≠ w3.heap.size ∧ w4.heap.size ≤ nb ∧ w4.heap.size ≤ db) := ⟨hnd, n1, n2, n3, n4, by omega, by omega, hn4, hd4⟩
   clear TQ UQ rN rD CQ F4q C6 hn4 hd4 zw z4 HX
   go_upto_region 5 with fail
   go_cut [4] (fun x wq => x = .pointer (some ⟨w3.heap.size, 0, none⟩) ∧ w6 = wq)
   case first =>
    go_region_with (fail)
    all_goals
     go_wp2
     go_meet
     exact ⟨rfl, rfl⟩
   case rest =>
    obtain ⟨rfl, rfl⟩ := hcut
    obtain ⟨hnd, n1, n2, n3, n4, n5, n6, hn4, hd4⟩ := HNE.out
    have f0 := cells_at (k := 0) HF6.out rfl
    have f1 := cells_at (k := 1) HF6.out rfl
    have t0 := cells_at (k := 0) HT6.out rfl
    have u0 := cells_at (k := 0) HU6.out rfl
    have hinv : InvS w6 m g o c w.heap.size w3.heap.size (w.heap.size + 1) nb db l (fun j => j = 0) w6 := ⟨Chg.refl _ _, by rw [HL.out]; exact t0, by rw [HL.out]; exact f0, f1, by rw [HL.out]; exact u0,
     ⟨_, by rw [HL.out]; exact HN6.out, fun j _ hj => by rw [hj, num_root]; rfl⟩, ⟨_, by rw [HL.out]; exact HD6.out, fun j _ hj => by rw [hj, den_root]; rfl⟩, hnd⟩
    have hdn := down_sh (WF := w6) (w := w6) (L := L) (c := c) (ao := some ⟨g, o, none⟩) (g1 := w.heap.size) (g2 := w3.heap.size) (g3 := w.heap.size + 1) (K := fun j => j = nb ∨ j = db) (Inv := InvS w6 m g o c w.heap.size w3.heap.size (w.heap.size + 1) nb db l) HWU.out HR6.out
     (fun j hj => by
      rcases hj with rfl | rfl
      ·exact HN6.out.lt
      ·exact HD6.out.lt) (Chg.refl _ _) (fun _ _ _ h b => h.st b) (fun D k x => visS_any HWU.out HA6.out HR6.out (Ne.symm n1) (Ne.symm n5) (Ne.symm n2) (Ne.symm n3) (Ne.symm n6) (Ne.symm n4) D k x) hinv
    clear hinv t0 u0 x1 x2 x3 x4 x5 x6
    go_wp2_with fail
    refine hdn.mono ?_
    rintro e w7 ⟨rfl, hi, hch⟩
    obtain ⟨fn, rn, hfn⟩ := hi.num
    obtain ⟨fd, rd, hfd⟩ := hi.den
    have q1 := hi.c1
    have q3 := hi.c3
    rw [HL.out] at rn hfn rd hfd q1 q3
    have T7 : w7.heap[w.heap.size]? = some (.cells #[.slice (some ⟨nb, 0, none⟩) L L] 57 (0, 0)) := (hch.block w.heap.size (Array.getElem?_eq_some_iff.1 HT6.out).1 (by omega)).trans HT6.out
    have U7 : w7.heap[w.heap.size + 1]? = some (.cells #[.slice (some ⟨db, 0, none⟩) L L] 57 (0, 0)) := (hch.block (w.heap.size + 1) (Array.getElem?_eq_some_iff.1 HU6.out).1 (by omega)).trans HU6.out
    have RN : RowF w7 nb L (numV l) := rn.congr (fun j hj => hfn j hj hj)
    have RD : RowF w7 db L (denV l) := rd.congr (fun j hj => hfd j hj hj)
    have hB7 : Below w.heap.size w w7 := hch.below HB6.out HB6.out.size (fun i hi => by have := HZ4.out; have := HB4.out.size; omega)
    have s1 := frozen_at (k := 0) T7
    have s3 := frozen_at (k := 0) U7
    obtain ⟨w8, hw8⟩ : ∃ w8, ((w7.setCell ⟨w.heap.size, 0, none⟩ (.slice (some ⟨nb, 0, none⟩) L L)).setCell ⟨w.heap.size + 1, 0, none⟩ (.slice (some ⟨db, 0, none⟩) L L)).drew = w8 := ⟨_, rfl⟩
    have T8 : w8.heap[w.heap.size]? = some (.cells #[.slice (some ⟨nb, 0, none⟩) L L] 57 (0, 0)) := by rw [← hw8]; exact set_block (heap_setCell_same _ _ 0 _ _ _ T7) (by omega)
    have U8 : w8.heap[w.heap.size + 1]? = some (.cells #[.slice (some ⟨db, 0, none⟩) L L] 57 (0, 0)) := by rw [← hw8]; exact heap_setCell_same _ _ 0 _ _ _ (set_block U7 (by omega))
    have HRN : Hid (RowF w8 nb L (numV l)) := show RowF w8 nb L (numV l) by rw [← hw8]; exact ((RN.other n1).other n2).below (drew_below _)
    have HRD : Hid (RowF w8 db L (denV l)) := show RowF w8 db L (denV l) by rw [← hw8]; exact ((RD.other n3).other n4).below (drew_below _)
    have HB8 : Hid (Below w.heap.size w w8) := show Below w.heap.size w w8 by rw [← hw8]; exact ((hB7.setCell (by simp) _).setCell (by simp) _).drew
    have HT8 : Hid _ := T8
    have HU8 : Hid _ := U8
    clear hi hch hdn rn hfn rd hfd T7 U7 RN RD hB7 T8 U8 f0 f1
    go_upto_region 7 with fail
    go_cut [4] (fun x wq => x = .pointer (some ⟨w3.heap.size, 0, none⟩) ∧ w8 = wq)
    case first =>
     go_region_with (fail)
     all_goals
      go_wp2
      go_meet
      exact ⟨rfl, rfl⟩
    case rest =>
     obtain ⟨rfl, rfl⟩ := hcut
     have y1 := cells_at (k := 0) HT8.out rfl
     have y2 := cells_at (k := 0) HU8.out rfl
     go_wp2
     refine bodyPost_ret (v := .tuple #[.slice (some ⟨nb, 0, none⟩) L L, .slice (some ⟨db, 0, none⟩) L L]) (by simp [results, Tryz.results111, go_sem, y1, y2]) rfl ⟨fun _ => ⟨nb, db, by rw [HL.out], ?_, ?_, hnd, by rw [HL.out]; exact HRN.out, by rw [HL.out]; exact HRD.out⟩, fun h => absurd HE.out h, HB8.out⟩
     ·have := HB4.out.size; omega
     ·have := HB4.out.size; omega
 ·obtain ⟨er, her⟩ : ∃ er, loadE l = er := ⟨_, rfl⟩
  have HR : Hid (loadE l ≠ 0) := hE
  have HB2 : Hid _ := b2
  have HZ2 : Hid _ := z2
  have HT2 : Hid _ := T2
  have HU2 : Hid _ := U2
  clear hs hn hc her b2 z2 T2 U2 hE hA
  go_enter Tryz.func111, Tryz.ntmps111
  go_wp2_with fail
  refine hfam.mono ?_
  rintro e w3 ⟨_, h2, hb3⟩
  obtain rfl := h2 HR.out
  have b34 : Below w3.heap.size w3 (w3.alloc (.cells #[.slice none 0 0, .map none] 204)) := (Below.refl _ _).alloc (Nat.le_refl _) _
  have T4 := heap_keep b34 (heap_keep hb3 HT2.out)
  have U4 := heap_keep b34 (heap_keep hb3 HU2.out)
  have c0 := cells_at (k := 0) T4 rfl
  have c1 := cells_at (k := 0) U4 rfl
  have f0 := frozen_at (k := 0) T4
  have f1 := frozen_at (k := 0) U4
  have hne : w.heap.size + 1 ≠ w.heap.size := by omega
  have B4 : Hid (Below w.heap.size w (w3.alloc (.cells #[.slice none 0 0, .map none] 204))) := (HB2.out.trans (hb3.mono HB2.out.size)).trans (b34.mono (by have := HB2.out.size; have := hb3.size; omega))
  clear T4 U4 hb3 h2 hfam b34
  go_wp2
  refine bodyPost_ret (v := .tuple #[.slice none 0 0, .slice none 0 0]) (by simp [results, Tryz.results111, go_sem, *]) rfl ⟨fun h => absurd h HR.out, fun _ => rfl, ?_⟩
  exact (B4.out.setCell (by simp) _).setCell (by simp) _
end Go.Proofs.YtdkbmligaodpmaaGreatDoor
namespace Go.Proofs.YtdkbmligaodpmaaGreatDoor
open Go.RowKit Wd Tr Go.Maps Cg

def flZ (cf : Cf) : Int := cZ cf * 4294967296
theorem fl_word {cf : Cf} (h : chkZ cf = 0) : Word (flZ cf) := by
 obtain ⟨r, _, _⟩ := chk_ok h
 have := c_box r
 unfold flZ
 exact ⟨by omega, by omega⟩
end Go.Proofs.YtdkbmligaodpmaaGreatDoor
namespace Go.Proofs.YtdkbmligaodpmaaGreatDoor
open Go.RowKit Wd Tr Go.Maps Cg Ld

end Go.Proofs.YtdkbmligaodpmaaGreatDoor
namespace Go.Proofs.YtdkbmligaodpmaaGreatDoor
open Go.RowKit Wd Tr Go.Maps Cg Ld

def cEx : Cf := ⟨4, 8, 10, 1, 1000, 0, 100, 100⟩
theorem ex_rng : Rng cEx := by constructor <;> simp only [cEx] <;> omega
theorem ex_chk : chkZ cEx = 0 := by
 unfold chkZ
 rw [if_neg (fun h => h ex_rng), if_neg (by decide)]
 decide
end Go.Proofs.YtdkbmligaodpmaaGreatDoor
