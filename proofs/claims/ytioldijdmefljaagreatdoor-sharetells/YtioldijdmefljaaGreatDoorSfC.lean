/-
  LAYER 13: package share: familyOf walked.
-/
import Derived.Test.YtioldijdmefljaaGreatDoorSfB
namespace Go.Proofs.YtioldijdmefljaaGreatDoor
open Go.RowKit Wd Tr Go.Maps

def FamP (w : World) (ao : Option Addr) (l : List Ac) (c : Nat) (e : Ending) (w' : World) : Prop :=
  (loadE l = 0 → ∃ m v, e = .returned (.tuple #[.agg #[.slice ao l.length c, .map (some m)], .bool true]) ∧ Bro w' w.heap.size m l l.length v) ∧
  (loadE l ≠ 0 → e = .returned (.tuple #[.agg #[.slice none 0 0, .map none], .bool false])) ∧ Below w.heap.size w w'
theorem drew_below (w : World) : Below w.heap.size w w.drew := ⟨rfl, rfl, rfl, Nat.le_refl _, fun _ _ => rfl⟩
theorem grown_block {w w' : World} {r : Option Nat} {j : Nat} {o : Obj} (hg : w.grownBy w' r) (h : w.heap[j]? = some o) (hne : some j ≠ r) : w'.heap[j]? = some o := (hg.block j (Array.getElem?_eq_some_iff.1 h).1 hne).trans h
theorem set_block {w : World} {j b k : Nat} {o : Obj} {v : Value} (h : w.heap[j]? = some o) (hne : j ≠ b) : (w.setCell ⟨b, k, none⟩ v).heap[j]? = some o := by
  rw [heap_setCell_other w ⟨b, k, none⟩ j v hne]
  exact h
theorem AcAt.lo {W W' : World} {B g o : Nat} {a : Ac} (h : AcAt W g o a) (b : Below B W W') (hg : g < B) : AcAt W' g o a :=
  ⟨(b.cell (p := ⟨g, o, none⟩) hg).trans h.nm, (b.cell (p := ⟨g, o + 1, none⟩) hg).trans h.pa, (b.cell (p := ⟨g, o + 2, none⟩) hg).trans h.sh, (b.cell (p := ⟨g, o + 3, none⟩) hg).trans h.cl, (b.cell (p := ⟨g, o + 4, none⟩) hg).trans h.us⟩
theorem below_grown {w w' : World} {r : Option Nat} {B : Nat} (hg : w.grownBy w' r) (hr : ∀ j, r = some j → B ≤ j) (hB : B ≤ w.heap.size) : Below B w w' :=
  ⟨hg.os, hg.tape, hg.output, hg.size, fun k hk => hg.block k (by omega) (fun e => by have := hr k e.symm; omega)⟩
theorem heap_keep {w w' : World} {j : Nat} {o : Obj} (b : Below w.heap.size w w') (h : w.heap[j]? = some o) : w'.heap[j]? = some o := (b.block j (Array.getElem?_eq_some_iff.1 h).1).trans h
set_option maxHeartbeats 2000000 in
set_option maxRecDepth 20000 in
theorem famof_any {w : World} {ao : Option Addr} {l : List Ac} {c : Nat} (hA : AcsAt w ao l) (hs : ∀ a ∈ l, a.nm.size ≤ maxLen) (hn : l.length * 48 ≤ 140737488355328) (hc : l.length ≤ c) :
    Calls Tryz.prog 14 #[.slice ao l.length c] w (FamP w ao l c) := by
  have hA1 : AcsAt (w.alloc (.cells #[.slice none 0 0, .map none] 42)) ao l := hA.below ((Below.refl _ _).alloc (Nat.le_refl _) _)
  have hld := pload_any (c := c) hA1 hs hn hc
  have b0 : Below w.heap.size w (w.alloc (.cells #[.slice none 0 0, .map none] 42)) := (Below.refl _ _).alloc (Nat.le_refl _) _
  have hT0 : (w.alloc (.cells #[.slice none 0 0, .map none] 42)).heap[w.heap.size]? = some (.cells #[.slice none 0 0, .map none] 42 (0, 0)) := heap_alloc_new w _
  have z0 : (w.alloc (.cells #[.slice none 0 0, .map none] 42)).heap.size = w.heap.size + 1 := by simp
  obtain ⟨w0, hw0⟩ : ∃ w0, w.alloc (.cells #[.slice none 0 0, .map none] 42) = w0 := ⟨_, rfl⟩
  rw [hw0] at hA1 hld b0 hT0 z0
  by_cases hE : loadE l = 0
  · have hwu : Wu l := wf_load hE
    have hlen := hwu.len
    obtain ⟨g, o, hao, hcl⟩ := hA1
    obtain rfl := hao hwu.pos
    have HCL : Hid (∀ k a, l[k]? = some a → AcAt w0 g (o + k * 5) a) := hcl
    have HWU : Hid (Wu l) := hwu
    obtain ⟨q, hq⟩ : ∃ q, l.length = q := ⟨_, rfl⟩
    have HQ : Hid (l.length = q) := hq
    have HE : Hid (loadE l = 0) := hE
    have HE0 : Hid (loadE l = 0) := hE
    have HZ : Hid (w0.heap.size = w.heap.size + 1) := z0
    rw [hq] at hld hlen hc hn
    clear hcl hA hs hwu hE hao z0
    have hmm := @run_makeMap Tryz.prog
    go_enter Tryz.func14, Tryz.ntmps14
    go_wp2_with fail
    refine hld.mono ?_
    rintro e w1 ⟨h1, _, hb1⟩
    obtain ⟨t, rfl, _⟩ := h1 HE.out
    have b1 : Below w.heap.size w w1 := b0.trans (hb1.mono (by have := HZ.out; omega))
    have hz1 : w.heap.size < w1.heap.size := by have := hb1.size; have := HZ.out; omega
    have T1 := heap_keep hb1 hT0
    have HC1 : Hid (∀ k a, l[k]? = some a → AcAt w1 g (o + k * 5) a) := fun k a ha => (HCL.out k a ha).below hb1
    clear h1 hld b0 hT0 hb1 HCL HZ HE
    have hw2 : ∃ w2, (w1.alloc (.map #[] 0)).alloc (.cells #[.slice (some ⟨g, o, none⟩) q c, .map (some w1.heap.size)] 42) = w2 := ⟨_, rfl⟩
    obtain ⟨w2, hw2⟩ := hw2
    obtain ⟨m, hm⟩ : ∃ m, w1.heap.size = m := ⟨_, rfl⟩
    have HB2 : Hid (Bro w2 m m l 1 (fun _ => .slice none 0 0)) := show Bro w2 m m l 1 (fun _ => .slice none 0 0) by
      rw [← hw2, ← hm]
      exact (Bro.made HWU.out (Nat.le_refl _)).below ((Below.refl _ _).alloc (Nat.le_refl _) _)
    have bb : Below w1.heap.size w1 w2 := by rw [← hw2]; exact ((Below.refl _ _).alloc (Nat.le_refl _) _).alloc (by simp) _
    have F2 : w2.heap[m + 1]? = some (.cells #[.slice (some ⟨g, o, none⟩) q c, .map (some m)] 42 (0, 0)) := by
      rw [← hw2, ← hm]
      have := heap_alloc_new (w1.alloc (.map #[] 0)) (.cells #[.slice (some ⟨g, o, none⟩) q c, .map (some w1.heap.size)] 42)
      simpa using this
    have T2 := heap_keep bb T1
    have HC2 : Hid (∀ k a, l[k]? = some a → AcAt w2 g (o + k * 5) a) := fun k a ha => (HC1.out k a ha).below bb
    have b2 : Below w.heap.size w w2 := b1.trans (bb.mono (by omega))
    have HB1 : Hid (Below w.heap.size w w2) := b2
    have HM : Hid (w.heap.size < m) := show w.heap.size < m by omega
    have hm2 : m + 1 < w2.heap.size := (Array.getElem?_eq_some_iff.1 F2).1
    have HF2 : Hid _ := F2
    have HT2 : Hid _ := T2
    have HM2 : Hid _ := hm2
    have HGm : Hid (g < m) := show g < m by
      obtain ⟨a0, ha0, _⟩ := HWU.out.root
      have := World.block_lt_of_cell? w1 _ (HC1.out 0 a0 ha0).nm
      simp only at this
      omega
    clear b1 T1 HC1 bb F2 T2 b2 hz1 hm2
    rw [hm] at hw2
    go_wp2
    obtain ⟨i0, hi0, hz0, hz1, hz2⟩ : ∃ i, Tryz.prog.info? 3 = some i ∧ i.zero = some (.int .i64 0) ∧ i.size = 1 ∧ i.bytes = 8 := by
      have h := Tryz.inf3
      cases hi : Tryz.prog.info? 3 with
      | none => rw [hi] at h; cases h
      | some i =>
        rw [hi] at h
        simp at h
        exact ⟨i, rfl, h.1, h.2.1, h.2.2⟩
    have HI : Hid (Tryz.prog.info? 3 = some i0 ∧ i0.zero = some (.int .i64 0) ∧ i0.size = 1 ∧ i0.bytes = 8) := ⟨hi0, hz0, hz1, hz2⟩
    clear hi0 hz0 hz1 hz2 hw0 hw2 hm
    go_loopg [7] q (fun gk x wr => ∃ (k : Nat) (v : Nat → Value), 0 < k ∧ k ≤ q ∧ k + gk = q + 1 ∧ x = .int .i64 k ∧ Bro wr m m l k v ∧ wr.heap[m + 1]? = some (.cells #[.slice (some ⟨g, o, none⟩) q c, .map (some m)] 42 (0, 0)) ∧ wr.heap[w.heap.size]? = some (.cells #[.slice none 0 0, .map none] 42 (0, 0)) ∧ Below w.heap.size w wr ∧ (∀ k a, l[k]? = some a → AcAt wr g (o + k * 5) a))
    case atStart => exact ⟨1, _, by omega, by have := HWU.out.pos; have := HQ.out; omega, by omega, rfl, HB2.out, HF2.out, HT2.out, HB1.out, HC2.out⟩
    case round =>
      obtain ⟨k, v, hk0, hkl, hkg, rfl, hbro, hF, hT, hB, hAc⟩ := hrel
      by_cases hkq : k < q
      · have hkq' : (k : Int) < q := by omega
        obtain ⟨a, ha⟩ : ∃ a, l[k]? = some a := ⟨_, List.getElem?_eq_getElem (by rw [HQ.out]; exact hkq)⟩
        obtain ⟨p0, p1, s0, s1⟩ := HWU.out.row ha hk0
        rw [HQ.out] at p1
        obtain ⟨p, hp⟩ : ∃ p : Nat, a.pa = p := ⟨a.pa.toNat, by omega⟩
        have HP : Hid (a.pa = p) := hp
        have HPq : Hid (p < l.length) := show p < l.length by rw [HQ.out]; omega
        have HA : Hid _ := ha
        have HBR : Hid _ := hbro
        have x1 : wr.cell? ⟨g, o + k * 5 + 1, none⟩ = some (.int .i64 (p : Int)) := by
          have := (hAc k a ha).pa
          rw [hp] at this
          exact this
        have F0 := cells_at (k := 0) hF rfl
        have F1 := cells_at (k := 1) hF rfl
        have b8 : Below wr.heap.size wr (wr.alloc (.cells #[.slice none 0 0, .int .u64 0] 49)).drew := ((Below.refl _ _).alloc (Nat.le_refl _) _).drew
        have lk := (hbro.below b8).look HWU.out.len HPq.out
        obtain ⟨va, vc, hv⟩ := sl_shape (hbro.row p HPq.out)
        rw [hv] at lk
        have HV : Hid _ := hv
        have x2 := cellB b8 x1
        have F2 := cellB b8 F0
        have F3 := cellB b8 F1
        have lk0 := (hbro.below (drew_below wr)).look HWU.out.len HPq.out
        rw [hv] at lk0
        have HFF : Hid _ := hF
        have HTT : Hid _ := hT
        have HBB : Hid _ := hB
        have HAc : Hid _ := hAc
        clear hbro hF hT hB hAc ha p0 p1 hp hk0 HB2 HF2 HT2 HB1 HC2 b8 hv
        obtain ⟨tg, htg⟩ : ∃ tg, togN l (↑p) k = tg := ⟨_, rfl⟩
        have HTG : Hid (0 ≤ tg ∧ tg ≤ 262144) := by
          have := togN_word HWU.out p (k := k) (by omega)
          rw [htg] at this
          exact this
        rw [htg] at lk lk0
        have HTE : Hid _ := htg
        clear htg
        have hnk : (kidP l p k).length ≤ 64 := by have := kidP_le l p k; omega
        obtain ⟨nk, hnkE⟩ : ∃ nk, (kidP l p k).length = nk := ⟨_, rfl⟩
        rw [hnkE] at hnk lk lk0
        have HN : Hid _ := hnkE
        clear hnkE
        go_upto_region 8 with fail
        go_cut [8] (fun b wq => b = .pointer (some ⟨wr.heap.size, 0, none⟩) ∧ (wr.alloc (.cells #[.slice va nk vc, .int .u64 tg] 49)).drew = wq)
        case first =>
          go_region
          all_goals
            go_wp2
            go_meet
            exact ⟨rfl, rfl⟩
        case rest =>
          obtain ⟨rfl, hwA⟩ := hcut
          generalize wc = wA at *
          have bA : Below wr.heap.size wr wA := by rw [← hwA]; exact ((Below.refl _ _).alloc (Nat.le_refl _) _).drew
          have hG : wA.heap[wr.heap.size]? = some (.cells #[.slice va nk vc, .int .u64 tg] 49 (0, 0)) := by rw [← hwA]; exact heap_alloc_new wr _
          have hzA : wr.heap.size < wA.heap.size := (Array.getElem?_eq_some_iff.1 hG).1
          have g0 := cells_at (k := 0) hG rfl
          have g1 := cells_at (k := 1) hG rfl
          have e0 := frozen_at (k := 0) hG
          have e1 := frozen_at (k := 1) hG
          have HbA : Hid _ := bA
          have HzA : Hid _ := hzA
          have HG : Hid _ := hG
          have hrow : (wA.alloc (.cells #[.int .i64 (k : Int)] 3)).ownsRow m 3 1 (.slice va nk vc) nk (ints (kidP l p k)) := by
            have := ((HBR.out.below bA).row p HPq.out).alloc (.cells #[.int .i64 (k : Int)] 3)
            rw [HV.out, HN.out] at this
            exact this
          obtain ⟨hi0, hz0, hz1, hz2⟩ := HI.out
          have hmw : m ≤ wA.heap.size := by have := HBR.out.m_lt; omega
          have hvl := fun j hj => HBR.out.v_lt HPq.out j (HV.out.symm ▸ hj : (v p).ownBlock = some j)
          have bI : Below wA.heap.size wA (wA.alloc (.cells #[.int .i64 (k : Int)] 3)) := (Below.refl _ _).alloc (Nat.le_refl _) _
          have HW1 : Hid (Below wr.heap.size wr (wA.alloc (.cells #[.int .i64 (k : Int)] 3))) := bA.trans (bI.mono (by omega))
          have HG1 : Hid _ := heap_keep bI hG
          have HF1 : Hid _ := heap_keep HW1.out HFF.out
          have HN8 : Hid (∀ j, (Value.slice va nk vc).ownBlock = some j → j < wr.heap.size ∧ m ≤ j ∧ j ≠ m + 1) := fun j hj => by
            rw [HN.out] at hvl
            obtain ⟨j1, j2, j3⟩ := hvl j hj
            refine ⟨j1, j2, fun e => ?_⟩
            obtain ⟨cs, hcs⟩ := own_tag hrow j hj
            rw [e, HF1.out] at hcs
            exact absurd (Obj.cells.inj (Option.some.inj hcs)).2.1 (by decide)
          have HZ1 : Hid (wr.heap.size < (wA.alloc (.cells #[.int .i64 (k : Int)] 3)).heap.size) := show wr.heap.size < (wA.alloc (.cells #[.int .i64 (k : Int)] 3)).heap.size by simp; omega
          clear lk lk0 x1 x2 F0 F1 F2 F3 hwA bA hzA hG hvl bI
          go_wp2_with (at_builtin; refine wpList_append_own_at _ rfl (.tmp 35) (.tmp 37) 47 rfl m 3 i0 _ 1 8 Tryz.underlying47 hi0 hz0 hz1 hz2 rfl (by decide) (.slice va nk vc) nk (ints (kidP l p k)) rfl hrow ⟨_, 0, none⟩ 1 1 [.int .i64 (k : Int)] rfl rfl (cell_one_new _ _ _) (fun u hu => by simp at hu; subst hu; rfl) ?_ ?_ ?_ ?_; exact (Nat.le_trans (m := 35184372088832) (by omega) (by decide)); omega; (simp; omega); intro v' w5 hown hgr _ hat; obtain ⟨va', vc', rfl⟩ := sl_shape hown; have hG5 := grown_block hgr HG1.out (fun e => Nat.lt_irrefl _ (HN8.out _ e.symm).1); have g50 := cells_at (k := 0) hG5 rfl; have g51 := cells_at (k := 1) hG5 rfl; have e50 := frozen_at (k := 0) hG5; have e51 := frozen_at (k := 1) hG5; have HG5 : Hid _ := hG5; have HO5 : Hid _ := hown; have HR5 : Hid _ := hgr; have HA5 : Hid _ := hat; clear hown hgr hat hG5)
          obtain ⟨w6, hw6⟩ : ∃ w6, w5.setCell ⟨wr.heap.size, 0, none⟩ (.slice va' (nk + 1) vc') = w6 := ⟨_, rfl⟩
          have hG6 : w6.heap[wr.heap.size]? = some (.cells #[.slice va' (nk + 1) vc', .int .u64 tg] 49 (0, 0)) := by
            rw [← hw6]
            exact heap_setCell_same _ _ 0 _ _ _ HG5.out
          have h8F : m + 1 < wr.heap.size := (Array.getElem?_eq_some_iff.1 HFF.out).1
          have hF6 : w6.heap[m + 1]? = some (.cells #[.slice (some ⟨g, o, none⟩) q c, .map (some m)] 42 (0, 0)) := by
            rw [← hw6]
            exact set_block (grown_block HR5.out HF1.out (fun e => (HN8.out _ e.symm).2.2 rfl)) (by omega)
          have B56 : Below m wr w6 := by
            rw [← hw6]
            exact (((HW1.out).mono (by omega)).trans (below_grown HR5.out (fun j hj => (HN8.out j hj).2.1) (by have := HZ1.out; omega))).setCell (by simp; omega) _
          have C56 : Chg (fun j => j = wr.heap.size) w5 w6 := by
            rw [← hw6]
            exact (Chg.refl _ _).setCell _ _ (.inl rfl)
          have HA6 : Hid (AcAt w6 g (o + k * 5) a) := (HAc.out k a HA.out).lo B56 HGm.out
          have hfs := fun x (hx : AcAt x g (o + k * 5) a) => fshares_any (c := c) (m := m) hx hkq (by omega) s1
          have g60 := cells_at (k := 0) hG6 rfl
          have g61 := cells_at (k := 1) hG6 rfl
          have e60 := frozen_at (k := 0) hG6
          have e61 := frozen_at (k := 1) hG6
          have q60 := cells_at (k := 0) hF6 rfl
          have q61 := cells_at (k := 1) hF6 rfl
          have hz6 : wr.heap.size < w6.heap.size := (Array.getElem?_eq_some_iff.1 hG6).1
          have et : IntKind.u64.wrap (tg + a.sh) = tg + a.sh := by
            have := HTG.out
            rw [IntKind.wrap_u64]
            omega
          have HG6 : Hid _ := hG6
          have HF6 : Hid _ := hF6
          have HB6 : Hid _ := B56
          have HC6 : Hid _ := C56
          have HZ6 : Hid _ := hz6
          clear g50 g51 e50 e51 g0 g1 e0 e1 hG6 hF6 B56 C56 hz6 hi0 hz0 hz1 hz2 hrow
          go_upto_region 10 with fail
          rw [hw6]
          clear hw6
          go_cut [8] (fun b wq => b = .pointer (some ⟨wr.heap.size, 0, none⟩) ∧ ∃ w7, Below w6.heap.size w6 w7 ∧ w7.setCell ⟨wr.heap.size, 1, none⟩ (.int .u64 (tg + a.sh)) = wq)
          case first =>
            go_region_with (go_at_call 17; refine (hfs _ (HA6.out.below (drew_below _))).mono ?_; rintro e x ⟨rfl, hx⟩; have y1 := keepC hx g61; have y2 := keepF hx g61 e61)
            all_goals
              go_wp2
              go_meet
              exact ⟨rfl, x, (drew_below w6).trans hx, rfl⟩
          case rest =>
            obtain ⟨rfl, w7, hw7, hw8⟩ := hcut
            clear g60 g61 e60 e61 q60 q61 hfs
            have hG7 := heap_keep hw7 HG6.out
            have hG8 : wc.heap[wr.heap.size]? = some (.cells #[.slice va' (nk + 1) vc', .int .u64 (tg + a.sh)] 49 (0, 0)) := by
              rw [← hw8]
              exact heap_setCell_same _ _ 1 _ _ _ hG7
            have h8F : m + 1 < wr.heap.size := (Array.getElem?_eq_some_iff.1 HFF.out).1
            have h8T : w.heap.size < wr.heap.size := (Array.getElem?_eq_some_iff.1 HTT.out).1
            have hF8 : wc.heap[m + 1]? = some (.cells #[.slice (some ⟨g, o, none⟩) q c, .map (some m)] 42 (0, 0)) := by
              rw [← hw8]
              exact set_block (heap_keep hw7 HF6.out) (by omega)
            have B68 : Below m wr wc := by
              rw [← hw8]
              exact (HB6.out.trans (hw7.mono (by have := HZ6.out; omega))).setCell (by simp; omega) _
            have C58 : Chg (fun j => j = wr.heap.size) w5 wc.drew := by
              rw [← hw8]
              exact (((HC6.out.trans (Chg.of_below hw7 (fun j => j = wr.heap.size)) (fun _ _ h => h)).setCell _ _ (.inl rfl))).drew
            obtain ⟨w9, hup, hbr9, hg9⟩ := HBR.out.step HWU.out.len (by rw [HQ.out]; exact hkq) HA.out HP.out HPq.out HW1.out (v' := .slice va' (nk + 1) vc') (by rw [HN.out]; exact HO5.out) (by rw [HV.out, HN.out]; exact HR5.out) (by rw [HV.out, HN.out]; exact HA5.out) C58 (Nat.le_refl _) HZ1.out
            rw [HTE.out] at hup
            have A8 := (HAc.out k a HA.out).lo B68 HGm.out
            have x8 := A8.pa
            rw [HP.out] at x8
            have g80 := cells_at (k := 0) hG8 rfl
            have g81 := cells_at (k := 1) hG8 rfl
            have q81 := cells_at (k := 1) hF8 rfl
            have hm9 := HBR.out.m_lt
            have B9 : Below m wr w9 := (B68.trans ((drew_below wc).mono (by have := B68.size; omega))).trans (below_grown hg9 (fun j hj => by have := Option.some.inj hj; omega) (by have := B68.size; simp; omega))
            have HF9 : Hid _ := grown_block hg9 (show wc.drew.heap[m + 1]? = _ from hF8) (by simp)
            have HT9 : Hid (w9.heap[w.heap.size]? = some (.cells #[.slice none 0 0, .map none] 42 (0, 0))) := (B9.block w.heap.size (by have := HM.out; omega)).trans HTT.out
            have HB9 : Hid (Below w.heap.size w w9) := HBB.out.trans (B9.mono (by have := HM.out; omega))
            have HA9 : Hid (∀ k a, l[k]? = some a → AcAt w9 g (o + k * 5) a) := fun i b hb => (HAc.out i b hb).lo B9 HGm.out
            have HBR9 : Hid _ := hbr9
            clear hG7 hG8 hF8 B68 C58 A8 hbr9 hg9 B9 hw7 hw8
            go_upto_region 11 with fail
            go_region
            go_wp2
            go_roundg (q + 1 - (k + 1))
            case measure => omega
            case rel => exact ⟨k + 1, _, by omega, by omega, by omega, rfl, HBR9.out, HF9.out, HT9.out, HB9.out, HA9.out⟩
      · obtain rfl : k = q := by omega
        have F0 := cells_at (k := 0) hF rfl
        have F1 := cells_at (k := 1) hF rfl
        have T0 := cells_at (k := 0) hT rfl
        have T1 := cells_at (k := 1) hT rfl
        have U0 := frozen_at (k := 0) hT
        have U1 := frozen_at (k := 1) hT
        have hbr := hbro
        rw [← HQ.out] at hbr
        have hne : w.heap.size ≠ m + 1 := by have := HM.out; omega
        have HBR : Hid (Bro ((wr.setCell ⟨w.heap.size, 0, none⟩ (.slice (some ⟨g, o, none⟩) k c)).setCell ⟨w.heap.size, 1, none⟩ (.map (some m))) w.heap.size m l l.length v) :=
          show Bro _ _ _ _ _ _ from (hbr.chg (K := fun j => j = w.heap.size) (((Chg.refl (fun j => j = w.heap.size) wr).setCell _ _ (.inl rfl)).setCell _ _ (.inl rfl)) (fun j hj => .inl (by have := HM.out; omega))).base (by have := HM.out; omega)
        have HBB : Hid _ := hB
        clear hF hT hbro hbr hB hAc hk0
        go_wp2
        refine bodyPost_ret (v := .tuple #[.agg #[.slice (some ⟨g, o, none⟩) k c, .map (some m)], .bool true]) (by simp [results, Tryz.results14, go_sem, *]) rfl ⟨fun _ => ⟨m, v, by rw [HQ.out], HBR.out⟩, fun h => absurd HE0.out h, ?_⟩
        exact (HBB.out.setCell (Nat.le_refl _) _).setCell (Nat.le_refl _) _
  · obtain ⟨er, her⟩ : ∃ er, loadE l = er := ⟨_, rfl⟩
    have HR : Hid (loadE l = er) := her
    rw [her] at hE
    have he' : (er == 0) = false := by simp [hE]
    have HZ : Hid (w0.heap.size = w.heap.size + 1) := z0
    clear hA hs hn hc her z0
    go_enter Tryz.func14, Tryz.ntmps14
    go_wp2_with fail
    refine hld.mono ?_
    rintro e w1 ⟨_, h2, hb1⟩
    obtain rfl := h2 (by rw [HR.out]; exact hE)
    rw [HR.out]
    have T1 := heap_keep hb1 hT0
    have c0 := cells_at (k := 0) T1 rfl
    have c1 := cells_at (k := 1) T1 rfl
    have f0 := frozen_at (k := 0) T1
    have f1 := frozen_at (k := 1) T1
    have B1 : Hid (Below w.heap.size w w1) := b0.trans (hb1.mono (by have := HZ.out; omega))
    clear T1 hT0 b0 hb1 h2 hld hA1
    go_wp2
    refine bodyPost_ret (v := .tuple #[.agg #[.slice none 0 0, .map none], .bool false]) (by simp [results, Tryz.results14, go_sem, *]) rfl ⟨fun h => ?_, fun _ => rfl, ?_⟩
    · exact absurd (HR.out.symm.trans h) hE
    · exact (B1.out.setCell (Nat.le_refl _) _).setCell (Nat.le_refl _) _
end Go.Proofs.YtioldijdmefljaaGreatDoor
