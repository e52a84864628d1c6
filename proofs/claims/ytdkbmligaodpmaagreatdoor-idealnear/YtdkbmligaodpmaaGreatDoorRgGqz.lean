/-
 LAYER 13: the reference (backfillref13): Factors.
-/
import Derived.Test.YtdkbmligaodpmaaGreatDoorRgFqz
import Derived.Test.YtdkbmligaodpmaaGreatDoorXrfz
namespace Go.Proofs.YtdkbmligaodpmaaGreatDoor
open Go.RowKit Wd Tr Cg Bk Ld

theorem keepF3 {W w : World} {a0 a1 a2 : Addr} {v0 v1 v2 : Value} (hb : Below W.heap.size W w) (h : W.cell? a0 = some v0 ∧ W.cell? a1 = some v1 ∧ W.cell? a2 = some v2) : w.cell? a0 = some v0 ∧ w.cell? a1 = some v1 ∧ w.cell? a2 = some v2 :=
 ⟨keepC hb h.1, keepC hb h.2.1, keepC hb h.2.2⟩
theorem allocF3 {W : World} {a0 a1 a2 : Addr} {v0 v1 v2 : Value} {o : Obj} (h : W.cell? a0 = some v0 ∧ W.cell? a1 = some v1 ∧ W.cell? a2 = some v2) : (W.alloc o).cell? a0 = some v0 ∧ (W.alloc o).cell? a1 = some v1 ∧ (W.alloc o).cell? a2 = some v2 :=
 keepF3 (below1 W o) h
set_option maxHeartbeats 2000000 in
set_option maxRecDepth 20000 in
theorem rfacs_any {w : World} {ao : Option Addr} {l : List Ac} {c : Nat} {cf : Cf} (hA : AcsAt w ao l) (hus : UsOk l) (hn : l.length * 48 ≤ 140737488355328) (hE : loadE l = 0) (hK : chkZ cf = 0) :
  Calls Tryz.prog 24 #[cfV cf, .slice ao l.length c] w (REf w l.length (firstN (facV l (wV l (flZ cf))) l.length)) := by
 obtain ⟨i3, hi3, hz30, hz31, hz32⟩ := info_parts Tryz.infWE
 have hS := St.new w cf
 obtain ⟨w1, hw1⟩ : ∃ w1, w.alloc (.cells #[.int .i64 cf.nodes, .int .i64 cf.queue, .int .i64 cf.limit, .int .i64 cf.age, .int .i64 cf.fair, .int .i64 cf.size, .int .i64 cf.period, .int .i64 cf.half] 23) = w1 := ⟨_, rfl⟩
 rw [hw1] at hS
 have hr := empty_row w1 0 (Nat.zero_le _)
 have b2 := below1 w1 (.cells #[] 60)
 have hz2 : w1.heap.size < (w1.alloc (.cells #[] 60)).heap.size := by simp
 obtain ⟨w2, hw2⟩ : ∃ w2, w1.alloc (.cells #[] 60) = w2 := ⟨_, rfl⟩
 rw [hw2] at hr b2 hz2
 have S2 := keepW hS b2
 have c1 := reffs_any (c := c) (cf := cf) (hA.below S2.bel) hus hn hE hK
 have HSH : Hid (∀ x, Below w.heap.size w x → Calls Tryz.prog 70 #[.slice ao l.length c] x (RSh x (lenS l) (firstN (numV l) (lenS l)) (firstN (denV l) (lenS l)))) := fun x hx => rshs_any (hA.below hx) hn
 have HB1 : Hid (Below w.heap.size w w1) := hS.bel
 have HB2 : Hid (Below w.heap.size w w2) := S2.bel
 have HR2 : Hid (w2.ownsRow 0 60 1 (.slice (some ⟨w1.heap.size, 0, none⟩) 0 0) 0 []) := hr
 have HZ2 : Hid (w1.heap.size < w2.heap.size) := hz2
 obtain ⟨s0, s1, s2, s3, s4, s5, s6, s7, _, _⟩ := S2
 clear hS hr b2 hz2
 have hOK : loadE l = 0 ∧ chkZ cf = 0 := ⟨hE, hK⟩
 clear hE hK
 ·have hwu : Wu l := wf_load hOK.1
  have hl := hwu.len
  have hW := wOk hwu hus (fl_word hOK.2)
  obtain ⟨W, hWW⟩ : ∃ W, wV l (flZ cf) = W := ⟨_, rfl⟩
  rw [show lenS l = l.length from if_pos hOK.1] at HSH
  rw [hWW] at hW c1 ⊢
  have HW : Hid (WOk l W) := hW
  have HWU : Hid (Wu l) := hwu
  have HUS : Hid (UsOk l) := hus
  obtain ⟨L, hL⟩ : ∃ L, l.length = L := ⟨_, rfl⟩
  have HL : Hid (l.length = L) := hL
  rw [hL] at c1 HSH hl ⊢
  unfold cfV at *
  clear hA hn hOK hwu hL hW hWW hus
  go_enter Tryz.func24, Tryz.ntmps24
  go_wp2_with fail
  refine c1.mono ?_
  rintro e w3 ⟨ge, ce, rfl, hrE, hge, hb3⟩
  have B3 : Below w.heap.size w w3 := HB2.out.trans (hb3.mono HB2.out.size)
  have c2 := HSH.out w3 B3
  have HR3 : Hid (w3.ownsRow 0 60 1 (.slice (some ⟨w1.heap.size, 0, none⟩) 0 0) 0 []) := own_below HR2.out hb3
  have HE3 : Hid (Wds w3 ge (efV l W) L ∧ w1.heap.size ≠ ge) := ⟨wds_own hrE, by have := HZ2.out; omega⟩
  have HZ3 : Hid (w1.heap.size < w3.heap.size) := Nat.lt_of_lt_of_le HZ2.out hb3.size
  have HB3 : Hid (Below w.heap.size w w3) := B3
  clear hb3 c1 hrE hge B3 s0 s1 s2 s3 s4 s5 s6 s7 HR2 HB2 HSH HZ2
  go_wp2_with fail
  refine c2.mono ?_
  rintro e w4 ⟨ga, ca, gb, cb, rfl, hTW⟩
  have HTW : Hid (Wds w4 ga (numV l) L ∧ Wds w4 gb (denV l) L ∧ w1.heap.size ≠ ga ∧ w1.heap.size ≠ gb) := ⟨wds_own hTW.a, wds_own hTW.b, by have := HZ3.out; have := hTW.la; omega, by have := HZ3.out; have := hTW.lb; omega⟩
  have HE4 : Hid (Wds w4 ge (efV l W) L ∧ w1.heap.size ≠ ge) := ⟨HE3.out.1.below hTW.bl, HE3.out.2⟩
  have HR4 : Hid (OneR w4 w4 w1.heap.size w1.heap.size 0 0 []) := ⟨own_below HR3.out hTW.bl, .inl rfl, Chg.refl _ _⟩
  have HB4 : Hid (Below w.heap.size w w4) := HB3.out.trans (hTW.bl.mono HB3.out.size)
  clear hTW HE3 HR3 HB3 c2
  go_wp2
  go_loopg [5, 9] L (fun gk va x wr => ∃ j g c : Nat, j + gk = L ∧ va = .slice (some ⟨g, 0, none⟩) j c ∧ x = .int .i64 j ∧ OneR w4 wr w1.heap.size g c j (firstN (facV l W) j))
  case atStart => exact ⟨0, _, _, by omega, rfl, rfl, HR4.out⟩
  case round =>
   obtain ⟨j, g, cg, hj, rfl, rfl, hR⟩ := hrel
   by_cases hlt : j < L
   ·have hlt' : (j : Int) < L := by omega
    have hjl : j < l.length := by rw [HL.out]; exact hlt
    have e1 := hR.chg.cell (HE4.out.1 j hlt) (Ne.symm HE4.out.2)
    have n1 := hR.chg.cell (HTW.out.1 j hlt) (Ne.symm HTW.out.2.2.1)
    have d1 := hR.chg.cell (HTW.out.2.1 j hlt) (Ne.symm HTW.out.2.2.2)
    have HQ : Hid (∀ x g c n xs, OneR w4 x w1.heap.size g c n xs → x.cell? ⟨ge, j, none⟩ = some (.int .u64 (efV l W j)) ∧ x.cell? ⟨ga, j, none⟩ = some (.int .u64 (numV l j)) ∧ x.cell? ⟨gb, j, none⟩ = some (.int .u64 (denV l j))) := fun x g c n xs h => ⟨h.chg.cell (HE4.out.1 j hlt) (Ne.symm HE4.out.2), h.chg.cell (HTW.out.1 j hlt) (Ne.symm HTW.out.2.2.1), h.chg.cell (HTW.out.2.1 j hlt) (Ne.symm HTW.out.2.2.2)⟩
    obtain ⟨q1, q2, q3, q4⟩ := den_word HWU.out hjl
    obtain ⟨u1, u2, u3⟩ := ef_word HWU.out HUS.out HW.out hjl
    have cP := rxp_any (e := efV l W j) (n := numV l j) (d := denV l j) (by omega) u3 q1 q2 q3 q4
    have hpw := pow_word (e := efV l W j) (by omega) q1 q2 q4
    have cH : ∀ x, Calls Tryz.prog 71 #[.int .u64 (powV (efV l W j) (numV l j) (denV l j))] x fun r w' => r = .returned (.int .u64 (facV l W j)) ∧ Below x.heap.size x w' := fun x => by
     have := rhalf_any (powV (efV l W j) (numV l j) (denV l j)).toNat (by have := hpw.2; have := hpw.1; omega) x
     rw [Int.toNat_of_nonneg hpw.1] at this
     exact this
    have HR : Hid (OneR w4 wr w1.heap.size g cg j (firstN (facV l W) j)) := hR
    have HF : Hid (firstN (facV l W) (j + 1) = firstN (facV l W) j ++ [facV l W j]) := firstN_succ _ _
    clear hR q1 q2 q3 q4 u1 u2 u3 hpw hjl
    generalize powV (efV l W j) (numV l j) (denV l j) = PW at *
    generalize numV l j = NJ at *
    generalize denV l j = DJ at *
    generalize efV l W j = EJ at *
    generalize facV l W j = FJ at *
    generalize firstN (facV l W) j = XS at *
    have HS : Hid (wr.drew.cell? ⟨ge, j, none⟩ = some (.int .u64 EJ) ∧ wr.drew.cell? ⟨ga, j, none⟩ = some (.int .u64 NJ) ∧ wr.drew.cell? ⟨gb, j, none⟩ = some (.int .u64 DJ)) := ⟨e1, n1, d1⟩
    clear e1 n1 d1
    go_upto_region 7 with fail
    go_region_held3 (fun x => x.cell? ⟨ge, j, none⟩ = some (.int .u64 EJ) ∧ x.cell? ⟨ga, j, none⟩ = some (.int .u64 NJ) ∧ x.cell? ⟨gb, j, none⟩ = some (.int .u64 DJ)) (first | exact HS.out | exact keepF3 (by assumption) (by assumption) | exact allocF3 (by assumption) | exact HQ.out _ _ _ _ _ R6)
     (first
     | (go_at_call 72; refine (cP _).mono ?_; rintro e x ⟨rfl, hx⟩; have BX : Hid (Below wr.heap.size wr x) := (drew_below wr).trans hx)
     | (go_at_call 71; refine (cH _).mono ?_; rintro e y ⟨rfl, hy⟩; have BY : Hid (Below wr.heap.size wr y) := BX.out.trans (hy.mono BX.out.size); have ry := (HR.out.below BY.out).row)
     | (refine step_app rfl (.tmp 25) (.tmp 40) 57 rfl 60 i3 _ 1 8 Tryz.underlying57 hi3 hz30 hz31 hz32 rfl (by decide) (.slice (some ⟨g, 0, none⟩) j cg) j (wdC XS) (by simp [Act.eval]) (ry.alloc _) ⟨y.heap.size, 0, none⟩ 1 1 [.int .u64 FJ] (by simp [Act.eval]) rfl (cell_one_new _ _ _) (by intro u hu; simp at hu; subst hu; rfl) (by unfold maxLen; omega) (by omega) ?_; intro v' w6 r1 g1 r4; obtain ⟨g', c', rfl, R6⟩ := OneR.next (HR.out.below BY.out) r1 g1 r4))
    all_goals
     have HR6 : Hid _ := R6
     clear HS hx hy ry cP cH r1 g1 r4 R6
     go_wp2
     go_roundg (L - (j + 1))
     case measure => omega
     case rel => exact ⟨j + 1, _, _, by omega, rfl, rfl, by rw [HF.out]; exact HR6.out⟩
   ·obtain rfl : j = L := by omega
    have HR : Hid (OneR w4 wr w1.heap.size g cg j (firstN (facV l W) j)) := hR
    clear hR
    go_wp2
    go_ret
    exact ⟨g, cg, rfl, HR.out.row, by have := HB1.out.size; have := HB4.out.size; have := HR.out.lie; omega, HR.out.chg.below HB4.out HB4.out.size (fun i e => by have := HB1.out.size; omega)⟩
end Go.Proofs.YtdkbmligaodpmaaGreatDoor
