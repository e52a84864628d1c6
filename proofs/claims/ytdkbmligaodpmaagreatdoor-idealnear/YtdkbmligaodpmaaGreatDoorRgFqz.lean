/-
 LAYER 13: the reference (backfillref13): Effective.
-/
import Derived.Test.YtdkbmligaodpmaaGreatDoorXrgz
import Derived.Test.YtdkbmligaodpmaaGreatDoorSfZqz
namespace Go.Proofs.YtdkbmligaodpmaaGreatDoor
open Go.RowKit Wd Tr Cg Bk

def REf (w : World) (N : Nat) (xs : List Int) (e : Ending) (w' : World) : Prop :=
 ∃ g c, e = .returned (.slice (some ⟨g, 0, none⟩) N c) ∧ w'.ownsRow 0 60 1 (.slice (some ⟨g, 0, none⟩) N c) N (wdC xs) ∧ w.heap.size ≤ g ∧ Below w.heap.size w w'
theorem two_made {w1 w3 : World} {g : Nat} (hr : w3.ownsRow 0 60 1 (.slice (some ⟨g, 0, none⟩) 0 0) 0 []) (h : Below w1.heap.size w1 w3) (hg : w1.heap.size ≤ g) : TwoR w1 (w3.alloc (.cells #[] 60)) g 0 0 [] w3.heap.size 0 0 [] := by
 have := Bk.own_lt hr
 exact ⟨hr.alloc _, empty_row w3 0 (Nat.zero_le _), by omega, hg, h.size, h.alloc h.size _⟩
set_option maxHeartbeats 2000000 in
set_option maxRecDepth 20000 in
theorem reffs_any {w : World} {ao : Option Addr} {l : List Ac} {c : Nat} {cf : Cf} (hA : AcsAt w ao l) (hus : UsOk l) (hn : l.length * 48 ≤ 140737488355328) (hE : loadE l = 0) (hK : chkZ cf = 0) :
  Calls Tryz.prog 69 #[cfV cf, .slice ao l.length c] w (REf w l.length (firstN (efV l (wV l (flZ cf))) l.length)) := by
 obtain ⟨i3, hi3, hz30, hz31, hz32⟩ := info_parts Tryz.infWE
 have hS := St.new w cf
 have cR : Hid (∀ x, Below w.heap.size w x → Calls Tryz.prog 118 #[.slice ao l.length c] x fun e w' => e = .returned (.bool (decide (loadE l = 0))) ∧ Below x.heap.size x w') := fun x hx => right_any (hA.below hx) hn
 have cK := rcheck_any cf
 obtain ⟨w1, hw1⟩ : ∃ w1, w.alloc (.cells #[.int .i64 cf.nodes, .int .i64 cf.queue, .int .i64 cf.limit, .int .i64 cf.age, .int .i64 cf.fair, .int .i64 cf.size, .int .i64 cf.period, .int .i64 cf.half] 23) = w1 := ⟨_, rfl⟩
 rw [hw1] at hS
 have hr := empty_row w1 0 (Nat.zero_le _)
 have b2 := below1 w1 (.cells #[] 60)
 obtain ⟨w2, hw2⟩ : ∃ w2, w1.alloc (.cells #[] 60) = w2 := ⟨_, rfl⟩
 rw [hw2] at hr b2
 have S2 := keepW hS b2
 have c1 := cR.out w2 S2.bel
 have HB1 : Hid (Below w.heap.size w w1) := hS.bel
 have HS1 : Hid (St w w.heap.size cf w1) := hS
 have HS2 : Hid (St w w.heap.size cf w2) := S2
 have HR2 : Hid (w2.ownsRow 0 60 1 (.slice (some ⟨w1.heap.size, 0, none⟩) 0 0) 0 []) := hr
 have HB2 : Hid (Below w1.heap.size w1 w2) := b2
 clear hS cR S2 hr b2
 ·rw [decide_eq_true hE] at c1
  ·have hwu : Wu l := wf_load hE
   have hl := hwu.len
   obtain ⟨g, o, hao, hcl⟩ := hA
   obtain rfl := hao hwu.pos
   have cF := rFloor_yes hK
   rw [show cZ cf * 4294967296 = flZ cf from rfl] at cF
   have hW := wOk hwu hus (fl_word hK)
   rw [hK] at cK
   have HA : Hid (∀ x, Below w.heap.size w x → Acs x g o l) := fun x hx => Acs.below hcl hx
   have HRT : Hid (∀ x, Below w.heap.size w x → Calls Tryz.prog 119 #[.slice (some ⟨g, o, none⟩) l.length c] x fun e w' => e = .returned (.int .i64 0) ∧ x = w') := fun x hx => rroot_any (Acs.below hcl hx) hwu
   have HSM : Hid (∀ x (h c2 : Nat), Below w.heap.size w x → Wds x h (usOf l) l.length → Calls Tryz.prog 91 #[.slice (some ⟨g, o, none⟩) l.length c, .slice (some ⟨h, 0, none⟩) l.length c2, .int .i64 0] x fun e w' => e = .returned (.int .u64 (sumV l 0)) ∧ Below x.heap.size x w') := fun x h c2 hx hd => rsum_any hwu hus 5 (n := 0) (d := 0) (Acs.below hcl hx) hd hwu.pos rfl (by omega)
   obtain ⟨W, hWW⟩ : ∃ W, wV l (flZ cf) = W := ⟨_, rfl⟩
   have HWW : Hid (wV l (flZ cf) = W) := hWW
   rw [hWW] at hW ⊢
   obtain ⟨SS, hSS⟩ : ∃ SS, sumV l 0 = SS := ⟨_, rfl⟩
   obtain ⟨FF, hFF⟩ : ∃ FF, flZ cf = FF := ⟨_, rfl⟩
   have HW2 : Hid ((if SS < FF then FF else SS) = W) := show (if SS < FF then FF else SS) = W by rw [← hWW, ← hSS, ← hFF]; rfl
   rw [hSS] at HSM
   rw [hFF] at cF
   clear hSS hFF
   have HEF : Hid (∀ x (h c2 n : Nat), Below w.heap.size w x → Wds x h (usOf l) l.length → n < l.length → Calls Tryz.prog 120 #[.slice (some ⟨g, o, none⟩) l.length c, .slice (some ⟨h, 0, none⟩) l.length c2, .int .u64 W, .int .i64 (n : Int)] x fun e w' => e = .returned (.int .u64 (efV l W n)) ∧ Below x.heap.size x w') := fun x h c2 n hx hd hn => reff_any hwu hus hW _ (Acs.below hcl hx) hd hn (hwu.dOf hn).1
   obtain ⟨L, hL⟩ : ∃ L, l.length = L := ⟨_, rfl⟩
   have HL : Hid (l.length = L) := hL
   have HUW : Hid (∀ n, Word (usOf l n)) := us_word hus
   have HSW : Hid (Word (sumV l 0) ∧ Word (flZ cf)) := ⟨sum_word hus 0, fl_word hK⟩
   rw [hL] at HRT HSM HEF c1 hl ⊢
   unfold cfV at *
   clear hcl hn hE hK hao hwu hL hW hWW hus
   go_enter Tryz.func69, Tryz.ntmps69
   go_wp2_with fail
   refine c1.mono ?_
   rintro e w3 ⟨rfl, hb3⟩
   have S3 := keepW HS2.out hb3
   have HS3 : Hid _ := S3
   have HR3 : Hid (w3.ownsRow 0 60 1 (.slice (some ⟨w1.heap.size, 0, none⟩) 0 0) 0 []) := own_below HR2.out hb3
   have HB3 : Hid (Below w1.heap.size w1 w3) := HB2.out.trans (hb3.mono HB2.out.size)
   obtain ⟨s0, s1, s2, s3, s4, s5, s6, s7, _, _⟩ := S3
   clear hb3 c1 HS2 HR2 HB2
   go_wp2_with fail
   refine (cK _).mono ?_
   rintro e w4 ⟨rfl, hb4⟩
   have HT5 : Hid (TwoR w1 (w4.alloc (.cells #[] 60)) w1.heap.size 0 0 [] w4.heap.size 0 0 []) := two_made (own_below HR3.out hb4) (HB3.out.trans (hb4.mono HB3.out.size)) (Nat.le_refl _)
   clear hb4 cK HS3 HR3 HB3 s0 s1 s2 s3 s4 s5 s6 s7
   go_wp2
   go_loopg [6, 7] L (fun gk va x wr => ∃ j gb cb : Nat, j + gk = L ∧ va = .slice (some ⟨gb, 0, none⟩) j cb ∧ x = .int .i64 j ∧ TwoR w1 wr w1.heap.size 0 0 [] gb cb j (firstN (usOf l) j))
   case atStart => exact ⟨0, _, _, by omega, rfl, rfl, HT5.out⟩
   case round =>
    obtain ⟨j, gb, cb, hj, rfl, rfl, hR⟩ := hrel
    by_cases hlt : j < L
    ·have hlt' : (j : Int) < L := by omega
     have hB : Below w.heap.size w wr := HB1.out.trans (hR.bl.mono HB1.out.size)
     obtain ⟨a, ha, hac⟩ := Acs.at (HA.out wr hB) (n := j) (by rw [HL.out]; exact hlt)
     have x1 := hac.us
     rw [← us_of ha] at x1
     have rb := hR.b
     clear hac ha hB
     go_upto_region 7 with (first | (at_builtin; refine wpList_app _ rfl (.tmp 27) (.tmp 33) 57 rfl 60 i3 (.int .u64 0) 8 Tryz.underlying57 hi3 hz30 hz31 hz32 rfl (some ⟨gb, 0, none⟩) j cb (wdC (firstN (usOf l) j)) rfl (rb.alloc _) ⟨_, 0, none⟩ 1 1 [.int .u64 (usOf l j)] rfl rfl (cell_one_new _ _ _) (by intro u hu; simp at hu; subst hu; rfl) (by unfold maxLen; omega) (by omega) ?_; intro ao2 co2 w6 ho6 hg6 hmv6; obtain ⟨g2, rfl, R6⟩ := hR.right ho6 hg6 hmv6))
     have HR6 : Hid _ := R6
     clear hR rb ho6 hg6 hmv6 R6 x1
     go_wp2
     go_roundg (L - (j + 1))
     case measure => omega
     case rel => exact ⟨j + 1, _, _, by omega, rfl, rfl, by rw [firstN_succ]; exact HR6.out⟩
    ·obtain rfl : j = L := by omega
     have hB : Below w.heap.size w wr := HB1.out.trans (hR.bl.mono HB1.out.size)
     have cr := HRT.out wr hB
     have cs := HSM.out wr gb cb hB (wds_own hR.b)
     have HR : Hid _ := hR
     clear hR hB
     go_wp2_with fail
     refine cr.mono ?_
     rintro e w6 ⟨rfl, rfl⟩
     go_wp2_with fail
     refine cs.mono ?_
     rintro e w6 ⟨rfl, hb6⟩
     have R6 := HR.out.below hb6
     have HR6 : Hid _ := R6
     obtain ⟨s0, s1, s2, s3, s4, s5, s6, s7, _, _⟩ := keepW HS1.out R6.bl
     clear R6 hb6 cr cs HR
     go_wp2_with fail
     refine (cF _).mono ?_
     rintro e w7 ⟨rfl, hb7⟩
     have R7 := HR6.out.below hb7
     have HR7 : Hid _ := R7
     clear s0 s1 s2 s3 s4 s5 s6 s7
     obtain ⟨s0, s1, s2, s3, s4, s5, s6, s7, _, _⟩ := keepW HS1.out R7.bl
     clear R7 hb7 HR6
     go_upto_if 43 with fail
     go_cut [8] (fun x wq => x = .int .u64 W ∧ TwoR w1 wq w1.heap.size 0 0 [] gb cb j (firstN (usOf l) j))
     case first =>
      by_cases hlt : SS < FF
      ·have HW3 : Hid (FF = W) := show FF = W by rw [← HW2.out, if_pos hlt]
       go_wp2_with fail
       refine (cF _).mono ?_
       rintro e w8 ⟨rfl, hb8⟩
       have HR8 : Hid _ := HR7.out.below hb8
       clear hb8
       go_wp2
       go_meet
       exact ⟨by rw [HW3.out], HR8.out⟩
      ·have HW3 : Hid (SS = W) := show SS = W by rw [← HW2.out, if_neg hlt]
       go_wp2
       go_meet
       exact ⟨by rw [HW3.out], HR7.out⟩
     case rest =>
     obtain ⟨rfl, hR8⟩ := hcut
     have HR8 : Hid _ := hR8
     clear hR8 s0 s1 s2 s3 s4 s5 s6 s7 cF HR7 HW2
     go_wp2
     go_loopg [5, 9] j (fun gk va x wr => ∃ k ga ca : Nat, k + gk = j ∧ va = .slice (some ⟨ga, 0, none⟩) k ca ∧ x = .int .i64 k ∧ TwoR w1 wr ga ca k (firstN (efV l W) k) gb cb j (firstN (usOf l) j))
     case atStart => exact ⟨0, _, _, by omega, rfl, rfl, HR8.out⟩
     case round =>
      obtain ⟨k, ga, ca, hk, rfl, rfl, hR⟩ := hrel
      by_cases hlt : k < j
      ·have hlt' : (k : Int) < j := by omega
       have hB : Below w.heap.size w wr := HB1.out.trans (hR.bl.mono HB1.out.size)
       have ce := HEF.out wr gb cb k hB (wds_own hR.b) hlt
       have HR : Hid _ := hR
       clear hR hB
       go_wp2_with fail
       refine ce.mono ?_
       rintro e w9 ⟨rfl, hb9⟩
       have R9 := HR.out.below hb9
       have ra := R9.a
       clear hb9 ce HR
       go_upto_region 14 with (first | (at_builtin; refine wpList_app _ rfl (.tmp 52) (.tmp 58) 57 rfl 60 i3 (.int .u64 0) 8 Tryz.underlying57 hi3 hz30 hz31 hz32 rfl (some ⟨ga, 0, none⟩) k ca (wdC (firstN (efV l W) k)) rfl (ra.alloc _) ⟨_, 0, none⟩ 1 1 [.int .u64 (efV l W k)] rfl rfl (cell_one_new _ _ _) (by intro u hu; simp at hu; subst hu; rfl) (by unfold maxLen; omega) (by omega) ?_; intro ao2 co2 wA hoA hgA hmvA; obtain ⟨g2, rfl, RA⟩ := R9.left hoA hgA hmvA))
       have HRA : Hid _ := RA
       clear R9 ra hoA hgA hmvA RA
       go_wp2
       go_roundg (j - (k + 1))
       case measure => omega
       case rel => exact ⟨k + 1, _, _, by omega, rfl, rfl, by rw [firstN_succ]; exact HRA.out⟩
      ·obtain rfl : k = j := by omega
       have HR : Hid _ := hR
       clear hR
       go_wp2
       go_ret
       exact ⟨_, _, rfl, HR.out.a, Nat.le_trans HB1.out.size HR.out.la, HB1.out.trans (HR.out.bl.mono HB1.out.size)⟩
end Go.Proofs.YtdkbmligaodpmaaGreatDoor
