/-
  LAYER 13: the reference (backfillref13): Effective.
  LAYER 13: the reference (backfillref13): Factors.
-/
import Derived.Test.YtjgllfpnmmopdaaGreatDoorXrg
import Derived.Test.YtjgllfpnmmopdaaGreatDoorSfZq
namespace Go.Proofs.YtjgllfpnmmopdaaGreatDoor
open Go.RowKit Wd Tr Cg Bk

noncomputable def lenE (cf : Cf) (l : List Ac) : Nat := if loadE l = 0 ∧ chkZ cf = 0 then l.length else 0
/-- The reference's answer: one row. -/
def REf (w : World) (N : Nat) (xs : List Int) (e : Ending) (w' : World) : Prop :=
  ∃ g c, e = .returned (.slice (some ⟨g, 0, none⟩) N c) ∧ w'.ownsRow 0 29 1 (.slice (some ⟨g, 0, none⟩) N c) N (wdC xs) ∧ w.heap.size ≤ g ∧ Below w.heap.size w w'
theorem two_made {w1 w3 : World} {g : Nat} (hr : w3.ownsRow 0 29 1 (.slice (some ⟨g, 0, none⟩) 0 0) 0 []) (h : Below w1.heap.size w1 w3) (hg : w1.heap.size ≤ g) : TwoR w1 (w3.alloc (.cells #[] 29)) g 0 0 [] w3.heap.size 0 0 [] := by
  have := Bk.own_lt hr
  exact ⟨hr.alloc _, empty_row w3 0 (Nat.zero_le _), by omega, hg, h.size, h.alloc h.size _⟩
set_option maxHeartbeats 2000000 in
set_option maxRecDepth 20000 in
theorem reffs_any {w : World} {ao : Option Addr} {l : List Ac} {c : Nat} {cf : Cf} (hA : AcsAt w ao l) (hus : UsOk l) (hn : l.length * 48 ≤ 140737488355328) :
    Calls Tryz.prog 20 #[cfV cf, .slice ao l.length c] w (REf w (lenE cf l) (firstN (efV l (wV l (flZ cf))) (lenE cf l))) := by
  obtain ⟨i3, hi3, hz30, hz31, hz32⟩ := info_parts Tryz.infWE
  have hS := St.new w cf
  have cR : Hid (∀ x, Below w.heap.size w x → Calls Tryz.prog 43 #[.slice ao l.length c] x fun e w' => e = .returned (.bool (decide (loadE l = 0))) ∧ Below x.heap.size x w') := fun x hx => right_any (hA.below hx) hn
  have cK := rcheck_any cf
  obtain ⟨w1, hw1⟩ : ∃ w1, w.alloc (.cells #[.int .i64 cf.nodes, .int .i64 cf.queue, .int .i64 cf.limit, .int .i64 cf.age, .int .i64 cf.fair, .int .i64 cf.size, .int .i64 cf.period, .int .i64 cf.half] 23) = w1 := ⟨_, rfl⟩
  rw [hw1] at hS
  have hr := empty_row w1 0 (Nat.zero_le _)
  have b2 := below1 w1 (.cells #[] 29)
  obtain ⟨w2, hw2⟩ : ∃ w2, w1.alloc (.cells #[] 29) = w2 := ⟨_, rfl⟩
  rw [hw2] at hr b2
  have S2 := keepW hS b2
  have c1 := cR.out w2 S2.bel
  have HB1 : Hid (Below w.heap.size w w1) := hS.bel
  have HS1 : Hid (St w w.heap.size cf w1) := hS
  have HS2 : Hid (St w w.heap.size cf w2) := S2
  have HR2 : Hid (w2.ownsRow 0 29 1 (.slice (some ⟨w1.heap.size, 0, none⟩) 0 0) 0 []) := hr
  have HB2 : Hid (Below w1.heap.size w1 w2) := b2
  clear hS cR S2 hr b2
  by_cases hE : loadE l = 0
  · rw [decide_eq_true hE] at c1
    by_cases hK : chkZ cf = 0
    · have hwu : Wu l := wf_load hE
      have hl := hwu.len
      obtain ⟨g, o, hao, hcl⟩ := hA
      obtain rfl := hao hwu.pos
      rw [show lenE cf l = l.length from if_pos ⟨hE, hK⟩]
      have cF := rFloor_yes hK
      rw [show cZ cf * 4294967296 = flZ cf from rfl] at cF
      have hW := wOk hwu hus (fl_word hK)
      rw [hK] at cK
      have HA : Hid (∀ x, Below w.heap.size w x → Acs x g o l) := fun x hx => Acs.below hcl hx
      have HRT : Hid (∀ x, Below w.heap.size w x → Calls Tryz.prog 45 #[.slice (some ⟨g, o, none⟩) l.length c] x fun e w' => e = .returned (.int .i64 0) ∧ x = w') := fun x hx => rroot_any (Acs.below hcl hx) hwu
      have HSM : Hid (∀ x (h c2 : Nat), Below w.heap.size w x → Wds x h (usOf l) l.length → Calls Tryz.prog 44 #[.slice (some ⟨g, o, none⟩) l.length c, .slice (some ⟨h, 0, none⟩) l.length c2, .int .i64 0] x fun e w' => e = .returned (.int .u64 (sumV l 0)) ∧ Below x.heap.size x w') := fun x h c2 hx hd => rsum_any hwu hus 5 (n := 0) (d := 0) (Acs.below hcl hx) hd hwu.pos rfl (by omega)
      obtain ⟨W, hWW⟩ : ∃ W, wV l (flZ cf) = W := ⟨_, rfl⟩
      have HWW : Hid (wV l (flZ cf) = W) := hWW
      rw [hWW] at hW ⊢
      obtain ⟨SS, hSS⟩ : ∃ SS, sumV l 0 = SS := ⟨_, rfl⟩
      obtain ⟨FF, hFF⟩ : ∃ FF, flZ cf = FF := ⟨_, rfl⟩
      have HW2 : Hid ((if SS < FF then FF else SS) = W) := show (if SS < FF then FF else SS) = W by rw [← hWW, ← hSS, ← hFF]; rfl
      rw [hSS] at HSM
      rw [hFF] at cF
      clear hSS hFF
      have HEF : Hid (∀ x (h c2 n : Nat), Below w.heap.size w x → Wds x h (usOf l) l.length → n < l.length → Calls Tryz.prog 47 #[.slice (some ⟨g, o, none⟩) l.length c, .slice (some ⟨h, 0, none⟩) l.length c2, .int .u64 W, .int .i64 (n : Int)] x fun e w' => e = .returned (.int .u64 (efV l W n)) ∧ Below x.heap.size x w') := fun x h c2 n hx hd hn => reff_any hwu hus hW _ (Acs.below hcl hx) hd hn (hwu.dOf hn).1
      obtain ⟨L, hL⟩ : ∃ L, l.length = L := ⟨_, rfl⟩
      have HL : Hid (l.length = L) := hL
      have HUW : Hid (∀ n, Word (usOf l n)) := us_word hus
      have HSW : Hid (Word (sumV l 0) ∧ Word (flZ cf)) := ⟨sum_word hus 0, fl_word hK⟩
      rw [hL] at HRT HSM HEF c1 hl ⊢
      unfold cfV at *
      clear hcl hn hE hK hao hwu hL hW hWW hus
      go_enter Tryz.func20, Tryz.ntmps20
      go_wp2_with fail
      refine c1.mono ?_
      rintro e w3 ⟨rfl, hb3⟩
      have S3 := keepW HS2.out hb3
      have HS3 : Hid _ := S3
      have HR3 : Hid (w3.ownsRow 0 29 1 (.slice (some ⟨w1.heap.size, 0, none⟩) 0 0) 0 []) := own_below HR2.out hb3
      have HB3 : Hid (Below w1.heap.size w1 w3) := HB2.out.trans (hb3.mono HB2.out.size)
      obtain ⟨s0, s1, s2, s3, s4, s5, s6, s7, _, _⟩ := S3
      clear hb3 c1 HS2 HR2 HB2
      go_wp2_with fail
      refine (cK _).mono ?_
      rintro e w4 ⟨rfl, hb4⟩
      have HT5 : Hid (TwoR w1 (w4.alloc (.cells #[] 29)) w1.heap.size 0 0 [] w4.heap.size 0 0 []) := two_made (own_below HR3.out hb4) (HB3.out.trans (hb4.mono HB3.out.size)) (Nat.le_refl _)
      clear hb4 cK HS3 HR3 HB3 s0 s1 s2 s3 s4 s5 s6 s7
      go_wp2
      go_loopg [6, 7] L (fun gk va x wr => ∃ j gb cb : Nat, j + gk = L ∧ va = .slice (some ⟨gb, 0, none⟩) j cb ∧ x = .int .i64 j ∧ TwoR w1 wr w1.heap.size 0 0 [] gb cb j (firstN (usOf l) j))
      case atStart => exact ⟨0, _, _, by omega, rfl, rfl, HT5.out⟩
      case round =>
        obtain ⟨j, gb, cb, hj, rfl, rfl, hR⟩ := hrel
        by_cases hlt : j < L
        · have hlt' : (j : Int) < L := by omega
          have hB : Below w.heap.size w wr := HB1.out.trans (hR.bl.mono HB1.out.size)
          obtain ⟨a, ha, hac⟩ := Acs.at (HA.out wr hB) (n := j) (by rw [HL.out]; exact hlt)
          have x1 := hac.us
          rw [← us_of ha] at x1
          have rb := hR.b
          clear hac ha hB
          go_upto_region 7 with (first | (at_builtin; refine wpList_app _ rfl (.tmp 27) (.tmp 33) 42 rfl 29 i3 (.int .u64 0) 8 Tryz.underlying42 hi3 hz30 hz31 hz32 rfl (some ⟨gb, 0, none⟩) j cb (wdC (firstN (usOf l) j)) rfl (rb.alloc _) ⟨_, 0, none⟩ 1 1 [.int .u64 (usOf l j)] rfl rfl (cell_one_new _ _ _) (by intro u hu; simp at hu; subst hu; rfl) (by unfold maxLen; omega) (by omega) ?_; intro ao2 co2 w6 ho6 hg6 hmv6; obtain ⟨g2, rfl, R6⟩ := hR.right ho6 hg6 hmv6))
          have HR6 : Hid _ := R6
          clear hR rb ho6 hg6 hmv6 R6 x1
          go_wp2
          go_roundg (L - (j + 1))
          case measure => omega
          case rel => exact ⟨j + 1, _, _, by omega, rfl, rfl, by rw [firstN_succ]; exact HR6.out⟩
        · obtain rfl : j = L := by omega
          have hB : Below w.heap.size w wr := HB1.out.trans (hR.bl.mono HB1.out.size)
          have cr := HRT.out wr hB
          have cs := HSM.out wr gb cb hB (wds_own hR.b)
          have HR : Hid _ := hR
          clear hR hB
          go_wp2_with fail
          refine cr.mono ?_
          rintro e w6 ⟨rfl, rfl⟩
          go_wp2_with fail
          refine cs.mono ?_
          rintro e w6 ⟨rfl, hb6⟩
          have R6 := HR.out.below hb6
          have HR6 : Hid _ := R6
          obtain ⟨s0, s1, s2, s3, s4, s5, s6, s7, _, _⟩ := keepW HS1.out R6.bl
          clear R6 hb6 cr cs HR
          go_wp2_with fail
          refine (cF _).mono ?_
          rintro e w7 ⟨rfl, hb7⟩
          have R7 := HR6.out.below hb7
          have HR7 : Hid _ := R7
          clear s0 s1 s2 s3 s4 s5 s6 s7
          obtain ⟨s0, s1, s2, s3, s4, s5, s6, s7, _, _⟩ := keepW HS1.out R7.bl
          clear R7 hb7 HR6
          go_upto_if 43 with fail
          go_cut [8] (fun x wq => x = .int .u64 W ∧ TwoR w1 wq w1.heap.size 0 0 [] gb cb j (firstN (usOf l) j))
          case first =>
            by_cases hlt : SS < FF
            · have HW3 : Hid (FF = W) := show FF = W by rw [← HW2.out, if_pos hlt]
              go_wp2_with fail
              refine (cF _).mono ?_
              rintro e w8 ⟨rfl, hb8⟩
              have HR8 : Hid _ := HR7.out.below hb8
              clear hb8
              go_wp2
              go_meet
              exact ⟨by rw [HW3.out], HR8.out⟩
            · have HW3 : Hid (SS = W) := show SS = W by rw [← HW2.out, if_neg hlt]
              go_wp2
              go_meet
              exact ⟨by rw [HW3.out], HR7.out⟩
          case rest =>
          obtain ⟨rfl, hR8⟩ := hcut
          have HR8 : Hid _ := hR8
          clear hR8 s0 s1 s2 s3 s4 s5 s6 s7 cF HR7 HW2
          go_wp2
          go_loopg [5, 9] j (fun gk va x wr => ∃ k ga ca : Nat, k + gk = j ∧ va = .slice (some ⟨ga, 0, none⟩) k ca ∧ x = .int .i64 k ∧ TwoR w1 wr ga ca k (firstN (efV l W) k) gb cb j (firstN (usOf l) j))
          case atStart => exact ⟨0, _, _, by omega, rfl, rfl, HR8.out⟩
          case round =>
            obtain ⟨k, ga, ca, hk, rfl, rfl, hR⟩ := hrel
            by_cases hlt : k < j
            · have hlt' : (k : Int) < j := by omega
              have hB : Below w.heap.size w wr := HB1.out.trans (hR.bl.mono HB1.out.size)
              have ce := HEF.out wr gb cb k hB (wds_own hR.b) hlt
              have HR : Hid _ := hR
              clear hR hB
              go_wp2_with fail
              refine ce.mono ?_
              rintro e w9 ⟨rfl, hb9⟩
              have R9 := HR.out.below hb9
              have ra := R9.a
              clear hb9 ce HR
              go_upto_region 14 with (first | (at_builtin; refine wpList_app _ rfl (.tmp 52) (.tmp 58) 42 rfl 29 i3 (.int .u64 0) 8 Tryz.underlying42 hi3 hz30 hz31 hz32 rfl (some ⟨ga, 0, none⟩) k ca (wdC (firstN (efV l W) k)) rfl (ra.alloc _) ⟨_, 0, none⟩ 1 1 [.int .u64 (efV l W k)] rfl rfl (cell_one_new _ _ _) (by intro u hu; simp at hu; subst hu; rfl) (by unfold maxLen; omega) (by omega) ?_; intro ao2 co2 wA hoA hgA hmvA; obtain ⟨g2, rfl, RA⟩ := R9.left hoA hgA hmvA))
              have HRA : Hid _ := RA
              clear R9 ra hoA hgA hmvA RA
              go_wp2
              go_roundg (j - (k + 1))
              case measure => omega
              case rel => exact ⟨k + 1, _, _, by omega, rfl, rfl, by rw [firstN_succ]; exact HRA.out⟩
            · obtain rfl : k = j := by omega
              have HR : Hid _ := hR
              clear hR
              go_wp2
              go_ret
              exact ⟨_, _, rfl, HR.out.a, Nat.le_trans HB1.out.size HR.out.la, HB1.out.trans (HR.out.bl.mono HB1.out.size)⟩
    · have hlS : lenE cf l = 0 := if_neg (fun h => hK h.2)
      rw [hlS]
      generalize l.length = L at *
      obtain ⟨er, her⟩ : ∃ er, chkZ cf = er := ⟨_, rfl⟩
      rw [her] at hK cK
      have hK' : (er == 0) = false := by simp [hK]
      unfold cfV at *
      clear hn hE hlS hA her hK hus
      go_enter Tryz.func20, Tryz.ntmps20
      go_wp2_with fail
      refine c1.mono ?_
      rintro e w3 ⟨rfl, hb3⟩
      have S3 := keepW HS2.out hb3
      have HS3 : Hid _ := S3
      have HR3 : Hid (w3.ownsRow 0 29 1 (.slice (some ⟨w1.heap.size, 0, none⟩) 0 0) 0 []) := own_below HR2.out hb3
      obtain ⟨s0, s1, s2, s3, s4, s5, s6, s7, _, _⟩ := S3
      clear hb3 c1 HS2 HR2 HB2
      go_wp2_with fail
      refine (cK _).mono ?_
      rintro e w4 ⟨rfl, hb4⟩
      have HS4 : Hid _ := keepW HS3.out hb4
      have HR4 : Hid (w4.ownsRow 0 29 1 (.slice (some ⟨w1.heap.size, 0, none⟩) 0 0) 0 []) := own_below HR3.out hb4
      clear hb4 s0 s1 s2 s3 s4 s5 s6 s7
      go_wp2
      go_ret
      exact ⟨_, _, rfl, HR4.out, HB1.out.size, St.bel HS4.out⟩
  · have hlS : lenE cf l = 0 := if_neg (fun h => hE h.1)
    rw [decide_eq_false hE] at c1
    rw [hlS]
    generalize l.length = L at *
    unfold cfV at *
    clear hn hE hlS hA hus cK
    go_enter Tryz.func20, Tryz.ntmps20
    go_wp2_with fail
    refine c1.mono ?_
    rintro e w3 ⟨rfl, hb3⟩
    have HS3 : Hid _ := keepW HS2.out hb3
    have HR3 : Hid (w3.ownsRow 0 29 1 (.slice (some ⟨w1.heap.size, 0, none⟩) 0 0) 0 []) := own_below HR2.out hb3
    clear hb3 c1 HS2 HR2 HB2
    go_wp2
    go_ret
    exact ⟨_, _, rfl, HR3.out, HB1.out.size, St.bel HS3.out⟩
end Go.Proofs.YtjgllfpnmmopdaaGreatDoor
namespace Go.Proofs.YtjgllfpnmmopdaaGreatDoor
open Go.RowKit Wd Tr Cg Bk Ld

/-- A row that grows; nothing else turns but the block in which it began. -/
structure OneR (wA w : World) (g0 g c n : Nat) (xs : List Int) : Prop where
  row : w.ownsRow 0 29 1 (.slice (some ⟨g, 0, none⟩) n c) n (wdC xs)
  lie : g = g0 ∨ wA.heap.size ≤ g
  chg : Chg (fun i => i = g0) wA w
section
variable {wA w w' : World} {g0 g c n : Nat} {xs : List Int}
theorem OneR.below (h : OneR wA w g0 g c n xs) (hb : Below w.heap.size w w') : OneR wA w' g0 g c n xs :=
  ⟨own_below h.row hb, h.lie, h.chg.trans (Chg.of_below hb (fun _ => False)) (fun _ _ h => h.elim)⟩
theorem OneR.next (h : OneR wA w g0 g c n xs) {x : Int} {o : Obj} {v' : Value} (ho : w'.ownsRow 0 29 1 v' (n + 1) (wdC xs ++ [.int .u64 x])) (hg : (w.alloc o).grownBy w' (Value.slice (some ⟨g, 0, none⟩) n c).ownBlock)
    (hm : v'.ownBlock = (Value.slice (some ⟨g, 0, none⟩) n c).ownBlock ∨ v'.ownBlock = some (w.alloc o).heap.size) : ∃ g' c', v' = .slice (some ⟨g', 0, none⟩) (n + 1) c' ∧ OneR wA w' g0 g' c' (n + 1) (xs ++ [x]) := by
  rw [wdC_snoc] at ho
  obtain ⟨g', c', rfl, _⟩ := grown_shape ho (by omega)
  have hlie := h.lie
  have hsz := h.chg.size
  refine ⟨g', c', rfl, ho, ?_, (h.chg.alloc o).trans (K' := fun i => i = g) (Chg.of_gr hg (fun k hk => .inl (by simpa [Value.ownBlock] using hk.symm))) (fun i hi e => ?_)⟩
  · rcases hm with e | e
    · simp [Value.ownBlock] at e
      omega
    · simp [Value.ownBlock] at e
      omega
  · have e' : i = g := e
    show i = g0
    omega
end
theorem keepF3 {W w : World} {a0 a1 a2 : Addr} {v0 v1 v2 : Value} (hb : Below W.heap.size W w) (h : W.cell? a0 = some v0 ∧ W.cell? a1 = some v1 ∧ W.cell? a2 = some v2) : w.cell? a0 = some v0 ∧ w.cell? a1 = some v1 ∧ w.cell? a2 = some v2 :=
  ⟨keepC hb h.1, keepC hb h.2.1, keepC hb h.2.2⟩
theorem allocF3 {W : World} {a0 a1 a2 : Addr} {v0 v1 v2 : Value} {o : Obj} (h : W.cell? a0 = some v0 ∧ W.cell? a1 = some v1 ∧ W.cell? a2 = some v2) : (W.alloc o).cell? a0 = some v0 ∧ (W.alloc o).cell? a1 = some v1 ∧ (W.alloc o).cell? a2 = some v2 :=
  keepF3 (below1 W o) h
set_option maxHeartbeats 2000000 in
set_option maxRecDepth 20000 in
theorem rfacs_any {w : World} {ao : Option Addr} {l : List Ac} {c : Nat} {cf : Cf} (hA : AcsAt w ao l) (hus : UsOk l) (hn : l.length * 48 ≤ 140737488355328) :
    Calls Tryz.prog 10 #[cfV cf, .slice ao l.length c] w (REf w (lenE cf l) (firstN (facV l (wV l (flZ cf))) (lenE cf l))) := by
  obtain ⟨i3, hi3, hz30, hz31, hz32⟩ := info_parts Tryz.infWE
  have hS := St.new w cf
  obtain ⟨w1, hw1⟩ : ∃ w1, w.alloc (.cells #[.int .i64 cf.nodes, .int .i64 cf.queue, .int .i64 cf.limit, .int .i64 cf.age, .int .i64 cf.fair, .int .i64 cf.size, .int .i64 cf.period, .int .i64 cf.half] 23) = w1 := ⟨_, rfl⟩
  rw [hw1] at hS
  have hr := empty_row w1 0 (Nat.zero_le _)
  have b2 := below1 w1 (.cells #[] 29)
  have hz2 : w1.heap.size < (w1.alloc (.cells #[] 29)).heap.size := by simp
  obtain ⟨w2, hw2⟩ : ∃ w2, w1.alloc (.cells #[] 29) = w2 := ⟨_, rfl⟩
  rw [hw2] at hr b2 hz2
  have S2 := keepW hS b2
  have c1 := reffs_any (c := c) (cf := cf) (hA.below S2.bel) hus hn
  have HSH : Hid (∀ x, Below w.heap.size w x → Calls Tryz.prog 21 #[.slice ao l.length c] x (RSh x (lenS l) (firstN (numV l) (lenS l)) (firstN (denV l) (lenS l)))) := fun x hx => rshs_any (hA.below hx) hn
  have HB1 : Hid (Below w.heap.size w w1) := hS.bel
  have HB2 : Hid (Below w.heap.size w w2) := S2.bel
  have HR2 : Hid (w2.ownsRow 0 29 1 (.slice (some ⟨w1.heap.size, 0, none⟩) 0 0) 0 []) := hr
  have HZ2 : Hid (w1.heap.size < w2.heap.size) := hz2
  obtain ⟨s0, s1, s2, s3, s4, s5, s6, s7, _, _⟩ := S2
  clear hS hr b2 hz2
  by_cases hOK : loadE l = 0 ∧ chkZ cf = 0
  · have hwu : Wu l := wf_load hOK.1
    have hl := hwu.len
    have hW := wOk hwu hus (fl_word hOK.2)
    obtain ⟨W, hWW⟩ : ∃ W, wV l (flZ cf) = W := ⟨_, rfl⟩
    rw [show lenE cf l = l.length from if_pos hOK] at c1 ⊢
    rw [show lenS l = l.length from if_pos hOK.1] at HSH
    rw [hWW] at hW c1 ⊢
    have HW : Hid (WOk l W) := hW
    have HWU : Hid (Wu l) := hwu
    have HUS : Hid (UsOk l) := hus
    obtain ⟨L, hL⟩ : ∃ L, l.length = L := ⟨_, rfl⟩
    have HL : Hid (l.length = L) := hL
    rw [hL] at c1 HSH hl ⊢
    unfold cfV at *
    clear hA hn hOK hwu hL hW hWW hus
    go_enter Tryz.func10, Tryz.ntmps10
    go_wp2_with fail
    refine c1.mono ?_
    rintro e w3 ⟨ge, ce, rfl, hrE, hge, hb3⟩
    have B3 : Below w.heap.size w w3 := HB2.out.trans (hb3.mono HB2.out.size)
    have c2 := HSH.out w3 B3
    have HR3 : Hid (w3.ownsRow 0 29 1 (.slice (some ⟨w1.heap.size, 0, none⟩) 0 0) 0 []) := own_below HR2.out hb3
    have HE3 : Hid (Wds w3 ge (efV l W) L ∧ w1.heap.size ≠ ge) := ⟨wds_own hrE, by have := HZ2.out; omega⟩
    have HZ3 : Hid (w1.heap.size < w3.heap.size) := Nat.lt_of_lt_of_le HZ2.out hb3.size
    have HB3 : Hid (Below w.heap.size w w3) := B3
    clear hb3 c1 hrE hge B3 s0 s1 s2 s3 s4 s5 s6 s7 HR2 HB2 HSH HZ2
    go_wp2_with fail
    refine c2.mono ?_
    rintro e w4 ⟨ga, ca, gb, cb, rfl, hTW⟩
    have HTW : Hid (Wds w4 ga (numV l) L ∧ Wds w4 gb (denV l) L ∧ w1.heap.size ≠ ga ∧ w1.heap.size ≠ gb) := ⟨wds_own hTW.a, wds_own hTW.b, by have := HZ3.out; have := hTW.la; omega, by have := HZ3.out; have := hTW.lb; omega⟩
    have HE4 : Hid (Wds w4 ge (efV l W) L ∧ w1.heap.size ≠ ge) := ⟨HE3.out.1.below hTW.bl, HE3.out.2⟩
    have HR4 : Hid (OneR w4 w4 w1.heap.size w1.heap.size 0 0 []) := ⟨own_below HR3.out hTW.bl, .inl rfl, Chg.refl _ _⟩
    have HB4 : Hid (Below w.heap.size w w4) := HB3.out.trans (hTW.bl.mono HB3.out.size)
    clear hTW HE3 HR3 HB3 c2
    go_wp2
    go_loopg [5, 9] L (fun gk va x wr => ∃ j g c : Nat, j + gk = L ∧ va = .slice (some ⟨g, 0, none⟩) j c ∧ x = .int .i64 j ∧ OneR w4 wr w1.heap.size g c j (firstN (facV l W) j))
    case atStart => exact ⟨0, _, _, by omega, rfl, rfl, HR4.out⟩
    case round =>
      obtain ⟨j, g, cg, hj, rfl, rfl, hR⟩ := hrel
      by_cases hlt : j < L
      · have hlt' : (j : Int) < L := by omega
        have hjl : j < l.length := by rw [HL.out]; exact hlt
        have e1 := hR.chg.cell (HE4.out.1 j hlt) (Ne.symm HE4.out.2)
        have n1 := hR.chg.cell (HTW.out.1 j hlt) (Ne.symm HTW.out.2.2.1)
        have d1 := hR.chg.cell (HTW.out.2.1 j hlt) (Ne.symm HTW.out.2.2.2)
        have HQ : Hid (∀ x g c n xs, OneR w4 x w1.heap.size g c n xs → x.cell? ⟨ge, j, none⟩ = some (.int .u64 (efV l W j)) ∧ x.cell? ⟨ga, j, none⟩ = some (.int .u64 (numV l j)) ∧ x.cell? ⟨gb, j, none⟩ = some (.int .u64 (denV l j))) := fun x g c n xs h => ⟨h.chg.cell (HE4.out.1 j hlt) (Ne.symm HE4.out.2), h.chg.cell (HTW.out.1 j hlt) (Ne.symm HTW.out.2.2.1), h.chg.cell (HTW.out.2.1 j hlt) (Ne.symm HTW.out.2.2.2)⟩
        obtain ⟨q1, q2, q3, q4⟩ := den_word HWU.out hjl
        obtain ⟨u1, u2, u3⟩ := ef_word HWU.out HUS.out HW.out hjl
        have cP := rxp_any (e := efV l W j) (n := numV l j) (d := denV l j) (by omega) u3 q1 q2 q3 q4
        have hpw := pow_word (e := efV l W j) (by omega) q1 q2 q4
        have cH : ∀ x, Calls Tryz.prog 22 #[.int .u64 (powV (efV l W j) (numV l j) (denV l j))] x fun r w' => r = .returned (.int .u64 (facV l W j)) ∧ Below x.heap.size x w' := fun x => by
          have := rhalf_any (powV (efV l W j) (numV l j) (denV l j)).toNat (by have := hpw.2; have := hpw.1; omega) x
          rw [Int.toNat_of_nonneg hpw.1] at this
          exact this
        have HR : Hid (OneR w4 wr w1.heap.size g cg j (firstN (facV l W) j)) := hR
        have HF : Hid (firstN (facV l W) (j + 1) = firstN (facV l W) j ++ [facV l W j]) := firstN_succ _ _
        clear hR q1 q2 q3 q4 u1 u2 u3 hpw hjl
        generalize powV (efV l W j) (numV l j) (denV l j) = PW at *
        generalize numV l j = NJ at *
        generalize denV l j = DJ at *
        generalize efV l W j = EJ at *
        generalize facV l W j = FJ at *
        generalize firstN (facV l W) j = XS at *
        have HS : Hid (wr.drew.cell? ⟨ge, j, none⟩ = some (.int .u64 EJ) ∧ wr.drew.cell? ⟨ga, j, none⟩ = some (.int .u64 NJ) ∧ wr.drew.cell? ⟨gb, j, none⟩ = some (.int .u64 DJ)) := ⟨e1, n1, d1⟩
        clear e1 n1 d1
        go_upto_region 7 with fail
        go_region_held3 (fun x => x.cell? ⟨ge, j, none⟩ = some (.int .u64 EJ) ∧ x.cell? ⟨ga, j, none⟩ = some (.int .u64 NJ) ∧ x.cell? ⟨gb, j, none⟩ = some (.int .u64 DJ)) (first | exact HS.out | exact keepF3 (by assumption) (by assumption) | exact allocF3 (by assumption) | exact HQ.out _ _ _ _ _ R6)
          (first
          | (go_at_call 23; refine (cP _).mono ?_; rintro e x ⟨rfl, hx⟩; have BX : Hid (Below wr.heap.size wr x) := (drew_below wr).trans hx)
          | (go_at_call 22; refine (cH _).mono ?_; rintro e y ⟨rfl, hy⟩; have BY : Hid (Below wr.heap.size wr y) := BX.out.trans (hy.mono BX.out.size); have ry := (HR.out.below BY.out).row)
          | (refine step_app rfl (.tmp 25) (.tmp 40) 42 rfl 29 i3 _ 1 8 Tryz.underlying42 hi3 hz30 hz31 hz32 rfl (by decide) (.slice (some ⟨g, 0, none⟩) j cg) j (wdC XS) (by simp [Act.eval]) (ry.alloc _) ⟨y.heap.size, 0, none⟩ 1 1 [.int .u64 FJ] (by simp [Act.eval]) rfl (cell_one_new _ _ _) (by intro u hu; simp at hu; subst hu; rfl) (by unfold maxLen; omega) (by omega) ?_; intro v' w6 r1 g1 r4; obtain ⟨g', c', rfl, R6⟩ := OneR.next (HR.out.below BY.out) r1 g1 r4))
        all_goals
          have HR6 : Hid _ := R6
          clear HS hx hy ry cP cH r1 g1 r4 R6
          go_wp2
          go_roundg (L - (j + 1))
          case measure => omega
          case rel => exact ⟨j + 1, _, _, by omega, rfl, rfl, by rw [HF.out]; exact HR6.out⟩
      · obtain rfl : j = L := by omega
        have HR : Hid (OneR w4 wr w1.heap.size g cg j (firstN (facV l W) j)) := hR
        clear hR
        go_wp2
        go_ret
        exact ⟨g, cg, rfl, HR.out.row, by have := HB1.out.size; have := HB4.out.size; have := HR.out.lie; omega, HR.out.chg.below HB4.out HB4.out.size (fun i e => by have := HB1.out.size; omega)⟩
  · have hl0 : lenE cf l = 0 := if_neg hOK
    rw [hl0] at c1 ⊢
    obtain ⟨N, hN⟩ : ∃ N, lenS l = N := ⟨_, rfl⟩
    rw [hN] at HSH
    generalize l.length = L at *
    unfold cfV at *
    clear hA hn hOK hus hl0 hN
    go_enter Tryz.func10, Tryz.ntmps10
    go_wp2_with fail
    refine c1.mono ?_
    rintro e w3 ⟨ge, ce, rfl, hrE, hge, hb3⟩
    have B3 : Below w.heap.size w w3 := HB2.out.trans (hb3.mono HB2.out.size)
    have c2 := HSH.out w3 B3
    have HR3 : Hid (w3.ownsRow 0 29 1 (.slice (some ⟨w1.heap.size, 0, none⟩) 0 0) 0 []) := own_below HR2.out hb3
    have HB3 : Hid (Below w.heap.size w w3) := B3
    clear hb3 c1 hrE hge B3 s0 s1 s2 s3 s4 s5 s6 s7 HR2 HB2 HSH HZ2
    go_wp2_with fail
    refine c2.mono ?_
    rintro e w4 ⟨ga, ca, gb, cb, rfl, hTW⟩
    have HR4 : Hid (w4.ownsRow 0 29 1 (.slice (some ⟨w1.heap.size, 0, none⟩) 0 0) 0 []) := own_below HR3.out hTW.bl
    have HB4 : Hid (Below w.heap.size w w4) := HB3.out.trans (hTW.bl.mono HB3.out.size)
    clear hTW HR3 HB3 c2
    go_wp2
    refine wp_loop_rounds 1 ?_
    rw [rounds_succ]
    go_wp2
    go_ret
    exact ⟨_, _, rfl, HR4.out, HB1.out.size, HB4.out⟩
end Go.Proofs.YtjgllfpnmmopdaaGreatDoor
