/-
 LAYER 16: the reference (backfillref16): root; a row that grows.
 LAYER 16: the reference (backfillref16): shorts.
 LAYER 13: the reference (backfillref13) over accounts whose usages lie elsewhere: Together, Sum.
 LAYER 16: the reference (backfillref16): effective, both ways.
 LAYER 16: the reference (backfillref16): what effective answers, both ways.
 LAYER 16: the reference's Exponent (backfillref13), rounded down.
-/
import Derived.Test.YtdkbmligaodpmaaGreatDoorXrgz
import Derived.Test.YtdkbmligaodpmaaGreatDoorXraz
import Derived.Test.YtdkbmligaodpmaaGreatDoorXmtz
namespace Go.Proofs.YtdkbmligaodpmaaGreatDoor
open Go.RowKit Wd Tr Cg Bk

structure OneR (wA w : World) (g0 g c n : Nat) (xs : List Int) : Prop where
 row : w.ownsRow 0 60 1 (.slice (some ⟨g, 0, none⟩) n c) n (wdC xs)
 lie : g = g0 ∨ wA.heap.size ≤ g
 chg : Chg (fun i => i = g0) wA w
section
variable {wA w w' : World} {g0 g c n : Nat} {xs : List Int}
theorem OneR.below (h : OneR wA w g0 g c n xs) (hb : Below w.heap.size w w') : OneR wA w' g0 g c n xs :=
 ⟨own_below h.row hb, h.lie, h.chg.trans (Chg.of_below hb (fun _ => False)) (fun _ _ h => h.elim)⟩
theorem OneR.more (h : OneR wA w g0 g c n xs) {x : Int} {o : Obj} {ao' : Option Addr} {c' : Nat} (ho : w'.ownsRow 0 60 1 (.slice ao' (n + 1) c') (n + 1) (wdC xs ++ [.int .u64 x])) (hg : (w.alloc o).grownBy w' (some g)) (hm : Moved (w.alloc o) (some ⟨g, 0, none⟩) ao') : ∃ g', ao' = some ⟨g', 0, none⟩ ∧ OneR wA w' g0 g' c' (n + 1) (xs ++ [x]) := by
 rw [wdC_snoc] at ho
 have hlie := h.lie
 have hsz := h.chg.size
 have hc : Chg (fun i => i = g0) wA w' := (h.chg.alloc o).trans (K' := fun i => i = g) (Chg.of_gr hg (fun k hk => .inl (by simpa using hk.symm))) (fun i hi e => by have e' : i = g := e; show i = g0; omega)
 rcases hm with rfl | ⟨g', hg', rfl⟩
 ·exact ⟨g, rfl, ho, hlie, hc⟩
 ·simp at hg'
  exact ⟨g', rfl, ho, .inr (by omega), hc⟩
theorem OneR.next (h : OneR wA w g0 g c n xs) {x : Int} {o : Obj} {v' : Value} (ho : w'.ownsRow 0 60 1 v' (n + 1) (wdC xs ++ [.int .u64 x])) (hg : (w.alloc o).grownBy w' (Value.slice (some ⟨g, 0, none⟩) n c).ownBlock)
  (hm : v'.ownBlock = (Value.slice (some ⟨g, 0, none⟩) n c).ownBlock ∨ v'.ownBlock = some (w.alloc o).heap.size) : ∃ g' c', v' = .slice (some ⟨g', 0, none⟩) (n + 1) c' ∧ OneR wA w' g0 g' c' (n + 1) (xs ++ [x]) := by
 rw [wdC_snoc] at ho
 obtain ⟨g', c', rfl, _⟩ := grown_shape ho (by omega)
 have hlie := h.lie
 have hsz := h.chg.size
 refine ⟨g', c', rfl, ho, ?_, (h.chg.alloc o).trans (K' := fun i => i = g) (Chg.of_gr hg (fun k hk => .inl (by simpa [Value.ownBlock] using hk.symm))) (fun i hi e => ?_)⟩
 ·rcases hm with e | e
  ·simp [Value.ownBlock] at e
   omega
  ·simp [Value.ownBlock] at e
   omega
 ·have e' : i = g := e
  show i = g0
  omega
end
theorem riroot_any {w : World} {g o c : Nat} {l : List Ac} (hA : Acs w g o l) (hwu : Wu l) :
  Calls Tryz.prog 89 #[.slice (some ⟨g, o, none⟩) l.length c] w fun e w' => e = .returned (.int .i64 0) ∧ w = w' := by
 obtain ⟨a, ha, hac⟩ := hA.at hwu.pos
 have x1 := hac.pa
 rw [root_at hwu ha] at x1
 simp only [Nat.zero_mul, Nat.add_zero] at x1
 have hl : (0 : Int) < l.length := by have := hwu.pos; omega
 clear hac hA ha
 generalize l.length = L at *
 go_enter Tryz.func89, Tryz.ntmps89
 go_wp2
 refine wp_loop_rounds 1 ?_
 rw [rounds_succ]
 go_wp2
 go_ret
 exact ⟨rfl, rfl⟩
end Go.Proofs.YtdkbmligaodpmaaGreatDoor
namespace Go.Proofs.YtdkbmligaodpmaaGreatDoor
open Go.RowKit Wd Tr Cg Bk

def NmsAt (W : World) (g : Nat) (U : List Int) : Prop := ∀ k u, U[k]? = some u → W.cell? ⟨g, k * 2, none⟩ = some (.int .u64 (hiW u)) ∧ W.cell? ⟨g, k * 2 + 1, none⟩ = some (.int .u64 (loW u))
theorem NmsAt.below {W W' : World} {g : Nat} {U : List Int} (h : NmsAt W g U) (b : Below W.heap.size W W') : NmsAt W' g U := fun k u hk => ⟨keepC b (h k u hk).1, keepC b (h k u hk).2⟩
def sF (up : Bool) (u : Int) : Int := if up then narV (cl u 4294967296) else narV (u / 4294967296)
theorem short_any (u : Int) (hu : Num u) (up : Bool) (w : World) :
  Calls Tryz.prog 35 #[nuV u, .bool up] w fun e w' => e = .returned (.int .u64 (sF up u)) ∧ Below w.heap.size w w' := by
 cases up
 ·exact short_dn u hu w
 ·exact short_up u hu w
set_option maxHeartbeats 1000000 in
set_option maxRecDepth 20000 in
theorem rshorts_any {w : World} {g c : Nat} {U : List Int} (hN : NmsAt w g U) (hu : ∀ u ∈ U, Num u) (hl : U.length * 8 ≤ 140737488355328) (up : Bool) :
  Calls Tryz.prog 88 #[.slice (some ⟨g, 0, none⟩) U.length c, .bool up] w fun e w' => ∃ g' c', e = .returned (.slice (some ⟨g', 0, none⟩) U.length c') ∧
   w'.ownsRow 0 60 1 (.slice (some ⟨g', 0, none⟩) U.length c') U.length (wdC (firstN (fun k => sF up (U.getD k 0)) U.length)) ∧ w.heap.size ≤ g' ∧ Below w.heap.size w w' := by
 obtain ⟨i3, hi3, hz30, hz31, hz32⟩ := info_parts Tryz.infWE
 have hr := empty_row w 0 (Nat.zero_le _)
 have hb1 := below1 w (.cells #[] 60)
 have hz : w.heap.size < (w.alloc (.cells #[] 60)).heap.size := by simp
 obtain ⟨F, hF⟩ : ∃ F : Nat → Int, F = fun k => sF up (U.getD k 0) := ⟨_, rfl⟩
 have HFv : Hid (∀ k u, U[k]? = some u → F k = sF up u) := fun k u hk => by rw [hF]; simp [hk]
 rw [← hF]
 have HN : Hid (∀ k u, U[k]? = some u → g ≠ w.heap.size ∧ Num u) := fun k u hk => ⟨by have := World.block_lt_of_cell? w _ (hN k u hk).1; simp at this; omega, hu u (List.mem_of_getElem? hk)⟩
 have HM : Hid (NmsAt (w.alloc (.cells #[] 60)) g U) := hN.below hb1
 have HU : Hid (∀ k, k < U.length → ∃ u, U[k]? = some u) := fun k hk => ⟨_, List.getElem?_eq_getElem hk⟩
 obtain ⟨L, hL⟩ : ∃ L, U.length = L := ⟨_, rfl⟩
 rw [hL] at hl HU ⊢
 have HR0 : Hid (OneR (w.alloc (.cells #[] 60)) (w.alloc (.cells #[] 60)) w.heap.size w.heap.size 0 0 []) := ⟨hr, .inl rfl, Chg.refl _ _⟩
 have HB1 : Hid (Below w.heap.size w (w.alloc (.cells #[] 60))) := hb1
 have HZ : Hid (w.heap.size < (w.alloc (.cells #[] 60)).heap.size) := hz
 clear hr hb1 hz hN hu hF hL
 go_enter Tryz.func88, Tryz.ntmps88
 go_wp2
 generalize w.alloc (.cells #[] 60) = w1 at *
 go_loopg [5, 6] L (fun gk va x wr => ∃ j g' c' : Nat, j + gk = L ∧ va = .slice (some ⟨g', 0, none⟩) j c' ∧ x = .int .i64 j ∧ OneR w1 wr w.heap.size g' c' j (firstN F j))
 case atStart => exact ⟨0, _, _, by omega, rfl, rfl, HR0.out⟩
 case round =>
  obtain ⟨j, g', c', hj, rfl, rfl, hR⟩ := hrel
  by_cases hlt : j < L
  ·have hlt' : (j : Int) < L := by omega
   obtain ⟨u, hju⟩ := HU.out j hlt
   obtain ⟨hgn, hun⟩ := HN.out j u hju
   have x0 := hR.chg.cell (HM.out j u hju).1 hgn
   have x1 := hR.chg.cell (HM.out j u hju).2 hgn
   have c1 := short_any u hun up wr
   have HF : Hid (firstN F (j + 1) = firstN F j ++ [sF up u]) := show _ = _ by rw [firstN_succ, HFv.out j u hju]
   have HR : Hid _ := hR
   clear hR hgn hun hju
   generalize firstN F j = XS at *
   go_wp2_with fail
   refine c1.mono ?_
   rintro e w4 ⟨rfl, hb4⟩
   have R4 := HR.out.below hb4
   have ra := R4.row
   clear hb4 HR x0 x1 c1
   go_upto_region 4 with (first | (at_builtin; refine wpList_app _ rfl (.tmp 14) (.tmp 21) 57 rfl 60 i3 (.int .u64 0) 8 Tryz.underlying57 hi3 hz30 hz31 hz32 rfl (some ⟨g', 0, none⟩) j c' (wdC XS) rfl (ra.alloc _) ⟨_, 0, none⟩ 1 1 [.int .u64 (sF up u)] rfl rfl (cell_one_new _ _ _) (by intro u hu; simp at hu; subst hu; rfl) (by unfold maxLen; omega) (by omega) ?_; intro ao1 co1 w5 ho5 hg5 hmv5; obtain ⟨g1, rfl, R5⟩ := R4.more ho5 hg5 hmv5))
   have HR5 : Hid _ := R5
   clear R4 ra ho5 hg5 hmv5 R5
   go_wp2
   go_roundg (L - (j + 1))
   case measure => omega
   case rel => exact ⟨j + 1, _, _, by omega, rfl, rfl, by rw [HF.out]; exact HR5.out⟩
  ·obtain rfl : j = L := by omega
   have HR : Hid _ := hR
   clear hR
   go_wp2
   go_ret
   exact ⟨_, _, rfl, HR.out.row, by have := HZ.out; rcases HR.out.lie with h | h <;> omega, HR.out.chg.below HB1.out (Nat.le_of_lt HZ.out) (fun i hi => by omega)⟩
end Go.Proofs.YtdkbmligaodpmaaGreatDoor
namespace Go.Proofs.YtdkbmligaodpmaaGreatDoor
open Go.RowKit Wd Tr

def Acp (W : World) (g o : Nat) (l : List Ac) : Prop := ∀ k a, l[k]? = some a → W.cell? ⟨g, o + k * 5 + 1, none⟩ = some (.int .i64 a.pa) ∧ W.cell? ⟨g, o + k * 5 + 2, none⟩ = some (.int .i64 a.sh)
theorem Acp.below {W W' : World} {g o : Nat} {l : List Ac} (h : Acp W g o l) (b : Below W.heap.size W W') : Acp W' g o l := fun k a ha => ⟨cellB b (h k a ha).1, cellB b (h k a ha).2⟩
theorem Acp.at {W : World} {g o : Nat} {l : List Ac} (h : Acp W g o l) {n : Nat} (hn : n < l.length) : ∃ a, l[n]? = some a ∧ W.cell? ⟨g, o + n * 5 + 1, none⟩ = some (.int .i64 a.pa) ∧ W.cell? ⟨g, o + n * 5 + 2, none⟩ = some (.int .i64 a.sh) := ⟨_, List.getElem?_eq_getElem hn, h n _ (List.getElem?_eq_getElem hn)⟩
theorem acp_of {W : World} {g o : Nat} {l m : List Ac} (h : Acs W g o l) (e : Tr.Alike l m) : Acp W g o m := fun k a ha => by
 have hk : (l.map plainAc)[k]? = (m.map plainAc)[k]? := by rw [show l.map plainAc = m.map plainAc from e]
 rw [List.getElem?_map, List.getElem?_map, ha] at hk
 obtain ⟨b, hb, hba⟩ := Option.map_eq_some_iff.1 hk
 have h1 : b.pa = a.pa := by
  have := congrArg Ac.pa hba
  exact this
 have h2 : b.sh = a.sh := by
  have := congrArg Ac.sh hba
  exact this
 rw [← h1, ← h2]
 exact ⟨(h k b hb).pa, (h k b hb).sh⟩
set_option maxHeartbeats 1000000 in
set_option maxRecDepth 20000 in
theorem rtog_p {w : World} {g o c : Nat} {l : List Ac} (hA : Acp w g o l) (hwu : Wu l) (p : Nat) :
  Calls Tryz.prog 134 #[.slice (some ⟨g, o, none⟩) l.length c, .int .i64 (p : Int)] w fun e w' => e = .returned (.int .i64 (tog l p)) ∧ w' = w := by
 obtain ⟨q, hq⟩ : ∃ q, l.length = q := ⟨_, rfl⟩
 have HQ : Hid (l.length = q) := hq
 have HA : Hid (Acp w g o l) := hA
 have HW : Hid (Wu l) := hwu
 have hl := hwu.len
 rw [hq] at hl ⊢
 unfold tog
 rw [hq]
 clear hq hA hwu
 go_enter Tryz.func134, Tryz.ntmps134
 go_wp2
 go_loopg [5, 6] q (fun gk s x wr => ∃ j : Nat, j + gk = q ∧ s = .int .i64 (togN l p j) ∧ x = .int .i64 j ∧ w = wr)
 case atStart => exact ⟨0, by omega, rfl, rfl, rfl⟩
 case round =>
  obtain ⟨j, hj, rfl, rfl, rfl⟩ := hrel
  by_cases hlt : j < q
  ·have hlt' : (j : Int) < q := by omega
   obtain ⟨a, ha, hac⟩ := Acp.at HA.out (n := j) (by rw [HQ.out]; exact hlt)
   have x1 := hac.1
   have x2 := hac.2
   have hb := togN_word HW.out p (k := j) (by omega)
   have hs := HW.out.shOk j a ha
   have hin := togN_yes (l := l) (p := p) ha
   have hno := togN_no (l := l) (p := p) ha
   by_cases e : a.pa = p
   ·have HT : Hid (togN l p (j + 1) = togN l p j + a.sh) := hin e
    have ew : IntKind.i64.wrap (togN l p j + a.sh) = togN l p j + a.sh := by rw [IntKind.wrap_i64]; omega
    rw [e] at x1
    clear hac ha hb hs hin hno e
    obtain ⟨T, hT⟩ : ∃ T, togN l p j = T := ⟨_, rfl⟩
    rw [hT] at ew ⊢
    have HT2 : Hid _ := hT
    clear hT
    go_wp2
    go_roundg (q - (j + 1))
    case measure => omega
    case rel => exact ⟨j + 1, by omega, by rw [HT.out, HT2.out], rfl, rfl⟩
   ·have HT : Hid (togN l p (j + 1) = togN l p j) := hno e
    have e' : (a.pa == (p : Int)) = false := by simp [e]
    clear hac ha hb hs hin hno
    obtain ⟨T, hT⟩ : ∃ T, togN l p j = T := ⟨_, rfl⟩
    rw [hT]
    have HT2 : Hid _ := hT
    clear hT
    go_wp2
    go_roundg (q - (j + 1))
    case measure => omega
    case rel => exact ⟨j + 1, by omega, by rw [HT.out, HT2.out], rfl, rfl⟩
  ·obtain rfl : j = q := by omega
   go_wp2
   go_ret
   exact ⟨rfl, rfl⟩
set_option maxHeartbeats 1000000 in
set_option maxRecDepth 20000 in
theorem rsum_p {g o c h c2 : Nat} {l : List Ac} (hwu : Wu l) (hus : UsOk l) : ∀ (f : Nat) {n d : Nat} {w : World}, Acp w g o l → Wds w h (usOf l) l.length → n < l.length → Dep l d n → 4 < d + f →
  Calls Tryz.prog 91 #[.slice (some ⟨g, o, none⟩) l.length c, .slice (some ⟨h, 0, none⟩) l.length c2, .int .i64 (n : Int)] w fun e w' => e = .returned (.int .u64 (sumV l n)) ∧ Below w.heap.size w w' := by
 intro f
 induction f with
 | zero =>
  intro n d w _ _ hn hd hf
  obtain ⟨e, h1, h2⟩ := hwu.deep hn
  have := dep_uniq hd h2
  omega
 | succ f ih =>
  intro n d w hA hW hn hd hf
  obtain ⟨q, hq⟩ : ∃ q, l.length = q := ⟨_, rfl⟩
  have HQ : Hid (l.length = q) := hq
  have HA : Hid (Acp w g o l) := hA
  have HWd : Hid (Wds w h (usOf l) l.length) := hW
  have HW : Hid (Wu l) := hwu
  have HU : Hid (UsOk l) := hus
  have HIH : Hid (∀ k x, k ∈ kidsV l n → Below w.heap.size w x → Calls Tryz.prog 91 #[.slice (some ⟨g, o, none⟩) l.length c, .slice (some ⟨h, 0, none⟩) l.length c2, .int .i64 (k : Int)] x fun e w' => e = .returned (.int .u64 (sumV l k)) ∧ Below x.heap.size x w') :=
   fun k x hk hx => ih (d := d + 1) (hA.below hx) (hW.below hx) (hwu.kid hk).2.1 (hwu.kid_dep hk hd) (by omega)
  have hl := hwu.len
  have x0 := hW n hn
  have HS : Hid (sumV l n = sumTo (sumV l) (usOf l n) (kidP l n q)) := show sumV l n = _ by rw [sum_kids hwu hn, ← hq]; rfl
  rw [hq] at hl hn ⊢
  obtain ⟨S, hS⟩ : ∃ S, sumV l n = S := ⟨_, rfl⟩
  have HSS : Hid (sumV l n = S) := hS
  have hn' : (n : Int) < q := by omega
  rw [hS]
  clear hq hA hW hwu hus ih hS hd hf
  go_enter Tryz.func91, Tryz.ntmps91
  go_wp2
  go_loopg [7, 8] q (fun gk s x wr => ∃ j : Nat, j + gk = q ∧ s = .int .u64 (sumTo (sumV l) (usOf l n) (kidP l n j)) ∧ x = .int .i64 j ∧ Below w.heap.size w wr)
  case atStart => exact ⟨0, by omega, rfl, rfl, Below.refl _ _⟩
  case round =>
   obtain ⟨j, hj, rfl, rfl, hB⟩ := hrel
   by_cases hlt : j < q
   ·have hlt' : (j : Int) < q := by omega
    obtain ⟨a, ha, hac⟩ := Acp.at (Acp.below HA.out hB) (n := j) (by rw [HQ.out]; exact hlt)
    have x1 := hac.1
    by_cases e : a.pa = n
    ·have hk : j ∈ kidsV l n := mem_kids.2 ⟨a, ha, e⟩
     have HT : Hid _ := kidP_yes (p := n) ha e
     have hsw : Word (sumTo (sumV l) (usOf l n) (kidP l n j)) := sumTo_word (us_word HU.out n) (fun k _ => sum_word HU.out k)
     have c1 := HIH.out j wr hk hB
     have c2 := rqadd_any (sumTo (sumV l) (usOf l n) (kidP l n j)) (sumV l j) hsw (sum_word HU.out j)
     have HE : Hid (narV (sumTo (sumV l) (usOf l n) (kidP l n j) + sumV l j) = sumTo (sumV l) (usOf l n) (kidP l n (j + 1))) := show narV _ = _ by rw [HT.out, sumTo_last]; rfl
     rw [e] at x1
     rw [HQ.out] at c1
     clear hac ha e hk hsw HT x0
     generalize sumTo (sumV l) (usOf l n) (kidP l n j) = T at *
     generalize sumV l j = Sj at *
     obtain ⟨NT, hNT⟩ : ∃ NT, narV (T + Sj) = NT := ⟨_, rfl⟩
     rw [hNT] at c2
     have HN : Hid _ := hNT
     clear hNT
     go_wp2_with fail
     refine c1.mono ?_
     rintro e w1 ⟨rfl, hb1⟩
     have B1 := hB.trans (hb1.mono hB.size)
     go_wp2_with fail
     refine (c2 _).mono ?_
     rintro e w2 ⟨rfl, hb2⟩
     have HB2 : Hid _ := B1.trans (hb2.mono B1.size)
     clear B1 hb1 hb2 hB
     go_wp2
     go_roundg (q - (j + 1))
     case measure => omega
     case rel => exact ⟨j + 1, by omega, by rw [← HN.out, HE.out], rfl, HB2.out⟩
    ·have HT : Hid (sumTo (sumV l) (usOf l n) (kidP l n (j + 1)) = sumTo (sumV l) (usOf l n) (kidP l n j)) := show sumTo _ _ _ = _ by rw [kidP_no ha e]
     have e' : (a.pa == (n : Int)) = false := by simp [e]
     have HB2 : Hid _ := hB
     clear hac ha hB x0
     obtain ⟨T, hT⟩ : ∃ T, sumTo (sumV l) (usOf l n) (kidP l n j) = T := ⟨_, rfl⟩
     rw [hT]
     have HT2 : Hid _ := hT
     clear hT
     go_wp2
     go_roundg (q - (j + 1))
     case measure => omega
     case rel => exact ⟨j + 1, by omega, by rw [HT.out, HT2.out], rfl, HB2.out⟩
   ·obtain rfl : j = q := by omega
    have HB2 : Hid _ := hB
    rw [← HS.out, HSS.out]
    clear hB x0
    go_wp2
    go_ret
    exact ⟨rfl, HB2.out⟩
end Go.Proofs.YtdkbmligaodpmaaGreatDoor
namespace Go.Proofs.YtdkbmligaodpmaaGreatDoor
open Go.RowKit Wd Tr Cg

def quV (b : Bool) (x y z most : Int) : Int := moV (if b then cl (x * y) z else x * y / z) most
theorem rquot_any (b : Bool) (x y z most : Int) (hx : Word x) (hy : Word y) (hz : Word z) (hm : Word most) (z0 : z ≠ 0) (w : World) :
  Calls Tryz.prog 133 #[.int .u64 x, .int .u64 y, .int .u64 z, .bool b, .int .u64 most] w fun e w' => e = .returned (.int .u64 (quV b x y z most)) ∧ Below w.heap.size w w' := by
 cases b
 ·exact rquot_dn x y z most hx hy hz hm z0 w
 ·exact rquot_up x y z most hx hy hz hm z0 w
def Sx (W : World) (k : Nat) (a b c d : Value) : Prop := W.cell? ⟨k, 0, none⟩ = some a ∧ W.cell? ⟨k, 1, none⟩ = some b ∧ W.cell? ⟨k, 2, none⟩ = some c ∧ W.cell? ⟨k, 3, none⟩ = some d
theorem Sx.below {W V : World} {k : Nat} {a b c d : Value} (h : Sx W k a b c d) (hb : Below W.heap.size W V) : Sx V k a b c d := ⟨keepC hb h.1, keepC hb h.2.1, keepC hb h.2.2.1, keepC hb h.2.2.2⟩
theorem Sx.new (W : World) (a b c d : Value) (t : TypeId) : Sx (W.alloc (.cells #[a, b, c, d] t)) W.heap.size a b c d := ⟨by simp, by simp, by simp, by simp⟩
def SxB (x : World) (k : Nat) (a b c d : Value) (w : World) : Prop := x.cell? ⟨k, 0, none⟩ = some a ∧ x.cell? ⟨k, 1, none⟩ = some b ∧ x.cell? ⟨k, 2, none⟩ = some c ∧ x.cell? ⟨k, 3, none⟩ = some d ∧ Below k w x
theorem SxB.keep {x y : World} {k : Nat} {a b c d : Value} {w : World} (hb : Below x.heap.size x y) (h : SxB x k a b c d w) : SxB y k a b c d w := ⟨keepC hb h.1, keepC hb h.2.1, keepC hb h.2.2.1, keepC hb h.2.2.2.1, h.2.2.2.2.trans (hb.mono (by have := World.block_lt_of_cell? x _ h.1; simp at this; omega))⟩
def SyB (x : World) (k : Nat) (a b c d : Value) (p : Addr) (v : Value) (w : World) : Prop := x.cell? ⟨k, 0, none⟩ = some a ∧ x.cell? ⟨k, 1, none⟩ = some b ∧ x.cell? ⟨k, 2, none⟩ = some c ∧ x.cell? ⟨k, 3, none⟩ = some d ∧ x.cell? p = some v ∧ Below k w x
theorem SyB.keep {x y : World} {k : Nat} {a b c d : Value} {p : Addr} {v : Value} {w : World} (hb : Below x.heap.size x y) (h : SyB x k a b c d p v w) : SyB y k a b c d p v w := ⟨keepC hb h.1, keepC hb h.2.1, keepC hb h.2.2.1, keepC hb h.2.2.2.1, keepC hb h.2.2.2.2.1, h.2.2.2.2.2.trans (hb.mono (by have := World.block_lt_of_cell? x _ h.1; simp at this; omega))⟩
structure EfOk (l : List Ac) (b : Bool) (W : Int) (E Uf : Nat → Int) : Prop where
 u : ∀ n, n < l.length → quV b (sumV l n) 9223372036854775808 W 9223372036854775808 = Uf n
 root : E 0 = Uf 0
 step : ∀ n, n < l.length → n ≠ 0 → E n = Uf n + quV b (E (up l n) - Uf n) (shOf l n) (tog l (up l n)) 18446744073709551615
 low : ∀ n, n < l.length → n ≠ 0 → 0 ≤ Uf n ∧ Uf n ≤ E (up l n)
 word : ∀ n, n < l.length → 0 ≤ E n ∧ E n ≤ 9223372036854775808
set_option maxHeartbeats 600000 in
set_option maxRecDepth 20000 in
theorem rieff_any {g o c h c2 : Nat} {l : List Ac} (hwu : Wu l) (hus : UsOk l) {W : Int} (hWw : Word W) (hW0 : W ≠ 0) {b : Bool} {E Uf : Nat → Int} (hE : EfOk l b W E Uf) : ∀ (d : Nat) {n : Nat} {w : World}, Acp w g o l → Wds w h (usOf l) l.length → n < l.length → Dep l d n →
  Calls Tryz.prog 93 #[.agg #[.slice (some ⟨g, o, none⟩) l.length c, .slice (some ⟨h, 0, none⟩) l.length c2, .int .u64 W, .bool b], .int .i64 (n : Int)] w fun e w' => e = .returned (.int .u64 (E n)) ∧ Below w.heap.size w w' := by
 intro d
 induction d with
 | zero =>
  intro n w hA hD hn hd
  obtain rfl : n = 0 := hd
  have HC1 : Hid (∀ x, Below w.heap.size w x → Calls Tryz.prog 91 #[.slice (some ⟨g, o, none⟩) l.length c, .slice (some ⟨h, 0, none⟩) l.length c2, .int .i64 ((0 : Nat) : Int)] x fun e w' => e = .returned (.int .u64 (sumV l 0)) ∧ Below x.heap.size x w') :=
   fun x hx => rsum_p hwu hus 5 (n := 0) (d := 0) (hA.below hx) (hD.below hx) hn rfl (by omega)
  have cU := rquot_any b (sumV l 0) 9223372036854775808 W 9223372036854775808 (sum_word hus 0) ⟨by omega, by omega⟩ hWw ⟨by omega, by omega⟩ hW0
  rw [hE.u 0 hn] at cU
  rw [hE.root]
  obtain ⟨a, ha, hac⟩ := hA.at hn
  have x1 := hac.1
  rw [root_at hwu ha] at x1
  simp only [Nat.zero_mul, Nat.add_zero] at x1
  have hl : (0 : Int) < l.length := by omega
  clear hac hA hD ha hE
  generalize sumV l 0 = S0 at *
  generalize Uf 0 = U0 at *
  generalize l.length = L at *
  have sx := Sx.new w (.slice (some ⟨g, o, none⟩) L c) (.slice (some ⟨h, 0, none⟩) L c2) (.int .u64 W) (.bool b) 153
  have B0 : Below w.heap.size w (w.alloc (.cells #[.slice (some ⟨g, o, none⟩) L c, .slice (some ⟨h, 0, none⟩) L c2, .int .u64 W, .bool b] 153)) := (Below.refl _ w).alloc (Nat.le_refl _) _
  go_enter Tryz.func93, Tryz.ntmps93
  go_upto_region 1 with fail
  have X1 : Hid (w.cell? ⟨g, o + 1, none⟩ = some (.int .i64 (-1))) := x1
  clear x1
  generalize w.alloc (.cells #[.slice (some ⟨g, o, none⟩) L c, .slice (some ⟨h, 0, none⟩) L c2, .int .u64 W, .bool b] 153) = w0 at *
  generalize hk : w.heap.size = k at *
  have HK : Hid (w.heap.size = k) := hk
  clear hk
  go_cut [5] (fun v wq => v = .int .u64 U0 ∧ Sx wq k (.slice (some ⟨g, o, none⟩) L c) (.slice (some ⟨h, 0, none⟩) L c2) (.int .u64 W) (.bool b) ∧ Below k w wq)
  case first =>
   have HS : Hid (SxB w0.drew k (.slice (some ⟨g, o, none⟩) L c) (.slice (some ⟨h, 0, none⟩) L c2) (.int .u64 W) (.bool b) w) := have y := sx.below (drew_belowI w0); ⟨y.1, y.2.1, y.2.2.1, y.2.2.2, B0.drew⟩
   have c1 := HC1.out w0.drew B0.drew
   clear B0 HC1 sx
   go_region_held3 (fun x => x.cell? ⟨k, 0, none⟩ = some (.slice (some ⟨g, o, none⟩) L c) ∧ x.cell? ⟨k, 1, none⟩ = some (.slice (some ⟨h, 0, none⟩) L c2) ∧ x.cell? ⟨k, 2, none⟩ = some (.int .u64 W) ∧ x.cell? ⟨k, 3, none⟩ = some (.bool b) ∧ Below k w x) (first | exact HS.out | exact SxB.keep (by assumption) (by assumption))
    (first
    | (go_at_call 91; refine c1.mono ?_; rintro e x ⟨rfl, hx⟩; have HX : Hid (Below w0.drew.heap.size w0.drew x) := hx)
    | (go_at_call 133; refine (cU _).mono ?_; rintro e y ⟨rfl, hy⟩; have HY : Hid (Below x.heap.size x y) := hy))
   all_goals
    go_wp2
    go_meet
    have hz := SxB.keep HY.out (SxB.keep HX.out HS.out)
    exact ⟨rfl, ⟨hz.1, hz.2.1, hz.2.2.1, hz.2.2.2.1⟩, hz.2.2.2.2⟩
  case rest =>
   obtain ⟨rfl, ⟨s0, s1, s2, s3⟩, B1⟩ := hcut
   have x1 := (B1.cell (p := ⟨g, o + 1, none⟩) (by have := World.block_lt_of_cell? w _ X1.out; rw [HK.out] at this; exact this)).trans X1.out
   go_wp2
   go_ret
   exact ⟨rfl, by rw [HK.out]; exact B1⟩
 | succ d ih =>
  intro n w hA hD hn hd
  have h0 : n ≠ 0 := hd.1
  have hul := hwu.up_lt hn
  have HC1 : Hid (∀ x, Below w.heap.size w x → Calls Tryz.prog 91 #[.slice (some ⟨g, o, none⟩) l.length c, .slice (some ⟨h, 0, none⟩) l.length c2, .int .i64 (n : Int)] x fun e w' => e = .returned (.int .u64 (sumV l n)) ∧ Below x.heap.size x w') :=
   fun x hx => rsum_p hwu hus 5 (n := n) (d := d + 1) (hA.below hx) (hD.below hx) hn hd (by omega)
  have cU := rquot_any b (sumV l n) 9223372036854775808 W 9223372036854775808 (sum_word hus n) ⟨by omega, by omega⟩ hWw ⟨by omega, by omega⟩ hW0
  rw [hE.u n hn] at cU
  have HC3 : Hid (∀ x, Below w.heap.size w x → Calls Tryz.prog 93 #[.agg #[.slice (some ⟨g, o, none⟩) l.length c, .slice (some ⟨h, 0, none⟩) l.length c2, .int .u64 W, .bool b], .int .i64 (up l n : Nat)] x fun e w' => e = .returned (.int .u64 (E (up l n))) ∧ Below x.heap.size x w') :=
   fun x hx => ih (hA.below hx) (hD.below hx) hul hd.2
  have HT : Hid (∀ x, Below w.heap.size w x → Calls Tryz.prog 134 #[.slice (some ⟨g, o, none⟩) l.length c, .int .i64 (up l n : Nat)] x fun e w' => e = .returned (.int .i64 (tog l (up l n))) ∧ w' = x) := fun x hx => rtog_p (hA.below hx) hwu (up l n)
  obtain ⟨a, ha, hac⟩ := hA.at hn
  have x1 := hac.1
  rw [up_at hwu ha h0] at x1
  have x2 := hac.2
  have hs := hwu.shOk n a ha
  have ht := tog_word hwu (up l n)
  have hst := sh_tog hwu hn h0
  have e1 := hE.step n hn h0
  have hlo := hE.low n hn h0
  have hw1 := hE.word n hn
  have hw2 := hE.word (up l n) hul
  rw [sh_of ha] at e1 hst
  have k1 : IntKind.u64.wrap a.sh = a.sh := by rw [IntKind.wrap_u64]; omega
  have k2 : IntKind.u64.wrap (tog l (up l n)) = tog l (up l n) := by rw [IntKind.wrap_u64]; omega
  have k3 : IntKind.u64.wrap (E (up l n) - Uf n) = E (up l n) - Uf n := by rw [IntKind.wrap_u64]; omega
  have k4 : IntKind.u64.wrap (Uf n + quV b (E (up l n) - Uf n) a.sh (tog l (up l n)) 18446744073709551615) = E n := by rw [← e1, IntKind.wrap_u64]; omega
  have cQ := rquot_any b (E (up l n) - Uf n) a.sh (tog l (up l n)) 18446744073709551615 ⟨by omega, by omega⟩ ⟨by omega, by omega⟩ ⟨by omega, by omega⟩ ⟨by omega, by omega⟩ (by omega)
  have hn' : (n : Int) < l.length := by omega
  have hp0 : ¬ ((up l n : Nat) : Int) < 0 := by omega
  have hp1 : 0 ≤ ((up l n : Nat) : Int) := by omega
  have hlt : ¬ E (up l n) < Uf n := by omega
  clear hA hD ha hs ht hst e1 hlo hw1 hw2 hac ih hd hn hul h0 hE
  generalize quV b (E (up l n) - Uf n) a.sh (tog l (up l n)) 18446744073709551615 = Q at *
  generalize E (up l n) = E1 at *
  generalize Uf n = U0 at *
  generalize tog l (up l n) = tg at *
  generalize sumV l n = S0 at *
  generalize E n = E2 at *
  generalize a.sh = sh at *
  generalize ((up l n : Nat) : Int) = pq at *
  generalize l.length = L at *
  have sx := Sx.new w (.slice (some ⟨g, o, none⟩) L c) (.slice (some ⟨h, 0, none⟩) L c2) (.int .u64 W) (.bool b) 153
  have B0 : Below w.heap.size w (w.alloc (.cells #[.slice (some ⟨g, o, none⟩) L c, .slice (some ⟨h, 0, none⟩) L c2, .int .u64 W, .bool b] 153)) := (Below.refl _ w).alloc (Nat.le_refl _) _
  go_enter Tryz.func93, Tryz.ntmps93
  go_upto_region 1 with fail
  have X1 : Hid (w.cell? ⟨g, o + n * 5 + 1, none⟩ = some (.int .i64 pq)) := x1
  have X2 : Hid (w.cell? ⟨g, o + n * 5 + 2, none⟩ = some (.int .i64 sh)) := x2
  clear x1 x2
  generalize w.alloc (.cells #[.slice (some ⟨g, o, none⟩) L c, .slice (some ⟨h, 0, none⟩) L c2, .int .u64 W, .bool b] 153) = w0 at *
  generalize hk : w.heap.size = k at *
  have HK : Hid (w.heap.size = k) := hk
  clear hk
  go_cut [5] (fun v wq => v = .int .u64 U0 ∧ Sx wq k (.slice (some ⟨g, o, none⟩) L c) (.slice (some ⟨h, 0, none⟩) L c2) (.int .u64 W) (.bool b) ∧ Below k w wq)
  case first =>
   have HS : Hid (SxB w0.drew k (.slice (some ⟨g, o, none⟩) L c) (.slice (some ⟨h, 0, none⟩) L c2) (.int .u64 W) (.bool b) w) := have y := sx.below (drew_belowI w0); ⟨y.1, y.2.1, y.2.2.1, y.2.2.2, B0.drew⟩
   have c1 := HC1.out w0.drew B0.drew
   clear B0 HC1 sx HC3 HT cQ k1 k2 k3 k4
   go_region_held3 (fun x => x.cell? ⟨k, 0, none⟩ = some (.slice (some ⟨g, o, none⟩) L c) ∧ x.cell? ⟨k, 1, none⟩ = some (.slice (some ⟨h, 0, none⟩) L c2) ∧ x.cell? ⟨k, 2, none⟩ = some (.int .u64 W) ∧ x.cell? ⟨k, 3, none⟩ = some (.bool b) ∧ Below k w x) (first | exact HS.out | exact SxB.keep (by assumption) (by assumption))
    (first
    | (go_at_call 91; refine c1.mono ?_; rintro e x ⟨rfl, hx⟩; have HX : Hid (Below w0.drew.heap.size w0.drew x) := hx)
    | (go_at_call 133; refine (cU _).mono ?_; rintro e y ⟨rfl, hy⟩; have HY : Hid (Below x.heap.size x y) := hy))
   all_goals
    go_wp2
    go_meet
    have hz := SxB.keep HY.out (SxB.keep HX.out HS.out)
    exact ⟨rfl, ⟨hz.1, hz.2.1, hz.2.2.1, hz.2.2.2.1⟩, hz.2.2.2.2⟩
  case rest =>
   obtain ⟨rfl, ⟨s0, s1, s2, s3⟩, B1⟩ := hcut
   have hgk : g < k := by have := World.block_lt_of_cell? w _ X1.out; rw [HK.out] at this; exact this
   have x1 := (B1.cell (p := ⟨g, o + n * 5 + 1, none⟩) hgk).trans X1.out
   clear HC1 cU sx B0
   go_wp2_with fail
   refine (HC3.out _ B1).mono ?_
   rintro e w3 ⟨rfl, hb3⟩
   have B3 := B1.trans (hb3.mono (by have := B1.size; have := HK.out; omega))
   have HS3 : Hid (SyB w3.drew k (.slice (some ⟨g, o, none⟩) L c) (.slice (some ⟨h, 0, none⟩) L c2) (.int .u64 W) (.bool b) ⟨g, o + n * 5 + 2, none⟩ (.int .i64 sh) w) := ⟨keepC hb3 s0, keepC hb3 s1, keepC hb3 s2, keepC hb3 s3, (B3.cell (p := ⟨g, o + n * 5 + 2, none⟩) hgk).trans X2.out, B3.drew⟩
   have cT := HT.out
   clear hb3 B1 s0 s1 s2 s3 x1 HC3 HT
   go_upto_region 8 with fail
   go_region_held3 (fun x => x.cell? ⟨k, 0, none⟩ = some (.slice (some ⟨g, o, none⟩) L c) ∧ x.cell? ⟨k, 1, none⟩ = some (.slice (some ⟨h, 0, none⟩) L c2) ∧ x.cell? ⟨k, 2, none⟩ = some (.int .u64 W) ∧ x.cell? ⟨k, 3, none⟩ = some (.bool b) ∧ x.cell? ⟨g, o + n * 5 + 2, none⟩ = some (.int .i64 sh) ∧ Below k w x) (first | exact HS3.out | exact SyB.keep (by assumption) (by assumption))
    (first
    | (go_at_call 134; refine (cT w3.drew HS3.out.2.2.2.2.2).mono ?_; rintro e x ⟨rfl, rfl⟩)
    | (go_at_call 133; refine (cQ _).mono ?_; rintro e y ⟨rfl, hy⟩; have HY : Hid (Below w3.drew.heap.size w3.drew y) := hy))
   all_goals
    have hz := SyB.keep HY.out HS3.out
    clear HY HS3
    go_wp2
    go_ret
    exact ⟨by simp [*], by rw [HK.out]; exact hz.2.2.2.2.2⟩
end Go.Proofs.YtdkbmligaodpmaaGreatDoor
namespace Go.Proofs.YtdkbmligaodpmaaGreatDoor
open Go.RowKit Wd Tr Cg

theorem mo_le {q most : Int} (h : q ≤ most) : moV q most = q := by unfold moV; rw [if_neg (by omega)]
theorem efok_dn {l : List Ac} (hwu : Wu l) (hus : UsOk l) {W : Int} (hW : WOk l W) : EfOk l false W (efV l W) (uV l W) where
 u := fun n hn => mo_le (u_word hus hW.word (hW.most n hn)).2
 root := ef_root l W
 step := fun n hn h0 => by
  have hst := sh_tog hwu hn h0
  have hf := ef_falls hwu hus hW hn h0
  have hw := ef_word hwu hus hW (hwu.up_lt hn)
  have hu := ef_word hwu hus hW hn
  have hpq := part_of (x := efV l W (up l n) - uV l W n) (by omega) hst.1 hst.2
  rw [ef_up hwu W hn h0]
  exact congrArg _ (mo_le (by show (efV l W (up l n) - uV l W n) * shOf l n / tog l (up l n) ≤ _; omega)).symm
 low := fun n hn h0 => ⟨(ef_word hwu hus hW hn).1, (ef_falls hwu hus hW hn h0).1⟩
 word := fun n hn => by have := ef_word hwu hus hW hn; omega
theorem efok_up {l : List Ac} (hwu : Wu l) (hus : UsOk l) {W : Int} (hW0 : 0 < W) : EfOk l true W (ehV l W) (uH l W) where
 u := fun n _ => by
  show moV (cl (sumV l n * 9223372036854775808) W) 9223372036854775808 = _
  unfold moV uH
  split <;> split <;> omega
 root := eh_root l W
 step := fun n hn h0 => by
  have hst := sh_tog hwu hn h0
  have hf := eh_falls hwu hus hW0 hn h0
  have hw := eh_word hwu hus hW0 (hwu.up_lt hn)
  have hu := eh_word hwu hus hW0 hn
  have hpq := cl_part (x := ehV l W (up l n) - uH l W n) (by omega) hst.1 hst.2
  rw [eh_up hwu W hn h0]
  exact congrArg _ (mo_le (by show cl ((ehV l W (up l n) - uH l W n) * shOf l n) (tog l (up l n)) ≤ _; omega)).symm
 low := fun n hn h0 => ⟨(eh_word hwu hus hW0 hn).1, eh_falls hwu hus hW0 hn h0⟩
 word := fun n hn => by have := eh_word hwu hus hW0 hn; omega
end Go.Proofs.YtdkbmligaodpmaaGreatDoor
namespace Go.Proofs.YtdkbmligaodpmaaGreatDoor
open Go.RowKit Wd Tr Cg

set_option maxHeartbeats 1000000 in
set_option maxRecDepth 20000 in
theorem rxp_dn {e n d : Int} (he : 0 ≤ e) (he' : e ≤ 9223372036854775808) (hn : 1 ≤ n) (hnd : n ≤ d) (hn4 : n ≤ 281474976710656) (hd : d < 18446744073709551616) (w : World) :
  Calls Tryz.prog 72 #[.int .u64 e, .int .u64 n, .int .u64 d, .bool false] w fun r w' => r = .returned (.int .u64 (pdV e n d)) ∧ Below w.heap.size w w' := by
 obtain ⟨a1, a2, a3⟩ := at_pos hn hnd hd
 have a4 : atN n d < 18446744073709551616 := by unfold atN; split <;> omega
 have m1 := rmuln n 4096 ⟨by omega, by omega⟩ ⟨by omega, by omega⟩
 have m2 := rof_num d ⟨by omega, hd⟩
 have m3 := rcmp_num (n * 4096) d
 unfold nu at m3
 have hcm : (cmpV (n * 4096) d < 0 ∧ atN n d = 1 ∧ atD n d = 4096) ∨ (¬ cmpV (n * 4096) d < 0 ∧ atN n d = n ∧ atD n d = d) := by
  unfold cmpV atN atD
  by_cases h : n * 4096 < d
  ·rw [if_pos h, if_pos h, if_pos h]; exact .inl ⟨by omega, rfl, rfl⟩
  ·rw [if_neg h, if_neg h, if_neg h]
   refine .inr ⟨?_, rfl, rfl⟩
   split <;> omega
 obtain ⟨N, hN⟩ : ∃ N, atN n d = N := ⟨_, rfl⟩
 obtain ⟨D, hD⟩ : ∃ D, atD n d = D := ⟨_, rfl⟩
 have hpv : pdV e n d = narV (e * D / N / 2147483648) := by
  unfold pdV rawD
  rw [hN, hD, Int.ediv_ediv_of_nonneg (by omega), Int.ediv_ediv_of_nonneg (by omega), Int.mul_comm N]
 rw [hN] at a1 a4 hcm
 rw [hD] at a2 a3 hcm
 obtain ⟨p0, p1⟩ := Tr.prod_bound he he' a2 a3
 have we : Word e := ⟨he, by omega⟩
 have wD : Word D := ⟨by omega, a3⟩
 have wN : Word N := ⟨by omega, a4⟩
 have wT : Word 2147483648 := ⟨by omega, by omega⟩
 have m4 := rmuln e D we wD
 have nX : Num (e * D) := ⟨p0, by unfold top; omega⟩
 have m5 := rdiv_yes (e * D) N nX wN (by omega)
 obtain ⟨_, _, _, nQ, _⟩ := div_facts nX wN (by omega)
 have m6 := rdiv_yes (e * D / N) 2147483648 nQ wT (by omega)
 obtain ⟨_, _, _, nR, _⟩ := div_facts nQ wT (by omega)
 rw [hpv]
 have HCM : Hid _ := hcm
 have HNR : Hid (Num (e * D / N / 2147483648)) := nR
 clear nQ nX p0 p1 we wD wN wT a1 a2 a3 a4 hpv hcm hN hD he he' hn hnd hn4 hd nR
 generalize e * D / N / 2147483648 = R1 at *
 generalize e * D / N = Q1 at *
 go_enter Tryz.func72, Tryz.ntmps72
 go_wp2_with fail
 refine (m1 _).mono ?_
 rintro _ w1 ⟨rfl, hb1⟩
 go_wp2_with fail
 refine (m2 _).mono ?_
 rintro _ w2 ⟨rfl, hb2⟩
 go_wp2_with fail
 refine (m3 _).mono ?_
 rintro _ w3 ⟨rfl, hb3⟩
 have HB3 : Hid (Below w.heap.size w w3) := (hb1.trans (hb2.mono hb1.size)).trans (hb3.mono (by have := hb1.size; have := hb2.size; omega))
 clear hb1 hb2 hb3 m1 m2 m3
 go_upto_if 19 with fail
 go_cut [1, 2] (fun x y wq => x = .int .u64 N ∧ y = .int .u64 D ∧ Below w.heap.size w wq)
 case first =>
  rcases HCM.out with ⟨h1, h2, h3⟩ | ⟨h1, h2, h3⟩
  ·have H2 : Hid _ := h2
   have H3 : Hid _ := h3
   clear h2 h3 HCM
   go_wp2
   go_meet
   exact ⟨by rw [H2.out], by rw [H3.out], HB3.out⟩
  ·have H2 : Hid _ := h2
   have H3 : Hid _ := h3
   clear h2 h3 HCM
   go_wp2
   go_meet
   exact ⟨by rw [H2.out], by rw [H3.out], HB3.out⟩
 case rest =>
 clear HB3
 obtain ⟨rfl, rfl, HB3⟩ := hcut
 clear HCM
 go_wp2_with fail
 refine (m4 _).mono ?_
 rintro _ w4 ⟨rfl, hb4⟩
 go_wp2_with fail
 refine (m5 _).mono ?_
 rintro _ w5 ⟨rfl, hb5⟩
 have B5 : Below w.heap.size w w5 := (HB3.trans (hb4.mono HB3.size)).trans (hb5.mono (by have := HB3.size; have := hb4.size; omega))
 have B6 := B5.alloc (o := .cells #[.int .u64 (hiW Q1), .int .u64 (loW Q1)] 68) B5.size
 obtain ⟨q0, q1, _, _⟩ := Bx.new w5 (.int .u64 (hiW Q1)) (.int .u64 (loW Q1)) 68
 clear hb4 hb5 m4 m5 B5 HB3
 go_upto_region 5 with fail
 generalize w5.alloc (.cells #[.int .u64 (hiW Q1), .int .u64 (loW Q1)] 68) = w6 at *
 go_wp2_with fail
 refine (m6 _).mono ?_
 rintro _ w7 ⟨rfl, hb7⟩
 have B7 := B6.trans (hb7.mono B6.size)
 have B8 := B7.alloc (o := .cells #[.int .u64 (hiW R1), .int .u64 (loW R1)] 68) B7.size
 obtain ⟨r0, r1, _, _⟩ := Bx.new w7 (.int .u64 (hiW R1)) (.int .u64 (loW R1)) 68
 clear hb7 m6 B6 B7 q0 q1
 go_upto_region 8 with fail
 generalize w7.alloc (.cells #[.int .u64 (hiW R1), .int .u64 (loW R1)] 68) = w8 at *
 by_cases hh : hiW R1 = 0
 ·rw [hh] at r0
  have HE : Hid (narV R1 = loW R1) := (nar_hi HNR.out hh).1
  clear hh HNR
  go_wp2
  go_ret
  exact ⟨by rw [HE.out]; rfl, B8⟩
 ·have hp : 0 < hiW R1 := by have := (hi_word HNR.out).1; omega
  have HE : Hid (narV R1 = 18446744073709551615) := (nar_no HNR.out hh).1
  clear hh HNR
  go_wp2
  go_ret
  exact ⟨by rw [HE.out]; rfl, B8⟩
end Go.Proofs.YtdkbmligaodpmaaGreatDoor
