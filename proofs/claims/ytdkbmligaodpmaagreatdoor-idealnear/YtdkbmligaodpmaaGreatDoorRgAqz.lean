/-
 LAYER 13: the reference (backfillref13): Together, part, Sum, root, used, effective.
-/
import Derived.Test.YtdkbmligaodpmaaGreatDoorXsfz
import Derived.Test.YtdkbmligaodpmaaGreatDoorXrrz
import Derived.Test.YtdkbmligaodpmaaGreatDoorXldz
namespace Go.Proofs.YtdkbmligaodpmaaGreatDoor
open Go.RowKit Wd Tr

def Acs (W : World) (g o : Nat) (l : List Ac) : Prop := ∀ k a, l[k]? = some a → AcAt W g (o + k * 5) a
theorem Acs.below {W W' : World} {g o : Nat} {l : List Ac} (h : Acs W g o l) (b : Below W.heap.size W W') : Acs W' g o l := fun k a ha => (h k a ha).below b
theorem Acs.at {W : World} {g o : Nat} {l : List Ac} (h : Acs W g o l) {n : Nat} (hn : n < l.length) : ∃ a, l[n]? = some a ∧ AcAt W g (o + n * 5) a := ⟨_, List.getElem?_eq_getElem hn, h n _ (List.getElem?_eq_getElem hn)⟩
set_option maxHeartbeats 1000000 in
set_option maxRecDepth 20000 in
theorem rtog_any {w : World} {g o c : Nat} {l : List Ac} (hA : Acs w g o l) (hwu : Wu l) (p : Nat) :
  Calls Tryz.prog 134 #[.slice (some ⟨g, o, none⟩) l.length c, .int .i64 (p : Int)] w fun e w' => e = .returned (.int .i64 (tog l p)) ∧ w' = w := by
 obtain ⟨q, hq⟩ : ∃ q, l.length = q := ⟨_, rfl⟩
 have HQ : Hid (l.length = q) := hq
 have HA : Hid (Acs w g o l) := hA
 have HW : Hid (Wu l) := hwu
 have hl := hwu.len
 rw [hq] at hl ⊢
 unfold tog
 rw [hq]
 clear hq hA hwu
 go_enter Tryz.func134, Tryz.ntmps134
 go_wp2
 go_loopg [5, 6] q (fun gk s x wr => ∃ j : Nat, j + gk = q ∧ s = .int .i64 (togN l p j) ∧ x = .int .i64 j ∧ w = wr)
 case atStart => exact ⟨0, by omega, rfl, rfl, rfl⟩
 case round =>
  obtain ⟨j, hj, rfl, rfl, rfl⟩ := hrel
  by_cases hlt : j < q
  ·have hlt' : (j : Int) < q := by omega
   obtain ⟨a, ha, hac⟩ := Acs.at HA.out (n := j) (by rw [HQ.out]; exact hlt)
   have x1 := hac.pa
   have x2 := hac.sh
   have hb := togN_word HW.out p (k := j) (by omega)
   have hs := HW.out.shOk j a ha
   have hin := togN_yes (l := l) (p := p) ha
   have hno := togN_no (l := l) (p := p) ha
   by_cases e : a.pa = p
   ·have HT : Hid (togN l p (j + 1) = togN l p j + a.sh) := hin e
    have ew : IntKind.i64.wrap (togN l p j + a.sh) = togN l p j + a.sh := by rw [IntKind.wrap_i64]; omega
    rw [e] at x1
    clear hac ha hb hs hin hno e
    obtain ⟨T, hT⟩ : ∃ T, togN l p j = T := ⟨_, rfl⟩
    rw [hT] at ew ⊢
    have HT2 : Hid _ := hT
    clear hT
    go_wp2
    go_roundg (q - (j + 1))
    case measure => omega
    case rel => exact ⟨j + 1, by omega, by rw [HT.out, HT2.out], rfl, rfl⟩
   ·have HT : Hid (togN l p (j + 1) = togN l p j) := hno e
    have e' : (a.pa == (p : Int)) = false := by simp [e]
    clear hac ha hb hs hin hno
    obtain ⟨T, hT⟩ : ∃ T, togN l p j = T := ⟨_, rfl⟩
    rw [hT]
    have HT2 : Hid _ := hT
    clear hT
    go_wp2
    go_roundg (q - (j + 1))
    case measure => omega
    case rel => exact ⟨j + 1, by omega, by rw [HT.out, HT2.out], rfl, rfl⟩
  ·obtain rfl : j = q := by omega
   go_wp2
   go_ret
   exact ⟨rfl, rfl⟩
theorem up_at {l : List Ac} (h : Wu l) {n : Nat} {a : Ac} (ha : l[n]? = some a) (h0 : n ≠ 0) : a.pa = (up l n : Nat) := by
 have := h.row ha (by omega)
 rw [up_of ha]
 omega
theorem root_at {l : List Ac} (h : Wu l) {a : Ac} (ha : l[0]? = some a) : a.pa = -1 := by
 obtain ⟨b, hb, h1, _⟩ := h.root
 rw [ha] at hb
 cases hb
 exact h1
set_option maxHeartbeats 1000000 in
set_option maxRecDepth 20000 in
theorem rprt_any {g o c : Nat} {l : List Ac} (hwu : Wu l) : ∀ (d : Nat) {n : Nat} {w : World}, Acs w g o l → n < l.length → Dep l d n →
  Calls Tryz.prog 121 #[.slice (some ⟨g, o, none⟩) l.length c, .int .i64 (n : Int)] w fun e w' => e = .returned (.tuple #[.int .u64 (numV l n), .int .u64 (denV l n)]) ∧ Below w.heap.size w w' := by
 intro d
 induction d with
 | zero =>
  intro n w hA hn hd
  obtain rfl : n = 0 := hd
  obtain ⟨a, ha, hac⟩ := hA.at hn
  have x1 := hac.pa
  rw [root_at hwu ha] at x1
  rw [num_root, den_root]
  have hl : (0 : Int) < l.length := by omega
  simp only [Nat.zero_mul, Nat.add_zero] at x1
  clear hac hA ha
  go_enter Tryz.func121, Tryz.ntmps121
  go_wp2
  go_ret2
  exact ⟨rfl, Below.refl _ _⟩
 | succ d ih =>
  intro n w hA hn hd
  obtain ⟨a, ha, hac⟩ := hA.at hn
  have h0 : n ≠ 0 := hd.1
  have hul := hwu.up_lt hn
  have hl64 := hwu.len
  have c1 := ih (w := w) hA hul hd.2
  have HT : Hid (∀ x, Below w.heap.size w x → Calls Tryz.prog 134 #[.slice (some ⟨g, o, none⟩) l.length c, .int .i64 (up l n : Nat)] x fun e w' => e = .returned (.int .i64 (tog l (up l n))) ∧ w' = x) := fun x hx => rtog_any (hA.below hx) hwu (up l n)
  have x1 := hac.pa
  rw [up_at hwu ha h0] at x1
  have x2 := hac.sh
  have hs := hwu.shOk n a ha
  have hb := den_word hwu hn
  have hb' := den_word hwu hul
  have ht := tog_word hwu (up l n)
  have e1 := num_up hwu hn h0
  have e2 := den_up hwu hn h0
  rw [sh_of ha] at e1
  have k1 : IntKind.u64.wrap a.sh = a.sh := by rw [IntKind.wrap_u64]; omega
  have k2 : IntKind.u64.wrap (tog l (up l n)) = tog l (up l n) := by rw [IntKind.wrap_u64]; omega
  have k3 : IntKind.u64.wrap (numV l (up l n) * a.sh) = numV l n := by rw [← e1, IntKind.wrap_u64]; omega
  have k4 : IntKind.u64.wrap (denV l (up l n) * tog l (up l n)) = denV l n := by rw [← e2, IntKind.wrap_u64]; omega
  have hn' : (n : Int) < l.length := by omega
  have hp0 : ¬ ((up l n : Nat) : Int) < 0 := by omega
  have hp1 : 0 ≤ ((up l n : Nat) : Int) := by omega
  clear hA ha hs hb hb' ht e1 e2 hac ih hd hn hul hl64 h0
  generalize tog l (up l n) = tg at *
  generalize numV l (up l n) = N1 at *
  generalize denV l (up l n) = D1 at *
  generalize numV l n = N2 at *
  generalize denV l n = D2 at *
  generalize a.sh = sh at *
  generalize ((up l n : Nat) : Int) = pq at *
  generalize l.length = L at *
  go_enter Tryz.func121, Tryz.ntmps121
  go_wp2_with fail
  refine c1.mono ?_
  rintro e w1 ⟨rfl, hb1⟩
  have y1 := keepC hb1 x1
  have y2 := keepC hb1 x2
  go_upto_region 4 with fail
  go_quiet ((go_at_call 134; exact Calls.quiet_of_same (HT.out _ (below_drewN hb1 _))))
  go_wp2
  go_ret2
  exact ⟨rfl, below_drewN hb1 _⟩
def Wds (W : World) (h : Nat) (f : Nat → Int) (n : Nat) : Prop := ∀ k, k < n → W.cell? ⟨h, k, none⟩ = some (.int .u64 (f k))
theorem Wds.below {W W' : World} {h n : Nat} {f : Nat → Int} (x : Wds W h f n) (b : Below W.heap.size W W') : Wds W' h f n := fun k hk => cellB b (x k hk)
set_option maxHeartbeats 1000000 in
set_option maxRecDepth 20000 in
theorem rsum_any {g o c h c2 : Nat} {l : List Ac} (hwu : Wu l) (hus : UsOk l) : ∀ (f : Nat) {n d : Nat} {w : World}, Acs w g o l → Wds w h (usOf l) l.length → n < l.length → Dep l d n → 4 < d + f →
  Calls Tryz.prog 91 #[.slice (some ⟨g, o, none⟩) l.length c, .slice (some ⟨h, 0, none⟩) l.length c2, .int .i64 (n : Int)] w fun e w' => e = .returned (.int .u64 (sumV l n)) ∧ Below w.heap.size w w' := by
 intro f
 induction f with
 | zero =>
  intro n d w _ _ hn hd hf
  obtain ⟨e, h1, h2⟩ := hwu.deep hn
  have := dep_uniq hd h2
  omega
 | succ f ih =>
  intro n d w hA hW hn hd hf
  obtain ⟨q, hq⟩ : ∃ q, l.length = q := ⟨_, rfl⟩
  have HQ : Hid (l.length = q) := hq
  have HA : Hid (Acs w g o l) := hA
  have HWd : Hid (Wds w h (usOf l) l.length) := hW
  have HW : Hid (Wu l) := hwu
  have HU : Hid (UsOk l) := hus
  have HIH : Hid (∀ k x, k ∈ kidsV l n → Below w.heap.size w x → Calls Tryz.prog 91 #[.slice (some ⟨g, o, none⟩) l.length c, .slice (some ⟨h, 0, none⟩) l.length c2, .int .i64 (k : Int)] x fun e w' => e = .returned (.int .u64 (sumV l k)) ∧ Below x.heap.size x w') :=
   fun k x hk hx => ih (d := d + 1) (hA.below hx) (hW.below hx) (hwu.kid hk).2.1 (hwu.kid_dep hk hd) (by omega)
  have hl := hwu.len
  have x0 := hW n hn
  have HS : Hid (sumV l n = sumTo (sumV l) (usOf l n) (kidP l n q)) := show sumV l n = _ by rw [sum_kids hwu hn, ← hq]; rfl
  rw [hq] at hl hn ⊢
  obtain ⟨S, hS⟩ : ∃ S, sumV l n = S := ⟨_, rfl⟩
  have HSS : Hid (sumV l n = S) := hS
  have hn' : (n : Int) < q := by omega
  rw [hS]
  clear hq hA hW hwu hus ih hS hd hf
  go_enter Tryz.func91, Tryz.ntmps91
  go_wp2
  go_loopg [7, 8] q (fun gk s x wr => ∃ j : Nat, j + gk = q ∧ s = .int .u64 (sumTo (sumV l) (usOf l n) (kidP l n j)) ∧ x = .int .i64 j ∧ Below w.heap.size w wr)
  case atStart => exact ⟨0, by omega, rfl, rfl, Below.refl _ _⟩
  case round =>
   obtain ⟨j, hj, rfl, rfl, hB⟩ := hrel
   by_cases hlt : j < q
   ·have hlt' : (j : Int) < q := by omega
    obtain ⟨a, ha, hac⟩ := Acs.at (Acs.below HA.out hB) (n := j) (by rw [HQ.out]; exact hlt)
    have x1 := hac.pa
    by_cases e : a.pa = n
    ·have hk : j ∈ kidsV l n := mem_kids.2 ⟨a, ha, e⟩
     have HT : Hid _ := kidP_yes (p := n) ha e
     have hsw : Word (sumTo (sumV l) (usOf l n) (kidP l n j)) := sumTo_word (us_word HU.out n) (fun k _ => sum_word HU.out k)
     have c1 := HIH.out j wr hk hB
     have c2 := rqadd_any (sumTo (sumV l) (usOf l n) (kidP l n j)) (sumV l j) hsw (sum_word HU.out j)
     have HE : Hid (narV (sumTo (sumV l) (usOf l n) (kidP l n j) + sumV l j) = sumTo (sumV l) (usOf l n) (kidP l n (j + 1))) := show narV _ = _ by rw [HT.out, sumTo_last]; rfl
     rw [e] at x1
     rw [HQ.out] at c1
     clear hac ha e hk hsw HT x0
     generalize sumTo (sumV l) (usOf l n) (kidP l n j) = T at *
     generalize sumV l j = Sj at *
     obtain ⟨NT, hNT⟩ : ∃ NT, narV (T + Sj) = NT := ⟨_, rfl⟩
     rw [hNT] at c2
     have HN : Hid _ := hNT
     clear hNT
     go_wp2_with fail
     refine c1.mono ?_
     rintro e w1 ⟨rfl, hb1⟩
     have B1 := hB.trans (hb1.mono hB.size)
     go_wp2_with fail
     refine (c2 _).mono ?_
     rintro e w2 ⟨rfl, hb2⟩
     have HB2 : Hid _ := B1.trans (hb2.mono B1.size)
     clear B1 hb1 hb2 hB
     go_wp2
     go_roundg (q - (j + 1))
     case measure => omega
     case rel => exact ⟨j + 1, by omega, by rw [← HN.out, HE.out], rfl, HB2.out⟩
    ·have HT : Hid (sumTo (sumV l) (usOf l n) (kidP l n (j + 1)) = sumTo (sumV l) (usOf l n) (kidP l n j)) := show sumTo _ _ _ = _ by rw [kidP_no ha e]
     have e' : (a.pa == (n : Int)) = false := by simp [e]
     have HB2 : Hid _ := hB
     clear hac ha hB x0
     obtain ⟨T, hT⟩ : ∃ T, sumTo (sumV l) (usOf l n) (kidP l n j) = T := ⟨_, rfl⟩
     rw [hT]
     have HT2 : Hid _ := hT
     clear hT
     go_wp2
     go_roundg (q - (j + 1))
     case measure => omega
     case rel => exact ⟨j + 1, by omega, by rw [HT.out, HT2.out], rfl, HB2.out⟩
   ·obtain rfl : j = q := by omega
    have HB2 : Hid _ := hB
    rw [← HS.out, HSS.out]
    clear hB x0
    go_wp2
    go_ret
    exact ⟨rfl, HB2.out⟩
set_option maxHeartbeats 400000 in
set_option maxRecDepth 20000 in
theorem rroot_any {w : World} {g o c : Nat} {l : List Ac} (hA : Acs w g o l) (hwu : Wu l) :
  Calls Tryz.prog 119 #[.slice (some ⟨g, o, none⟩) l.length c] w fun e w' => e = .returned (.int .i64 0) ∧ w = w' := by
 obtain ⟨a, ha, hac⟩ := hA.at hwu.pos
 have x1 := hac.pa
 rw [root_at hwu ha] at x1
 simp only [Nat.zero_mul, Nat.add_zero] at x1
 have hl : (0 : Int) < l.length := by have := hwu.pos; omega
 clear hac hA ha
 generalize l.length = L at *
 go_enter Tryz.func119, Tryz.ntmps119
 go_wp2
 refine wp_loop_rounds 1 ?_
 rw [rounds_succ]
 go_wp2
 go_ret
 exact ⟨rfl, rfl⟩
theorem rdivn (u b : Int) (hu : Num u) (hb : Word b) (w : World) :
  Calls Tryz.prog 27 #[.agg #[.int .u64 (hiW u), .int .u64 (loW u)], .int .u64 b] w fun e w' =>
   e = .returned (.tuple #[.agg #[.int .u64 (hiW (divV u b)), .int .u64 (loW (divV u b))], .int .u64 (remV u b), .bool (divB b)]) ∧ Below w.heap.size w w' := by
 have c := rdiv_any (hiW u) (loW u) b (hi_word hu) (lo_word u) hb w
 rw [val_words] at c
 exact c
theorem rmuln (x y : Int) (hx : Word x) (hy : Word y) (w : World) :
  Calls Tryz.prog 25 #[.int .u64 x, .int .u64 y] w fun e w' => e = .returned (.agg #[.int .u64 (hiW (x * y)), .int .u64 (loW (x * y))]) ∧ Below w.heap.size w w' := rmul_any x y hx hy w
set_option maxHeartbeats 400000 in
set_option maxRecDepth 20000 in
theorem rused_any {s d : Int} (hs : Word s) (hd : Word d) (hq : s * 9223372036854775808 / d < 18446744073709551616) (w : World) :
  Calls Tryz.prog 152 #[.int .u64 s, .int .u64 d] w fun e w' => e = .returned (.int .u64 (s * 9223372036854775808 / d)) ∧ Below w.heap.size w w' := by
 have wo : Word 9223372036854775808 := ⟨by omega, by omega⟩
 have c1 := rmuln s 9223372036854775808 hs wo
 have c2 := rdivn (s * 9223372036854775808) d (mul_num hs wo) hd
 have hq0 : 0 ≤ s * 9223372036854775808 / d := Int.ediv_nonneg (mul_num hs wo).1 hd.1
 have e : loW (divV (s * 9223372036854775808) d) = s * 9223372036854775808 / d := by rw [divV_eq]; exact (hi_small ⟨hq0, hq⟩).2
 rw [e] at c2
 clear e hq hq0
 generalize s * 9223372036854775808 / d = q at *
 generalize hiW (divV (s * 9223372036854775808) d) = H at *
 generalize remV (s * 9223372036854775808) d = R at *
 generalize divB d = B at *
 generalize s * 9223372036854775808 = u at *
 clear hs hd wo
 go_enter Tryz.func152, Tryz.ntmps152
 go_wp2_with fail
 refine (c1 _).mono ?_
 rintro e w1 ⟨rfl, hb1⟩
 go_wp2_with fail
 refine (c2 _).mono ?_
 rintro e w2 ⟨rfl, hb2⟩
 go_wp2
 go_ret
 exact ⟨rfl, (hb1.trans (hb2.mono hb1.size)).alloc (by have := hb1.size; have := hb2.size; omega) _⟩
end Go.Proofs.YtdkbmligaodpmaaGreatDoor
