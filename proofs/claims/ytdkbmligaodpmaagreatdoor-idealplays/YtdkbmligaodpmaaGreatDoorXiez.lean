/-
 LAYER 16: package ideal: part; what a charge and a fade do to an account's bounds, where they lie (made by gen16e.py).
 LAYER 16: package ideal: part; a fade of an account's bounds (made by gen16e.py).
 LAYER 16: package ideal: a fade of an account's bounds (made by gen16e.py).
-/
import Derived.Test.YtdkbmligaodpmaaGreatDoorXiaz
import Derived.Test.YtdkbmligaodpmaaGreatDoorXpgz
namespace Go.Proofs.YtdkbmligaodpmaaGreatDoor
open Go.RowKit Wd Tr

theorem cell_of {w : World} {g o : Nat} {cs : Array Value} {e : TypeId} {v : Value} (h : w.heap[g]? = some (.cells cs e (0, 0))) (hv : cs[o]? = some v) : w.cell? ⟨g, o, none⟩ = some v ∧ w.frozen? ⟨g, o, none⟩ = false := by
 constructor
 ·unfold World.cell?; rw [h]; simpa using hv
 ·unfold World.frozen?; rw [h]; simp
def put2 (cs : Array Value) (o : Nat) (u : Int) : Array Value := (cs.setIfInBounds o (.int .u64 (hiW u))).setIfInBounds (o + 1) (.int .u64 (loW u))
def put4 (cs : Array Value) (o : Nat) (b : Bd) : Array Value := put2 (put2 cs o b.lo) (o + 2) b.hi
structure BdAt (cs : Array Value) (o : Nat) (b : Bd) : Prop where
 a0 : cs[o]? = some (.int .u64 (hiW b.lo))
 a1 : cs[o + 1]? = some (.int .u64 (loW b.lo))
 a2 : cs[o + 2]? = some (.int .u64 (hiW b.hi))
 a3 : cs[o + 2 + 1]? = some (.int .u64 (loW b.hi))
theorem put2_far {cs : Array Value} {o k : Nat} {u : Int} (h : k ≠ o) (h1 : k ≠ o + 1) : (put2 cs o u)[k]? = cs[k]? := by
 unfold put2
 rw [Array.getElem?_setIfInBounds_ne (by omega), Array.getElem?_setIfInBounds_ne (by omega)]
theorem more_words {n : Int} (h0 : 0 ≤ n) (h1 : n ≤ 256) : hiW (n * 18446744073709551616) = n ∧ loW (n * 18446744073709551616) = 0 ∧ Num (n * 18446744073709551616) ∧ IntKind.u64.wrap n = n := by
 refine ⟨by unfold hiW; omega, by unfold loW; omega, ⟨by omega, by unfold top; omega⟩, by rw [IntKind.wrap_u64]; omega⟩
theorem set_put2 {w : World} {g o : Nat} {cs : Array Value} {e : TypeId} (h : w.heap[g]? = some (.cells cs e (0, 0))) (u : Int) : ((w.setCell ⟨g, o, none⟩ (.int .u64 (hiW u))).setCell ⟨g, o + 1, none⟩ (.int .u64 (loW u))).heap[g]? = some (.cells (put2 cs o u) e (0, 0)) :=
 heap_setCell_same _ g (o + 1) _ e _ (heap_setCell_same w g o cs e _ h)
theorem Chg.two {w w1 : World} {g o p : Nat} {a b : Value} (h : Chg (fun j => j = g) w w1) : Chg (fun j => j = g) w ((w1.setCell ⟨g, o, none⟩ a).setCell ⟨g, p, none⟩ b) := (h.setCell _ _ (.inl rfl)).setCell _ _ (.inl rfl)
theorem heapK {w w1 : World} {g : Nat} {x : Obj} (h : w.heap[g]? = some x) (b : Below w.heap.size w w1) : w1.heap[g]? = some x := (b.block g (Array.getElem?_eq_some_iff.1 h).1).trans h
theorem drew_belowI (w : World) : Below w.heap.size w w.drew := ⟨rfl, rfl, rfl, Nat.le_refl _, fun _ _ => rfl⟩
set_option maxHeartbeats 1000000 in
set_option maxRecDepth 20000 in
theorem charge_any {w : World} {g o : Nat} {cs : Array Value} {e : TypeId} {b : Bd} (hb : w.heap[g]? = some (.cells cs e (0, 0))) (hc : BdAt cs o b) (hok : b.Ok) {n : Int} (h0 : 0 ≤ n) (h1 : n ≤ 256) :
  Calls Tryz.prog 42 #[.pointer (some ⟨g, o, none⟩), .int .i64 n] w fun r w' => r = .returned (.tuple #[]) ∧ w'.heap[g]? = some (.cells (put4 cs o (chB b n)) e (0, 0)) ∧ Chg (fun j => j = g) w w' := by
 obtain ⟨m1, m2, m3, m4⟩ := more_words h0 h1
 have c1 := add_num b.lo (n * 18446744073709551616) hok.lon m3
 have c2 := add_num b.hi (n * 18446744073709551616) hok.hin m3
 rw [m1, m2] at c1 c2
 have HP : Hid (put4 cs o (chB b n) = put2 (put2 cs o (Wd.addV b.lo (n * 18446744073709551616))) (o + 2) (Wd.addV b.hi (n * 18446744073709551616))) := show _ = _ from rfl
 generalize Wd.addV b.lo (n * 18446744073709551616) = X at *
 generalize Wd.addV b.hi (n * 18446744073709551616) = Y at *
 generalize addB b.lo (n * 18446744073709551616) = XB at *
 generalize addB b.hi (n * 18446744073709551616) = YB at *
 have hg : g < w.heap.size := (Array.getElem?_eq_some_iff.1 hb).1
 have hne : w.heap.size ≠ g := by omega
 have hb1 : (w.alloc (.cells #[.int .u64 n, .int .u64 0] 64)).heap[g]? = some (.cells cs e (0, 0)) := (Below.heap_alloc _ _ _ hg).trans hb
 have hq : Chg (fun j => j = g) w (w.alloc (.cells #[.int .u64 n, .int .u64 0] 64)) := (Chg.refl _ w).alloc _
 have hz := Bx.new w (.int .u64 n) (.int .u64 0) 64
 clear h0 h1 m1 m2 m3
 go_enter Tryz.func42, Tryz.ntmps42
 go_upto_region 1 with fail
 generalize w.alloc (.cells #[.int .u64 n, .int .u64 0] 64) = w1 at *
 go_cut [4] (fun p wq => p = .pointer (some ⟨w.heap.size, 0, none⟩) ∧ wq.heap[g]? = some (.cells (put2 cs o X) e (0, 0)) ∧ Bx wq w.heap.size (.int .u64 n) (.int .u64 0) ∧ Chg (fun j => j = g) w wq)
 case first =>
  obtain ⟨z0, z1, zf0, zf1⟩ := hz
  obtain ⟨x0, y0⟩ := cell_of hb1 hc.a0
  obtain ⟨x1, y1⟩ := cell_of hb1 hc.a1
  go_region_with (first
   | (go_at_call 67; refine (c1 _).mono ?_; rintro e x ⟨rfl, hx⟩; have u0 := keepC hx x0; have u1 := keepC hx x1; have v0 := keepF hx x0 y0; have v1 := keepF hx x1 y1; have HX : Hid (Below w1.drew.heap.size w1.drew x) := hx))
  all_goals
   have HB2 : Hid _ := set_put2 (heapK (heapK hb1 (drew_belowI w1)) HX.out) X (o := o)
   have HQ2 : Hid (Chg (fun j => j = g) w x) := hq.drew.trans (Chg.of_below HX.out _) (fun _ _ h => h)
   have HZ2 : Hid (Bx x w.heap.size (.int .u64 n) (.int .u64 0)) := Bx.below (Bx.below ⟨z0, z1, zf0, zf1⟩ (drew_belowI w1)) HX.out
   clear hb1 hq hb
   go_wp2
   go_meet
   exact ⟨rfl, HB2.out, by obtain ⟨t0, t1, t2, t3⟩ := HZ2.out; exact ⟨by simp [go_sem, *], by simp [go_sem, *], by simp [go_sem, *], by simp [go_sem, *]⟩, HQ2.out.two⟩
 case rest =>
  obtain ⟨rfl, hb2, hz2, hq2⟩ := hcut
  have HP2 : Hid _ := HP
  obtain ⟨z0, z1, zf0, zf1⟩ := hz2
  obtain ⟨x0, y0⟩ := cell_of hb2 ((put2_far (by omega) (by omega)).trans hc.a2)
  obtain ⟨x1, y1⟩ := cell_of hb2 ((put2_far (by omega) (by omega)).trans hc.a3)
  clear hz HP hb1 hq hb
  go_upto_region 2 with fail
  go_region_with (first
   | (go_at_call 67; refine (c2 _).mono ?_; rintro e x ⟨rfl, hx⟩; have u0 := keepC hx x0; have u1 := keepC hx x1; have v0 := keepF hx x0 y0; have v1 := keepF hx x1 y1; have HX : Hid (Below wc.drew.heap.size wc.drew x) := hx))
  all_goals
   have HB2 : Hid _ := set_put2 (heapK (heapK hb2 (drew_belowI wc)) HX.out) Y (o := o + 2)
   have HQ2 : Hid (Chg (fun j => j = g) w x) := hq2.drew.trans (Chg.of_below HX.out _) (fun _ _ h => h)
   clear hb2 hq2
   go_wp2
   go_end0
   exact ⟨rfl, by rw [HP2.out]; exact HB2.out, HQ2.out.two⟩
end Go.Proofs.YtdkbmligaodpmaaGreatDoor
namespace Go.Proofs.YtdkbmligaodpmaaGreatDoor
open Go.RowKit Wd Tr

theorem tkC {P w1 w2 : World} (h1 : ∀ a, (P.cell? a).isSome = true → w1.cell? a = P.cell? a) (h2 : ∀ a, (w1.cell? a).isSome = true → w2.cell? a = w1.cell? a) : ∀ a, (P.cell? a).isSome = true → w2.cell? a = P.cell? a :=
 fun a h => (h2 a (by rw [h1 a h]; exact h)).trans (h1 a h)
theorem tkF {P w1 w2 : World} (h1 : ∀ a, (P.cell? a).isSome = true → w1.cell? a = P.cell? a) (f1 : ∀ a, (P.cell? a).isSome = true → w1.frozen? a = P.frozen? a) (f2 : ∀ a, (w1.cell? a).isSome = true → w2.frozen? a = w1.frozen? a) : ∀ a, (P.cell? a).isSome = true → w2.frozen? a = P.frozen? a :=
 fun a h => (f2 a (by rw [h1 a h]; exact h)).trans (f1 a h)
theorem S4.far {w x u : World} {k g r : Nat} {a b c d : Int} {p q : Value} (h : S4 w k g r a b c d x) (hu : S4 w k g r a b c d u) : S4 w k g r a b c d ((x.setCell ⟨u.heap.size, 0, none⟩ p).setCell ⟨u.heap.size, 1, none⟩ q) := by
 have n1 := World.block_lt_of_cell? u _ hu.1
 have n2 := World.block_lt_of_cell? u _ hu.2.2.1
 have n3 := World.block_lt_of_cell? u _ hu.2.2.2.2.1
 simp only at n1 n2 n3
 have y1 : k ≠ u.heap.size := by omega
 have y2 : g ≠ u.heap.size := by omega
 have y3 : r ≠ u.heap.size := by omega
 obtain ⟨h0, h1, h2, h3, r0, r1, f0, f1, hB, hz⟩ := h
 have z : w.heap.size ≤ u.heap.size := hu.2.2.2.2.2.2.2.2.2
 exact ⟨by simp [go_sem, *], by simp [go_sem, *], by simp [go_sem, *], by simp [go_sem, *], by unfold cvA; simp [go_sem, *], by unfold cvA; simp [go_sem, *], by simp [go_sem, *], by simp [go_sem, *], (hB.setCell z _).setCell z _, by simp; exact hz⟩
theorem part_words {n f : Int} (hn : Num n) (f0 : 0 ≤ f) (f1 : f ≤ 9223372036854775808) :
  Word f ∧ Num (hiW n * f) ∧ Num (loW n * f) ∧ shlV (hiW n * f) 1 = 2 * (hiW n * f) ∧ Num (2 * (hiW n * f)) ∧ Num (loW n * f / 9223372036854775808) ∧ Num (cl (loW n * f) 9223372036854775808) ∧
  Wd.addV (2 * (hiW n * f)) (loW n * f / 9223372036854775808) = n * f / 9223372036854775808 ∧ Wd.addV (2 * (hiW n * f)) (cl (loW n * f) 9223372036854775808) = cl (n * f) 9223372036854775808 := by
 have wf : Word f := ⟨f0, by omega⟩
 have wh := hi_word hn
 have wl := lo_word n
 have nh := mul_num wh wf
 have nl := mul_num wl wf
 have e0 : n * f = 2 * (hiW n * f) * 9223372036854775808 + loW n * f := by
  have h1 : n = hiW n * 18446744073709551616 + loW n := (val_words n).symm
  have h2 : n * f = (hiW n * 18446744073709551616 + loW n) * f := by rw [← h1]
  rw [h2, Int.add_mul, Int.mul_assoc, Int.mul_comm 18446744073709551616 f, ← Int.mul_assoc]
  omega
 have b1 : hiW n * f ≤ 18446744073709551615 * 9223372036854775808 := Int.mul_le_mul (by have := wh.2; omega) f1 f0 (by omega)
 have b0 := nh.1
 have l0 := nl.1
 have e1 : n * f / 9223372036854775808 = 2 * (hiW n * f) + loW n * f / 9223372036854775808 := by
  rw [e0, Int.add_comm, Int.add_mul_ediv_right _ _ (by omega)]; omega
 have e2 : cl (n * f) 9223372036854775808 = 2 * (hiW n * f) + cl (loW n * f) 9223372036854775808 := by
  unfold cl
  rw [e0, Int.add_assoc, Int.add_comm (2 * (hiW n * f) * 9223372036854775808), Int.add_mul_ediv_right _ _ (by omega)]; omega
 have nd : Num (loW n * f / 9223372036854775808) := div_num_of nl (by omega)
 have nc : Num (cl (loW n * f) 9223372036854775808) := cl_num_of nl (by omega)
 have t2 : cl (n * f) 9223372036854775808 ≤ n := cl_of (by omega) (Int.mul_le_mul_of_nonneg_left f1 hn.1)
 have t1 : n * f / 9223372036854775808 ≤ cl (n * f) 9223372036854775808 := (cl_ge (by omega)).2
 have ht := hn.2
 refine ⟨wf, nh, nl, ?_, ⟨by omega, by unfold top; omega⟩, nd, nc, ?_, ?_⟩
 ·unfold shlV
  rw [if_neg (by omega)]
  show hiW n * f * 2 % _ = _
  omega
 ·unfold Wd.addV
  rw [if_pos (by omega)]
  omega
 ·unfold Wd.addV
  rw [if_pos (by omega)]
  omega
set_option maxHeartbeats 2000000 in
set_option maxRecDepth 20000 in
theorem part_dn (n f : Int) (hn : Num n) (f0 : 0 ≤ f) (f1 : f ≤ 9223372036854775808) (w : World) :
  Calls Tryz.prog 85 #[nuV n, .int .u64 f, .func (.func 86) #[] #[]] w fun e w' => e = .returned (nuV (n * f / 9223372036854775808)) ∧ Below w.heap.size w w' := by
 obtain ⟨wf, nh, nl, es, n2, nd, nc, ed, ec⟩ := part_words hn f0 f1
 have c1 := mul_num' (hiW n) f (hi_word hn) wf
 have c2 := shl_any (hiW (hiW n * f)) (loW (hiW n * f)) 1 (hi_word nh) (lo_word _) (by omega)
 rw [val_words, es] at c2
 have c3 := mul_num' (loW n) f (lo_word n) wf
 have c4 := down_any (loW n * f) 9223372036854775808 nl ⟨by omega, by omega⟩ (by omega)
 have c5 := add_num (2 * (hiW n * f)) (loW n * f / 9223372036854775808) n2 nd
 rw [ed] at c5
 have x := Bx.new w (.int .u64 (hiW n)) (.int .u64 (loW n)) 64
 have x2 := x.alloc #[.int .u64 0, .int .u64 0] 64
 have y := Bx.new (w.alloc (.cells #[.int .u64 (hiW n), .int .u64 (loW n)] 64)) (.int .u64 0) (.int .u64 0) 64
 have hw : Below w.heap.size w ((w.alloc (.cells #[.int .u64 (hiW n), .int .u64 (loW n)] 64)).alloc (.cells #[.int .u64 0, .int .u64 0] 64)) := ((Below.refl w.heap.size w).alloc (Nat.le_refl _) _).alloc (by simp) _
 simp only [World.size_alloc] at y
 clear x f0 f1 wf nh nl es n2 ed ec hn
 clear nd nc
 generalize addB (2 * (hiW n * f)) (loW n * f / 9223372036854775808) = AB at *
 generalize n * f / 9223372036854775808 = R at *
 generalize loW n * f / 9223372036854775808 = Q at *
 generalize 2 * (hiW n * f) = X at *
 generalize hiW n * f = P at *
 generalize loW n * f = L at *
 go_enter Tryz.func85, Tryz.ntmps85
 go_wp2_with fail
 refine (c1 _).mono ?_
 rintro e w1 ⟨rfl, hb1⟩
 have hw1 := hw.trans (hb1.mono hw.size)
 have x3 := x2.below hb1
 have y3 := y.below hb1
 clear hw hb1 x2 y c1
 go_wp2_with fail
 refine (c2 _).mono ?_
 rintro e w2 ⟨rfl, hb2⟩
 have hw2 := hw1.trans (hb2.mono hw1.size)
 have x4 := (x3.below hb2).alloc #[.int .u64 (hiW X), .int .u64 (loW X)] 64
 have y4 := (y3.below hb2).alloc #[.int .u64 (hiW X), .int .u64 (loW X)] 64
 have z4 := Bx.new w2 (.int .u64 (hiW X)) (.int .u64 (loW X)) 64
 have hw3 := hw2.alloc (o := .cells #[.int .u64 (hiW X), .int .u64 (loW X)] 64) (by have := hw2.size; omega)
 have hl := y4.lt
 have hl2 := (y3.below hb2).lt
 clear hw1 hb2 x3 y3 c2 hw2
 go_upto_region 2 with fail
 generalize w2.alloc (.cells #[.int .u64 (hiW X), .int .u64 (loW X)] 64) = w3 at *
 generalize w2.heap.size = j at *
 have hV : S4 w w.heap.size j (w.heap.size + 1) (hiW n) (loW n) (hiW X) (loW X) w3 := ⟨x4.1, x4.2.1, z4.1, z4.2.1, cvA_of y4.1, cvA_of y4.2.1, y4.2.2.1, y4.2.2.2, hw3, hw3.size⟩
 have HV : Hid (S4 w w.heap.size j (w.heap.size + 1) (hiW n) (loW n) (hiW X) (loW X) w3) := hV
 have HS : Hid (S4 w w.heap.size j (w.heap.size + 1) (hiW n) (loW n) (hiW X) (loW X) w3.drew) := hV.keep (drew_belowI w3)
 clear hV x4 y4 z4 hw3 hl
 go_cut [8, 9] (fun b dd wq => ∃ g : Nat, b = .pointer (some ⟨g, 0, none⟩) ∧ dd = .bool AB ∧ wq.cell? ⟨g, 0, none⟩ = some (.int .u64 (hiW R)) ∧ wq.cell? ⟨g, 1, none⟩ = some (.int .u64 (loW R)) ∧ S4 w w.heap.size j (w.heap.size + 1) (hiW n) (loW n) (hiW X) (loW X) wq)
 case first =>
  go_region_held3 (fun x => x.cell? ⟨w.heap.size, 0, none⟩ = some (.int .u64 (hiW n)) ∧ x.cell? ⟨w.heap.size, 1, none⟩ = some (.int .u64 (loW n)) ∧ x.cell? ⟨j, 0, none⟩ = some (.int .u64 (hiW X)) ∧ x.cell? ⟨j, 1, none⟩ = some (.int .u64 (loW X)) ∧ x.cell? ⟨w.heap.size + 1, 0, none⟩ = some (cvA x ⟨w.heap.size + 1, 0, none⟩) ∧ x.cell? ⟨w.heap.size + 1, 1, none⟩ = some (cvA x ⟨w.heap.size + 1, 1, none⟩) ∧ x.frozen? ⟨w.heap.size + 1, 0, none⟩ = false ∧ x.frozen? ⟨w.heap.size + 1, 1, none⟩ = false ∧ Below w.heap.size w x ∧ w.heap.size ≤ x.heap.size) (first | exact HS.out | exact HZ.out | exact HY.out | exact HX.out | exact S4.far HZ.out HV.out | exact S4.far HZ.out HS.out | exact S4.far HZ.out HX.out | exact S4.far HZ.out HY.out | exact S4.keep HZ.out ((Below.refl _ _).alloc (Nat.le_refl _) _) | assumption | exact S4.keep (by assumption) (by assumption) | exact S4.keep (by assumption) ((Below.refl _ _).alloc (Nat.le_refl _) _) | exact S4.keep HS.out ((Below.refl _ _).alloc (Nat.le_refl _) _) | exact S4.keep HX.out ((Below.refl _ _).alloc (Nat.le_refl _) _) | exact S4.keep HY.out ((Below.refl _ _).alloc (Nat.le_refl _) _))
   (first
   | (go_at_call 64; refine (c3 _).mono ?_; rintro e x ⟨rfl, hx⟩; have HX : Hid (S4 w w.heap.size j (w.heap.size + 1) (hiW n) (loW n) (hiW X) (loW X) x) := S4.keep (by first | exact HS.out | assumption) hx; obtain ⟨hc1, hf1⟩ := bkeep hx)
   | (go_at_call 86; refine (c4 _).mono ?_; rintro e x ⟨rfl, hx⟩; have HY : Hid (S4 w w.heap.size j (w.heap.size + 1) (hiW n) (loW n) (hiW X) (loW X) x) := S4.keep (by first | exact HX.out | assumption) hx; obtain ⟨hc2, hf2⟩ := bkeep hx; (first | (have g2 := tkC hc1 hc2; have j2 := tkF hc1 hf1 hf2) | skip))
   | (go_at_call 67; refine (c5 _).mono ?_; rintro e x ⟨rfl, hx⟩; have HZ : Hid (S4 w w.heap.size j (w.heap.size + 1) (hiW n) (loW n) (hiW X) (loW X) x) := S4.keep (by first | exact HY.out | assumption) hx; obtain ⟨hc3, hf3⟩ := bkeep hx; (first | (have g3 := tkC hc2 hc3; have j3 := tkF hc2 hf2 hf3) | skip); (first | (have g4 := tkC g2 hc3; have j4 := tkF g2 j2 hf3) | skip)))
  all_goals
   rename_i h6x
   have h6 : S4 w w.heap.size j (w.heap.size + 1) (hiW n) (loW n) (hiW X) (loW X) _ := h6x
   have H6 : Hid _ := h6
   clear h6x h6 HS HX HY HZ HV
   go_wp2
   go_meet
   exact ⟨_, rfl, rfl, by simp [go_sem, *], by simp [go_sem, *], H6.out⟩
 case rest =>
  obtain ⟨g, rfl, rfl, q0, q1, hS⟩ := hcut
  obtain ⟨_, _, _, _, r0, r1, rf0, rf1, hB, _⟩ := hS
  clear HS HV c3 c4 c5
  go_wp2
  exact bodyPost_ret (v := nuV R) (by simp [results, Tryz.results85, go_sem, *]) rfl ⟨rfl, (hB.setCell (by simp) _).setCell (by simp) _⟩
set_option maxHeartbeats 2000000 in
set_option maxRecDepth 20000 in
theorem part_up (n f : Int) (hn : Num n) (f0 : 0 ≤ f) (f1 : f ≤ 9223372036854775808) (w : World) :
  Calls Tryz.prog 85 #[nuV n, .int .u64 f, .func (.func 87) #[] #[]] w fun e w' => e = .returned (nuV (cl (n * f) 9223372036854775808)) ∧ Below w.heap.size w w' := by
 obtain ⟨wf, nh, nl, es, n2, nd, nc, ed, ec⟩ := part_words hn f0 f1
 have c1 := mul_num' (hiW n) f (hi_word hn) wf
 have c2 := shl_any (hiW (hiW n * f)) (loW (hiW n * f)) 1 (hi_word nh) (lo_word _) (by omega)
 rw [val_words, es] at c2
 have c3 := mul_num' (loW n) f (lo_word n) wf
 have c4 := up_any (loW n * f) 9223372036854775808 nl ⟨by omega, by omega⟩ (by omega)
 have c5 := add_num (2 * (hiW n * f)) (cl (loW n * f) 9223372036854775808) n2 nc
 rw [ec] at c5
 have x := Bx.new w (.int .u64 (hiW n)) (.int .u64 (loW n)) 64
 have x2 := x.alloc #[.int .u64 0, .int .u64 0] 64
 have y := Bx.new (w.alloc (.cells #[.int .u64 (hiW n), .int .u64 (loW n)] 64)) (.int .u64 0) (.int .u64 0) 64
 have hw : Below w.heap.size w ((w.alloc (.cells #[.int .u64 (hiW n), .int .u64 (loW n)] 64)).alloc (.cells #[.int .u64 0, .int .u64 0] 64)) := ((Below.refl w.heap.size w).alloc (Nat.le_refl _) _).alloc (by simp) _
 simp only [World.size_alloc] at y
 clear x f0 f1 wf nh nl es n2 ed ec hn
 clear nd nc
 generalize addB (2 * (hiW n * f)) (cl (loW n * f) 9223372036854775808) = AB at *
 generalize cl (n * f) 9223372036854775808 = R at *
 generalize cl (loW n * f) 9223372036854775808 = Q at *
 generalize 2 * (hiW n * f) = X at *
 generalize hiW n * f = P at *
 generalize loW n * f = L at *
 go_enter Tryz.func85, Tryz.ntmps85
 go_wp2_with fail
 refine (c1 _).mono ?_
 rintro e w1 ⟨rfl, hb1⟩
 have hw1 := hw.trans (hb1.mono hw.size)
 have x3 := x2.below hb1
 have y3 := y.below hb1
 clear hw hb1 x2 y c1
 go_wp2_with fail
 refine (c2 _).mono ?_
 rintro e w2 ⟨rfl, hb2⟩
 have hw2 := hw1.trans (hb2.mono hw1.size)
 have x4 := (x3.below hb2).alloc #[.int .u64 (hiW X), .int .u64 (loW X)] 64
 have y4 := (y3.below hb2).alloc #[.int .u64 (hiW X), .int .u64 (loW X)] 64
 have z4 := Bx.new w2 (.int .u64 (hiW X)) (.int .u64 (loW X)) 64
 have hw3 := hw2.alloc (o := .cells #[.int .u64 (hiW X), .int .u64 (loW X)] 64) (by have := hw2.size; omega)
 have hl := y4.lt
 have hl2 := (y3.below hb2).lt
 clear hw1 hb2 x3 y3 c2 hw2
 go_upto_region 2 with fail
 generalize w2.alloc (.cells #[.int .u64 (hiW X), .int .u64 (loW X)] 64) = w3 at *
 generalize w2.heap.size = j at *
 have hV : S4 w w.heap.size j (w.heap.size + 1) (hiW n) (loW n) (hiW X) (loW X) w3 := ⟨x4.1, x4.2.1, z4.1, z4.2.1, cvA_of y4.1, cvA_of y4.2.1, y4.2.2.1, y4.2.2.2, hw3, hw3.size⟩
 have HV : Hid (S4 w w.heap.size j (w.heap.size + 1) (hiW n) (loW n) (hiW X) (loW X) w3) := hV
 have HS : Hid (S4 w w.heap.size j (w.heap.size + 1) (hiW n) (loW n) (hiW X) (loW X) w3.drew) := hV.keep (drew_belowI w3)
 clear hV x4 y4 z4 hw3 hl
 go_cut [8, 9] (fun b dd wq => ∃ g : Nat, b = .pointer (some ⟨g, 0, none⟩) ∧ dd = .bool AB ∧ wq.cell? ⟨g, 0, none⟩ = some (.int .u64 (hiW R)) ∧ wq.cell? ⟨g, 1, none⟩ = some (.int .u64 (loW R)) ∧ S4 w w.heap.size j (w.heap.size + 1) (hiW n) (loW n) (hiW X) (loW X) wq)
 case first =>
  go_region_held3 (fun x => x.cell? ⟨w.heap.size, 0, none⟩ = some (.int .u64 (hiW n)) ∧ x.cell? ⟨w.heap.size, 1, none⟩ = some (.int .u64 (loW n)) ∧ x.cell? ⟨j, 0, none⟩ = some (.int .u64 (hiW X)) ∧ x.cell? ⟨j, 1, none⟩ = some (.int .u64 (loW X)) ∧ x.cell? ⟨w.heap.size + 1, 0, none⟩ = some (cvA x ⟨w.heap.size + 1, 0, none⟩) ∧ x.cell? ⟨w.heap.size + 1, 1, none⟩ = some (cvA x ⟨w.heap.size + 1, 1, none⟩) ∧ x.frozen? ⟨w.heap.size + 1, 0, none⟩ = false ∧ x.frozen? ⟨w.heap.size + 1, 1, none⟩ = false ∧ Below w.heap.size w x ∧ w.heap.size ≤ x.heap.size) (first | exact HS.out | exact HZ.out | exact HY.out | exact HX.out | exact S4.far HZ.out HV.out | exact S4.far HZ.out HS.out | exact S4.far HZ.out HX.out | exact S4.far HZ.out HY.out | exact S4.keep HZ.out ((Below.refl _ _).alloc (Nat.le_refl _) _) | assumption | exact S4.keep (by assumption) (by assumption) | exact S4.keep (by assumption) ((Below.refl _ _).alloc (Nat.le_refl _) _) | exact S4.keep HS.out ((Below.refl _ _).alloc (Nat.le_refl _) _) | exact S4.keep HX.out ((Below.refl _ _).alloc (Nat.le_refl _) _) | exact S4.keep HY.out ((Below.refl _ _).alloc (Nat.le_refl _) _))
   (first
   | (go_at_call 64; refine (c3 _).mono ?_; rintro e x ⟨rfl, hx⟩; have HX : Hid (S4 w w.heap.size j (w.heap.size + 1) (hiW n) (loW n) (hiW X) (loW X) x) := S4.keep (by first | exact HS.out | assumption) hx; obtain ⟨hc1, hf1⟩ := bkeep hx)
   | (go_at_call 87; refine (c4 _).mono ?_; rintro e x ⟨rfl, hx⟩; have HY : Hid (S4 w w.heap.size j (w.heap.size + 1) (hiW n) (loW n) (hiW X) (loW X) x) := S4.keep (by first | exact HX.out | assumption) hx; obtain ⟨hc2, hf2⟩ := bkeep hx; (first | (have g2 := tkC hc1 hc2; have j2 := tkF hc1 hf1 hf2) | skip))
   | (go_at_call 67; refine (c5 _).mono ?_; rintro e x ⟨rfl, hx⟩; have HZ : Hid (S4 w w.heap.size j (w.heap.size + 1) (hiW n) (loW n) (hiW X) (loW X) x) := S4.keep (by first | exact HY.out | assumption) hx; obtain ⟨hc3, hf3⟩ := bkeep hx; (first | (have g3 := tkC hc2 hc3; have j3 := tkF hc2 hf2 hf3) | skip); (first | (have g4 := tkC g2 hc3; have j4 := tkF g2 j2 hf3) | skip)))
  all_goals
   rename_i h6x
   have h6 : S4 w w.heap.size j (w.heap.size + 1) (hiW n) (loW n) (hiW X) (loW X) _ := h6x
   have H6 : Hid _ := h6
   clear h6x h6 HS HX HY HZ HV
   go_wp2
   go_meet
   exact ⟨_, rfl, rfl, by simp [go_sem, *], by simp [go_sem, *], H6.out⟩
 case rest =>
  obtain ⟨g, rfl, rfl, q0, q1, hS⟩ := hcut
  obtain ⟨_, _, _, _, r0, r1, rf0, rf1, hB, _⟩ := hS
  clear HS HV c3 c4 c5
  go_wp2
  exact bodyPost_ret (v := nuV R) (by simp [results, Tryz.results85, go_sem, *]) rfl ⟨rfl, (hB.setCell (by simp) _).setCell (by simp) _⟩
end Go.Proofs.YtdkbmligaodpmaaGreatDoor
namespace Go.Proofs.YtdkbmligaodpmaaGreatDoor
open Go.RowKit Wd Tr

set_option maxHeartbeats 1000000 in
set_option maxRecDepth 20000 in
theorem bfade_any {w : World} {g o : Nat} {cs : Array Value} {e : TypeId} {b : Bd} (hb : w.heap[g]? = some (.cells cs e (0, 0))) (hc : BdAt cs o b) (hok : b.Ok) {f s : Int} (f0 : 0 ≤ f) (f1 : f ≤ 9223372036854775808) (s0 : 0 ≤ s) (s1 : s ≤ 9223372036854775808) :
  Calls Tryz.prog 43 #[.pointer (some ⟨g, o, none⟩), spV f s] w fun r w' => r = .returned (.tuple #[]) ∧ w'.heap[g]? = some (.cells (put4 cs o (fdB f s b)) e (0, 0)) ∧ Chg (fun j => j = g) w w' := by
 have c1 := part_dn b.lo f hok.lon f0 f1
 have c2 := part_up b.hi s hok.hin s0 s1
 have HP : Hid (put4 cs o (fdB f s b) = put2 (put2 cs o (b.lo * f / 9223372036854775808)) (o + 2) (cl (b.hi * s) 9223372036854775808)) := show _ = _ from rfl
 generalize b.lo * f / 9223372036854775808 = X at *
 generalize cl (b.hi * s) 9223372036854775808 = Y at *
 have hg : g < w.heap.size := (Array.getElem?_eq_some_iff.1 hb).1
 have hne : w.heap.size ≠ g := by omega
 have hb1 : (w.alloc (.cells #[.int .u64 f, .int .u64 s] 93)).heap[g]? = some (.cells cs e (0, 0)) := (Below.heap_alloc _ _ _ hg).trans hb
 have hq : Chg (fun j => j = g) w (w.alloc (.cells #[.int .u64 f, .int .u64 s] 93)) := (Chg.refl _ w).alloc _
 have hz := Bx.new w (.int .u64 f) (.int .u64 s) 93
 clear f0 f1 s0 s1
 go_enter Tryz.func43, Tryz.ntmps43
 go_upto_region 1 with fail
 generalize w.alloc (.cells #[.int .u64 f, .int .u64 s] 93) = w1 at *
 go_cut [3] (fun p wq => p = .pointer (some ⟨w.heap.size, 0, none⟩) ∧ wq.heap[g]? = some (.cells (put2 cs o X) e (0, 0)) ∧ Bx wq w.heap.size (.int .u64 f) (.int .u64 s) ∧ Chg (fun j => j = g) w wq)
 case first =>
  obtain ⟨z0, z1, zf0, zf1⟩ := hz
  obtain ⟨x0, y0⟩ := cell_of hb1 hc.a0
  obtain ⟨x1, y1⟩ := cell_of hb1 hc.a1
  go_region_with (first
   | (go_at_call 85; refine (c1 _).mono ?_; rintro e x ⟨rfl, hx⟩; have u0 := keepC hx x0; have u1 := keepC hx x1; have v0 := keepF hx x0 y0; have v1 := keepF hx x1 y1; have HX : Hid (Below w1.drew.heap.size w1.drew x) := hx))
  all_goals
   have HB2 : Hid _ := set_put2 (heapK (heapK hb1 (drew_belowI w1)) HX.out) X (o := o)
   have HQ2 : Hid (Chg (fun j => j = g) w x) := hq.drew.trans (Chg.of_below HX.out _) (fun _ _ h => h)
   have HZ2 : Hid (Bx x w.heap.size (.int .u64 f) (.int .u64 s)) := Bx.below (Bx.below ⟨z0, z1, zf0, zf1⟩ (drew_belowI w1)) HX.out
   clear hb1 hq hb
   go_wp2
   go_meet
   exact ⟨rfl, HB2.out, by obtain ⟨t0, t1, t2, t3⟩ := HZ2.out; exact ⟨by simp [go_sem, *], by simp [go_sem, *], by simp [go_sem, *], by simp [go_sem, *]⟩, HQ2.out.two⟩
 case rest =>
  obtain ⟨rfl, hb2, hz2, hq2⟩ := hcut
  have HP2 : Hid _ := HP
  obtain ⟨z0, z1, zf0, zf1⟩ := hz2
  obtain ⟨x0, y0⟩ := cell_of hb2 ((put2_far (by omega) (by omega)).trans hc.a2)
  obtain ⟨x1, y1⟩ := cell_of hb2 ((put2_far (by omega) (by omega)).trans hc.a3)
  clear hz HP hb1 hq hb
  go_upto_region 2 with fail
  go_region_with (first
   | (go_at_call 85; refine (c2 _).mono ?_; rintro e x ⟨rfl, hx⟩; have u0 := keepC hx x0; have u1 := keepC hx x1; have v0 := keepF hx x0 y0; have v1 := keepF hx x1 y1; have HX : Hid (Below wc.drew.heap.size wc.drew x) := hx))
  all_goals
   have HB2 : Hid _ := set_put2 (heapK (heapK hb2 (drew_belowI wc)) HX.out) Y (o := o + 2)
   have HQ2 : Hid (Chg (fun j => j = g) w x) := hq2.drew.trans (Chg.of_below HX.out _) (fun _ _ h => h)
   clear hb2 hq2
   go_wp2
   go_end0
   exact ⟨rfl, by rw [HP2.out]; exact HB2.out, HQ2.out.two⟩
end Go.Proofs.YtdkbmligaodpmaaGreatDoor
