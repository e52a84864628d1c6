/-
 LAYER 16: package ideal: narrowed, down, up, atLeast.
 LAYER 16: package ideal: spans: plus, atLeast, above, of, raised, by; rounded.
 LAYER 16: package ideal: above, of, by, raised, rounded (made by gen16a.py).
 LAYER 16: package ideal: raised, part, the bounds' charge and fade, has (made by gen16a.py).
-/
import Derived.Test.YtdkbmligaodpmaaGreatDoorXmtz
import Derived.Test.YtdkbmligaodpmaaGreatDoorXfxz
import Derived.Test.YtdkbmligaodpmaaGreatDoorXnuz
import Derived.Deep.RegionHeld3
import Derived.Lib.MinMax
namespace Go.Proofs.YtdkbmligaodpmaaGreatDoor
open Go.RowKit Wd Tr

abbrev nuV (u : Int) : Value := .agg #[.int .u64 (hiW u), .int .u64 (loW u)]
abbrev spV (a b : Int) : Value := .agg #[.int .u64 a, .int .u64 b]
def Bx (W : World) (g : Nat) (a b : Value) : Prop := W.cell? ⟨g, 0, none⟩ = some a ∧ W.cell? ⟨g, 1, none⟩ = some b ∧ W.frozen? ⟨g, 0, none⟩ = false ∧ W.frozen? ⟨g, 1, none⟩ = false
theorem Bx.below {W V : World} {g : Nat} {a b : Value} (h : Bx W g a b) (hb : Below W.heap.size W V) : Bx V g a b := ⟨keepC hb h.1, keepC hb h.2.1, keepF hb h.1 h.2.2.1, keepF hb h.2.1 h.2.2.2⟩
theorem Bx.alloc {W : World} {g : Nat} {a b : Value} (h : Bx W g a b) (c : Array Value) (t : TypeId) : Bx (W.alloc (.cells c t)) g a b := ⟨allocC _ h.1, allocC _ h.2.1, allocF _ _ h.2.2.1, allocF _ _ h.2.2.2⟩
theorem Bx.new (W : World) (a b : Value) (t : TypeId) : Bx (W.alloc (.cells #[a, b] t)) W.heap.size a b := ⟨by simp, by simp, by simp [go_sem], by simp [go_sem]⟩
theorem Bx.lt {W : World} {g : Nat} {a b : Value} (h : Bx W g a b) : g < W.heap.size := World.block_lt_of_cell? W _ h.1

theorem narrowed_any (u : Int) (hu : Num u) (w : World) :
  Calls Tryz.prog 142 #[nuV u] w fun e w' => e = .returned (.int .u64 (narV u)) ∧ Below w.heap.size w w' := by
 by_cases hh : hiW u = 0
 ·rw [(nar_hi hu hh).1]
  go_enter Tryz.func142, Tryz.ntmps142
  go_wp2
  go_ret
  exact ⟨rfl, (Below.refl _ _).alloc (Nat.le_refl _) _⟩
 ·rw [(nar_no hu hh).1]
  have hp : 0 < hiW u := by have := (hi_word hu).1; omega
  clear hh
  go_enter Tryz.func142, Tryz.ntmps142
  go_wp2
  go_ret
  exact ⟨rfl, (Below.refl _ _).alloc (Nat.le_refl _) _⟩
set_option maxHeartbeats 400000 in
theorem down_any (u b : Int) (hu : Num u) (hb : Word b) (h : b ≠ 0) (w : World) :
  Calls Tryz.prog 86 #[nuV u, .int .u64 b] w fun e w' => e = .returned (nuV (u / b)) ∧ Below w.heap.size w w' := by
 have c := div_yes u b hu hb h
 have x := Bx.new (w.alloc (.cells #[.int .u64 (hiW u), .int .u64 (loW u)] 64)) (.int .u64 0) (.int .u64 0) 64
 simp only [World.size_alloc] at x
 go_enter Tryz.func86, Tryz.ntmps86
 go_wp2_with fail
 refine (c _).mono ?_
 rintro e w1 ⟨rfl, hb1⟩
 obtain ⟨y0, y1, y2, y3⟩ := (x.below hb1).alloc #[.int .u64 (hiW (u / b)), .int .u64 (loW (u / b))] 64
 have hb2 : Below w.heap.size w w1 := (((Below.refl w.heap.size w).alloc (Nat.le_refl _) _).alloc (by simp) _).trans (hb1.mono (by simp; omega))
 have hz := hb1.size
 simp only [World.size_alloc] at hz
 clear c x hb1
 go_wp2
 exact bodyPost_ret (v := nuV (u / b)) (by simp [results, Tryz.results86, go_sem, y0, y1]) rfl ⟨rfl, ((hb2.alloc (by omega) _).setCell (by simp) _).setCell (by simp) _⟩
theorem set_two {W : World} {g : Nat} {a b : Value} (h : Bx W g a b) (x y : Value) : Bx ((W.setCell ⟨g, 0, none⟩ x).setCell ⟨g, 1, none⟩ y) g x y := by
 obtain ⟨h0, h1, h2, h3⟩ := h
 exact ⟨by simp [go_sem, *], by simp [go_sem, *], by simp [go_sem, *], by simp [go_sem, *]⟩
set_option maxHeartbeats 1000000 in
theorem up_any (u b : Int) (hu : Num u) (hb : Word b) (h : b ≠ 0) (w : World) :
  Calls Tryz.prog 87 #[nuV u, .int .u64 b] w fun e w' => e = .returned (nuV (cl u b)) ∧ Below w.heap.size w w' := by
 have c := div_yes u b hu hb h
 have hcl := cl_rem (x := u) (b := b) (by have := hb.1; omega)
 obtain ⟨_, _, _, nq, m0, m1, _, _⟩ := div_facts hu hb h
 have x := Bx.new (w.alloc (.cells #[.int .u64 (hiW u), .int .u64 (loW u)] 64)) (.int .u64 0) (.int .u64 0) 64
 simp only [World.size_alloc] at x
 by_cases m : u % b = 0
 ·rw [if_pos m] at hcl
  rw [hcl]
  rw [m] at c
  clear m m0 m1 nq hcl
  go_enter Tryz.func87, Tryz.ntmps87
  go_wp2_with fail
  refine (c _).mono ?_
  rintro e w1 ⟨rfl, hb1⟩
  obtain ⟨y0, y1, y2, y3⟩ := (x.below hb1).alloc #[.int .u64 (hiW (u / b)), .int .u64 (loW (u / b))] 64
  have hb2 : Below w.heap.size w w1 := (((Below.refl w.heap.size w).alloc (Nat.le_refl _) _).alloc (by simp) _).trans (hb1.mono (by simp; omega))
  have hz := hb1.size
  simp only [World.size_alloc] at hz
  clear c x hb1
  go_wp2
  exact bodyPost_ret (v := nuV (u / b)) (by simp [results, Tryz.results87, go_sem, y0, y1]) rfl ⟨rfl, ((hb2.alloc (by omega) _).setCell (by simp) _).setCell (by simp) _⟩
 ·rw [if_neg m] at hcl
  rw [hcl]
  have hp : 0 < u % b := by omega
  have hb2 : 2 ≤ b := by omega
  have ntop : u / b + 1 ≤ top := by
   have h1 : u / b ≤ u / 2 := by
    refine Int.le_ediv_of_mul_le (by omega) ?_
    have h2 := Int.mul_ediv_self_le (x := u) (k := b) (by omega)
    have h3 : u / b * 2 ≤ u / b * b := Int.mul_le_mul_of_nonneg_left hb2 nq.1
    rw [Int.mul_comm b] at h2
    omega
   have := hu.2
   have := hu.1
   unfold top at *
   omega
  have ea : Wd.addV (u / b) 1 = u / b + 1 := by unfold Wd.addV; rw [if_pos ntop]
  have c2 := of_num 1 ⟨by omega, by omega⟩
  have c3 := add_num (u / b) 1 nq ⟨by omega, by unfold top; omega⟩
  rw [ea] at c3
  clear m m0 m1 nq hcl hb2 ntop ea
  generalize u % b = R at *
  generalize hQ : u / b = Q at *
  clear hQ
  go_enter Tryz.func87, Tryz.ntmps87
  go_wp2_with fail
  refine (c _).mono ?_
  rintro e w1 ⟨rfl, hb1⟩
  have r := (x.below hb1).alloc #[.int .u64 (hiW Q), .int .u64 (loW Q)] 64
  have q := Bx.new w1 (.int .u64 (hiW Q)) (.int .u64 (loW Q)) 64
  have hb2 : Below w.heap.size w w1 := (((Below.refl w.heap.size w).alloc (Nat.le_refl _) _).alloc (by simp) _).trans (hb1.mono (by simp; omega))
  have hz := hb1.size
  simp only [World.size_alloc] at hz
  have hb3 := hb2.alloc (o := .cells #[.int .u64 (hiW Q), .int .u64 (loW Q)] 64) (by omega)
  go_upto_region 3 with fail
  generalize w1.alloc (.cells #[.int .u64 (hiW Q), .int .u64 (loW Q)] 64) = w2 at *
  have hg : w.heap.size ≤ w1.heap.size := by omega
  have hne : w1.heap.size ≠ w.heap.size + 1 := by omega
  generalize w1.heap.size = g at *
  clear c x hb1 hb2 hz
  go_cut [5] (fun b wq => b = .pointer (some ⟨g, 0, none⟩) ∧ Bx wq g (.int .u64 (hiW (Q + 1))) (.int .u64 (loW (Q + 1))) ∧ Bx wq (w.heap.size + 1) (.int .u64 0) (.int .u64 0) ∧ Below w.heap.size w wq)
  case first =>
   obtain ⟨q0, q1, q2, q3⟩ := q
   obtain ⟨r0, r1, r2, r3⟩ := r
   go_region_with (first
    | (go_at_call 68; refine (c2 _).mono ?_; rintro e x ⟨rfl, hx⟩; have x0 : x.cell? ⟨g, 0, none⟩ = some (.int .u64 (hiW Q)) := keepC hx q0; have x1 : x.cell? ⟨g, 1, none⟩ = some (.int .u64 (loW Q)) := keepC hx q1; have y0 : x.frozen? ⟨g, 0, none⟩ = false := keepF hx q0 q2; have y1 : x.frozen? ⟨g, 1, none⟩ = false := keepF hx q1 q3)
    | (go_at_call 67; refine (c3 _).mono ?_; rintro e y ⟨rfl, hy⟩; have u0 := keepC hy x0; have u1 := keepC hy x1; have v0 := keepF hy x0 y0; have v1 := keepF hy x1 y1))
   all_goals
    have HY : Hid (Below w.heap.size w y) := (hb3.drew.trans (hx.mono (by have := hb3.size; simp; omega))).trans (hy.mono (by have := hb3.size; have := hx.size; simp at this; omega))
    have HR : Hid (Bx y (w.heap.size + 1) (.int .u64 0) (.int .u64 0)) := Bx.below (Bx.below (Bx.below (show Bx _ _ _ _ from ⟨r0, r1, r2, r3⟩) (Below.refl _ _).drew) hx) hy
    go_wp2
    go_meet
    exact ⟨rfl, set_two ⟨u0, u1, v0, v1⟩ _ _, by obtain ⟨z0, z1, z2, z3⟩ := HR.out; exact ⟨by simp [go_sem, *], by simp [go_sem, *], by simp [go_sem, *], by simp [go_sem, *]⟩, (HY.out.setCell hg _).setCell hg _⟩
  case rest =>
   obtain ⟨rfl, ⟨q0, q1, q2, q3⟩, ⟨r0, r1, r2, r3⟩, HB⟩ := hcut
   clear q r
   go_wp2
   exact bodyPost_ret (v := nuV (Q + 1)) (by simp [results, Tryz.results87, go_sem, *]) rfl ⟨rfl, (HB.setCell (by simp) _).setCell (by simp) _⟩
theorem iatl_any {n d : Int} (hn : 0 ≤ n) (hn' : n ≤ 281474976710656) (w : World) :
  Calls Tryz.prog 115 #[.int .u64 n, .int .u64 d] w fun e w' => e = .returned (spV (atN n d) (atD n d)) ∧ Below w.heap.size w w' := by
 have e1 : IntKind.u64.wrap (n * 4096) = n * 4096 := by rw [IntKind.wrap_u64]; omega
 by_cases h : n * 4096 < d
 ·rw [show atN n d = 1 by unfold atN; rw [if_pos h], show atD n d = 4096 by unfold atD; rw [if_pos h]]
  clear hn hn'
  go_enter Tryz.func115, Tryz.ntmps115
  go_wp2
  exact bodyPost_ret (v := .agg #[.int .u64 1, .int .u64 4096]) (by simp [results, Tryz.results115, go_sem]) rfl ⟨rfl, (Below.refl _ _).alloc (Nat.le_refl _) _⟩
 ·rw [show atN n d = n by unfold atN; rw [if_neg h], show atD n d = d by unfold atD; rw [if_neg h]]
  clear hn hn'
  go_enter Tryz.func115, Tryz.ntmps115
  go_wp2
  exact bodyPost_ret (v := .agg #[.int .u64 n, .int .u64 d]) (by simp [results, Tryz.results115, go_sem]) rfl ⟨rfl, (Below.refl _ _).alloc (Nat.le_refl _) _⟩
end Go.Proofs.YtdkbmligaodpmaaGreatDoor
namespace Go.Proofs.YtdkbmligaodpmaaGreatDoor
open Go.RowKit Wd Tr

set_option maxHeartbeats 400000 in
theorem plus_any (a b c d : Int) (ha : Word a) (hb : Word b) (hc : Word c) (hd : Word d) (w : World) :
  Calls Tryz.prog 164 #[spV a b, spV c d] w fun e w' => e = .returned (spV (narV (a + c)) (narV (b + d))) ∧ Below w.heap.size w w' := by
 have c1 := qadd_any a c ha hc
 have c2 := qadd_any b d hb hd
 have x := Bx.new w (.int .u64 a) (.int .u64 b) 93
 have y := Bx.new (w.alloc (.cells #[.int .u64 a, .int .u64 b] 93)) (.int .u64 c) (.int .u64 d) 93
 have z := Bx.new ((w.alloc (.cells #[.int .u64 a, .int .u64 b] 93)).alloc (.cells #[.int .u64 c, .int .u64 d] 93)) (.int .u64 0) (.int .u64 0) 93
 have x2 := (x.alloc #[.int .u64 c, .int .u64 d] 93).alloc #[.int .u64 0, .int .u64 0] 93
 have y2 := y.alloc #[.int .u64 0, .int .u64 0] 93
 have hw : Below w.heap.size w (((w.alloc (.cells #[.int .u64 a, .int .u64 b] 93)).alloc (.cells #[.int .u64 c, .int .u64 d] 93)).alloc (.cells #[.int .u64 0, .int .u64 0] 93)) := (((Below.refl w.heap.size w).alloc (Nat.le_refl _) _).alloc (by simp) _).alloc (by simp; omega) _
 simp only [World.size_alloc] at y2 z
 clear x y ha hb hc hd
 go_enter Tryz.func164, Tryz.ntmps164
 go_wp2_with fail
 refine (c1 _).mono ?_
 rintro e w1 ⟨rfl, hb1⟩
 have x3 := x2.below hb1
 have y3 := y2.below hb1
 have z3 := z.below hb1
 have hw1 := hw.trans (hb1.mono hw.size)
 clear x2 y2 z hb1 hw c1
 obtain ⟨x30, x31, _, _⟩ := x3
 obtain ⟨y30, y31, _, _⟩ := y3
 go_wp2_with fail
 refine (c2 _).mono ?_
 rintro e w2 ⟨rfl, hb2⟩
 obtain ⟨z0, z1, z2, z3⟩ := z3.below hb2
 have hw2 := hw1.trans (hb2.mono hw1.size)
 clear x30 x31 y30 y31 hb2 hw1 c2
 go_wp2
 exact bodyPost_ret (v := spV (narV (a + c)) (narV (b + d))) (by simp [results, Tryz.results164, go_sem, *]) rfl ⟨rfl, (hw2.setCell (by simp; omega) _).setCell (by simp; omega) _⟩
def mxV (a f : Int) : Int := if a < f then f else a
theorem mx_word {a f : Int} (ha : Word a) (hf : Word f) : Word (mxV a f) := by unfold mxV; split <;> assumption
theorem satl_any (a b f : Int) (w : World) :
  Calls Tryz.prog 162 #[spV a b, .int .u64 f] w fun e w' => e = .returned (spV (mxV a f) (mxV b f)) ∧ Below w.heap.size w w' := by
 have key : ∀ x : Int, (if f > x then f else x) = mxV x f := fun x => rfl
 go_enter Tryz.func162, Tryz.ntmps162
 go_wp2
 exact bodyPost_ret (v := spV (mxV a f) (mxV b f)) (by first | (simp [results, Tryz.results162, go_sem, mxV]; done) | (simp [results, Tryz.results162, go_sem, mxV]; constructor <;> (rw [Int.max_def]; repeat' split <;> omega))) rfl ⟨rfl, ((((Below.refl w.heap.size w).alloc (Nat.le_refl _) _).alloc (by simp) _))⟩
end Go.Proofs.YtdkbmligaodpmaaGreatDoor
namespace Go.Proofs.YtdkbmligaodpmaaGreatDoor
open Go.RowKit Wd Tr

def cvA (x : World) (a : Addr) : Value := (x.cell? a).getD (.int .u64 0)
theorem cvA_of {x : World} {a : Addr} {v : Value} (h : x.cell? a = some v) : x.cell? a = some (cvA x a) := by unfold cvA; rw [h]; rfl
theorem set_none {w : World} {a : Addr} {v : Value} (h : w.cell? a = none) : (w.setCell a v).cell? a = none := by
 simp only [World.setCell, World.cell?, Array.getElem?_modify, ↓reduceIte] at h ⊢
 cases hh : w.heap[a.block]? with
 | none => simp
 | some x =>
  cases x with
  | cells c t f =>
   rw [hh] at h
   simp only [Option.map_some] at h ⊢
   split at h
   ·simp [*]
   ·rename_i hs
    have := Array.getElem?_eq_none_iff.1 h
    simp [hs]
    omega
  | _ => simp
theorem two_read {x : World} {r : Nat} {a b u v : Value} (h0 : ((x.setCell ⟨r, 0, none⟩ a).setCell ⟨r, 1, none⟩ b).cell? ⟨r, 0, none⟩ = some u) (h1 : ((x.setCell ⟨r, 0, none⟩ a).setCell ⟨r, 1, none⟩ b).cell? ⟨r, 1, none⟩ = some v) :
  ∃ u0 v0, x.cell? ⟨r, 0, none⟩ = some u0 ∧ x.cell? ⟨r, 1, none⟩ = some v0 := by
 rw [World.cell?_setCell_other _ _ _ _ (by simp)] at h0
 cases e0 : x.cell? ⟨r, 0, none⟩ with
 | none => rw [set_none e0] at h0; cases h0
 | some u0 =>
  cases e1 : x.cell? ⟨r, 1, none⟩ with
  | none =>
   rw [set_none ((World.cell?_setCell_other _ _ _ _ (by simp)).trans e1)] at h1
   cases h1
  | some v0 => exact ⟨u0, v0, rfl, rfl⟩
theorem cvA_keep {x y : World} {a : Addr} (hb : Below x.heap.size x y) (h : x.cell? a = some (cvA x a)) : y.cell? a = some (cvA y a) := cvA_of (keepC hb h)
def S4 (w : World) (k g r : Nat) (a b c d : Int) (x : World) : Prop := x.cell? ⟨k, 0, none⟩ = some (.int .u64 a) ∧ x.cell? ⟨k, 1, none⟩ = some (.int .u64 b) ∧ x.cell? ⟨g, 0, none⟩ = some (.int .u64 c) ∧ x.cell? ⟨g, 1, none⟩ = some (.int .u64 d) ∧ x.cell? ⟨r, 0, none⟩ = some (cvA x ⟨r, 0, none⟩) ∧ x.cell? ⟨r, 1, none⟩ = some (cvA x ⟨r, 1, none⟩) ∧ x.frozen? ⟨r, 0, none⟩ = false ∧ x.frozen? ⟨r, 1, none⟩ = false ∧ Below w.heap.size w x ∧ w.heap.size ≤ x.heap.size
theorem S4.keep {w x y : World} {k g r : Nat} {a b c d : Int} (h : S4 w k g r a b c d x) (bw : Below x.heap.size x y) : S4 w k g r a b c d y := by
 obtain ⟨h0, h1, h2, h3, r0, r1, f0, f1, hB, hz⟩ := h
 exact ⟨keepC bw h0, keepC bw h1, keepC bw h2, keepC bw h3, cvA_keep bw r0, cvA_keep bw r1, keepF bw r0 f0, keepF bw r1 f1, hB.trans (bw.mono hz), Nat.le_trans hz bw.size⟩
theorem S4.store {w x : World} {k g r : Nat} {a b c d : Int} (u v : Value) (h : S4 w k g r a b c d x) (nk : k ≠ r) (ng : g ≠ r) (hr : w.heap.size ≤ r) : S4 w k g r a b c d ((x.setCell ⟨r, 0, none⟩ u).setCell ⟨r, 1, none⟩ v) := by
 obtain ⟨h0, h1, h2, h3, r0, r1, f0, f1, hB, hz⟩ := h
 exact ⟨by simp [go_sem, *], by simp [go_sem, *], by simp [go_sem, *], by simp [go_sem, *], by unfold cvA; simp [go_sem, *], by unfold cvA; simp [go_sem, *], by simp [go_sem, *], by simp [go_sem, *], (hB.setCell hr _).setCell hr _, by simp; exact hz⟩
theorem S4.tail {w x : World} {k g r : Nat} {a b c d : Int} (h : S4 w k g r a b c d x) : x.cell? ⟨r, 0, none⟩ = some (cvA x ⟨r, 0, none⟩) ∧ x.cell? ⟨r, 1, none⟩ = some (cvA x ⟨r, 1, none⟩) ∧ Below w.heap.size w x := by
 obtain ⟨_, _, _, _, r0, r1, _, _, hB, _⟩ := h
 exact ⟨r0, r1, hB⟩
def S6 (w : World) (k g j r : Nat) (a b c d n m : Int) (x : World) : Prop := x.cell? ⟨k, 0, none⟩ = some (.int .u64 a) ∧ x.cell? ⟨k, 1, none⟩ = some (.int .u64 b) ∧ x.cell? ⟨g, 0, none⟩ = some (.int .u64 c) ∧ x.cell? ⟨g, 1, none⟩ = some (.int .u64 d) ∧ x.cell? ⟨j, 0, none⟩ = some (.int .u64 n) ∧ x.cell? ⟨j, 1, none⟩ = some (.int .u64 m) ∧ x.cell? ⟨r, 0, none⟩ = some (cvA x ⟨r, 0, none⟩) ∧ x.cell? ⟨r, 1, none⟩ = some (cvA x ⟨r, 1, none⟩) ∧ x.frozen? ⟨r, 0, none⟩ = false ∧ x.frozen? ⟨r, 1, none⟩ = false ∧ Below w.heap.size w x ∧ w.heap.size ≤ x.heap.size
theorem S6.keep {w x y : World} {k g j r : Nat} {a b c d n m : Int} (h : S6 w k g j r a b c d n m x) (bw : Below x.heap.size x y) : S6 w k g j r a b c d n m y := by
 obtain ⟨h0, h1, h2, h3, h4, h5, r0, r1, f0, f1, hB, hz⟩ := h
 exact ⟨keepC bw h0, keepC bw h1, keepC bw h2, keepC bw h3, keepC bw h4, keepC bw h5, cvA_keep bw r0, cvA_keep bw r1, keepF bw r0 f0, keepF bw r1 f1, hB.trans (bw.mono hz), Nat.le_trans hz bw.size⟩
theorem S6.store {w x : World} {k g j r : Nat} {a b c d n m : Int} (u v : Value) (h : S6 w k g j r a b c d n m x) (nk : k ≠ r) (ng : g ≠ r) (nj : j ≠ r) (hr : w.heap.size ≤ r) : S6 w k g j r a b c d n m ((x.setCell ⟨r, 0, none⟩ u).setCell ⟨r, 1, none⟩ v) := by
 obtain ⟨h0, h1, h2, h3, h4, h5, r0, r1, f0, f1, hB, hz⟩ := h
 exact ⟨by simp [go_sem, *], by simp [go_sem, *], by simp [go_sem, *], by simp [go_sem, *], by simp [go_sem, *], by simp [go_sem, *], by unfold cvA; simp [go_sem, *], by unfold cvA; simp [go_sem, *], by simp [go_sem, *], by simp [go_sem, *], (hB.setCell hr _).setCell hr _, by simp; exact hz⟩
theorem S6.tail {w x : World} {k g j r : Nat} {a b c d n m : Int} (h : S6 w k g j r a b c d n m x) : x.cell? ⟨r, 0, none⟩ = some (cvA x ⟨r, 0, none⟩) ∧ x.cell? ⟨r, 1, none⟩ = some (cvA x ⟨r, 1, none⟩) ∧ Below w.heap.size w x := by
 obtain ⟨_, _, _, _, _, _, r0, r1, _, _, hB, _⟩ := h
 exact ⟨r0, r1, hB⟩
def Q4 (w : World) (k r : Nat) (a b c d : Int) (x : World) : Prop := x.cell? ⟨k, 0, none⟩ = some (.int .u64 a) ∧ x.cell? ⟨k, 1, none⟩ = some (.int .u64 b) ∧ x.cell? ⟨k, 2, none⟩ = some (.int .u64 c) ∧ x.cell? ⟨k, 3, none⟩ = some (.int .u64 d) ∧ x.cell? ⟨r, 0, none⟩ = some (cvA x ⟨r, 0, none⟩) ∧ x.cell? ⟨r, 1, none⟩ = some (cvA x ⟨r, 1, none⟩) ∧ x.frozen? ⟨r, 0, none⟩ = false ∧ x.frozen? ⟨r, 1, none⟩ = false ∧ Below w.heap.size w x ∧ w.heap.size ≤ x.heap.size
theorem Q4.keep {w x y : World} {k r : Nat} {a b c d : Int} (h : Q4 w k r a b c d x) (bw : Below x.heap.size x y) : Q4 w k r a b c d y := by
 obtain ⟨h0, h1, h2, h3, r0, r1, f0, f1, hB, hz⟩ := h
 exact ⟨keepC bw h0, keepC bw h1, keepC bw h2, keepC bw h3, cvA_keep bw r0, cvA_keep bw r1, keepF bw r0 f0, keepF bw r1 f1, hB.trans (bw.mono hz), Nat.le_trans hz bw.size⟩
theorem Q4.store {w x : World} {k r : Nat} {a b c d : Int} (u v : Value) (h : Q4 w k r a b c d x) (nk : k ≠ r) (hr : w.heap.size ≤ r) : Q4 w k r a b c d ((x.setCell ⟨r, 0, none⟩ u).setCell ⟨r, 1, none⟩ v) := by
 obtain ⟨h0, h1, h2, h3, r0, r1, f0, f1, hB, hz⟩ := h
 exact ⟨by simp [go_sem, *], by simp [go_sem, *], by simp [go_sem, *], by simp [go_sem, *], by unfold cvA; simp [go_sem, *], by unfold cvA; simp [go_sem, *], by simp [go_sem, *], by simp [go_sem, *], (hB.setCell hr _).setCell hr _, by simp; exact hz⟩
theorem Q4.tail {w x : World} {k r : Nat} {a b c d : Int} (h : Q4 w k r a b c d x) : x.cell? ⟨r, 0, none⟩ = some (cvA x ⟨r, 0, none⟩) ∧ x.cell? ⟨r, 1, none⟩ = some (cvA x ⟨r, 1, none⟩) ∧ Below w.heap.size w x := by
 obtain ⟨_, _, _, _, r0, r1, _, _, hB, _⟩ := h
 exact ⟨r0, r1, hB⟩

theorem div_num_of {u b : Int} (hu : Num u) (hb : 0 < b) : Num (u / b) := ⟨Int.ediv_nonneg hu.1 (by omega), Int.le_trans (Int.ediv_le_self b hu.1) hu.2⟩
theorem cl_num_of {u b : Int} (hu : Num u) (hb : 0 < b) : Num (cl u b) := ⟨cl_nonneg hu.1 hb, Int.le_trans (cl_le hu.1 hb) hu.2⟩
set_option maxHeartbeats 400000 in
theorem above_dn (p u n d : Int) (hp : Word p) (hu : Word u) (hn : Word n) (hd : Word d) (h : d ≠ 0) (w : World) :
  Calls Tryz.prog 165 #[.int .u64 p, .int .u64 u, spV n d, .func (.func 86) #[] #[]] w fun e w' => e = .returned (.int .u64 (narV (subV p u * n / d))) ∧ Below w.heap.size w w' := by
 have c1 := qsub_any p u hp hu
 have hx := sub_words hp hu
 have nu1 := mul_num hx hn
 have nu2 := div_num_of nu1 (show 0 < d by have := hd.1; omega)
 have x := Bx.new w (.int .u64 n) (.int .u64 d) 174
 have hw : Below w.heap.size w (w.alloc (.cells #[.int .u64 n, .int .u64 d] 174)) := (Below.refl w.heap.size w).alloc (Nat.le_refl _) _
 clear hp hu
 generalize hX : subV p u = X at *
 clear hX
 go_enter Tryz.func165, Tryz.ntmps165
 go_wp2_with fail
 refine (c1 _).mono ?_
 rintro e w1 ⟨rfl, hb1⟩
 have y := x.below hb1
 have hw1 := hw.trans (hb1.mono hw.size)
 clear x hb1 hw c1
 obtain ⟨y0, y1, _, _⟩ := y
 go_upto_region 2 with fail
 have HS : Hid (w1.drew.cell? ⟨w.heap.size, 0, none⟩ = some (.int .u64 n) ∧ w1.drew.cell? ⟨w.heap.size, 1, none⟩ = some (.int .u64 d) ∧ Below w.heap.size w w1.drew ∧ w.heap.size ≤ w1.drew.heap.size) := ⟨by simpa using y0, by simpa using y1, hw1.drew, by simpa using hw1.size⟩
 clear y0 y1 hw1
 go_region_held3 (fun x => x.cell? ⟨w.heap.size, 0, none⟩ = some (.int .u64 n) ∧ x.cell? ⟨w.heap.size, 1, none⟩ = some (.int .u64 d) ∧ Below w.heap.size w x ∧ w.heap.size ≤ x.heap.size) (first | exact HS.out | exact keep2 (by assumption) (by assumption))
  (first
   | (go_at_call 64; refine (mul_num' _ _ (by assumption) (by assumption) _).mono ?_; rintro e x ⟨rfl, hx⟩)
   | (go_at_call 86; refine (down_any _ _ (by assumption) (by assumption) (by assumption) _).mono ?_; rintro e x ⟨rfl, hx⟩)
   | (go_at_call 87; refine (up_any _ _ (by assumption) (by assumption) (by assumption) _).mono ?_; rintro e x ⟨rfl, hx⟩)
   | (go_at_call 142; refine (narrowed_any _ (by assumption) _).mono ?_; rintro e x ⟨rfl, hx⟩))
 all_goals
  have hS : x.cell? ⟨w.heap.size, 0, none⟩ = some (.int .u64 n) ∧ x.cell? ⟨w.heap.size, 1, none⟩ = some (.int .u64 d) ∧ Below w.heap.size w x ∧ w.heap.size ≤ x.heap.size := by assumption
  obtain ⟨_, _, hB, _⟩ := hS
  go_wp2
  go_ret
  exact ⟨rfl, hB⟩
set_option maxHeartbeats 400000 in
theorem above_up (p u n d : Int) (hp : Word p) (hu : Word u) (hn : Word n) (hd : Word d) (h : d ≠ 0) (w : World) :
  Calls Tryz.prog 165 #[.int .u64 p, .int .u64 u, spV n d, .func (.func 87) #[] #[]] w fun e w' => e = .returned (.int .u64 (narV (cl (subV p u * n) d))) ∧ Below w.heap.size w w' := by
 have c1 := qsub_any p u hp hu
 have hx := sub_words hp hu
 have nu1 := mul_num hx hn
 have nu2 := cl_num_of nu1 (show 0 < d by have := hd.1; omega)
 have x := Bx.new w (.int .u64 n) (.int .u64 d) 174
 have hw : Below w.heap.size w (w.alloc (.cells #[.int .u64 n, .int .u64 d] 174)) := (Below.refl w.heap.size w).alloc (Nat.le_refl _) _
 clear hp hu
 generalize hX : subV p u = X at *
 clear hX
 go_enter Tryz.func165, Tryz.ntmps165
 go_wp2_with fail
 refine (c1 _).mono ?_
 rintro e w1 ⟨rfl, hb1⟩
 have y := x.below hb1
 have hw1 := hw.trans (hb1.mono hw.size)
 clear x hb1 hw c1
 obtain ⟨y0, y1, _, _⟩ := y
 go_upto_region 2 with fail
 have HS : Hid (w1.drew.cell? ⟨w.heap.size, 0, none⟩ = some (.int .u64 n) ∧ w1.drew.cell? ⟨w.heap.size, 1, none⟩ = some (.int .u64 d) ∧ Below w.heap.size w w1.drew ∧ w.heap.size ≤ w1.drew.heap.size) := ⟨by simpa using y0, by simpa using y1, hw1.drew, by simpa using hw1.size⟩
 clear y0 y1 hw1
 go_region_held3 (fun x => x.cell? ⟨w.heap.size, 0, none⟩ = some (.int .u64 n) ∧ x.cell? ⟨w.heap.size, 1, none⟩ = some (.int .u64 d) ∧ Below w.heap.size w x ∧ w.heap.size ≤ x.heap.size) (first | exact HS.out | exact keep2 (by assumption) (by assumption))
  (first
   | (go_at_call 64; refine (mul_num' _ _ (by assumption) (by assumption) _).mono ?_; rintro e x ⟨rfl, hx⟩)
   | (go_at_call 86; refine (down_any _ _ (by assumption) (by assumption) (by assumption) _).mono ?_; rintro e x ⟨rfl, hx⟩)
   | (go_at_call 87; refine (up_any _ _ (by assumption) (by assumption) (by assumption) _).mono ?_; rintro e x ⟨rfl, hx⟩)
   | (go_at_call 142; refine (narrowed_any _ (by assumption) _).mono ?_; rintro e x ⟨rfl, hx⟩))
 all_goals
  have hS : x.cell? ⟨w.heap.size, 0, none⟩ = some (.int .u64 n) ∧ x.cell? ⟨w.heap.size, 1, none⟩ = some (.int .u64 d) ∧ Below w.heap.size w x ∧ w.heap.size ≤ x.heap.size := by assumption
  obtain ⟨_, _, hB, _⟩ := hS
  go_wp2
  go_ret
  exact ⟨rfl, hB⟩
set_option maxHeartbeats 1000000 in
theorem of_any' (a b c d : Int) (ha : Word a) (hb : Word b) (hc : Word c) (hd : Word d) (c0 : c ≠ 0) (d0 : d ≠ 0) (w : World) :
  Calls Tryz.prog 161 #[spV a b, spV c d] w fun e w' => e = .returned (spV (narV (a * 9223372036854775808 / d)) (min (narV (cl (b * 9223372036854775808) c)) 9223372036854775808)) ∧ Below w.heap.size w w' := by
 have wD : Word 9223372036854775808 := ⟨by omega, by omega⟩
 have nu1 := mul_num ha wD
 have nu2 := mul_num hb wD
 have nu3 := div_num_of nu1 (show 0 < d by have := hd.1; omega)
 have nu4 := cl_num_of nu2 (show 0 < c by have := hc.1; omega)
 have HS : Hid (S4 w w.heap.size (w.heap.size + 1) (w.heap.size + 1 + 1) a b c d (((w.alloc (.cells #[.int .u64 a, .int .u64 b] 93)).alloc (.cells #[.int .u64 c, .int .u64 d] 93)).alloc (.cells #[.int .u64 0, .int .u64 0] 93)).drew) := ⟨by simp [go_sem], by simp [go_sem], by simp [go_sem], by simp [go_sem], cvA_of (v := .int .u64 0) (by simp [go_sem]), cvA_of (v := .int .u64 0) (by simp [go_sem]), by simp [go_sem], by simp [go_sem], ((((Below.refl w.heap.size w).alloc (Nat.le_refl _) _).alloc (by simp) _).alloc (by simp; omega) _).drew, by simp; omega⟩
 have HT : ∀ (x : World) (u v : Value), S4 w w.heap.size (w.heap.size + 1) (w.heap.size + 1 + 1) a b c d x → S4 w w.heap.size (w.heap.size + 1) (w.heap.size + 1 + 1) a b c d ((x.setCell ⟨w.heap.size + 1 + 1, 0, none⟩ u).setCell ⟨w.heap.size + 1 + 1, 1, none⟩ v) := fun x u v h => S4.store u v h (by omega) (by omega) (by omega)
 go_enter Tryz.func161, Tryz.ntmps161
 go_upto_region 1 with fail
 go_region_held3 (fun x => x.cell? ⟨w.heap.size, 0, none⟩ = some (.int .u64 a) ∧ x.cell? ⟨w.heap.size, 1, none⟩ = some (.int .u64 b) ∧ x.cell? ⟨w.heap.size + 1, 0, none⟩ = some (.int .u64 c) ∧ x.cell? ⟨w.heap.size + 1, 1, none⟩ = some (.int .u64 d) ∧ x.cell? ⟨w.heap.size + 1 + 1, 0, none⟩ = some (cvA x ⟨w.heap.size + 1 + 1, 0, none⟩) ∧ x.cell? ⟨w.heap.size + 1 + 1, 1, none⟩ = some (cvA x ⟨w.heap.size + 1 + 1, 1, none⟩) ∧ x.frozen? ⟨w.heap.size + 1 + 1, 0, none⟩ = false ∧ x.frozen? ⟨w.heap.size + 1 + 1, 1, none⟩ = false ∧ Below w.heap.size w x ∧ w.heap.size ≤ x.heap.size) (first | exact HS.out | assumption | exact S4.keep (by assumption) (by assumption) | exact HT _ _ _ (by assumption))
  (first
   | (go_at_call 64; refine (mul_num' _ _ (by assumption) (by assumption) _).mono ?_; rintro e x ⟨rfl, hx⟩)
   | (go_at_call 86; refine (down_any _ _ (by assumption) (by assumption) (by assumption) _).mono ?_; rintro e x ⟨rfl, hx⟩)
   | (go_at_call 87; refine (up_any _ _ (by assumption) (by assumption) (by assumption) _).mono ?_; rintro e x ⟨rfl, hx⟩)
   | (go_at_call 142; refine (narrowed_any _ (by assumption) _).mono ?_; rintro e x ⟨rfl, hx⟩))
 all_goals
  rename_i hHeld
  have hS : S4 w w.heap.size (w.heap.size + 1) (w.heap.size + 1 + 1) a b c d _ := hHeld
  clear hHeld
  obtain ⟨z0, z1, hB⟩ := hS.tail
  obtain ⟨v0, v1, q0, q1⟩ := two_read z0 z1
  clear HS HT hS z0 z1
  go_wp2
  exact bodyPost_ret (v := spV (narV (a * 9223372036854775808 / d)) (min (narV (cl (b * 9223372036854775808) c)) 9223372036854775808)) (by simp [results, Tryz.results161, go_sem, q0, q1]) rfl ⟨rfl, hB⟩
set_option maxHeartbeats 1000000 in
theorem by_any (a b c d : Int) (ha : Word a) (hb : Word b) (hc : Word c) (hd : Word d) (c0 : c ≠ 0) (w : World) :
  Calls Tryz.prog 114 #[spV a b, spV c d] w fun e w' => e = .returned (spV (narV (a * d / 2147483648 / c)) (narV (cl (cl (b * d) 2147483648) c))) ∧ Below w.heap.size w w' := by
 have w31 : Word 2147483648 := ⟨by omega, by omega⟩
 have n31 : (2147483648 : Int) ≠ 0 := by omega
 have nu1 := mul_num ha hd
 have nu2 := mul_num hb hd
 have nu3 := div_num_of nu1 (show (0 : Int) < 2147483648 by omega)
 have nu4 := cl_num_of nu2 (show (0 : Int) < 2147483648 by omega)
 have nu5 := div_num_of nu3 (show 0 < c by have := hc.1; omega)
 have nu6 := cl_num_of nu4 (show 0 < c by have := hc.1; omega)
 have HS : Hid (S4 w w.heap.size (w.heap.size + 1) (w.heap.size + 1 + 1) a b c d (((w.alloc (.cells #[.int .u64 a, .int .u64 b] 93)).alloc (.cells #[.int .u64 c, .int .u64 d] 174)).alloc (.cells #[.int .u64 0, .int .u64 0] 93)).drew) := ⟨by simp [go_sem], by simp [go_sem], by simp [go_sem], by simp [go_sem], cvA_of (v := .int .u64 0) (by simp [go_sem]), cvA_of (v := .int .u64 0) (by simp [go_sem]), by simp [go_sem], by simp [go_sem], ((((Below.refl w.heap.size w).alloc (Nat.le_refl _) _).alloc (by simp) _).alloc (by simp; omega) _).drew, by simp; omega⟩
 have HT : ∀ (x : World) (u v : Value), S4 w w.heap.size (w.heap.size + 1) (w.heap.size + 1 + 1) a b c d x → S4 w w.heap.size (w.heap.size + 1) (w.heap.size + 1 + 1) a b c d ((x.setCell ⟨w.heap.size + 1 + 1, 0, none⟩ u).setCell ⟨w.heap.size + 1 + 1, 1, none⟩ v) := fun x u v h => S4.store u v h (by omega) (by omega) (by omega)
 go_enter Tryz.func114, Tryz.ntmps114
 go_upto_region 1 with fail
 go_region_held3 (fun x => x.cell? ⟨w.heap.size, 0, none⟩ = some (.int .u64 a) ∧ x.cell? ⟨w.heap.size, 1, none⟩ = some (.int .u64 b) ∧ x.cell? ⟨w.heap.size + 1, 0, none⟩ = some (.int .u64 c) ∧ x.cell? ⟨w.heap.size + 1, 1, none⟩ = some (.int .u64 d) ∧ x.cell? ⟨w.heap.size + 1 + 1, 0, none⟩ = some (cvA x ⟨w.heap.size + 1 + 1, 0, none⟩) ∧ x.cell? ⟨w.heap.size + 1 + 1, 1, none⟩ = some (cvA x ⟨w.heap.size + 1 + 1, 1, none⟩) ∧ x.frozen? ⟨w.heap.size + 1 + 1, 0, none⟩ = false ∧ x.frozen? ⟨w.heap.size + 1 + 1, 1, none⟩ = false ∧ Below w.heap.size w x ∧ w.heap.size ≤ x.heap.size) (first | exact HS.out | assumption | exact S4.keep (by assumption) (by assumption) | exact HT _ _ _ (by assumption))
  (first
   | (go_at_call 64; refine (mul_num' _ _ (by assumption) (by assumption) _).mono ?_; rintro e x ⟨rfl, hx⟩)
   | (go_at_call 86; refine (down_any _ _ (by assumption) (by assumption) (by assumption) _).mono ?_; rintro e x ⟨rfl, hx⟩)
   | (go_at_call 87; refine (up_any _ _ (by assumption) (by assumption) (by assumption) _).mono ?_; rintro e x ⟨rfl, hx⟩)
   | (go_at_call 142; refine (narrowed_any _ (by assumption) _).mono ?_; rintro e x ⟨rfl, hx⟩))
 all_goals
  rename_i hHeld
  have hS : S4 w w.heap.size (w.heap.size + 1) (w.heap.size + 1 + 1) a b c d _ := hHeld
  clear hHeld
  obtain ⟨z0, z1, hB⟩ := hS.tail
  obtain ⟨v0, v1, q0, q1⟩ := two_read z0 z1
  clear HS HT hS z0 z1
  go_wp2
  exact bodyPost_ret (v := spV (narV (a * d / 2147483648 / c)) (narV (cl (cl (b * d) 2147483648) c))) (by simp [results, Tryz.results114, go_sem, q0, q1]) rfl ⟨rfl, hB⟩
set_option maxHeartbeats 1000000 in
theorem rounded_any (lo hi : Int) (hl : Num lo) (hh : Num hi) (w : World) :
  Calls Tryz.prog 110 #[.agg #[.int .u64 (hiW lo), .int .u64 (loW lo), .int .u64 (hiW hi), .int .u64 (loW hi)]] w fun e w' => e = .returned (spV (narV (lo / 4294967296)) (narV (cl hi 4294967296))) ∧ Below w.heap.size w w' := by
 have w32 : Word 4294967296 := ⟨by omega, by omega⟩
 have n32 : (4294967296 : Int) ≠ 0 := by omega
 have nu3 := div_num_of hl (show (0 : Int) < 4294967296 by omega)
 have nu4 := cl_num_of hh (show (0 : Int) < 4294967296 by omega)
 have HS : Hid (Q4 w w.heap.size (w.heap.size + 1) (hiW lo) (loW lo) (hiW hi) (loW hi) ((w.alloc (.cells #[.int .u64 (hiW lo), .int .u64 (loW lo), .int .u64 (hiW hi), .int .u64 (loW hi)] 100)).alloc (.cells #[.int .u64 0, .int .u64 0] 93)).drew) := ⟨by simp [go_sem], by simp [go_sem], by simp [go_sem], by simp [go_sem], cvA_of (v := .int .u64 0) (by simp [go_sem]), cvA_of (v := .int .u64 0) (by simp [go_sem]), by simp [go_sem], by simp [go_sem], (((Below.refl w.heap.size w).alloc (Nat.le_refl _) _).alloc (by simp) _).drew, by simp; omega⟩
 have HT : ∀ (x : World) (u v : Value), Q4 w w.heap.size (w.heap.size + 1) (hiW lo) (loW lo) (hiW hi) (loW hi) x → Q4 w w.heap.size (w.heap.size + 1) (hiW lo) (loW lo) (hiW hi) (loW hi) ((x.setCell ⟨w.heap.size + 1, 0, none⟩ u).setCell ⟨w.heap.size + 1, 1, none⟩ v) := fun x u v h => Q4.store u v h (by omega) (by omega)
 go_enter Tryz.func110, Tryz.ntmps110
 go_upto_region 1 with fail
 go_region_held3 (fun x => x.cell? ⟨w.heap.size, 0, none⟩ = some (.int .u64 (hiW lo)) ∧ x.cell? ⟨w.heap.size, 1, none⟩ = some (.int .u64 (loW lo)) ∧ x.cell? ⟨w.heap.size, 2, none⟩ = some (.int .u64 (hiW hi)) ∧ x.cell? ⟨w.heap.size, 3, none⟩ = some (.int .u64 (loW hi)) ∧ x.cell? ⟨w.heap.size + 1, 0, none⟩ = some (cvA x ⟨w.heap.size + 1, 0, none⟩) ∧ x.cell? ⟨w.heap.size + 1, 1, none⟩ = some (cvA x ⟨w.heap.size + 1, 1, none⟩) ∧ x.frozen? ⟨w.heap.size + 1, 0, none⟩ = false ∧ x.frozen? ⟨w.heap.size + 1, 1, none⟩ = false ∧ Below w.heap.size w x ∧ w.heap.size ≤ x.heap.size) (first | exact HS.out | assumption | exact Q4.keep (by assumption) (by assumption) | exact HT _ _ _ (by assumption))
  (first
   | (go_at_call 64; refine (mul_num' _ _ (by assumption) (by assumption) _).mono ?_; rintro e x ⟨rfl, hx⟩)
   | (go_at_call 86; refine (down_any _ _ (by assumption) (by assumption) (by assumption) _).mono ?_; rintro e x ⟨rfl, hx⟩)
   | (go_at_call 87; refine (up_any _ _ (by assumption) (by assumption) (by assumption) _).mono ?_; rintro e x ⟨rfl, hx⟩)
   | (go_at_call 142; refine (narrowed_any _ (by assumption) _).mono ?_; rintro e x ⟨rfl, hx⟩))
 all_goals
  rename_i hHeld
  have hS : Q4 w w.heap.size (w.heap.size + 1) (hiW lo) (loW lo) (hiW hi) (loW hi) _ := hHeld
  clear hHeld
  obtain ⟨z0, z1, hB⟩ := hS.tail
  obtain ⟨v0, v1, q0, q1⟩ := two_read z0 z1
  clear HS HT hS z0 z1
  go_wp2
  exact bodyPost_ret (v := spV (narV (lo / 4294967296)) (narV (cl hi 4294967296))) (by simp [results, Tryz.results110, go_sem, q0, q1]) rfl ⟨rfl, hB⟩
end Go.Proofs.YtdkbmligaodpmaaGreatDoor
namespace Go.Proofs.YtdkbmligaodpmaaGreatDoor
open Go.RowKit Wd Tr

set_option maxRecDepth 20000 in
set_option maxHeartbeats 1000000 in
theorem raised_any (a b c d n m : Int) (ha : Word a) (hb : Word b) (hc : Word c) (hd : Word d) (hn : Word n) (hm : Word m) (m0 : m ≠ 0) (w : World) :
  Calls Tryz.prog 150 #[spV a b, spV c d, spV n m] w fun e w' => e = .returned (spV (narV (a + narV (subV c a * n / m))) (narV (b + narV (cl (subV d b * n) m)))) ∧ Below w.heap.size w w' := by
 have wx := nar_word (u := subV c a * n / m) (Int.ediv_nonneg (Int.mul_nonneg (sub_words hc ha).1 hn.1) hm.1)
 have wy := nar_word (u := cl (subV d b * n) m) (cl_nonneg (Int.mul_nonneg (sub_words hd hb).1 hn.1) (by have := hm.1; omega))
 have HS : Hid (S6 w w.heap.size (w.heap.size + 1) (w.heap.size + 1 + 1) (w.heap.size + 1 + 1 + 1) a b c d n m ((((w.alloc (.cells #[.int .u64 a, .int .u64 b] 93)).alloc (.cells #[.int .u64 c, .int .u64 d] 93)).alloc (.cells #[.int .u64 n, .int .u64 m] 174)).alloc (.cells #[.int .u64 0, .int .u64 0] 93)).drew) := ⟨by simp [go_sem], by simp [go_sem], by simp [go_sem], by simp [go_sem], by simp [go_sem], by simp [go_sem], cvA_of (v := .int .u64 0) (by simp [go_sem]), cvA_of (v := .int .u64 0) (by simp [go_sem]), by simp [go_sem], by simp [go_sem], (((((Below.refl w.heap.size w).alloc (Nat.le_refl _) _).alloc (by simp) _).alloc (by simp; omega) _).alloc (by simp; omega) _).drew, by simp; omega⟩
 have HT : ∀ (x : World) (u v : Value), S6 w w.heap.size (w.heap.size + 1) (w.heap.size + 1 + 1) (w.heap.size + 1 + 1 + 1) a b c d n m x → S6 w w.heap.size (w.heap.size + 1) (w.heap.size + 1 + 1) (w.heap.size + 1 + 1 + 1) a b c d n m ((x.setCell ⟨w.heap.size + 1 + 1 + 1, 0, none⟩ u).setCell ⟨w.heap.size + 1 + 1 + 1, 1, none⟩ v) := fun x u v h => S6.store u v h (by omega) (by omega) (by omega) (by omega)
 go_enter Tryz.func150, Tryz.ntmps150
 go_upto_region 1 with fail
 go_region_held3 (fun x => x.cell? ⟨w.heap.size, 0, none⟩ = some (.int .u64 a) ∧ x.cell? ⟨w.heap.size, 1, none⟩ = some (.int .u64 b) ∧ x.cell? ⟨w.heap.size + 1, 0, none⟩ = some (.int .u64 c) ∧ x.cell? ⟨w.heap.size + 1, 1, none⟩ = some (.int .u64 d) ∧ x.cell? ⟨w.heap.size + 1 + 1, 0, none⟩ = some (.int .u64 n) ∧ x.cell? ⟨w.heap.size + 1 + 1, 1, none⟩ = some (.int .u64 m) ∧ x.cell? ⟨w.heap.size + 1 + 1 + 1, 0, none⟩ = some (cvA x ⟨w.heap.size + 1 + 1 + 1, 0, none⟩) ∧ x.cell? ⟨w.heap.size + 1 + 1 + 1, 1, none⟩ = some (cvA x ⟨w.heap.size + 1 + 1 + 1, 1, none⟩) ∧ x.frozen? ⟨w.heap.size + 1 + 1 + 1, 0, none⟩ = false ∧ x.frozen? ⟨w.heap.size + 1 + 1 + 1, 1, none⟩ = false ∧ Below w.heap.size w x ∧ w.heap.size ≤ x.heap.size) (first | exact HS.out | assumption | exact S6.keep (by assumption) (by assumption) | exact HT _ _ _ (by assumption))
  (first
   | (go_at_call_of 165 (Value.int IntKind.u64 c); refine (above_dn _ _ _ _ (by assumption) (by assumption) (by assumption) (by assumption) (by assumption) _).mono ?_; rintro e x ⟨rfl, hx⟩)
   | (go_at_call_of 165 (Value.int IntKind.u64 d); refine (above_up _ _ _ _ (by assumption) (by assumption) (by assumption) (by assumption) (by assumption) _).mono ?_; rintro e x ⟨rfl, hx⟩)
   | (go_at_call 164; refine (plus_any _ _ _ _ (by assumption) (by assumption) (by assumption) (by assumption) _).mono ?_; rintro e x ⟨rfl, hx⟩))
 all_goals
  rename_i hHeld
  have hS : S6 w w.heap.size (w.heap.size + 1) (w.heap.size + 1 + 1) (w.heap.size + 1 + 1 + 1) a b c d n m _ := hHeld
  clear hHeld
  obtain ⟨z0, z1, hB⟩ := hS.tail
  obtain ⟨v0, v1, q0, q1⟩ := two_read z0 z1
  clear HS HT hS z0 z1
  go_wp2
  exact bodyPost_ret (v := spV (narV (a + narV (subV c a * n / m))) (narV (b + narV (cl (subV d b * n) m)))) (by simp [results, Tryz.results150, go_sem, q0, q1]) rfl ⟨rfl, hB⟩
end Go.Proofs.YtdkbmligaodpmaaGreatDoor
