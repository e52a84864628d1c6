/-
  THE STATEMENT FixqLaws, walked.
-/
import Derived.Test.YtpfhncggbjpflaaShown
import Derived.Test.YtpfhncggbjpflaaMathL
namespace Go.Proofs.Ytpfhncggbjpflaa
open Go.RowKit Wd

set_option maxHeartbeats 1000000 in
/-- beside: up is down, or one more; or down is the greatest and up does not fit. -/
theorem beside_any (u b : Int) (hu : Num u) (hb : Word b) (w : World) :
    Calls Try.prog 26 #[.agg #[.int .u64 (dnV u b), .bool (dnB u b)], .agg #[.int .u64 (upV u b), .bool (upB u b)]] w fun e w' => e = .returned (.bool true) ∧ Below w.heap.size w w' := by
  have hd := (dn_word hu hb).1
  rcases up_dn u b with ⟨e1, e2⟩ | ⟨e1, e2, e3, e4, e5⟩ | ⟨e1, e2, e3, e4⟩
  · rw [e1, e2]
    go_enter Try.func26, Try.ntmps26
    go_wp2
    go_ret
    exact ⟨by simp, ((Below.refl _ _).alloc (Nat.le_refl _) _).alloc (by simp) _⟩
  · rw [e1, e2]
    generalize dnV u b = d at *
    generalize upV u b = p at *
    subst e3
    have ew : IntKind.u64.wrap (d + 1) = d + 1 := by rw [IntKind.wrap_u64]; omega
    have k : (d == d + 1) = false := by simp; omega
    go_enter Try.func26, Try.ntmps26
    go_wp2
    go_ret
    exact ⟨by simp, ((Below.refl _ _).alloc (Nat.le_refl _) _).alloc (by simp) _⟩
  · rw [e1, e2, e3, e4]
    go_enter Try.func26, Try.ntmps26
    go_wp2
    go_ret
    exact ⟨by simp, ((Below.refl _ _).alloc (Nat.le_refl _) _).alloc (by simp) _⟩

/-- An answer that lies in block g. -/
def Box (w : World) (g : Nat) (x : Int) (o : Bool) : Prop := w.cell? ⟨g, 0, none⟩ = some (.int .u64 x) ∧ w.cell? ⟨g, 1, none⟩ = some (.bool o)
theorem Box.below {W w : World} {g : Nat} {x : Int} {o : Bool} (h : Box W g x o) (hb : Below W.heap.size W w) : Box w g x o := ⟨keepC hb h.1, keepC hb h.2⟩
theorem Box.alloc {w : World} {g : Nat} {x : Int} {o : Bool} (h : Box w g x o) (b : Obj) : Box (w.alloc b) g x o := ⟨allocC b h.1, allocC b h.2⟩
theorem Box.new (w : World) (x : Int) (o : Bool) (t : TypeId) : Box (w.alloc (.cells #[.int .u64 x, .bool o] t)) w.heap.size x o := ⟨by simp, by simp⟩
theorem drew_below2 (w : World) : Below w.heap.size w w.drew := (Below.refl _ _).drew
theorem Box.drew {w : World} {g : Nat} {x : Int} {o : Bool} (h : Box w g x o) : Box w.drew g x o := h
theorem keepB4 {W w w0 : World} {a0 a1 a2 a3 a4 a5 a6 a7 : Addr} {v0 v1 v2 v3 v4 v5 v6 v7 : Value} (hb : Below W.heap.size W w) (h : W.cell? a0 = some v0 ∧ W.cell? a1 = some v1 ∧ W.cell? a2 = some v2 ∧ W.cell? a3 = some v3 ∧ W.cell? a4 = some v4 ∧ W.cell? a5 = some v5 ∧ W.cell? a6 = some v6 ∧ W.cell? a7 = some v7 ∧ Below w0.heap.size w0 W ∧ w0.heap.size ≤ W.heap.size) : w.cell? a0 = some v0 ∧ w.cell? a1 = some v1 ∧ w.cell? a2 = some v2 ∧ w.cell? a3 = some v3 ∧ w.cell? a4 = some v4 ∧ w.cell? a5 = some v5 ∧ w.cell? a6 = some v6 ∧ w.cell? a7 = some v7 ∧ Below w0.heap.size w0 w ∧ w0.heap.size ≤ w.heap.size := by
  obtain ⟨h0, h1, h2, h3, h4, h5, h6, h7, hB, hz⟩ := h
  exact ⟨keepC hb h0, keepC hb h1, keepC hb h2, keepC hb h3, keepC hb h4, keepC hb h5, keepC hb h6, keepC hb h7, hB.trans (hb.mono hz), Nat.le_trans hz hb.size⟩
theorem keepB5 {W w w0 : World} {a0 a1 a2 a3 a4 a5 a6 a7 a8 a9 : Addr} {v0 v1 v2 v3 v4 v5 v6 v7 v8 v9 : Value} (hb : Below W.heap.size W w) (h : W.cell? a0 = some v0 ∧ W.cell? a1 = some v1 ∧ W.cell? a2 = some v2 ∧ W.cell? a3 = some v3 ∧ W.cell? a4 = some v4 ∧ W.cell? a5 = some v5 ∧ W.cell? a6 = some v6 ∧ W.cell? a7 = some v7 ∧ W.cell? a8 = some v8 ∧ W.cell? a9 = some v9 ∧ Below w0.heap.size w0 W ∧ w0.heap.size ≤ W.heap.size) : w.cell? a0 = some v0 ∧ w.cell? a1 = some v1 ∧ w.cell? a2 = some v2 ∧ w.cell? a3 = some v3 ∧ w.cell? a4 = some v4 ∧ w.cell? a5 = some v5 ∧ w.cell? a6 = some v6 ∧ w.cell? a7 = some v7 ∧ w.cell? a8 = some v8 ∧ w.cell? a9 = some v9 ∧ Below w0.heap.size w0 w ∧ w0.heap.size ≤ w.heap.size := by
  obtain ⟨h0, h1, h2, h3, h4, h5, h6, h7, h8, h9, hB, hz⟩ := h
  exact ⟨keepC hb h0, keepC hb h1, keepC hb h2, keepC hb h3, keepC hb h4, keepC hb h5, keepC hb h6, keepC hb h7, keepC hb h8, keepC hb h9, hB.trans (hb.mono hz), Nat.le_trans hz hb.size⟩
theorem keepB6 {W w w0 : World} {a0 a1 a2 a3 a4 a5 a6 a7 a8 a9 a10 a11 : Addr} {v0 v1 v2 v3 v4 v5 v6 v7 v8 v9 v10 v11 : Value} (hb : Below W.heap.size W w) (h : W.cell? a0 = some v0 ∧ W.cell? a1 = some v1 ∧ W.cell? a2 = some v2 ∧ W.cell? a3 = some v3 ∧ W.cell? a4 = some v4 ∧ W.cell? a5 = some v5 ∧ W.cell? a6 = some v6 ∧ W.cell? a7 = some v7 ∧ W.cell? a8 = some v8 ∧ W.cell? a9 = some v9 ∧ W.cell? a10 = some v10 ∧ W.cell? a11 = some v11 ∧ Below w0.heap.size w0 W ∧ w0.heap.size ≤ W.heap.size) : w.cell? a0 = some v0 ∧ w.cell? a1 = some v1 ∧ w.cell? a2 = some v2 ∧ w.cell? a3 = some v3 ∧ w.cell? a4 = some v4 ∧ w.cell? a5 = some v5 ∧ w.cell? a6 = some v6 ∧ w.cell? a7 = some v7 ∧ w.cell? a8 = some v8 ∧ w.cell? a9 = some v9 ∧ w.cell? a10 = some v10 ∧ w.cell? a11 = some v11 ∧ Below w0.heap.size w0 w ∧ w0.heap.size ≤ w.heap.size := by
  obtain ⟨h0, h1, h2, h3, h4, h5, h6, h7, h8, h9, h10, h11, hB, hz⟩ := h
  exact ⟨keepC hb h0, keepC hb h1, keepC hb h2, keepC hb h3, keepC hb h4, keepC hb h5, keepC hb h6, keepC hb h7, keepC hb h8, keepC hb h9, keepC hb h10, keepC hb h11, hB.trans (hb.mono hz), Nat.le_trans hz hb.size⟩
theorem mulOne (p : Int) (hp : Word p) (w : World) : Calls Try.prog 14 #[.int .u64 p, .int .u64 4294967296] w fun e w' => e = .returned (.tuple #[.int .u64 p, .bool true]) ∧ Below w.heap.size w w' := by
  have c := mulUp_any p 4294967296 hp word32 w
  rw [(mul_one_up hp).1, (mul_one_up hp).2] at c
  exact c
theorem divOne (p : Int) (hp : Word p) (w : World) : Calls Try.prog 16 #[.int .u64 p, .int .u64 4294967296] w fun e w' => e = .returned (.tuple #[.int .u64 p, .bool true]) ∧ Below w.heap.size w w' := by
  have c := divDown_any p 4294967296 hp word32 w
  rw [(div_one hp).1, (div_one hp).2] at c
  exact c
theorem partOne (p : Int) (hp : Word p) (w : World) : Calls Try.prog 24 #[.int .u64 p, .int .u64 9223372036854775808] w fun e w' => e = .returned (.int .u64 p) ∧ Below w.heap.size w w' := by
  have c := part_any p 9223372036854775808 hp word63 w
  rw [part_one] at c
  exact c

set_option maxHeartbeats 8000000 in
set_option maxRecDepth 20000 in
theorem laws_walk1 (a b c : Int) (ha : Word a) (hb : Word b) (hc : Word c) (h : a ≤ c) (w : World) :
    Calls Try.prog 4 #[.int .u64 a, .int .u64 b, .int .u64 c] w fun e w' => e = .returned (.bool true) ∧ Below w.heap.size w w' := by
  have le : a ≤ c := by omega
  have r1 := mulDn_mono hb le
  have r2 := divDn_mono hb le
  have r3 := part_mono1 hb le
  have r4 := part_mono2 hb le
  have R : Hid (decide (dnV (a * b) 4294967296 ≤ dnV (c * b) 4294967296) = true ∧ decide (dnV (a * 4294967296) b ≤ dnV (c * 4294967296) b) = true ∧ decide (partV a b ≤ partV c b) = true ∧ decide (partV b a ≤ partV b c) = true) := ⟨decide_eq_true r1, decide_eq_true r2, decide_eq_true r3, decide_eq_true r4⟩
  clear r1 r2 r3 r4 le
  go_enter Try.func4, Try.ntmps4
  go_wp2_with fail
  refine (shown_any _).mono ?_
  rintro e w0 ⟨rfl, hz0⟩
  have HB : Hid (Below w.heap.size w w0) := hz0
  have s0 := hz0.size
  clear hz0
  go_wp2_with fail
  refine (mulDown_any a b (by assumption) hb _).mono ?_
  rintro e w1 ⟨rfl, hz1⟩
  go_wp2_with fail
  refine (law_of (dnV (a * b) 4294967296) (dnB (a * b) 4294967296) _).mono ?_
  rintro e w2 ⟨rfl, hz2⟩
  have HB2 : Hid (Below w.heap.size w w2 ∧ w.heap.size ≤ w2.heap.size) := ⟨(HB.out.trans (hz1.mono s0)).trans (hz2.mono (Nat.le_trans s0 hz1.size)), Nat.le_trans s0 (Nat.le_trans hz1.size hz2.size)⟩
  clear hz1 hz2 HB s0
  go_wp2_with fail
  refine (mulDown_any c b (by assumption) hb _).mono ?_
  rintro e w3 ⟨rfl, hz3⟩
  go_wp2_with fail
  refine (law_of (dnV (c * b) 4294967296) (dnB (c * b) 4294967296) _).mono ?_
  rintro e w4 ⟨rfl, hz4⟩
  have zz1 := hz3.size
  have zz2 := hz4.size
  have zz0 := HB2.out.2
  simp at zz1
  have HB4 : Hid (Below w.heap.size w w4 ∧ w.heap.size ≤ w4.heap.size) := ⟨((HB2.out.1.alloc zz0 _).trans (hz3.mono (by simp; omega))).trans (hz4.mono (by omega)), by omega⟩
  have X4_product : Hid (Box w4 w2.heap.size (dnV (a * b) 4294967296) (dnB (a * b) 4294967296)) := ((Box.new w2 (dnV (a * b) 4294967296) (dnB (a * b) 4294967296) 25).below hz3).below hz4
  clear hz3 hz4 zz0 zz1 zz2 HB2 
  go_wp2_with fail
  refine (divDown_any a b (by assumption) hb _).mono ?_
  rintro e w5 ⟨rfl, hz5⟩
  go_wp2_with fail
  refine (law_of (dnV (a * 4294967296) b) (dnB (a * 4294967296) b) _).mono ?_
  rintro e w6 ⟨rfl, hz6⟩
  have zz1 := hz5.size
  have zz2 := hz6.size
  have zz0 := HB4.out.2
  simp at zz1
  have HB6 : Hid (Below w.heap.size w w6 ∧ w.heap.size ≤ w6.heap.size) := ⟨((HB4.out.1.alloc zz0 _).trans (hz5.mono (by simp; omega))).trans (hz6.mono (by omega)), by omega⟩
  have X6_product : Hid (Box w6 w2.heap.size (dnV (a * b) 4294967296) (dnB (a * b) 4294967296)) := ((X4_product.out.alloc _).below hz5).below hz6
  have X6_more : Hid (Box w6 w4.heap.size (dnV (c * b) 4294967296) (dnB (c * b) 4294967296)) := ((Box.new w4 (dnV (c * b) 4294967296) (dnB (c * b) 4294967296) 25).below hz5).below hz6
  clear hz5 hz6 zz0 zz1 zz2 HB4 X4_product
  go_wp2_with fail
  refine (divDown_any c b (by assumption) hb _).mono ?_
  rintro e w7 ⟨rfl, hz7⟩
  go_wp2_with fail
  refine (law_of (dnV (c * 4294967296) b) (dnB (c * 4294967296) b) _).mono ?_
  rintro e w8 ⟨rfl, hz8⟩
  have zz1 := hz7.size
  have zz2 := hz8.size
  have zz0 := HB6.out.2
  simp at zz1
  have HB8 : Hid (Below w.heap.size w w8 ∧ w.heap.size ≤ w8.heap.size) := ⟨((HB6.out.1.alloc zz0 _).trans (hz7.mono (by simp; omega))).trans (hz8.mono (by omega)), by omega⟩
  have X8_product : Hid (Box w8 w2.heap.size (dnV (a * b) 4294967296) (dnB (a * b) 4294967296)) := ((X6_product.out.alloc _).below hz7).below hz8
  have X8_more : Hid (Box w8 w4.heap.size (dnV (c * b) 4294967296) (dnB (c * b) 4294967296)) := ((X6_more.out.alloc _).below hz7).below hz8
  have X8_quotient : Hid (Box w8 w6.heap.size (dnV (a * 4294967296) b) (dnB (a * 4294967296) b)) := ((Box.new w6 (dnV (a * 4294967296) b) (dnB (a * 4294967296) b) 25).below hz7).below hz8
  clear hz7 hz8 zz0 zz1 zz2 HB6 X6_product X6_more
  have PW : Hid (Word (dnV (a * b) 4294967296)) := dn_word (mul_num (by assumption) hb) word32
  go_upto_region 9 with fail
  have HS : Hid ((w8.alloc (.cells #[.int .u64 (dnV (c * 4294967296) b), .bool (dnB (c * 4294967296) b)] 25)).drew.cell? ⟨w2.heap.size, 0, none⟩ = some (.int .u64 (dnV (a * b) 4294967296)) ∧ (w8.alloc (.cells #[.int .u64 (dnV (c * 4294967296) b), .bool (dnB (c * 4294967296) b)] 25)).drew.cell? ⟨w2.heap.size, 1, none⟩ = some (.bool (dnB (a * b) 4294967296)) ∧ (w8.alloc (.cells #[.int .u64 (dnV (c * 4294967296) b), .bool (dnB (c * 4294967296) b)] 25)).drew.cell? ⟨w4.heap.size, 0, none⟩ = some (.int .u64 (dnV (c * b) 4294967296)) ∧ (w8.alloc (.cells #[.int .u64 (dnV (c * 4294967296) b), .bool (dnB (c * 4294967296) b)] 25)).drew.cell? ⟨w4.heap.size, 1, none⟩ = some (.bool (dnB (c * b) 4294967296)) ∧ (w8.alloc (.cells #[.int .u64 (dnV (c * 4294967296) b), .bool (dnB (c * 4294967296) b)] 25)).drew.cell? ⟨w6.heap.size, 0, none⟩ = some (.int .u64 (dnV (a * 4294967296) b)) ∧ (w8.alloc (.cells #[.int .u64 (dnV (c * 4294967296) b), .bool (dnB (c * 4294967296) b)] 25)).drew.cell? ⟨w6.heap.size, 1, none⟩ = some (.bool (dnB (a * 4294967296) b)) ∧ (w8.alloc (.cells #[.int .u64 (dnV (c * 4294967296) b), .bool (dnB (c * 4294967296) b)] 25)).drew.cell? ⟨w8.heap.size, 0, none⟩ = some (.int .u64 (dnV (c * 4294967296) b)) ∧ (w8.alloc (.cells #[.int .u64 (dnV (c * 4294967296) b), .bool (dnB (c * 4294967296) b)] 25)).drew.cell? ⟨w8.heap.size, 1, none⟩ = some (.bool (dnB (c * 4294967296) b)) ∧ Below w.heap.size w (w8.alloc (.cells #[.int .u64 (dnV (c * 4294967296) b), .bool (dnB (c * 4294967296) b)] 25)).drew ∧ w.heap.size ≤ (w8.alloc (.cells #[.int .u64 (dnV (c * 4294967296) b), .bool (dnB (c * 4294967296) b)] 25)).drew.heap.size) := by
    have zz := HB8.out.2
    refine ⟨(X8_product.out.alloc _).1, (X8_product.out.alloc _).2, (X8_more.out.alloc _).1, (X8_more.out.alloc _).2, (X8_quotient.out.alloc _).1, (X8_quotient.out.alloc _).2, ?_, ?_, ?_, ?_⟩
    · exact (Box.new w8 _ _ _).1
    · exact (Box.new w8 _ _ _).2
    · exact (HB8.out.1.alloc zz _).drew
    · simp; omega
  clear HB8 X8_product X8_more X8_quotient
  generalize (w8.alloc (.cells #[.int .u64 (dnV (c * 4294967296) b), .bool (dnB (c * 4294967296) b)] 25)) = v0 at *
  go_region_held3 (fun w' => w'.cell? ⟨w2.heap.size, 0, none⟩ = some (.int .u64 (dnV (a * b) 4294967296)) ∧ w'.cell? ⟨w2.heap.size, 1, none⟩ = some (.bool (dnB (a * b) 4294967296)) ∧ w'.cell? ⟨w4.heap.size, 0, none⟩ = some (.int .u64 (dnV (c * b) 4294967296)) ∧ w'.cell? ⟨w4.heap.size, 1, none⟩ = some (.bool (dnB (c * b) 4294967296)) ∧ w'.cell? ⟨w6.heap.size, 0, none⟩ = some (.int .u64 (dnV (a * 4294967296) b)) ∧ w'.cell? ⟨w6.heap.size, 1, none⟩ = some (.bool (dnB (a * 4294967296) b)) ∧ w'.cell? ⟨w8.heap.size, 0, none⟩ = some (.int .u64 (dnV (c * 4294967296) b)) ∧ w'.cell? ⟨w8.heap.size, 1, none⟩ = some (.bool (dnB (c * 4294967296) b)) ∧ Below w.heap.size w w' ∧ w.heap.size ≤ w'.heap.size) (first | exact HS.out | exact keepB4 (by assumption) (by assumption))
    (first
    | (go_at_call 7; refine (law_of _ _ _).mono ?_; rintro e x ⟨rfl, hx⟩)
    | (go_at_call 14; refine (mulUp_any _ _ (by first | assumption | exact PW) (by first | assumption | exact word32) _).mono ?_; rintro e x ⟨rfl, hx⟩)
    | (go_at_call 16; refine (divDown_any _ _ (by assumption) (by first | assumption | exact word32) _).mono ?_; rintro e x ⟨rfl, hx⟩)
    | (go_at_call 18; refine (divUp_any _ _ (by assumption) (by assumption) _).mono ?_; rintro e x ⟨rfl, hx⟩)
    | (go_at_call 24; refine (part_any _ _ (by assumption) (by first | assumption | exact word63) _).mono ?_; rintro e x ⟨rfl, hx⟩)
    | (go_at_call 26; refine (beside_any _ _ (by first | exact mul_num (by assumption) (by assumption) | exact mul_num (by assumption) word32) (by first | assumption | exact word32) _).mono ?_; rintro e x ⟨rfl, hx⟩))
  have HT : Hid (x.cell? ⟨w2.heap.size, 0, none⟩ = some (.int .u64 (dnV (a * b) 4294967296)) ∧ x.cell? ⟨w2.heap.size, 1, none⟩ = some (.bool (dnB (a * b) 4294967296)) ∧ x.cell? ⟨w4.heap.size, 0, none⟩ = some (.int .u64 (dnV (c * b) 4294967296)) ∧ x.cell? ⟨w4.heap.size, 1, none⟩ = some (.bool (dnB (c * b) 4294967296)) ∧ x.cell? ⟨w6.heap.size, 0, none⟩ = some (.int .u64 (dnV (a * 4294967296) b)) ∧ x.cell? ⟨w6.heap.size, 1, none⟩ = some (.bool (dnB (a * 4294967296) b)) ∧ x.cell? ⟨w8.heap.size, 0, none⟩ = some (.int .u64 (dnV (c * 4294967296) b)) ∧ x.cell? ⟨w8.heap.size, 1, none⟩ = some (.bool (dnB (c * 4294967296) b)) ∧ Below w.heap.size w x ∧ w.heap.size ≤ x.heap.size) := by assumption
  clear HS
  generalize x = v1 at HT ⊢
  obtain ⟨t0, t1, t2, t3, t4, t5, t6, t7, _, _⟩ := HT.out
  obtain ⟨r1, r2, r3, r4⟩ := R.out
  go_wp2_with fail
  refine (part_any a b (by assumption) (by assumption) _).mono ?_
  rintro e y1 ⟨rfl, hy⟩
  have HT1 : Hid (y1.cell? ⟨w2.heap.size, 0, none⟩ = some (.int .u64 (dnV (a * b) 4294967296)) ∧ y1.cell? ⟨w2.heap.size, 1, none⟩ = some (.bool (dnB (a * b) 4294967296)) ∧ y1.cell? ⟨w4.heap.size, 0, none⟩ = some (.int .u64 (dnV (c * b) 4294967296)) ∧ y1.cell? ⟨w4.heap.size, 1, none⟩ = some (.bool (dnB (c * b) 4294967296)) ∧ y1.cell? ⟨w6.heap.size, 0, none⟩ = some (.int .u64 (dnV (a * 4294967296) b)) ∧ y1.cell? ⟨w6.heap.size, 1, none⟩ = some (.bool (dnB (a * 4294967296) b)) ∧ y1.cell? ⟨w8.heap.size, 0, none⟩ = some (.int .u64 (dnV (c * 4294967296) b)) ∧ y1.cell? ⟨w8.heap.size, 1, none⟩ = some (.bool (dnB (c * 4294967296) b)) ∧ Below w.heap.size w y1 ∧ w.heap.size ≤ y1.heap.size) := keepB4 hy HT.out
  clear hy HT
  go_wp2_with fail
  refine (part_any c b (by assumption) (by assumption) _).mono ?_
  rintro e y2 ⟨rfl, hy⟩
  have HT2 : Hid (y2.cell? ⟨w2.heap.size, 0, none⟩ = some (.int .u64 (dnV (a * b) 4294967296)) ∧ y2.cell? ⟨w2.heap.size, 1, none⟩ = some (.bool (dnB (a * b) 4294967296)) ∧ y2.cell? ⟨w4.heap.size, 0, none⟩ = some (.int .u64 (dnV (c * b) 4294967296)) ∧ y2.cell? ⟨w4.heap.size, 1, none⟩ = some (.bool (dnB (c * b) 4294967296)) ∧ y2.cell? ⟨w6.heap.size, 0, none⟩ = some (.int .u64 (dnV (a * 4294967296) b)) ∧ y2.cell? ⟨w6.heap.size, 1, none⟩ = some (.bool (dnB (a * 4294967296) b)) ∧ y2.cell? ⟨w8.heap.size, 0, none⟩ = some (.int .u64 (dnV (c * 4294967296) b)) ∧ y2.cell? ⟨w8.heap.size, 1, none⟩ = some (.bool (dnB (c * 4294967296) b)) ∧ Below w.heap.size w y2 ∧ w.heap.size ≤ y2.heap.size) := keepB4 hy HT1.out
  clear hy HT1
  go_wp2_with fail
  refine (part_any b a (by assumption) (by assumption) _).mono ?_
  rintro e y3 ⟨rfl, hy⟩
  have HT3 : Hid (y3.cell? ⟨w2.heap.size, 0, none⟩ = some (.int .u64 (dnV (a * b) 4294967296)) ∧ y3.cell? ⟨w2.heap.size, 1, none⟩ = some (.bool (dnB (a * b) 4294967296)) ∧ y3.cell? ⟨w4.heap.size, 0, none⟩ = some (.int .u64 (dnV (c * b) 4294967296)) ∧ y3.cell? ⟨w4.heap.size, 1, none⟩ = some (.bool (dnB (c * b) 4294967296)) ∧ y3.cell? ⟨w6.heap.size, 0, none⟩ = some (.int .u64 (dnV (a * 4294967296) b)) ∧ y3.cell? ⟨w6.heap.size, 1, none⟩ = some (.bool (dnB (a * 4294967296) b)) ∧ y3.cell? ⟨w8.heap.size, 0, none⟩ = some (.int .u64 (dnV (c * 4294967296) b)) ∧ y3.cell? ⟨w8.heap.size, 1, none⟩ = some (.bool (dnB (c * 4294967296) b)) ∧ Below w.heap.size w y3 ∧ w.heap.size ≤ y3.heap.size) := keepB4 hy HT2.out
  clear hy HT2
  go_wp2_with fail
  refine (part_any b c (by assumption) (by assumption) _).mono ?_
  rintro e y4 ⟨rfl, hy⟩
  have HT4 : Hid (y4.cell? ⟨w2.heap.size, 0, none⟩ = some (.int .u64 (dnV (a * b) 4294967296)) ∧ y4.cell? ⟨w2.heap.size, 1, none⟩ = some (.bool (dnB (a * b) 4294967296)) ∧ y4.cell? ⟨w4.heap.size, 0, none⟩ = some (.int .u64 (dnV (c * b) 4294967296)) ∧ y4.cell? ⟨w4.heap.size, 1, none⟩ = some (.bool (dnB (c * b) 4294967296)) ∧ y4.cell? ⟨w6.heap.size, 0, none⟩ = some (.int .u64 (dnV (a * 4294967296) b)) ∧ y4.cell? ⟨w6.heap.size, 1, none⟩ = some (.bool (dnB (a * 4294967296) b)) ∧ y4.cell? ⟨w8.heap.size, 0, none⟩ = some (.int .u64 (dnV (c * 4294967296) b)) ∧ y4.cell? ⟨w8.heap.size, 1, none⟩ = some (.bool (dnB (c * 4294967296) b)) ∧ Below w.heap.size w y4 ∧ w.heap.size ≤ y4.heap.size) := keepB4 hy HT3.out
  clear hy HT3
  clear r1 r2 r3 r4 t0 t1 t2 t3 t4 t5 t6 t7
  go_wp2_with fail
  refine (qadd_any a b (by assumption) hb _).mono ?_
  rintro e y5 ⟨rfl, hy⟩
  have HT5 : Hid (y5.cell? ⟨w2.heap.size, 0, none⟩ = some (.int .u64 (dnV (a * b) 4294967296)) ∧ y5.cell? ⟨w2.heap.size, 1, none⟩ = some (.bool (dnB (a * b) 4294967296)) ∧ y5.cell? ⟨w4.heap.size, 0, none⟩ = some (.int .u64 (dnV (c * b) 4294967296)) ∧ y5.cell? ⟨w4.heap.size, 1, none⟩ = some (.bool (dnB (c * b) 4294967296)) ∧ y5.cell? ⟨w6.heap.size, 0, none⟩ = some (.int .u64 (dnV (a * 4294967296) b)) ∧ y5.cell? ⟨w6.heap.size, 1, none⟩ = some (.bool (dnB (a * 4294967296) b)) ∧ y5.cell? ⟨w8.heap.size, 0, none⟩ = some (.int .u64 (dnV (c * 4294967296) b)) ∧ y5.cell? ⟨w8.heap.size, 1, none⟩ = some (.bool (dnB (c * 4294967296) b)) ∧ Below w.heap.size w y5 ∧ w.heap.size ≤ y5.heap.size) := keepB4 hy HT4.out
  clear hy HT4
  go_wp2_with fail
  refine (law_of (narV (a + b)) (narB (a + b)) _).mono ?_
  rintro e y6 ⟨rfl, hy⟩
  have HT6 : Hid (y6.cell? ⟨w2.heap.size, 0, none⟩ = some (.int .u64 (dnV (a * b) 4294967296)) ∧ y6.cell? ⟨w2.heap.size, 1, none⟩ = some (.bool (dnB (a * b) 4294967296)) ∧ y6.cell? ⟨w4.heap.size, 0, none⟩ = some (.int .u64 (dnV (c * b) 4294967296)) ∧ y6.cell? ⟨w4.heap.size, 1, none⟩ = some (.bool (dnB (c * b) 4294967296)) ∧ y6.cell? ⟨w6.heap.size, 0, none⟩ = some (.int .u64 (dnV (a * 4294967296) b)) ∧ y6.cell? ⟨w6.heap.size, 1, none⟩ = some (.bool (dnB (a * 4294967296) b)) ∧ y6.cell? ⟨w8.heap.size, 0, none⟩ = some (.int .u64 (dnV (c * 4294967296) b)) ∧ y6.cell? ⟨w8.heap.size, 1, none⟩ = some (.bool (dnB (c * 4294967296) b)) ∧ Below w.heap.size w y6 ∧ w.heap.size ≤ y6.heap.size) := keepB4 hy HT5.out
  clear hy HT5
  have sw : Word (narV (a + b)) := nar_word (by obtain ⟨_, _⟩ := ha; obtain ⟨_, _⟩ := hb; obtain ⟨_, _⟩ := hc; omega)
  have HA : Hid ((y6.alloc (.cells #[.int .u64 (narV (a + b)), .bool (narB (a + b))] 25)).cell? ⟨w2.heap.size, 0, none⟩ = some (.int .u64 (dnV (a * b) 4294967296)) ∧ (y6.alloc (.cells #[.int .u64 (narV (a + b)), .bool (narB (a + b))] 25)).cell? ⟨w2.heap.size, 1, none⟩ = some (.bool (dnB (a * b) 4294967296)) ∧ (y6.alloc (.cells #[.int .u64 (narV (a + b)), .bool (narB (a + b))] 25)).cell? ⟨w4.heap.size, 0, none⟩ = some (.int .u64 (dnV (c * b) 4294967296)) ∧ (y6.alloc (.cells #[.int .u64 (narV (a + b)), .bool (narB (a + b))] 25)).cell? ⟨w4.heap.size, 1, none⟩ = some (.bool (dnB (c * b) 4294967296)) ∧ (y6.alloc (.cells #[.int .u64 (narV (a + b)), .bool (narB (a + b))] 25)).cell? ⟨w6.heap.size, 0, none⟩ = some (.int .u64 (dnV (a * 4294967296) b)) ∧ (y6.alloc (.cells #[.int .u64 (narV (a + b)), .bool (narB (a + b))] 25)).cell? ⟨w6.heap.size, 1, none⟩ = some (.bool (dnB (a * 4294967296) b)) ∧ (y6.alloc (.cells #[.int .u64 (narV (a + b)), .bool (narB (a + b))] 25)).cell? ⟨w8.heap.size, 0, none⟩ = some (.int .u64 (dnV (c * 4294967296) b)) ∧ (y6.alloc (.cells #[.int .u64 (narV (a + b)), .bool (narB (a + b))] 25)).cell? ⟨w8.heap.size, 1, none⟩ = some (.bool (dnB (c * 4294967296) b)) ∧ (y6.alloc (.cells #[.int .u64 (narV (a + b)), .bool (narB (a + b))] 25)).cell? ⟨y6.heap.size, 0, none⟩ = some (.int .u64 (narV (a + b))) ∧ (y6.alloc (.cells #[.int .u64 (narV (a + b)), .bool (narB (a + b))] 25)).cell? ⟨y6.heap.size, 1, none⟩ = some (.bool (narB (a + b))) ∧ Below w.heap.size w (y6.alloc (.cells #[.int .u64 (narV (a + b)), .bool (narB (a + b))] 25)) ∧ w.heap.size ≤ (y6.alloc (.cells #[.int .u64 (narV (a + b)), .bool (narB (a + b))] 25)).heap.size) := by
    obtain ⟨q0, q1, q2, q3, q4, q5, q6, q7, qB, qz⟩ := HT6.out
    exact ⟨allocC _ q0, allocC _ q1, allocC _ q2, allocC _ q3, allocC _ q4, allocC _ q5, allocC _ q6, allocC _ q7, (Box.new y6 _ _ _).1, (Box.new y6 _ _ _).2, (qB.alloc qz _), by simp; omega⟩
  clear HT6
  go_wp2_with fail
  refine (qsub_any (narV (a + b)) b sw hb _).mono ?_
  rintro e y7 ⟨rfl, hy⟩
  have HT7 : Hid (y7.cell? ⟨w2.heap.size, 0, none⟩ = some (.int .u64 (dnV (a * b) 4294967296)) ∧ y7.cell? ⟨w2.heap.size, 1, none⟩ = some (.bool (dnB (a * b) 4294967296)) ∧ y7.cell? ⟨w4.heap.size, 0, none⟩ = some (.int .u64 (dnV (c * b) 4294967296)) ∧ y7.cell? ⟨w4.heap.size, 1, none⟩ = some (.bool (dnB (c * b) 4294967296)) ∧ y7.cell? ⟨w6.heap.size, 0, none⟩ = some (.int .u64 (dnV (a * 4294967296) b)) ∧ y7.cell? ⟨w6.heap.size, 1, none⟩ = some (.bool (dnB (a * 4294967296) b)) ∧ y7.cell? ⟨w8.heap.size, 0, none⟩ = some (.int .u64 (dnV (c * 4294967296) b)) ∧ y7.cell? ⟨w8.heap.size, 1, none⟩ = some (.bool (dnB (c * 4294967296) b)) ∧ y7.cell? ⟨y6.heap.size, 0, none⟩ = some (.int .u64 (narV (a + b))) ∧ y7.cell? ⟨y6.heap.size, 1, none⟩ = some (.bool (narB (a + b))) ∧ Below w.heap.size w y7 ∧ w.heap.size ≤ y7.heap.size) := keepB5 hy HA.out
  clear hy HA
  go_wp2_with fail
  refine (law_of (subV (narV (a + b)) b) (subB (narV (a + b)) b) _).mono ?_
  rintro e y8 ⟨rfl, hy⟩
  have HT8 : Hid (y8.cell? ⟨w2.heap.size, 0, none⟩ = some (.int .u64 (dnV (a * b) 4294967296)) ∧ y8.cell? ⟨w2.heap.size, 1, none⟩ = some (.bool (dnB (a * b) 4294967296)) ∧ y8.cell? ⟨w4.heap.size, 0, none⟩ = some (.int .u64 (dnV (c * b) 4294967296)) ∧ y8.cell? ⟨w4.heap.size, 1, none⟩ = some (.bool (dnB (c * b) 4294967296)) ∧ y8.cell? ⟨w6.heap.size, 0, none⟩ = some (.int .u64 (dnV (a * 4294967296) b)) ∧ y8.cell? ⟨w6.heap.size, 1, none⟩ = some (.bool (dnB (a * 4294967296) b)) ∧ y8.cell? ⟨w8.heap.size, 0, none⟩ = some (.int .u64 (dnV (c * 4294967296) b)) ∧ y8.cell? ⟨w8.heap.size, 1, none⟩ = some (.bool (dnB (c * 4294967296) b)) ∧ y8.cell? ⟨y6.heap.size, 0, none⟩ = some (.int .u64 (narV (a + b))) ∧ y8.cell? ⟨y6.heap.size, 1, none⟩ = some (.bool (narB (a + b))) ∧ Below w.heap.size w y8 ∧ w.heap.size ≤ y8.heap.size) := keepB5 hy HT7.out
  clear hy HT7
  have HC : Hid ((y8.alloc (.cells #[.int .u64 (subV (narV (a + b)) b), .bool (subB (narV (a + b)) b)] 25)).cell? ⟨w2.heap.size, 0, none⟩ = some (.int .u64 (dnV (a * b) 4294967296)) ∧ (y8.alloc (.cells #[.int .u64 (subV (narV (a + b)) b), .bool (subB (narV (a + b)) b)] 25)).cell? ⟨w2.heap.size, 1, none⟩ = some (.bool (dnB (a * b) 4294967296)) ∧ (y8.alloc (.cells #[.int .u64 (subV (narV (a + b)) b), .bool (subB (narV (a + b)) b)] 25)).cell? ⟨w4.heap.size, 0, none⟩ = some (.int .u64 (dnV (c * b) 4294967296)) ∧ (y8.alloc (.cells #[.int .u64 (subV (narV (a + b)) b), .bool (subB (narV (a + b)) b)] 25)).cell? ⟨w4.heap.size, 1, none⟩ = some (.bool (dnB (c * b) 4294967296)) ∧ (y8.alloc (.cells #[.int .u64 (subV (narV (a + b)) b), .bool (subB (narV (a + b)) b)] 25)).cell? ⟨w6.heap.size, 0, none⟩ = some (.int .u64 (dnV (a * 4294967296) b)) ∧ (y8.alloc (.cells #[.int .u64 (subV (narV (a + b)) b), .bool (subB (narV (a + b)) b)] 25)).cell? ⟨w6.heap.size, 1, none⟩ = some (.bool (dnB (a * 4294967296) b)) ∧ (y8.alloc (.cells #[.int .u64 (subV (narV (a + b)) b), .bool (subB (narV (a + b)) b)] 25)).cell? ⟨w8.heap.size, 0, none⟩ = some (.int .u64 (dnV (c * 4294967296) b)) ∧ (y8.alloc (.cells #[.int .u64 (subV (narV (a + b)) b), .bool (subB (narV (a + b)) b)] 25)).cell? ⟨w8.heap.size, 1, none⟩ = some (.bool (dnB (c * 4294967296) b)) ∧ (y8.alloc (.cells #[.int .u64 (subV (narV (a + b)) b), .bool (subB (narV (a + b)) b)] 25)).cell? ⟨y6.heap.size, 0, none⟩ = some (.int .u64 (narV (a + b))) ∧ (y8.alloc (.cells #[.int .u64 (subV (narV (a + b)) b), .bool (subB (narV (a + b)) b)] 25)).cell? ⟨y6.heap.size, 1, none⟩ = some (.bool (narB (a + b))) ∧ (y8.alloc (.cells #[.int .u64 (subV (narV (a + b)) b), .bool (subB (narV (a + b)) b)] 25)).cell? ⟨y8.heap.size, 0, none⟩ = some (.int .u64 (subV (narV (a + b)) b)) ∧ (y8.alloc (.cells #[.int .u64 (subV (narV (a + b)) b), .bool (subB (narV (a + b)) b)] 25)).cell? ⟨y8.heap.size, 1, none⟩ = some (.bool (subB (narV (a + b)) b)) ∧ Below w.heap.size w (y8.alloc (.cells #[.int .u64 (subV (narV (a + b)) b), .bool (subB (narV (a + b)) b)] 25)) ∧ w.heap.size ≤ (y8.alloc (.cells #[.int .u64 (subV (narV (a + b)) b), .bool (subB (narV (a + b)) b)] 25)).heap.size) := by
    obtain ⟨q0, q1, q2, q3, q4, q5, q6, q7, q8, q9, qB, qz⟩ := HT8.out
    exact ⟨allocC _ q0, allocC _ q1, allocC _ q2, allocC _ q3, allocC _ q4, allocC _ q5, allocC _ q6, allocC _ q7, allocC _ q8, allocC _ q9, (Box.new y8 _ _ _).1, (Box.new y8 _ _ _).2, (qB.alloc qz _), by simp; omega⟩
  clear HT8
  go_upto_region 14 with fail
  generalize (y8.alloc (.cells #[.int .u64 (subV (narV (a + b)) b), .bool (subB (narV (a + b)) b)] 25)) = v2 at *
  go_region_held3 (fun w' => w'.cell? ⟨w2.heap.size, 0, none⟩ = some (.int .u64 (dnV (a * b) 4294967296)) ∧ w'.cell? ⟨w2.heap.size, 1, none⟩ = some (.bool (dnB (a * b) 4294967296)) ∧ w'.cell? ⟨w4.heap.size, 0, none⟩ = some (.int .u64 (dnV (c * b) 4294967296)) ∧ w'.cell? ⟨w4.heap.size, 1, none⟩ = some (.bool (dnB (c * b) 4294967296)) ∧ w'.cell? ⟨w6.heap.size, 0, none⟩ = some (.int .u64 (dnV (a * 4294967296) b)) ∧ w'.cell? ⟨w6.heap.size, 1, none⟩ = some (.bool (dnB (a * 4294967296) b)) ∧ w'.cell? ⟨w8.heap.size, 0, none⟩ = some (.int .u64 (dnV (c * 4294967296) b)) ∧ w'.cell? ⟨w8.heap.size, 1, none⟩ = some (.bool (dnB (c * 4294967296) b)) ∧ w'.cell? ⟨y6.heap.size, 0, none⟩ = some (.int .u64 (narV (a + b))) ∧ w'.cell? ⟨y6.heap.size, 1, none⟩ = some (.bool (narB (a + b))) ∧ w'.cell? ⟨y8.heap.size, 0, none⟩ = some (.int .u64 (subV (narV (a + b)) b)) ∧ w'.cell? ⟨y8.heap.size, 1, none⟩ = some (.bool (subB (narV (a + b)) b)) ∧ Below w.heap.size w w' ∧ w.heap.size ≤ w'.heap.size) (first | exact keepB6 (drew_below2 v2) HC.out | exact keepB6 (by assumption) (by assumption))
    (first
    | (go_at_call 7; refine (law_of _ _ _).mono ?_; rintro e x ⟨rfl, hx⟩)
    | (go_at_call 14; refine (mulOne _ PW.out _).mono ?_; rintro e x ⟨rfl, hx⟩))
  have HD : Hid (x.cell? ⟨w2.heap.size, 0, none⟩ = some (.int .u64 (dnV (a * b) 4294967296)) ∧ x.cell? ⟨w2.heap.size, 1, none⟩ = some (.bool (dnB (a * b) 4294967296)) ∧ x.cell? ⟨w4.heap.size, 0, none⟩ = some (.int .u64 (dnV (c * b) 4294967296)) ∧ x.cell? ⟨w4.heap.size, 1, none⟩ = some (.bool (dnB (c * b) 4294967296)) ∧ x.cell? ⟨w6.heap.size, 0, none⟩ = some (.int .u64 (dnV (a * 4294967296) b)) ∧ x.cell? ⟨w6.heap.size, 1, none⟩ = some (.bool (dnB (a * 4294967296) b)) ∧ x.cell? ⟨w8.heap.size, 0, none⟩ = some (.int .u64 (dnV (c * 4294967296) b)) ∧ x.cell? ⟨w8.heap.size, 1, none⟩ = some (.bool (dnB (c * 4294967296) b)) ∧ x.cell? ⟨y6.heap.size, 0, none⟩ = some (.int .u64 (narV (a + b))) ∧ x.cell? ⟨y6.heap.size, 1, none⟩ = some (.bool (narB (a + b))) ∧ x.cell? ⟨y8.heap.size, 0, none⟩ = some (.int .u64 (subV (narV (a + b)) b)) ∧ x.cell? ⟨y8.heap.size, 1, none⟩ = some (.bool (subB (narV (a + b)) b)) ∧ Below w.heap.size w x ∧ w.heap.size ≤ x.heap.size) := by assumption
  clear HC
  generalize x = v3 at HD ⊢
  obtain ⟨q0, q1, q2, q3, q4, q5, q6, q7, q8, q9, q10, q11, _, _⟩ := HD.out
  obtain ⟨_, _, _, r4⟩ := R.out
  have r5 : decide (partV a b ≤ a) = true := decide_eq_true (part_le (by assumption))
  cases hs : narB (a + b)
  · rw [hs] at q9
    clear q0 q1 q2 q3 q4 q5 q6 q7
    go_wp2_with fail
    refine (part_any a b (by assumption) hb _).mono ?_
    rintro e z0 ⟨rfl, hy0⟩
    go_wp2_with fail
    refine (partOne a (by assumption) _).mono ?_
    rintro e z1 ⟨rfl, hy1⟩
    go_wp2_with fail
    refine (divOne a (by assumption) _).mono ?_
    rintro e z2 ⟨rfl, hy2⟩
    go_wp2_with fail
    refine (law_of a true _).mono ?_
    rintro e z3 ⟨rfl, hy3⟩
    go_wp2
    go_ret
    have zz0 := HD.out.2.2.2.2.2.2.2.2.2.2.2.2.2
    have zz1 := hy0.size
    have zz2 := hy1.size
    have zz3 := hy2.size
    exact ⟨rfl, (((HD.out.2.2.2.2.2.2.2.2.2.2.2.2.1.trans (hy0.mono zz0)).trans (hy1.mono (by omega))).trans (hy2.mono (by omega))).trans (hy3.mono (by omega))⟩
  · rw [hs] at q9
    obtain ⟨n1, n2, n3⟩ := add_back (b := b) (show Word a by assumption) hs
    rw [n1, n2] at q10
    rw [n1, n3] at q11
    clear q0 q1 q2 q3 q4 q5 q6 q7
    go_wp2_with fail
    refine (part_any a b (by assumption) hb _).mono ?_
    rintro e z0 ⟨rfl, hy0⟩
    go_wp2_with fail
    refine (partOne a (by assumption) _).mono ?_
    rintro e z1 ⟨rfl, hy1⟩
    go_wp2_with fail
    refine (divOne a (by assumption) _).mono ?_
    rintro e z2 ⟨rfl, hy2⟩
    go_wp2_with fail
    refine (law_of a true _).mono ?_
    rintro e z3 ⟨rfl, hy3⟩
    go_wp2
    go_ret
    have zz0 := HD.out.2.2.2.2.2.2.2.2.2.2.2.2.2
    have zz1 := hy0.size
    have zz2 := hy1.size
    have zz3 := hy2.size
    exact ⟨rfl, (((HD.out.2.2.2.2.2.2.2.2.2.2.2.2.1.trans (hy0.mono zz0)).trans (hy1.mono (by omega))).trans (hy2.mono (by omega))).trans (hy3.mono (by omega))⟩

set_option maxHeartbeats 8000000 in
set_option maxRecDepth 20000 in
theorem laws_walk2 (a b c : Int) (ha : Word a) (hb : Word b) (hc : Word c) (h : c < a) (w : World) :
    Calls Try.prog 4 #[.int .u64 a, .int .u64 b, .int .u64 c] w fun e w' => e = .returned (.bool true) ∧ Below w.heap.size w w' := by
  have le : c ≤ a := by omega
  have r1 := mulDn_mono hb le
  have r2 := divDn_mono hb le
  have r3 := part_mono1 hb le
  have r4 := part_mono2 hb le
  have R : Hid (decide (dnV (c * b) 4294967296 ≤ dnV (a * b) 4294967296) = true ∧ decide (dnV (c * 4294967296) b ≤ dnV (a * 4294967296) b) = true ∧ decide (partV c b ≤ partV a b) = true ∧ decide (partV b c ≤ partV b a) = true) := ⟨decide_eq_true r1, decide_eq_true r2, decide_eq_true r3, decide_eq_true r4⟩
  clear r1 r2 r3 r4 le
  go_enter Try.func4, Try.ntmps4
  go_wp2_with fail
  refine (shown_any _).mono ?_
  rintro e w0 ⟨rfl, hz0⟩
  have HB : Hid (Below w.heap.size w w0) := hz0
  have s0 := hz0.size
  clear hz0
  go_wp2_with fail
  refine (mulDown_any c b (by assumption) hb _).mono ?_
  rintro e w1 ⟨rfl, hz1⟩
  go_wp2_with fail
  refine (law_of (dnV (c * b) 4294967296) (dnB (c * b) 4294967296) _).mono ?_
  rintro e w2 ⟨rfl, hz2⟩
  have HB2 : Hid (Below w.heap.size w w2 ∧ w.heap.size ≤ w2.heap.size) := ⟨(HB.out.trans (hz1.mono s0)).trans (hz2.mono (Nat.le_trans s0 hz1.size)), Nat.le_trans s0 (Nat.le_trans hz1.size hz2.size)⟩
  clear hz1 hz2 HB s0
  go_wp2_with fail
  refine (mulDown_any a b (by assumption) hb _).mono ?_
  rintro e w3 ⟨rfl, hz3⟩
  go_wp2_with fail
  refine (law_of (dnV (a * b) 4294967296) (dnB (a * b) 4294967296) _).mono ?_
  rintro e w4 ⟨rfl, hz4⟩
  have zz1 := hz3.size
  have zz2 := hz4.size
  have zz0 := HB2.out.2
  simp at zz1
  have HB4 : Hid (Below w.heap.size w w4 ∧ w.heap.size ≤ w4.heap.size) := ⟨((HB2.out.1.alloc zz0 _).trans (hz3.mono (by simp; omega))).trans (hz4.mono (by omega)), by omega⟩
  have X4_product : Hid (Box w4 w2.heap.size (dnV (c * b) 4294967296) (dnB (c * b) 4294967296)) := ((Box.new w2 (dnV (c * b) 4294967296) (dnB (c * b) 4294967296) 25).below hz3).below hz4
  clear hz3 hz4 zz0 zz1 zz2 HB2 
  go_wp2_with fail
  refine (divDown_any c b (by assumption) hb _).mono ?_
  rintro e w5 ⟨rfl, hz5⟩
  go_wp2_with fail
  refine (law_of (dnV (c * 4294967296) b) (dnB (c * 4294967296) b) _).mono ?_
  rintro e w6 ⟨rfl, hz6⟩
  have zz1 := hz5.size
  have zz2 := hz6.size
  have zz0 := HB4.out.2
  simp at zz1
  have HB6 : Hid (Below w.heap.size w w6 ∧ w.heap.size ≤ w6.heap.size) := ⟨((HB4.out.1.alloc zz0 _).trans (hz5.mono (by simp; omega))).trans (hz6.mono (by omega)), by omega⟩
  have X6_product : Hid (Box w6 w2.heap.size (dnV (c * b) 4294967296) (dnB (c * b) 4294967296)) := ((X4_product.out.alloc _).below hz5).below hz6
  have X6_more : Hid (Box w6 w4.heap.size (dnV (a * b) 4294967296) (dnB (a * b) 4294967296)) := ((Box.new w4 (dnV (a * b) 4294967296) (dnB (a * b) 4294967296) 25).below hz5).below hz6
  clear hz5 hz6 zz0 zz1 zz2 HB4 X4_product
  go_wp2_with fail
  refine (divDown_any a b (by assumption) hb _).mono ?_
  rintro e w7 ⟨rfl, hz7⟩
  go_wp2_with fail
  refine (law_of (dnV (a * 4294967296) b) (dnB (a * 4294967296) b) _).mono ?_
  rintro e w8 ⟨rfl, hz8⟩
  have zz1 := hz7.size
  have zz2 := hz8.size
  have zz0 := HB6.out.2
  simp at zz1
  have HB8 : Hid (Below w.heap.size w w8 ∧ w.heap.size ≤ w8.heap.size) := ⟨((HB6.out.1.alloc zz0 _).trans (hz7.mono (by simp; omega))).trans (hz8.mono (by omega)), by omega⟩
  have X8_product : Hid (Box w8 w2.heap.size (dnV (c * b) 4294967296) (dnB (c * b) 4294967296)) := ((X6_product.out.alloc _).below hz7).below hz8
  have X8_more : Hid (Box w8 w4.heap.size (dnV (a * b) 4294967296) (dnB (a * b) 4294967296)) := ((X6_more.out.alloc _).below hz7).below hz8
  have X8_quotient : Hid (Box w8 w6.heap.size (dnV (c * 4294967296) b) (dnB (c * 4294967296) b)) := ((Box.new w6 (dnV (c * 4294967296) b) (dnB (c * 4294967296) b) 25).below hz7).below hz8
  clear hz7 hz8 zz0 zz1 zz2 HB6 X6_product X6_more
  have PW : Hid (Word (dnV (c * b) 4294967296)) := dn_word (mul_num (by assumption) hb) word32
  go_upto_region 9 with fail
  have HS : Hid ((w8.alloc (.cells #[.int .u64 (dnV (a * 4294967296) b), .bool (dnB (a * 4294967296) b)] 25)).drew.cell? ⟨w2.heap.size, 0, none⟩ = some (.int .u64 (dnV (c * b) 4294967296)) ∧ (w8.alloc (.cells #[.int .u64 (dnV (a * 4294967296) b), .bool (dnB (a * 4294967296) b)] 25)).drew.cell? ⟨w2.heap.size, 1, none⟩ = some (.bool (dnB (c * b) 4294967296)) ∧ (w8.alloc (.cells #[.int .u64 (dnV (a * 4294967296) b), .bool (dnB (a * 4294967296) b)] 25)).drew.cell? ⟨w4.heap.size, 0, none⟩ = some (.int .u64 (dnV (a * b) 4294967296)) ∧ (w8.alloc (.cells #[.int .u64 (dnV (a * 4294967296) b), .bool (dnB (a * 4294967296) b)] 25)).drew.cell? ⟨w4.heap.size, 1, none⟩ = some (.bool (dnB (a * b) 4294967296)) ∧ (w8.alloc (.cells #[.int .u64 (dnV (a * 4294967296) b), .bool (dnB (a * 4294967296) b)] 25)).drew.cell? ⟨w6.heap.size, 0, none⟩ = some (.int .u64 (dnV (c * 4294967296) b)) ∧ (w8.alloc (.cells #[.int .u64 (dnV (a * 4294967296) b), .bool (dnB (a * 4294967296) b)] 25)).drew.cell? ⟨w6.heap.size, 1, none⟩ = some (.bool (dnB (c * 4294967296) b)) ∧ (w8.alloc (.cells #[.int .u64 (dnV (a * 4294967296) b), .bool (dnB (a * 4294967296) b)] 25)).drew.cell? ⟨w8.heap.size, 0, none⟩ = some (.int .u64 (dnV (a * 4294967296) b)) ∧ (w8.alloc (.cells #[.int .u64 (dnV (a * 4294967296) b), .bool (dnB (a * 4294967296) b)] 25)).drew.cell? ⟨w8.heap.size, 1, none⟩ = some (.bool (dnB (a * 4294967296) b)) ∧ Below w.heap.size w (w8.alloc (.cells #[.int .u64 (dnV (a * 4294967296) b), .bool (dnB (a * 4294967296) b)] 25)).drew ∧ w.heap.size ≤ (w8.alloc (.cells #[.int .u64 (dnV (a * 4294967296) b), .bool (dnB (a * 4294967296) b)] 25)).drew.heap.size) := by
    have zz := HB8.out.2
    refine ⟨(X8_product.out.alloc _).1, (X8_product.out.alloc _).2, (X8_more.out.alloc _).1, (X8_more.out.alloc _).2, (X8_quotient.out.alloc _).1, (X8_quotient.out.alloc _).2, ?_, ?_, ?_, ?_⟩
    · exact (Box.new w8 _ _ _).1
    · exact (Box.new w8 _ _ _).2
    · exact (HB8.out.1.alloc zz _).drew
    · simp; omega
  clear HB8 X8_product X8_more X8_quotient
  generalize (w8.alloc (.cells #[.int .u64 (dnV (a * 4294967296) b), .bool (dnB (a * 4294967296) b)] 25)) = v0 at *
  go_region_held3 (fun w' => w'.cell? ⟨w2.heap.size, 0, none⟩ = some (.int .u64 (dnV (c * b) 4294967296)) ∧ w'.cell? ⟨w2.heap.size, 1, none⟩ = some (.bool (dnB (c * b) 4294967296)) ∧ w'.cell? ⟨w4.heap.size, 0, none⟩ = some (.int .u64 (dnV (a * b) 4294967296)) ∧ w'.cell? ⟨w4.heap.size, 1, none⟩ = some (.bool (dnB (a * b) 4294967296)) ∧ w'.cell? ⟨w6.heap.size, 0, none⟩ = some (.int .u64 (dnV (c * 4294967296) b)) ∧ w'.cell? ⟨w6.heap.size, 1, none⟩ = some (.bool (dnB (c * 4294967296) b)) ∧ w'.cell? ⟨w8.heap.size, 0, none⟩ = some (.int .u64 (dnV (a * 4294967296) b)) ∧ w'.cell? ⟨w8.heap.size, 1, none⟩ = some (.bool (dnB (a * 4294967296) b)) ∧ Below w.heap.size w w' ∧ w.heap.size ≤ w'.heap.size) (first | exact HS.out | exact keepB4 (by assumption) (by assumption))
    (first
    | (go_at_call 7; refine (law_of _ _ _).mono ?_; rintro e x ⟨rfl, hx⟩)
    | (go_at_call 14; refine (mulUp_any _ _ (by first | assumption | exact PW) (by first | assumption | exact word32) _).mono ?_; rintro e x ⟨rfl, hx⟩)
    | (go_at_call 16; refine (divDown_any _ _ (by assumption) (by first | assumption | exact word32) _).mono ?_; rintro e x ⟨rfl, hx⟩)
    | (go_at_call 18; refine (divUp_any _ _ (by assumption) (by assumption) _).mono ?_; rintro e x ⟨rfl, hx⟩)
    | (go_at_call 24; refine (part_any _ _ (by assumption) (by first | assumption | exact word63) _).mono ?_; rintro e x ⟨rfl, hx⟩)
    | (go_at_call 26; refine (beside_any _ _ (by first | exact mul_num (by assumption) (by assumption) | exact mul_num (by assumption) word32) (by first | assumption | exact word32) _).mono ?_; rintro e x ⟨rfl, hx⟩))
  have HT : Hid (x.cell? ⟨w2.heap.size, 0, none⟩ = some (.int .u64 (dnV (c * b) 4294967296)) ∧ x.cell? ⟨w2.heap.size, 1, none⟩ = some (.bool (dnB (c * b) 4294967296)) ∧ x.cell? ⟨w4.heap.size, 0, none⟩ = some (.int .u64 (dnV (a * b) 4294967296)) ∧ x.cell? ⟨w4.heap.size, 1, none⟩ = some (.bool (dnB (a * b) 4294967296)) ∧ x.cell? ⟨w6.heap.size, 0, none⟩ = some (.int .u64 (dnV (c * 4294967296) b)) ∧ x.cell? ⟨w6.heap.size, 1, none⟩ = some (.bool (dnB (c * 4294967296) b)) ∧ x.cell? ⟨w8.heap.size, 0, none⟩ = some (.int .u64 (dnV (a * 4294967296) b)) ∧ x.cell? ⟨w8.heap.size, 1, none⟩ = some (.bool (dnB (a * 4294967296) b)) ∧ Below w.heap.size w x ∧ w.heap.size ≤ x.heap.size) := by assumption
  clear HS
  generalize x = v1 at HT ⊢
  obtain ⟨t0, t1, t2, t3, t4, t5, t6, t7, _, _⟩ := HT.out
  obtain ⟨r1, r2, r3, r4⟩ := R.out
  go_wp2_with fail
  refine (part_any c b (by assumption) (by assumption) _).mono ?_
  rintro e y1 ⟨rfl, hy⟩
  have HT1 : Hid (y1.cell? ⟨w2.heap.size, 0, none⟩ = some (.int .u64 (dnV (c * b) 4294967296)) ∧ y1.cell? ⟨w2.heap.size, 1, none⟩ = some (.bool (dnB (c * b) 4294967296)) ∧ y1.cell? ⟨w4.heap.size, 0, none⟩ = some (.int .u64 (dnV (a * b) 4294967296)) ∧ y1.cell? ⟨w4.heap.size, 1, none⟩ = some (.bool (dnB (a * b) 4294967296)) ∧ y1.cell? ⟨w6.heap.size, 0, none⟩ = some (.int .u64 (dnV (c * 4294967296) b)) ∧ y1.cell? ⟨w6.heap.size, 1, none⟩ = some (.bool (dnB (c * 4294967296) b)) ∧ y1.cell? ⟨w8.heap.size, 0, none⟩ = some (.int .u64 (dnV (a * 4294967296) b)) ∧ y1.cell? ⟨w8.heap.size, 1, none⟩ = some (.bool (dnB (a * 4294967296) b)) ∧ Below w.heap.size w y1 ∧ w.heap.size ≤ y1.heap.size) := keepB4 hy HT.out
  clear hy HT
  go_wp2_with fail
  refine (part_any a b (by assumption) (by assumption) _).mono ?_
  rintro e y2 ⟨rfl, hy⟩
  have HT2 : Hid (y2.cell? ⟨w2.heap.size, 0, none⟩ = some (.int .u64 (dnV (c * b) 4294967296)) ∧ y2.cell? ⟨w2.heap.size, 1, none⟩ = some (.bool (dnB (c * b) 4294967296)) ∧ y2.cell? ⟨w4.heap.size, 0, none⟩ = some (.int .u64 (dnV (a * b) 4294967296)) ∧ y2.cell? ⟨w4.heap.size, 1, none⟩ = some (.bool (dnB (a * b) 4294967296)) ∧ y2.cell? ⟨w6.heap.size, 0, none⟩ = some (.int .u64 (dnV (c * 4294967296) b)) ∧ y2.cell? ⟨w6.heap.size, 1, none⟩ = some (.bool (dnB (c * 4294967296) b)) ∧ y2.cell? ⟨w8.heap.size, 0, none⟩ = some (.int .u64 (dnV (a * 4294967296) b)) ∧ y2.cell? ⟨w8.heap.size, 1, none⟩ = some (.bool (dnB (a * 4294967296) b)) ∧ Below w.heap.size w y2 ∧ w.heap.size ≤ y2.heap.size) := keepB4 hy HT1.out
  clear hy HT1
  go_wp2_with fail
  refine (part_any b c (by assumption) (by assumption) _).mono ?_
  rintro e y3 ⟨rfl, hy⟩
  have HT3 : Hid (y3.cell? ⟨w2.heap.size, 0, none⟩ = some (.int .u64 (dnV (c * b) 4294967296)) ∧ y3.cell? ⟨w2.heap.size, 1, none⟩ = some (.bool (dnB (c * b) 4294967296)) ∧ y3.cell? ⟨w4.heap.size, 0, none⟩ = some (.int .u64 (dnV (a * b) 4294967296)) ∧ y3.cell? ⟨w4.heap.size, 1, none⟩ = some (.bool (dnB (a * b) 4294967296)) ∧ y3.cell? ⟨w6.heap.size, 0, none⟩ = some (.int .u64 (dnV (c * 4294967296) b)) ∧ y3.cell? ⟨w6.heap.size, 1, none⟩ = some (.bool (dnB (c * 4294967296) b)) ∧ y3.cell? ⟨w8.heap.size, 0, none⟩ = some (.int .u64 (dnV (a * 4294967296) b)) ∧ y3.cell? ⟨w8.heap.size, 1, none⟩ = some (.bool (dnB (a * 4294967296) b)) ∧ Below w.heap.size w y3 ∧ w.heap.size ≤ y3.heap.size) := keepB4 hy HT2.out
  clear hy HT2
  go_wp2_with fail
  refine (part_any b a (by assumption) (by assumption) _).mono ?_
  rintro e y4 ⟨rfl, hy⟩
  have HT4 : Hid (y4.cell? ⟨w2.heap.size, 0, none⟩ = some (.int .u64 (dnV (c * b) 4294967296)) ∧ y4.cell? ⟨w2.heap.size, 1, none⟩ = some (.bool (dnB (c * b) 4294967296)) ∧ y4.cell? ⟨w4.heap.size, 0, none⟩ = some (.int .u64 (dnV (a * b) 4294967296)) ∧ y4.cell? ⟨w4.heap.size, 1, none⟩ = some (.bool (dnB (a * b) 4294967296)) ∧ y4.cell? ⟨w6.heap.size, 0, none⟩ = some (.int .u64 (dnV (c * 4294967296) b)) ∧ y4.cell? ⟨w6.heap.size, 1, none⟩ = some (.bool (dnB (c * 4294967296) b)) ∧ y4.cell? ⟨w8.heap.size, 0, none⟩ = some (.int .u64 (dnV (a * 4294967296) b)) ∧ y4.cell? ⟨w8.heap.size, 1, none⟩ = some (.bool (dnB (a * 4294967296) b)) ∧ Below w.heap.size w y4 ∧ w.heap.size ≤ y4.heap.size) := keepB4 hy HT3.out
  clear hy HT3
  clear r1 r2 r3 r4 t0 t1 t2 t3 t4 t5 t6 t7
  go_wp2_with fail
  refine (qadd_any c b (by assumption) hb _).mono ?_
  rintro e y5 ⟨rfl, hy⟩
  have HT5 : Hid (y5.cell? ⟨w2.heap.size, 0, none⟩ = some (.int .u64 (dnV (c * b) 4294967296)) ∧ y5.cell? ⟨w2.heap.size, 1, none⟩ = some (.bool (dnB (c * b) 4294967296)) ∧ y5.cell? ⟨w4.heap.size, 0, none⟩ = some (.int .u64 (dnV (a * b) 4294967296)) ∧ y5.cell? ⟨w4.heap.size, 1, none⟩ = some (.bool (dnB (a * b) 4294967296)) ∧ y5.cell? ⟨w6.heap.size, 0, none⟩ = some (.int .u64 (dnV (c * 4294967296) b)) ∧ y5.cell? ⟨w6.heap.size, 1, none⟩ = some (.bool (dnB (c * 4294967296) b)) ∧ y5.cell? ⟨w8.heap.size, 0, none⟩ = some (.int .u64 (dnV (a * 4294967296) b)) ∧ y5.cell? ⟨w8.heap.size, 1, none⟩ = some (.bool (dnB (a * 4294967296) b)) ∧ Below w.heap.size w y5 ∧ w.heap.size ≤ y5.heap.size) := keepB4 hy HT4.out
  clear hy HT4
  go_wp2_with fail
  refine (law_of (narV (c + b)) (narB (c + b)) _).mono ?_
  rintro e y6 ⟨rfl, hy⟩
  have HT6 : Hid (y6.cell? ⟨w2.heap.size, 0, none⟩ = some (.int .u64 (dnV (c * b) 4294967296)) ∧ y6.cell? ⟨w2.heap.size, 1, none⟩ = some (.bool (dnB (c * b) 4294967296)) ∧ y6.cell? ⟨w4.heap.size, 0, none⟩ = some (.int .u64 (dnV (a * b) 4294967296)) ∧ y6.cell? ⟨w4.heap.size, 1, none⟩ = some (.bool (dnB (a * b) 4294967296)) ∧ y6.cell? ⟨w6.heap.size, 0, none⟩ = some (.int .u64 (dnV (c * 4294967296) b)) ∧ y6.cell? ⟨w6.heap.size, 1, none⟩ = some (.bool (dnB (c * 4294967296) b)) ∧ y6.cell? ⟨w8.heap.size, 0, none⟩ = some (.int .u64 (dnV (a * 4294967296) b)) ∧ y6.cell? ⟨w8.heap.size, 1, none⟩ = some (.bool (dnB (a * 4294967296) b)) ∧ Below w.heap.size w y6 ∧ w.heap.size ≤ y6.heap.size) := keepB4 hy HT5.out
  clear hy HT5
  have sw : Word (narV (c + b)) := nar_word (by obtain ⟨_, _⟩ := ha; obtain ⟨_, _⟩ := hb; obtain ⟨_, _⟩ := hc; omega)
  have HA : Hid ((y6.alloc (.cells #[.int .u64 (narV (c + b)), .bool (narB (c + b))] 25)).cell? ⟨w2.heap.size, 0, none⟩ = some (.int .u64 (dnV (c * b) 4294967296)) ∧ (y6.alloc (.cells #[.int .u64 (narV (c + b)), .bool (narB (c + b))] 25)).cell? ⟨w2.heap.size, 1, none⟩ = some (.bool (dnB (c * b) 4294967296)) ∧ (y6.alloc (.cells #[.int .u64 (narV (c + b)), .bool (narB (c + b))] 25)).cell? ⟨w4.heap.size, 0, none⟩ = some (.int .u64 (dnV (a * b) 4294967296)) ∧ (y6.alloc (.cells #[.int .u64 (narV (c + b)), .bool (narB (c + b))] 25)).cell? ⟨w4.heap.size, 1, none⟩ = some (.bool (dnB (a * b) 4294967296)) ∧ (y6.alloc (.cells #[.int .u64 (narV (c + b)), .bool (narB (c + b))] 25)).cell? ⟨w6.heap.size, 0, none⟩ = some (.int .u64 (dnV (c * 4294967296) b)) ∧ (y6.alloc (.cells #[.int .u64 (narV (c + b)), .bool (narB (c + b))] 25)).cell? ⟨w6.heap.size, 1, none⟩ = some (.bool (dnB (c * 4294967296) b)) ∧ (y6.alloc (.cells #[.int .u64 (narV (c + b)), .bool (narB (c + b))] 25)).cell? ⟨w8.heap.size, 0, none⟩ = some (.int .u64 (dnV (a * 4294967296) b)) ∧ (y6.alloc (.cells #[.int .u64 (narV (c + b)), .bool (narB (c + b))] 25)).cell? ⟨w8.heap.size, 1, none⟩ = some (.bool (dnB (a * 4294967296) b)) ∧ (y6.alloc (.cells #[.int .u64 (narV (c + b)), .bool (narB (c + b))] 25)).cell? ⟨y6.heap.size, 0, none⟩ = some (.int .u64 (narV (c + b))) ∧ (y6.alloc (.cells #[.int .u64 (narV (c + b)), .bool (narB (c + b))] 25)).cell? ⟨y6.heap.size, 1, none⟩ = some (.bool (narB (c + b))) ∧ Below w.heap.size w (y6.alloc (.cells #[.int .u64 (narV (c + b)), .bool (narB (c + b))] 25)) ∧ w.heap.size ≤ (y6.alloc (.cells #[.int .u64 (narV (c + b)), .bool (narB (c + b))] 25)).heap.size) := by
    obtain ⟨q0, q1, q2, q3, q4, q5, q6, q7, qB, qz⟩ := HT6.out
    exact ⟨allocC _ q0, allocC _ q1, allocC _ q2, allocC _ q3, allocC _ q4, allocC _ q5, allocC _ q6, allocC _ q7, (Box.new y6 _ _ _).1, (Box.new y6 _ _ _).2, (qB.alloc qz _), by simp; omega⟩
  clear HT6
  go_wp2_with fail
  refine (qsub_any (narV (c + b)) b sw hb _).mono ?_
  rintro e y7 ⟨rfl, hy⟩
  have HT7 : Hid (y7.cell? ⟨w2.heap.size, 0, none⟩ = some (.int .u64 (dnV (c * b) 4294967296)) ∧ y7.cell? ⟨w2.heap.size, 1, none⟩ = some (.bool (dnB (c * b) 4294967296)) ∧ y7.cell? ⟨w4.heap.size, 0, none⟩ = some (.int .u64 (dnV (a * b) 4294967296)) ∧ y7.cell? ⟨w4.heap.size, 1, none⟩ = some (.bool (dnB (a * b) 4294967296)) ∧ y7.cell? ⟨w6.heap.size, 0, none⟩ = some (.int .u64 (dnV (c * 4294967296) b)) ∧ y7.cell? ⟨w6.heap.size, 1, none⟩ = some (.bool (dnB (c * 4294967296) b)) ∧ y7.cell? ⟨w8.heap.size, 0, none⟩ = some (.int .u64 (dnV (a * 4294967296) b)) ∧ y7.cell? ⟨w8.heap.size, 1, none⟩ = some (.bool (dnB (a * 4294967296) b)) ∧ y7.cell? ⟨y6.heap.size, 0, none⟩ = some (.int .u64 (narV (c + b))) ∧ y7.cell? ⟨y6.heap.size, 1, none⟩ = some (.bool (narB (c + b))) ∧ Below w.heap.size w y7 ∧ w.heap.size ≤ y7.heap.size) := keepB5 hy HA.out
  clear hy HA
  go_wp2_with fail
  refine (law_of (subV (narV (c + b)) b) (subB (narV (c + b)) b) _).mono ?_
  rintro e y8 ⟨rfl, hy⟩
  have HT8 : Hid (y8.cell? ⟨w2.heap.size, 0, none⟩ = some (.int .u64 (dnV (c * b) 4294967296)) ∧ y8.cell? ⟨w2.heap.size, 1, none⟩ = some (.bool (dnB (c * b) 4294967296)) ∧ y8.cell? ⟨w4.heap.size, 0, none⟩ = some (.int .u64 (dnV (a * b) 4294967296)) ∧ y8.cell? ⟨w4.heap.size, 1, none⟩ = some (.bool (dnB (a * b) 4294967296)) ∧ y8.cell? ⟨w6.heap.size, 0, none⟩ = some (.int .u64 (dnV (c * 4294967296) b)) ∧ y8.cell? ⟨w6.heap.size, 1, none⟩ = some (.bool (dnB (c * 4294967296) b)) ∧ y8.cell? ⟨w8.heap.size, 0, none⟩ = some (.int .u64 (dnV (a * 4294967296) b)) ∧ y8.cell? ⟨w8.heap.size, 1, none⟩ = some (.bool (dnB (a * 4294967296) b)) ∧ y8.cell? ⟨y6.heap.size, 0, none⟩ = some (.int .u64 (narV (c + b))) ∧ y8.cell? ⟨y6.heap.size, 1, none⟩ = some (.bool (narB (c + b))) ∧ Below w.heap.size w y8 ∧ w.heap.size ≤ y8.heap.size) := keepB5 hy HT7.out
  clear hy HT7
  have HC : Hid ((y8.alloc (.cells #[.int .u64 (subV (narV (c + b)) b), .bool (subB (narV (c + b)) b)] 25)).cell? ⟨w2.heap.size, 0, none⟩ = some (.int .u64 (dnV (c * b) 4294967296)) ∧ (y8.alloc (.cells #[.int .u64 (subV (narV (c + b)) b), .bool (subB (narV (c + b)) b)] 25)).cell? ⟨w2.heap.size, 1, none⟩ = some (.bool (dnB (c * b) 4294967296)) ∧ (y8.alloc (.cells #[.int .u64 (subV (narV (c + b)) b), .bool (subB (narV (c + b)) b)] 25)).cell? ⟨w4.heap.size, 0, none⟩ = some (.int .u64 (dnV (a * b) 4294967296)) ∧ (y8.alloc (.cells #[.int .u64 (subV (narV (c + b)) b), .bool (subB (narV (c + b)) b)] 25)).cell? ⟨w4.heap.size, 1, none⟩ = some (.bool (dnB (a * b) 4294967296)) ∧ (y8.alloc (.cells #[.int .u64 (subV (narV (c + b)) b), .bool (subB (narV (c + b)) b)] 25)).cell? ⟨w6.heap.size, 0, none⟩ = some (.int .u64 (dnV (c * 4294967296) b)) ∧ (y8.alloc (.cells #[.int .u64 (subV (narV (c + b)) b), .bool (subB (narV (c + b)) b)] 25)).cell? ⟨w6.heap.size, 1, none⟩ = some (.bool (dnB (c * 4294967296) b)) ∧ (y8.alloc (.cells #[.int .u64 (subV (narV (c + b)) b), .bool (subB (narV (c + b)) b)] 25)).cell? ⟨w8.heap.size, 0, none⟩ = some (.int .u64 (dnV (a * 4294967296) b)) ∧ (y8.alloc (.cells #[.int .u64 (subV (narV (c + b)) b), .bool (subB (narV (c + b)) b)] 25)).cell? ⟨w8.heap.size, 1, none⟩ = some (.bool (dnB (a * 4294967296) b)) ∧ (y8.alloc (.cells #[.int .u64 (subV (narV (c + b)) b), .bool (subB (narV (c + b)) b)] 25)).cell? ⟨y6.heap.size, 0, none⟩ = some (.int .u64 (narV (c + b))) ∧ (y8.alloc (.cells #[.int .u64 (subV (narV (c + b)) b), .bool (subB (narV (c + b)) b)] 25)).cell? ⟨y6.heap.size, 1, none⟩ = some (.bool (narB (c + b))) ∧ (y8.alloc (.cells #[.int .u64 (subV (narV (c + b)) b), .bool (subB (narV (c + b)) b)] 25)).cell? ⟨y8.heap.size, 0, none⟩ = some (.int .u64 (subV (narV (c + b)) b)) ∧ (y8.alloc (.cells #[.int .u64 (subV (narV (c + b)) b), .bool (subB (narV (c + b)) b)] 25)).cell? ⟨y8.heap.size, 1, none⟩ = some (.bool (subB (narV (c + b)) b)) ∧ Below w.heap.size w (y8.alloc (.cells #[.int .u64 (subV (narV (c + b)) b), .bool (subB (narV (c + b)) b)] 25)) ∧ w.heap.size ≤ (y8.alloc (.cells #[.int .u64 (subV (narV (c + b)) b), .bool (subB (narV (c + b)) b)] 25)).heap.size) := by
    obtain ⟨q0, q1, q2, q3, q4, q5, q6, q7, q8, q9, qB, qz⟩ := HT8.out
    exact ⟨allocC _ q0, allocC _ q1, allocC _ q2, allocC _ q3, allocC _ q4, allocC _ q5, allocC _ q6, allocC _ q7, allocC _ q8, allocC _ q9, (Box.new y8 _ _ _).1, (Box.new y8 _ _ _).2, (qB.alloc qz _), by simp; omega⟩
  clear HT8
  go_upto_region 14 with fail
  generalize (y8.alloc (.cells #[.int .u64 (subV (narV (c + b)) b), .bool (subB (narV (c + b)) b)] 25)) = v2 at *
  go_region_held3 (fun w' => w'.cell? ⟨w2.heap.size, 0, none⟩ = some (.int .u64 (dnV (c * b) 4294967296)) ∧ w'.cell? ⟨w2.heap.size, 1, none⟩ = some (.bool (dnB (c * b) 4294967296)) ∧ w'.cell? ⟨w4.heap.size, 0, none⟩ = some (.int .u64 (dnV (a * b) 4294967296)) ∧ w'.cell? ⟨w4.heap.size, 1, none⟩ = some (.bool (dnB (a * b) 4294967296)) ∧ w'.cell? ⟨w6.heap.size, 0, none⟩ = some (.int .u64 (dnV (c * 4294967296) b)) ∧ w'.cell? ⟨w6.heap.size, 1, none⟩ = some (.bool (dnB (c * 4294967296) b)) ∧ w'.cell? ⟨w8.heap.size, 0, none⟩ = some (.int .u64 (dnV (a * 4294967296) b)) ∧ w'.cell? ⟨w8.heap.size, 1, none⟩ = some (.bool (dnB (a * 4294967296) b)) ∧ w'.cell? ⟨y6.heap.size, 0, none⟩ = some (.int .u64 (narV (c + b))) ∧ w'.cell? ⟨y6.heap.size, 1, none⟩ = some (.bool (narB (c + b))) ∧ w'.cell? ⟨y8.heap.size, 0, none⟩ = some (.int .u64 (subV (narV (c + b)) b)) ∧ w'.cell? ⟨y8.heap.size, 1, none⟩ = some (.bool (subB (narV (c + b)) b)) ∧ Below w.heap.size w w' ∧ w.heap.size ≤ w'.heap.size) (first | exact keepB6 (drew_below2 v2) HC.out | exact keepB6 (by assumption) (by assumption))
    (first
    | (go_at_call 7; refine (law_of _ _ _).mono ?_; rintro e x ⟨rfl, hx⟩)
    | (go_at_call 14; refine (mulOne _ PW.out _).mono ?_; rintro e x ⟨rfl, hx⟩))
  have HD : Hid (x.cell? ⟨w2.heap.size, 0, none⟩ = some (.int .u64 (dnV (c * b) 4294967296)) ∧ x.cell? ⟨w2.heap.size, 1, none⟩ = some (.bool (dnB (c * b) 4294967296)) ∧ x.cell? ⟨w4.heap.size, 0, none⟩ = some (.int .u64 (dnV (a * b) 4294967296)) ∧ x.cell? ⟨w4.heap.size, 1, none⟩ = some (.bool (dnB (a * b) 4294967296)) ∧ x.cell? ⟨w6.heap.size, 0, none⟩ = some (.int .u64 (dnV (c * 4294967296) b)) ∧ x.cell? ⟨w6.heap.size, 1, none⟩ = some (.bool (dnB (c * 4294967296) b)) ∧ x.cell? ⟨w8.heap.size, 0, none⟩ = some (.int .u64 (dnV (a * 4294967296) b)) ∧ x.cell? ⟨w8.heap.size, 1, none⟩ = some (.bool (dnB (a * 4294967296) b)) ∧ x.cell? ⟨y6.heap.size, 0, none⟩ = some (.int .u64 (narV (c + b))) ∧ x.cell? ⟨y6.heap.size, 1, none⟩ = some (.bool (narB (c + b))) ∧ x.cell? ⟨y8.heap.size, 0, none⟩ = some (.int .u64 (subV (narV (c + b)) b)) ∧ x.cell? ⟨y8.heap.size, 1, none⟩ = some (.bool (subB (narV (c + b)) b)) ∧ Below w.heap.size w x ∧ w.heap.size ≤ x.heap.size) := by assumption
  clear HC
  generalize x = v3 at HD ⊢
  obtain ⟨q0, q1, q2, q3, q4, q5, q6, q7, q8, q9, q10, q11, _, _⟩ := HD.out
  obtain ⟨_, _, _, r4⟩ := R.out
  have r5 : decide (partV c b ≤ c) = true := decide_eq_true (part_le (by assumption))
  cases hs : narB (c + b)
  · rw [hs] at q9
    clear q0 q1 q2 q3 q4 q5 q6 q7
    go_wp2_with fail
    refine (part_any c b (by assumption) hb _).mono ?_
    rintro e z0 ⟨rfl, hy0⟩
    go_wp2_with fail
    refine (partOne c (by assumption) _).mono ?_
    rintro e z1 ⟨rfl, hy1⟩
    go_wp2_with fail
    refine (divOne c (by assumption) _).mono ?_
    rintro e z2 ⟨rfl, hy2⟩
    go_wp2_with fail
    refine (law_of c true _).mono ?_
    rintro e z3 ⟨rfl, hy3⟩
    go_wp2
    go_ret
    have zz0 := HD.out.2.2.2.2.2.2.2.2.2.2.2.2.2
    have zz1 := hy0.size
    have zz2 := hy1.size
    have zz3 := hy2.size
    exact ⟨rfl, (((HD.out.2.2.2.2.2.2.2.2.2.2.2.2.1.trans (hy0.mono zz0)).trans (hy1.mono (by omega))).trans (hy2.mono (by omega))).trans (hy3.mono (by omega))⟩
  · rw [hs] at q9
    obtain ⟨n1, n2, n3⟩ := add_back (b := b) (show Word c by assumption) hs
    rw [n1, n2] at q10
    rw [n1, n3] at q11
    clear q0 q1 q2 q3 q4 q5 q6 q7
    go_wp2_with fail
    refine (part_any c b (by assumption) hb _).mono ?_
    rintro e z0 ⟨rfl, hy0⟩
    go_wp2_with fail
    refine (partOne c (by assumption) _).mono ?_
    rintro e z1 ⟨rfl, hy1⟩
    go_wp2_with fail
    refine (divOne c (by assumption) _).mono ?_
    rintro e z2 ⟨rfl, hy2⟩
    go_wp2_with fail
    refine (law_of c true _).mono ?_
    rintro e z3 ⟨rfl, hy3⟩
    go_wp2
    go_ret
    have zz0 := HD.out.2.2.2.2.2.2.2.2.2.2.2.2.2
    have zz1 := hy0.size
    have zz2 := hy1.size
    have zz3 := hy2.size
    exact ⟨rfl, (((HD.out.2.2.2.2.2.2.2.2.2.2.2.2.1.trans (hy0.mono zz0)).trans (hy1.mono (by omega))).trans (hy2.mono (by omega))).trans (hy3.mono (by omega))⟩
end Go.Proofs.Ytpfhncggbjpflaa
