/-
  LAYER 11, the statements' head.
-/
import Derived.Test.YtniiijadkclabaaClA
namespace Go.Proofs.Ytniiijadkclabaa
open Go.RowKit Wd Cg

/-- The example's config in a block, with its Fair. -/
structure Ex (w : World) (k : Nat) (f : Int) : Prop where
  c0 : w.cell? ⟨k, 0, none⟩ = some (.int .i64 4)
  c1 : w.cell? ⟨k, 1, none⟩ = some (.int .i64 8)
  c2 : w.cell? ⟨k, 2, none⟩ = some (.int .i64 10)
  c3 : w.cell? ⟨k, 3, none⟩ = some (.int .i64 1)
  c4 : w.cell? ⟨k, 4, none⟩ = some (.int .i64 f)
  c5 : w.cell? ⟨k, 5, none⟩ = some (.int .i64 0)
  c6 : w.cell? ⟨k, 6, none⟩ = some (.int .i64 100)
  c7 : w.cell? ⟨k, 7, none⟩ = some (.int .i64 100)
theorem Ex.keep {w w' : World} {k : Nat} {f : Int} (h : Ex w k f) (b : Below w.heap.size w w') : Ex w' k f :=
  ⟨keepC b h.c0, keepC b h.c1, keepC b h.c2, keepC b h.c3, keepC b h.c4, keepC b h.c5, keepC b h.c6, keepC b h.c7⟩
theorem Ex.new (w : World) (f : Int) : Ex (w.alloc (.cells #[.int .i64 4, .int .i64 8, .int .i64 10, .int .i64 1, .int .i64 f, .int .i64 0, .int .i64 100, .int .i64 100] 23)) w.heap.size f :=
  ⟨by simp, by simp, by simp, by simp, by simp, by simp, by simp, by simp⟩
/-- A small number in a block. -/
structure Lo (w : World) (k : Nat) (v : Int) : Prop where
  c0 : w.cell? ⟨k, 0, none⟩ = some (.int .u64 0)
  c1 : w.cell? ⟨k, 1, none⟩ = some (.int .u64 v)
theorem Lo.keep {w w' : World} {k : Nat} {v : Int} (h : Lo w k v) (b : Below w.heap.size w w') : Lo w' k v := ⟨keepC b h.c0, keepC b h.c1⟩
theorem Lo.new (w : World) (v : Int) : Lo (w.alloc (.cells #[.int .u64 0, .int .u64 v] 27)) w.heap.size v := ⟨by simp, by simp⟩
theorem plain_any (w : World) : Calls Try.prog 22 #[] w fun e w' => e = .returned (.agg #[.int .i64 4, .int .i64 8, .int .i64 10, .int .i64 1, .int .i64 0, .int .i64 0, .int .i64 100, .int .i64 100]) ∧ Below w.heap.size w w' := by
  go_enter Try.func22, Try.ntmps22
  go_wp2
  exact bodyPost_ret (v := .agg #[.int .i64 4, .int .i64 8, .int .i64 10, .int .i64 1, .int .i64 0, .int .i64 0, .int .i64 100, .int .i64 100]) (by simp [results, Try.results22, go_sem]) rfl ⟨rfl, by repeat first | exact (Below.refl _ _).alloc (Nat.le_refl _) _ | refine Below.setCell ?_ (by simp) _⟩

set_option maxHeartbeats 4000000 in
theorem shown_any (A : Asks) (w : World) : Calls Try.prog 6 #[] w fun e w' => e = .returned (.bool true) ∧ Below w.heap.size w w' := by
  have oO := A.off (ex_fit (f := 0) (by omega) (by omega))
  have oF := A.off (ex_fit (f := 1000) (by omega) (by omega))
  have kO := A.check (ex_fit (f := 0) (by omega) (by omega))
  have kF := A.check (ex_fit (f := 1000) (by omega) (by omega))
  have kG := A.check (ex_fit (f := 1) (by omega) (by omega))
  have bO := A.bound (ex_fit (f := 0) (by omega) (by omega))
  have lO := A.lead (ex_fit (f := 0) (by omega) (by omega))
  have mO := A.most (ex_fit (f := 0) (by omega) (by omega))
  have fO := A.floor (ex_fit (f := 0) (by omega) (by omega))
  rw [if_pos ex0] at bO lO mO fO
  rw [if_pos ex0, if_pos ex0, ex_off0.1, ex_off0.2, show nu 0 = .agg #[.int .u64 0, .int .u64 0] from rfl, show nu 1 = .agg #[.int .u64 0, .int .u64 1] from rfl] at oO
  rw [if_pos ex1000, if_pos ex1000, ex_off1.1, ex_off1.2, show nu 1719019910400 = .agg #[.int .u64 0, .int .u64 1719019910400] from rfl, show nu 1717986918400 = .agg #[.int .u64 0, .int .u64 1717986918400] from rfl] at oF
  rw [ex0] at kO
  rw [ex1000] at kF
  rw [ex1] at kG
  rw [ex_bound] at bO
  rw [ex_lead] at lO
  rw [ex_most] at mO
  rw [ex_floor] at fO
  simp only [cfV, cEx] at oO oF kO kF kG bO lO mO fO
  go_enter Try.func6, Try.ntmps6
  have HB : Below w.heap.size w w := Below.refl _ _
  go_wp2_with fail
  refine (plain_any _).mono ?_
  rintro e w1 ⟨rfl, b⟩
  replace HB := HB.trans (b.mono HB.size)
  clear b
  have bA : Below w1.heap.size w1 (w1.alloc (.cells #[.int .i64 4, .int .i64 8, .int .i64 10, .int .i64 1, .int .i64 0, .int .i64 0, .int .i64 100, .int .i64 100] 23)) := (Below.refl _ _).alloc (Nat.le_refl _) _
  have x1 := Ex.new w1 0
  replace HB := HB.trans (bA.mono HB.size)
  go_upto_region 2 with fail
  generalize w1.alloc (.cells #[.int .i64 4, .int .i64 8, .int .i64 10, .int .i64 1, .int .i64 0, .int .i64 0, .int .i64 100, .int .i64 100] 23) = v1 at *
  clear bA
  generalize w1.heap.size = k1 at *
  obtain ⟨x1_0, x1_1, x1_2, x1_3, x1_4, x1_5, x1_6, x1_7⟩ := id x1
  go_wp2_with fail
  refine (oO _).mono ?_
  rintro e w2 ⟨rfl, b⟩
  replace x1 := x1.keep b
  replace HB := HB.trans (b.mono HB.size)
  clear b
  clear x1_0 x1_1 x1_2 x1_3 x1_4 x1_5 x1_6 x1_7
  have bA : Below w2.heap.size w2 (w2.alloc (.cells #[.int .u64 0, .int .u64 0] 27)) := (Below.refl _ _).alloc (Nat.le_refl _) _
  have bB : Below (w2.alloc (.cells #[.int .u64 0, .int .u64 0] 27)).heap.size (w2.alloc (.cells #[.int .u64 0, .int .u64 0] 27)) ((w2.alloc (.cells #[.int .u64 0, .int .u64 0] 27)).alloc (.cells #[.int .u64 0, .int .u64 1] 27)) := (Below.refl _ _).alloc (Nat.le_refl _) _
  have n2 := (Lo.new w2 0).keep bB
  have n3 := Lo.new (w2.alloc (.cells #[.int .u64 0, .int .u64 0] 27)) 1
  rw [World.size_alloc] at n3
  replace x1 := (x1.keep bA).keep bB
  replace HB := (HB.trans (bA.mono HB.size)).trans (bB.mono (Nat.le_trans HB.size bA.size))
  go_upto_region 3 with fail
  generalize (w2.alloc (.cells #[.int .u64 0, .int .u64 0] 27)).alloc (.cells #[.int .u64 0, .int .u64 1] 27) = v2 at *
  clear bA bB
  generalize w2.heap.size = k2 at *
  obtain ⟨x1_0, x1_1, x1_2, x1_3, x1_4, x1_5, x1_6, x1_7⟩ := id x1
  have bA : Below v2.heap.size v2 (v2.alloc (.cells #[.int .i64 4, .int .i64 8, .int .i64 10, .int .i64 1, .int .i64 1000, .int .i64 0, .int .i64 100, .int .i64 100] 23)) := (Below.refl _ _).alloc (Nat.le_refl _) _
  have x4 := Ex.new v2 1000
  replace x1 := x1.keep bA
  replace n2 := n2.keep bA
  replace n3 := n3.keep bA
  replace HB := HB.trans (bA.mono HB.size)
  go_upto_region 5 with fail
  generalize v2.alloc (.cells #[.int .i64 4, .int .i64 8, .int .i64 10, .int .i64 1, .int .i64 1000, .int .i64 0, .int .i64 100, .int .i64 100] 23) = v3 at *
  clear bA
  generalize v2.heap.size = k4 at *
  clear x1_0 x1_1 x1_2 x1_3 x1_4 x1_5 x1_6 x1_7
  obtain ⟨x1_0, x1_1, x1_2, x1_3, x1_4, x1_5, x1_6, x1_7⟩ := id x1
  have bA : Below v3.heap.size v3 (v3.alloc (.cells #[.int .i64 4, .int .i64 8, .int .i64 10, .int .i64 1, .int .i64 1, .int .i64 0, .int .i64 100, .int .i64 100] 23)) := (Below.refl _ _).alloc (Nat.le_refl _) _
  have x5 := Ex.new v3 1
  replace x1 := x1.keep bA
  replace n2 := n2.keep bA
  replace n3 := n3.keep bA
  replace x4 := x4.keep bA
  replace HB := HB.trans (bA.mono HB.size)
  go_upto_region 7 with fail
  generalize v3.alloc (.cells #[.int .i64 4, .int .i64 8, .int .i64 10, .int .i64 1, .int .i64 1, .int .i64 0, .int .i64 100, .int .i64 100] 23) = v4 at *
  clear bA
  generalize v3.heap.size = k5 at *
  clear x1_0 x1_1 x1_2 x1_3 x1_4 x1_5 x1_6 x1_7
  obtain ⟨x4_0, x4_1, x4_2, x4_3, x4_4, x4_5, x4_6, x4_7⟩ := id x4
  go_wp2_with fail
  refine (oF _).mono ?_
  rintro e w5 ⟨rfl, b⟩
  replace x1 := x1.keep b
  replace n2 := n2.keep b
  replace n3 := n3.keep b
  replace x4 := x4.keep b
  replace x5 := x5.keep b
  replace HB := HB.trans (b.mono HB.size)
  clear b
  clear x4_0 x4_1 x4_2 x4_3 x4_4 x4_5 x4_6 x4_7
  have bA : Below w5.heap.size w5 (w5.alloc (.cells #[.int .u64 0, .int .u64 1719019910400] 27)) := (Below.refl _ _).alloc (Nat.le_refl _) _
  have bB : Below (w5.alloc (.cells #[.int .u64 0, .int .u64 1719019910400] 27)).heap.size (w5.alloc (.cells #[.int .u64 0, .int .u64 1719019910400] 27)) ((w5.alloc (.cells #[.int .u64 0, .int .u64 1719019910400] 27)).alloc (.cells #[.int .u64 0, .int .u64 1717986918400] 27)) := (Below.refl _ _).alloc (Nat.le_refl _) _
  have n6 := (Lo.new w5 1719019910400).keep bB
  have n7 := Lo.new (w5.alloc (.cells #[.int .u64 0, .int .u64 1719019910400] 27)) 1717986918400
  rw [World.size_alloc] at n7
  replace x1 := (x1.keep bA).keep bB
  replace n2 := (n2.keep bA).keep bB
  replace n3 := (n3.keep bA).keep bB
  replace x4 := (x4.keep bA).keep bB
  replace x5 := (x5.keep bA).keep bB
  replace HB := (HB.trans (bA.mono HB.size)).trans (bB.mono (Nat.le_trans HB.size bA.size))
  go_upto_region 8 with fail
  generalize (w5.alloc (.cells #[.int .u64 0, .int .u64 1719019910400] 27)).alloc (.cells #[.int .u64 0, .int .u64 1717986918400] 27) = v5 at *
  clear bA bB
  generalize w5.heap.size = k6 at *
  obtain ⟨x1_0, x1_1, x1_2, x1_3, x1_4, x1_5, x1_6, x1_7⟩ := id x1
  go_wp2_with fail
  refine (kO _).mono ?_
  rintro e w10 ⟨rfl, b⟩
  replace x1 := x1.keep b
  replace n2 := n2.keep b
  replace n3 := n3.keep b
  replace x4 := x4.keep b
  replace x5 := x5.keep b
  replace n6 := n6.keep b
  replace n7 := n7.keep b
  replace HB := HB.trans (b.mono HB.size)
  clear b
  clear x1_0 x1_1 x1_2 x1_3 x1_4 x1_5 x1_6 x1_7
  obtain ⟨x1_0, x1_1, x1_2, x1_3, x1_4, x1_5, x1_6, x1_7⟩ := id x1
  go_wp2_with fail
  refine (bO _).mono ?_
  rintro e w11 ⟨rfl, b⟩
  replace x1 := x1.keep b
  replace n2 := n2.keep b
  replace n3 := n3.keep b
  replace x4 := x4.keep b
  replace x5 := x5.keep b
  replace n6 := n6.keep b
  replace n7 := n7.keep b
  replace HB := HB.trans (b.mono HB.size)
  clear b
  clear x1_0 x1_1 x1_2 x1_3 x1_4 x1_5 x1_6 x1_7
  obtain ⟨x1_0, x1_1, x1_2, x1_3, x1_4, x1_5, x1_6, x1_7⟩ := id x1
  go_wp2_with fail
  refine (lO _).mono ?_
  rintro e w12 ⟨rfl, b⟩
  replace x1 := x1.keep b
  replace n2 := n2.keep b
  replace n3 := n3.keep b
  replace x4 := x4.keep b
  replace x5 := x5.keep b
  replace n6 := n6.keep b
  replace n7 := n7.keep b
  replace HB := HB.trans (b.mono HB.size)
  clear b
  clear x1_0 x1_1 x1_2 x1_3 x1_4 x1_5 x1_6 x1_7
  obtain ⟨x1_0, x1_1, x1_2, x1_3, x1_4, x1_5, x1_6, x1_7⟩ := id x1
  go_wp2_with fail
  refine (mO _).mono ?_
  rintro e w13 ⟨rfl, b⟩
  replace x1 := x1.keep b
  replace n2 := n2.keep b
  replace n3 := n3.keep b
  replace x4 := x4.keep b
  replace x5 := x5.keep b
  replace n6 := n6.keep b
  replace n7 := n7.keep b
  replace HB := HB.trans (b.mono HB.size)
  clear b
  clear x1_0 x1_1 x1_2 x1_3 x1_4 x1_5 x1_6 x1_7
  obtain ⟨x1_0, x1_1, x1_2, x1_3, x1_4, x1_5, x1_6, x1_7⟩ := id x1
  go_wp2_with fail
  refine (fO _).mono ?_
  rintro e w14 ⟨rfl, b⟩
  replace x1 := x1.keep b
  replace n2 := n2.keep b
  replace n3 := n3.keep b
  replace x4 := x4.keep b
  replace x5 := x5.keep b
  replace n6 := n6.keep b
  replace n7 := n7.keep b
  replace HB := HB.trans (b.mono HB.size)
  clear b
  clear x1_0 x1_1 x1_2 x1_3 x1_4 x1_5 x1_6 x1_7
  obtain ⟨n2_0, n2_1⟩ := id n2
  obtain ⟨n3_0, n3_1⟩ := id n3
  obtain ⟨x4_0, x4_1, x4_2, x4_3, x4_4, x4_5, x4_6, x4_7⟩ := id x4
  go_wp2_with fail
  refine (kF _).mono ?_
  rintro e w15 ⟨rfl, b⟩
  replace x1 := x1.keep b
  replace n2 := n2.keep b
  replace n3 := n3.keep b
  replace x4 := x4.keep b
  replace x5 := x5.keep b
  replace n6 := n6.keep b
  replace n7 := n7.keep b
  replace HB := HB.trans (b.mono HB.size)
  clear b
  clear n2_0 n2_1 n3_0 n3_1 x4_0 x4_1 x4_2 x4_3 x4_4 x4_5 x4_6 x4_7
  obtain ⟨x5_0, x5_1, x5_2, x5_3, x5_4, x5_5, x5_6, x5_7⟩ := id x5
  go_wp2_with fail
  refine (kG _).mono ?_
  rintro e w16 ⟨rfl, b⟩
  replace x1 := x1.keep b
  replace n2 := n2.keep b
  replace n3 := n3.keep b
  replace x4 := x4.keep b
  replace x5 := x5.keep b
  replace n6 := n6.keep b
  replace n7 := n7.keep b
  replace HB := HB.trans (b.mono HB.size)
  clear b
  clear x5_0 x5_1 x5_2 x5_3 x5_4 x5_5 x5_6 x5_7
  obtain ⟨n6_0, n6_1⟩ := id n6
  obtain ⟨n7_0, n7_1⟩ := id n7
  go_wp2
  go_ret
  exact ⟨rfl, HB⟩
end Go.Proofs.Ytniiijadkclabaa
