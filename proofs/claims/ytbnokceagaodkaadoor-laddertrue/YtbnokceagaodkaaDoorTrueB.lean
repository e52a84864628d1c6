/-
  THE STATEMENT LadderTrue: its floats: squared. Small: the square has 127 bits; no, inc, carry: what rounding up does.
-/
import Derived.Test.YtbnokceagaodkaaDoorTrueA
namespace Go.Proofs.YtbnokceagaodkaaDoor
open Go.RowKit Wd Ld

set_option maxHeartbeats 2000000 in
theorem sq_great_down (m x H L : Int) (hm : Word m) (hx0 : -1099511627776 ≤ x) (hx1 : x ≤ 1099511627776) (hH : hiW (m * m) = H) (hL : loW (m * m) = L) (wH : Word H) (hs : (H / 9223372036854775808 == 0) = false) (w : World) :
    Calls Tryd.prog 17 #[.agg #[.int .u64 m, .int .i64 x], .bool false] w fun r w' => r = .returned (.agg #[.int .u64 (H), .int .i64 (2 * x + 64)]) ∧ Below w.heap.size w w' := by
  obtain ⟨wH0, wH1⟩ := wH
  go_enter Tryd.func17, Tryd.ntmps17
  go_wp2_with fail
  refine (rmul_any m m hm hm _).mono ?_
  rintro e w1 ⟨rfl, hb1⟩
  rw [hH, hL]
  have b1 : w1.cell? ⟨w.heap.size, 1, none⟩ = some (.int .i64 x) := keepC hb1 (by simp [go_sem])
  have r0 : w1.cell? ⟨w.heap.size + 1, 0, none⟩ = some (.int .u64 0) := keepC hb1 (by simp [go_sem])
  have r1 : w1.cell? ⟨w.heap.size + 1, 1, none⟩ = some (.int .i64 0) := keepC hb1 (by simp [go_sem])
  have f0 : w1.frozen? ⟨w.heap.size + 1, 0, none⟩ = false := keepF hb1 (v := .int .u64 0) (by simp [go_sem]) (by simp [go_sem])
  have f1 : w1.frozen? ⟨w.heap.size + 1, 1, none⟩ = false := keepF hb1 (v := .int .i64 0) (by simp [go_sem]) (by simp [go_sem])
  have hz := hb1.size
  simp at hz
  have HB : Below w.heap.size w w1 := (((Below.refl _ _).alloc (Nat.le_refl _) _).alloc (by simp) _).trans (hb1.mono (by simp; omega))
  clear hb1
  have n0 : w.heap.size ≠ w1.heap.size := by omega
  have n1 : w.heap.size + 1 ≠ w1.heap.size := by omega
  have n2 : w.heap.size < w1.heap.size := by omega
  have n3 : w.heap.size + 1 < w1.heap.size := by omega
  have n4 : w.heap.size < w1.heap.size + 1 := by omega
  have n5 : w.heap.size + 1 < w1.heap.size + 1 := by omega
  go_wp2
  refine bodyPost_ret (v := .agg #[.int .u64 (H), .int .i64 (2 * x + 64)]) (by simp [results, Tryd.results17, go_sem, *]) rfl ⟨rfl, ?_⟩
  repeat (first | exact HB | refine Below.setCell ?_ (by simp; first | done | omega) _ | refine Below.alloc ?_ (by simp; first | done | omega) _)

set_option maxHeartbeats 2000000 in
theorem sq_great_no (m x H L : Int) (hm : Word m) (hx0 : -1099511627776 ≤ x) (hx1 : x ≤ 1099511627776) (hH : hiW (m * m) = H) (hL : loW (m * m) = L) (wH : Word H) (hs : (H / 9223372036854775808 == 0) = false) (hq : L = 0) (w : World) :
    Calls Tryd.prog 17 #[.agg #[.int .u64 m, .int .i64 x], .bool true] w fun r w' => r = .returned (.agg #[.int .u64 (H), .int .i64 (2 * x + 64)]) ∧ Below w.heap.size w w' := by
  obtain ⟨wH0, wH1⟩ := wH
  go_enter Tryd.func17, Tryd.ntmps17
  go_wp2_with fail
  refine (rmul_any m m hm hm _).mono ?_
  rintro e w1 ⟨rfl, hb1⟩
  rw [hH, hL]
  have b1 : w1.cell? ⟨w.heap.size, 1, none⟩ = some (.int .i64 x) := keepC hb1 (by simp [go_sem])
  have r0 : w1.cell? ⟨w.heap.size + 1, 0, none⟩ = some (.int .u64 0) := keepC hb1 (by simp [go_sem])
  have r1 : w1.cell? ⟨w.heap.size + 1, 1, none⟩ = some (.int .i64 0) := keepC hb1 (by simp [go_sem])
  have f0 : w1.frozen? ⟨w.heap.size + 1, 0, none⟩ = false := keepF hb1 (v := .int .u64 0) (by simp [go_sem]) (by simp [go_sem])
  have f1 : w1.frozen? ⟨w.heap.size + 1, 1, none⟩ = false := keepF hb1 (v := .int .i64 0) (by simp [go_sem]) (by simp [go_sem])
  have hz := hb1.size
  simp at hz
  have HB : Below w.heap.size w w1 := (((Below.refl _ _).alloc (Nat.le_refl _) _).alloc (by simp) _).trans (hb1.mono (by simp; omega))
  clear hb1
  have n0 : w.heap.size ≠ w1.heap.size := by omega
  have n1 : w.heap.size + 1 ≠ w1.heap.size := by omega
  have n2 : w.heap.size < w1.heap.size := by omega
  have n3 : w.heap.size + 1 < w1.heap.size := by omega
  have n4 : w.heap.size < w1.heap.size + 1 := by omega
  have n5 : w.heap.size + 1 < w1.heap.size + 1 := by omega
  go_wp2
  refine bodyPost_ret (v := .agg #[.int .u64 (H), .int .i64 (2 * x + 64)]) (by simp [results, Tryd.results17, go_sem, *]) rfl ⟨rfl, ?_⟩
  repeat (first | exact HB | refine Below.setCell ?_ (by simp; first | done | omega) _ | refine Below.alloc ?_ (by simp; first | done | omega) _)

set_option maxHeartbeats 2000000 in
theorem sq_great_inc (m x H L : Int) (hm : Word m) (hx0 : -1099511627776 ≤ x) (hx1 : x ≤ 1099511627776) (hH : hiW (m * m) = H) (hL : loW (m * m) = L) (wH : Word H) (hs : (H / 9223372036854775808 == 0) = false) (hq : 0 < L) (hi : H < 18446744073709551615) (w : World) :
    Calls Tryd.prog 17 #[.agg #[.int .u64 m, .int .i64 x], .bool true] w fun r w' => r = .returned (.agg #[.int .u64 (H + 1), .int .i64 (2 * x + 64)]) ∧ Below w.heap.size w w' := by
  obtain ⟨wH0, wH1⟩ := wH
  go_enter Tryd.func17, Tryd.ntmps17
  go_wp2_with fail
  refine (rmul_any m m hm hm _).mono ?_
  rintro e w1 ⟨rfl, hb1⟩
  rw [hH, hL]
  have b1 : w1.cell? ⟨w.heap.size, 1, none⟩ = some (.int .i64 x) := keepC hb1 (by simp [go_sem])
  have r0 : w1.cell? ⟨w.heap.size + 1, 0, none⟩ = some (.int .u64 0) := keepC hb1 (by simp [go_sem])
  have r1 : w1.cell? ⟨w.heap.size + 1, 1, none⟩ = some (.int .i64 0) := keepC hb1 (by simp [go_sem])
  have f0 : w1.frozen? ⟨w.heap.size + 1, 0, none⟩ = false := keepF hb1 (v := .int .u64 0) (by simp [go_sem]) (by simp [go_sem])
  have f1 : w1.frozen? ⟨w.heap.size + 1, 1, none⟩ = false := keepF hb1 (v := .int .i64 0) (by simp [go_sem]) (by simp [go_sem])
  have hz := hb1.size
  simp at hz
  have HB : Below w.heap.size w w1 := (((Below.refl _ _).alloc (Nat.le_refl _) _).alloc (by simp) _).trans (hb1.mono (by simp; omega))
  clear hb1
  have n0 : w.heap.size ≠ w1.heap.size := by omega
  have n1 : w.heap.size + 1 ≠ w1.heap.size := by omega
  have n2 : w.heap.size < w1.heap.size := by omega
  have n3 : w.heap.size + 1 < w1.heap.size := by omega
  have n4 : w.heap.size < w1.heap.size + 1 := by omega
  have n5 : w.heap.size + 1 < w1.heap.size + 1 := by omega
  go_wp2
  refine bodyPost_ret (v := .agg #[.int .u64 (H + 1), .int .i64 (2 * x + 64)]) (by simp [results, Tryd.results17, go_sem, *]) rfl ⟨rfl, ?_⟩
  repeat (first | exact HB | refine Below.setCell ?_ (by simp; first | done | omega) _ | refine Below.alloc ?_ (by simp; first | done | omega) _)

set_option maxHeartbeats 2000000 in
theorem sq_great_carry (m x H L : Int) (hm : Word m) (hx0 : -1099511627776 ≤ x) (hx1 : x ≤ 1099511627776) (hH : hiW (m * m) = H) (hL : loW (m * m) = L) (wH : Word H) (hq : 0 < L) (hi : H = 18446744073709551615) (w : World) :
    Calls Tryd.prog 17 #[.agg #[.int .u64 m, .int .i64 x], .bool true] w fun r w' => r = .returned (.agg #[.int .u64 (9223372036854775808), .int .i64 (2 * x + 64 + 1)]) ∧ Below w.heap.size w w' := by
  obtain ⟨wH0, wH1⟩ := wH
  go_enter Tryd.func17, Tryd.ntmps17
  go_wp2_with fail
  refine (rmul_any m m hm hm _).mono ?_
  rintro e w1 ⟨rfl, hb1⟩
  rw [hH, hL]
  have b1 : w1.cell? ⟨w.heap.size, 1, none⟩ = some (.int .i64 x) := keepC hb1 (by simp [go_sem])
  have r0 : w1.cell? ⟨w.heap.size + 1, 0, none⟩ = some (.int .u64 0) := keepC hb1 (by simp [go_sem])
  have r1 : w1.cell? ⟨w.heap.size + 1, 1, none⟩ = some (.int .i64 0) := keepC hb1 (by simp [go_sem])
  have f0 : w1.frozen? ⟨w.heap.size + 1, 0, none⟩ = false := keepF hb1 (v := .int .u64 0) (by simp [go_sem]) (by simp [go_sem])
  have f1 : w1.frozen? ⟨w.heap.size + 1, 1, none⟩ = false := keepF hb1 (v := .int .i64 0) (by simp [go_sem]) (by simp [go_sem])
  have hz := hb1.size
  simp at hz
  have HB : Below w.heap.size w w1 := (((Below.refl _ _).alloc (Nat.le_refl _) _).alloc (by simp) _).trans (hb1.mono (by simp; omega))
  clear hb1
  have n0 : w.heap.size ≠ w1.heap.size := by omega
  have n1 : w.heap.size + 1 ≠ w1.heap.size := by omega
  have n2 : w.heap.size < w1.heap.size := by omega
  have n3 : w.heap.size + 1 < w1.heap.size := by omega
  have n4 : w.heap.size < w1.heap.size + 1 := by omega
  have n5 : w.heap.size + 1 < w1.heap.size + 1 := by omega
  go_wp2
  refine bodyPost_ret (v := .agg #[.int .u64 (9223372036854775808), .int .i64 (2 * x + 64 + 1)]) (by simp [results, Tryd.results17, go_sem, *]) rfl ⟨rfl, ?_⟩
  repeat (first | exact HB | refine Below.setCell ?_ (by simp; first | done | omega) _ | refine Below.alloc ?_ (by simp; first | done | omega) _)

set_option maxHeartbeats 2000000 in
theorem sq_small_down (m x H L : Int) (hm : Word m) (hx0 : -1099511627776 ≤ x) (hx1 : x ≤ 1099511627776) (g l : Int) (hg : hiW (m * m) = g) (hl : loW (m * m) = l) (wg : Word g) (wl : Word l) (hs : (g / 9223372036854775808 == 0) = true) (hH : hiW (shlV (val g l) 1) = H) (hL : loW (shlV (val g l) 1) = L) (wH : Word H) (w : World) :
    Calls Tryd.prog 17 #[.agg #[.int .u64 m, .int .i64 x], .bool false] w fun r w' => r = .returned (.agg #[.int .u64 (H), .int .i64 (2 * x + 64 - 1)]) ∧ Below w.heap.size w w' := by
  obtain ⟨wH0, wH1⟩ := wH
  go_enter Tryd.func17, Tryd.ntmps17
  go_wp2_with fail
  refine (rmul_any m m hm hm _).mono ?_
  rintro e w1 ⟨rfl, hb1⟩
  rw [hg, hl]
  have b1 : w1.cell? ⟨w.heap.size, 1, none⟩ = some (.int .i64 x) := keepC hb1 (by simp [go_sem])
  have r0 : w1.cell? ⟨w.heap.size + 1, 0, none⟩ = some (.int .u64 0) := keepC hb1 (by simp [go_sem])
  have r1 : w1.cell? ⟨w.heap.size + 1, 1, none⟩ = some (.int .i64 0) := keepC hb1 (by simp [go_sem])
  have f0 : w1.frozen? ⟨w.heap.size + 1, 0, none⟩ = false := keepF hb1 (v := .int .u64 0) (by simp [go_sem]) (by simp [go_sem])
  have f1 : w1.frozen? ⟨w.heap.size + 1, 1, none⟩ = false := keepF hb1 (v := .int .i64 0) (by simp [go_sem]) (by simp [go_sem])
  have hz := hb1.size
  simp at hz
  have HB : Below w.heap.size w w1 := (((Below.refl _ _).alloc (Nat.le_refl _) _).alloc (by simp) _).trans (hb1.mono (by simp; omega))
  clear hb1
  have n0 : w.heap.size ≠ w1.heap.size := by omega
  have n1 : w.heap.size + 1 ≠ w1.heap.size := by omega
  have n2 : w.heap.size < w1.heap.size := by omega
  have n3 : w.heap.size + 1 < w1.heap.size := by omega
  have n4 : w.heap.size < w1.heap.size + 1 := by omega
  have n5 : w.heap.size + 1 < w1.heap.size + 1 := by omega
  go_wp2_with fail
  refine (rshl_any g l 1 wg wl (by decide) _).mono ?_
  rintro e w2 ⟨rfl, hb2⟩
  rw [hH, hL]
  have p0 : w2.cell? ⟨w1.heap.size, 0, none⟩ = some (.int .u64 g) := keepC hb2 (by simp [go_sem])
  have p1 : w2.cell? ⟨w1.heap.size, 1, none⟩ = some (.int .u64 l) := keepC hb2 (by simp [go_sem])
  have e0 : w2.frozen? ⟨w1.heap.size, 0, none⟩ = false := keepF hb2 (v := .int .u64 g) (by simp [go_sem]) (by simp [go_sem])
  have e1 : w2.frozen? ⟨w1.heap.size, 1, none⟩ = false := keepF hb2 (v := .int .u64 l) (by simp [go_sem]) (by simp [go_sem])
  have f0' : w2.frozen? ⟨w.heap.size + 1, 0, none⟩ = false := keepF hb2 (allocC _ r0) (allocF _ _ f0)
  have f1' : w2.frozen? ⟨w.heap.size + 1, 1, none⟩ = false := keepF hb2 (allocC _ r1) (allocF _ _ f1)
  replace r0 := keepC hb2 (allocC _ r0)
  replace r1 := keepC hb2 (allocC _ r1)
  have hz2 := hb2.size
  simp at hz2
  replace HB : Below w.heap.size w w2 := (HB.alloc (by omega) _).trans (hb2.mono (by simp; omega))
  clear hb2 f0 f1 b1
  have m0 : w.heap.size + 1 ≠ w2.heap.size := by omega
  have m1 : w1.heap.size ≠ w2.heap.size := by omega
  have m2 : w1.heap.size < w2.heap.size := by omega
  have m3 : w.heap.size + 1 < w2.heap.size := by omega
  go_wp2
  refine bodyPost_ret (v := .agg #[.int .u64 (H), .int .i64 (2 * x + 64 - 1)]) (by simp [results, Tryd.results17, go_sem, *]) rfl ⟨rfl, ?_⟩
  repeat (first | exact HB | refine Below.setCell ?_ (by simp; first | done | omega) _ | refine Below.alloc ?_ (by simp; first | done | omega) _)

set_option maxHeartbeats 2000000 in
theorem sq_small_no (m x H L : Int) (hm : Word m) (hx0 : -1099511627776 ≤ x) (hx1 : x ≤ 1099511627776) (g l : Int) (hg : hiW (m * m) = g) (hl : loW (m * m) = l) (wg : Word g) (wl : Word l) (hs : (g / 9223372036854775808 == 0) = true) (hH : hiW (shlV (val g l) 1) = H) (hL : loW (shlV (val g l) 1) = L) (wH : Word H) (hq : L = 0) (w : World) :
    Calls Tryd.prog 17 #[.agg #[.int .u64 m, .int .i64 x], .bool true] w fun r w' => r = .returned (.agg #[.int .u64 (H), .int .i64 (2 * x + 64 - 1)]) ∧ Below w.heap.size w w' := by
  obtain ⟨wH0, wH1⟩ := wH
  go_enter Tryd.func17, Tryd.ntmps17
  go_wp2_with fail
  refine (rmul_any m m hm hm _).mono ?_
  rintro e w1 ⟨rfl, hb1⟩
  rw [hg, hl]
  have b1 : w1.cell? ⟨w.heap.size, 1, none⟩ = some (.int .i64 x) := keepC hb1 (by simp [go_sem])
  have r0 : w1.cell? ⟨w.heap.size + 1, 0, none⟩ = some (.int .u64 0) := keepC hb1 (by simp [go_sem])
  have r1 : w1.cell? ⟨w.heap.size + 1, 1, none⟩ = some (.int .i64 0) := keepC hb1 (by simp [go_sem])
  have f0 : w1.frozen? ⟨w.heap.size + 1, 0, none⟩ = false := keepF hb1 (v := .int .u64 0) (by simp [go_sem]) (by simp [go_sem])
  have f1 : w1.frozen? ⟨w.heap.size + 1, 1, none⟩ = false := keepF hb1 (v := .int .i64 0) (by simp [go_sem]) (by simp [go_sem])
  have hz := hb1.size
  simp at hz
  have HB : Below w.heap.size w w1 := (((Below.refl _ _).alloc (Nat.le_refl _) _).alloc (by simp) _).trans (hb1.mono (by simp; omega))
  clear hb1
  have n0 : w.heap.size ≠ w1.heap.size := by omega
  have n1 : w.heap.size + 1 ≠ w1.heap.size := by omega
  have n2 : w.heap.size < w1.heap.size := by omega
  have n3 : w.heap.size + 1 < w1.heap.size := by omega
  have n4 : w.heap.size < w1.heap.size + 1 := by omega
  have n5 : w.heap.size + 1 < w1.heap.size + 1 := by omega
  go_wp2_with fail
  refine (rshl_any g l 1 wg wl (by decide) _).mono ?_
  rintro e w2 ⟨rfl, hb2⟩
  rw [hH, hL]
  have p0 : w2.cell? ⟨w1.heap.size, 0, none⟩ = some (.int .u64 g) := keepC hb2 (by simp [go_sem])
  have p1 : w2.cell? ⟨w1.heap.size, 1, none⟩ = some (.int .u64 l) := keepC hb2 (by simp [go_sem])
  have e0 : w2.frozen? ⟨w1.heap.size, 0, none⟩ = false := keepF hb2 (v := .int .u64 g) (by simp [go_sem]) (by simp [go_sem])
  have e1 : w2.frozen? ⟨w1.heap.size, 1, none⟩ = false := keepF hb2 (v := .int .u64 l) (by simp [go_sem]) (by simp [go_sem])
  have f0' : w2.frozen? ⟨w.heap.size + 1, 0, none⟩ = false := keepF hb2 (allocC _ r0) (allocF _ _ f0)
  have f1' : w2.frozen? ⟨w.heap.size + 1, 1, none⟩ = false := keepF hb2 (allocC _ r1) (allocF _ _ f1)
  replace r0 := keepC hb2 (allocC _ r0)
  replace r1 := keepC hb2 (allocC _ r1)
  have hz2 := hb2.size
  simp at hz2
  replace HB : Below w.heap.size w w2 := (HB.alloc (by omega) _).trans (hb2.mono (by simp; omega))
  clear hb2 f0 f1 b1
  have m0 : w.heap.size + 1 ≠ w2.heap.size := by omega
  have m1 : w1.heap.size ≠ w2.heap.size := by omega
  have m2 : w1.heap.size < w2.heap.size := by omega
  have m3 : w.heap.size + 1 < w2.heap.size := by omega
  go_wp2
  refine bodyPost_ret (v := .agg #[.int .u64 (H), .int .i64 (2 * x + 64 - 1)]) (by simp [results, Tryd.results17, go_sem, *]) rfl ⟨rfl, ?_⟩
  repeat (first | exact HB | refine Below.setCell ?_ (by simp; first | done | omega) _ | refine Below.alloc ?_ (by simp; first | done | omega) _)

set_option maxHeartbeats 2000000 in
theorem sq_small_inc (m x H L : Int) (hm : Word m) (hx0 : -1099511627776 ≤ x) (hx1 : x ≤ 1099511627776) (g l : Int) (hg : hiW (m * m) = g) (hl : loW (m * m) = l) (wg : Word g) (wl : Word l) (hs : (g / 9223372036854775808 == 0) = true) (hH : hiW (shlV (val g l) 1) = H) (hL : loW (shlV (val g l) 1) = L) (wH : Word H) (hq : 0 < L) (hi : H < 18446744073709551615) (w : World) :
    Calls Tryd.prog 17 #[.agg #[.int .u64 m, .int .i64 x], .bool true] w fun r w' => r = .returned (.agg #[.int .u64 (H + 1), .int .i64 (2 * x + 64 - 1)]) ∧ Below w.heap.size w w' := by
  obtain ⟨wH0, wH1⟩ := wH
  go_enter Tryd.func17, Tryd.ntmps17
  go_wp2_with fail
  refine (rmul_any m m hm hm _).mono ?_
  rintro e w1 ⟨rfl, hb1⟩
  rw [hg, hl]
  have b1 : w1.cell? ⟨w.heap.size, 1, none⟩ = some (.int .i64 x) := keepC hb1 (by simp [go_sem])
  have r0 : w1.cell? ⟨w.heap.size + 1, 0, none⟩ = some (.int .u64 0) := keepC hb1 (by simp [go_sem])
  have r1 : w1.cell? ⟨w.heap.size + 1, 1, none⟩ = some (.int .i64 0) := keepC hb1 (by simp [go_sem])
  have f0 : w1.frozen? ⟨w.heap.size + 1, 0, none⟩ = false := keepF hb1 (v := .int .u64 0) (by simp [go_sem]) (by simp [go_sem])
  have f1 : w1.frozen? ⟨w.heap.size + 1, 1, none⟩ = false := keepF hb1 (v := .int .i64 0) (by simp [go_sem]) (by simp [go_sem])
  have hz := hb1.size
  simp at hz
  have HB : Below w.heap.size w w1 := (((Below.refl _ _).alloc (Nat.le_refl _) _).alloc (by simp) _).trans (hb1.mono (by simp; omega))
  clear hb1
  have n0 : w.heap.size ≠ w1.heap.size := by omega
  have n1 : w.heap.size + 1 ≠ w1.heap.size := by omega
  have n2 : w.heap.size < w1.heap.size := by omega
  have n3 : w.heap.size + 1 < w1.heap.size := by omega
  have n4 : w.heap.size < w1.heap.size + 1 := by omega
  have n5 : w.heap.size + 1 < w1.heap.size + 1 := by omega
  go_wp2_with fail
  refine (rshl_any g l 1 wg wl (by decide) _).mono ?_
  rintro e w2 ⟨rfl, hb2⟩
  rw [hH, hL]
  have p0 : w2.cell? ⟨w1.heap.size, 0, none⟩ = some (.int .u64 g) := keepC hb2 (by simp [go_sem])
  have p1 : w2.cell? ⟨w1.heap.size, 1, none⟩ = some (.int .u64 l) := keepC hb2 (by simp [go_sem])
  have e0 : w2.frozen? ⟨w1.heap.size, 0, none⟩ = false := keepF hb2 (v := .int .u64 g) (by simp [go_sem]) (by simp [go_sem])
  have e1 : w2.frozen? ⟨w1.heap.size, 1, none⟩ = false := keepF hb2 (v := .int .u64 l) (by simp [go_sem]) (by simp [go_sem])
  have f0' : w2.frozen? ⟨w.heap.size + 1, 0, none⟩ = false := keepF hb2 (allocC _ r0) (allocF _ _ f0)
  have f1' : w2.frozen? ⟨w.heap.size + 1, 1, none⟩ = false := keepF hb2 (allocC _ r1) (allocF _ _ f1)
  replace r0 := keepC hb2 (allocC _ r0)
  replace r1 := keepC hb2 (allocC _ r1)
  have hz2 := hb2.size
  simp at hz2
  replace HB : Below w.heap.size w w2 := (HB.alloc (by omega) _).trans (hb2.mono (by simp; omega))
  clear hb2 f0 f1 b1
  have m0 : w.heap.size + 1 ≠ w2.heap.size := by omega
  have m1 : w1.heap.size ≠ w2.heap.size := by omega
  have m2 : w1.heap.size < w2.heap.size := by omega
  have m3 : w.heap.size + 1 < w2.heap.size := by omega
  go_wp2
  refine bodyPost_ret (v := .agg #[.int .u64 (H + 1), .int .i64 (2 * x + 64 - 1)]) (by simp [results, Tryd.results17, go_sem, *]) rfl ⟨rfl, ?_⟩
  repeat (first | exact HB | refine Below.setCell ?_ (by simp; first | done | omega) _ | refine Below.alloc ?_ (by simp; first | done | omega) _)

set_option maxHeartbeats 2000000 in
theorem sq_small_carry (m x H L : Int) (hm : Word m) (hx0 : -1099511627776 ≤ x) (hx1 : x ≤ 1099511627776) (g l : Int) (hg : hiW (m * m) = g) (hl : loW (m * m) = l) (wg : Word g) (wl : Word l) (hs : (g / 9223372036854775808 == 0) = true) (hH : hiW (shlV (val g l) 1) = H) (hL : loW (shlV (val g l) 1) = L) (wH : Word H) (hq : 0 < L) (hi : H = 18446744073709551615) (w : World) :
    Calls Tryd.prog 17 #[.agg #[.int .u64 m, .int .i64 x], .bool true] w fun r w' => r = .returned (.agg #[.int .u64 (9223372036854775808), .int .i64 (2 * x + 64 - 1 + 1)]) ∧ Below w.heap.size w w' := by
  obtain ⟨wH0, wH1⟩ := wH
  go_enter Tryd.func17, Tryd.ntmps17
  go_wp2_with fail
  refine (rmul_any m m hm hm _).mono ?_
  rintro e w1 ⟨rfl, hb1⟩
  rw [hg, hl]
  have b1 : w1.cell? ⟨w.heap.size, 1, none⟩ = some (.int .i64 x) := keepC hb1 (by simp [go_sem])
  have r0 : w1.cell? ⟨w.heap.size + 1, 0, none⟩ = some (.int .u64 0) := keepC hb1 (by simp [go_sem])
  have r1 : w1.cell? ⟨w.heap.size + 1, 1, none⟩ = some (.int .i64 0) := keepC hb1 (by simp [go_sem])
  have f0 : w1.frozen? ⟨w.heap.size + 1, 0, none⟩ = false := keepF hb1 (v := .int .u64 0) (by simp [go_sem]) (by simp [go_sem])
  have f1 : w1.frozen? ⟨w.heap.size + 1, 1, none⟩ = false := keepF hb1 (v := .int .i64 0) (by simp [go_sem]) (by simp [go_sem])
  have hz := hb1.size
  simp at hz
  have HB : Below w.heap.size w w1 := (((Below.refl _ _).alloc (Nat.le_refl _) _).alloc (by simp) _).trans (hb1.mono (by simp; omega))
  clear hb1
  have n0 : w.heap.size ≠ w1.heap.size := by omega
  have n1 : w.heap.size + 1 ≠ w1.heap.size := by omega
  have n2 : w.heap.size < w1.heap.size := by omega
  have n3 : w.heap.size + 1 < w1.heap.size := by omega
  have n4 : w.heap.size < w1.heap.size + 1 := by omega
  have n5 : w.heap.size + 1 < w1.heap.size + 1 := by omega
  go_wp2_with fail
  refine (rshl_any g l 1 wg wl (by decide) _).mono ?_
  rintro e w2 ⟨rfl, hb2⟩
  rw [hH, hL]
  have p0 : w2.cell? ⟨w1.heap.size, 0, none⟩ = some (.int .u64 g) := keepC hb2 (by simp [go_sem])
  have p1 : w2.cell? ⟨w1.heap.size, 1, none⟩ = some (.int .u64 l) := keepC hb2 (by simp [go_sem])
  have e0 : w2.frozen? ⟨w1.heap.size, 0, none⟩ = false := keepF hb2 (v := .int .u64 g) (by simp [go_sem]) (by simp [go_sem])
  have e1 : w2.frozen? ⟨w1.heap.size, 1, none⟩ = false := keepF hb2 (v := .int .u64 l) (by simp [go_sem]) (by simp [go_sem])
  have f0' : w2.frozen? ⟨w.heap.size + 1, 0, none⟩ = false := keepF hb2 (allocC _ r0) (allocF _ _ f0)
  have f1' : w2.frozen? ⟨w.heap.size + 1, 1, none⟩ = false := keepF hb2 (allocC _ r1) (allocF _ _ f1)
  replace r0 := keepC hb2 (allocC _ r0)
  replace r1 := keepC hb2 (allocC _ r1)
  have hz2 := hb2.size
  simp at hz2
  replace HB : Below w.heap.size w w2 := (HB.alloc (by omega) _).trans (hb2.mono (by simp; omega))
  clear hb2 f0 f1 b1
  have m0 : w.heap.size + 1 ≠ w2.heap.size := by omega
  have m1 : w1.heap.size ≠ w2.heap.size := by omega
  have m2 : w1.heap.size < w2.heap.size := by omega
  have m3 : w.heap.size + 1 < w2.heap.size := by omega
  go_wp2
  refine bodyPost_ret (v := .agg #[.int .u64 (9223372036854775808), .int .i64 (2 * x + 64 - 1 + 1)]) (by simp [results, Tryd.results17, go_sem, *]) rfl ⟨rfl, ?_⟩
  repeat (first | exact HB | refine Below.setCell ?_ (by simp; first | done | omega) _ | refine Below.alloc ?_ (by simp; first | done | omega) _)

end Go.Proofs.YtbnokceagaodkaaDoor
