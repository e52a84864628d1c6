/-
  LAYER 16: the statements' head: shown.
-/
import Derived.Test.YtdkbmligaodpmaaGreatDoorIdYq
namespace Go.Proofs.YtdkbmligaodpmaaGreatDoor
open Go.RowKit Wd Tr Cg Ld

theorem iplain_any (w : World) : Calls Tryz.prog 36 #[] w fun e w' => e = .returned (cfV cEx) ∧ Below w.heap.size w w' := by
  go_enter Tryz.func36, Tryz.ntmps36
  go_wp2
  exact bodyPost_ret (v := .agg #[.int .i64 4, .int .i64 8, .int .i64 10, .int .i64 1, .int .i64 1000, .int .i64 0, .int .i64 100, .int .i64 100]) (by simp [results, Tryz.results36, go_sem]) rfl ⟨rfl, by repeat first | exact (Below.refl _ _) | exact ((Below.refl _ _).alloc (Nat.le_refl _) _) | refine Below.setCell ?_ (by simp) _⟩
def lE2 : List Ac := [⟨⟨#[114, 111, 111, 116]⟩, -1, 1, false, 0⟩, ⟨⟨#[97]⟩, 0, 3, false, 0⟩]
def jE2 : Jb := ⟨1, 2, 0, 3, 0, 0, 0, none, 0, 0⟩
theorem e2_load : loadE lE2 = 0 := by kernel_rfl
theorem e2_lo : idLo cEx lE2 [zeB, zeB] 10 jE2 = 9287935641112759238656 := by kernel_rfl
theorem e2_hi : idHi cEx lE2 [zeB, zeB] 10 jE2 = 9287935641112759238656 := by kernel_rfl
theorem e2_wt : wtB cEx [zeB, zeB] 10 jE2 = true := by kernel_rfl
theorem e2_nm : ∀ a ∈ lE2, a.nm.size ≤ maxLen := fun a h => by
  simp only [lE2, List.mem_cons, List.not_mem_nil, or_false] at h
  rcases h with rfl | rfl <;> decide
abbrev e2Cs : Array Value := #[.string ⟨#[114, 111, 111, 116]⟩, .int .i64 (-1), .int .i64 1, .bool false, .int .u64 0, .string ⟨#[97]⟩, .int .i64 0, .int .i64 3, .bool false, .int .u64 0]
theorem e2_acs (w : World) : AcsAt (w.alloc (.cells e2Cs 62)) (some ⟨w.heap.size, 0, none⟩) lE2 := by
  refine ⟨w.heap.size, 0, fun _ => rfl, fun k a h => ?_⟩
  have hh := heap_alloc_new w (.cells e2Cs 62)
  match k, h with
  | 0, h => cases h; exact ⟨cells_at (k := 0) hh rfl, cells_at (k := 1) hh rfl, cells_at (k := 2) hh rfl, cells_at (k := 3) hh rfl, cells_at (k := 4) hh rfl⟩
  | 1, h => cases h; exact ⟨cells_at (k := 5) hh rfl, cells_at (k := 6) hh rfl, cells_at (k := 7) hh rfl, cells_at (k := 8) hh rfl, cells_at (k := 9) hh rfl⟩
  | n + 2, h => simp [lE2] at h
theorem e2_hiw : hiW 9287935641112759238656 = 503 ∧ loW 9287935641112759238656 = 9223372036854775808 ∧ hiW 9223372036854775808 = 0 ∧ loW 9223372036854775808 = 9223372036854775808 := by decide
set_option maxHeartbeats 1000000 in
set_option maxRecDepth 20000 in
theorem ishown_any {w : World} (hT : Tab w) : Calls Tryz.prog 7 #[] w fun e w' => e = .returned (.bool true) ∧ Below w.heap.size w w' := by
  have HT : Hid (Tab w) := hT
  clear hT
  go_enter Tryz.func7, Tryz.ntmps7
  go_wp2_with fail
  refine (iplain_any _).mono ?_
  rintro e w1 ⟨rfl, hb1⟩
  go_wp2_with fail
  refine (inew_yes ex_chk w1 (Tab.below hb1 HT.out)).mono ?_
  rintro e w2 ⟨d, v, rfl, hI, hb2⟩
  have cO := iopen_any hI (by have := hb2.size; omega) (by decide)
  have hB2 := hb1.trans (hb2.mono hb1.size)
  have hlow := hI.low
  have hz1 := hb1.size
  have hz2 := hb2.size
  have HI : Hid _ := hlow
  clear hI hb1 hb2 hlow
  go_wp2_with fail
  refine cO.mono ?_
  rintro e w3 ⟨rfl, v', hI3, hC3, _⟩
  have hB3 : Below w.heap.size w w3 := hC3.below hB2 hB2.size (fun i hi => by have := HI.out i hi; omega)
  have hI3' : Idl cEx w1.heap.size w3 d v' [zeB, zeB] := hI3
  obtain ⟨w4, hw4⟩ : ∃ w4, w3.alloc (.cells e2Cs 62) = w4 := ⟨_, rfl⟩
  have hA := e2_acs w3
  rw [hw4] at hA
  have hb34 : Below w3.heap.size w3 w4 := by rw [← hw4]; exact (Below.refl _ _).alloc (Nat.le_refl _) _
  have hB4 : Below w.heap.size w w4 := hB3.trans (hb34.mono hB3.size)
  have hI4 := hI3'.below hb34
  have cP := prio_yes ex_chk hI4 (Tab.below hB4 HT.out) (cap := 2) hA e2_nm (by decide) (by decide) 10 jE2 e2_load rfl e2_wt
  rw [e2_lo, e2_hi] at cP
  obtain ⟨h1, h2, h3, h4⟩ := e2_hiw
  simp only [nuV, h1, h2, h3, h4] at cP
  have HI4 : Hid _ := hI4
  have HB4 : Hid (Below w.heap.size w w4) := hB4
  have HW4 : Hid _ := hw4
  have hz3 := hC3.size
  have hz4 := hb34.size
  clear cO hI3 hI3' hC3 hB2 hB3 hA hb34 hB4 hI4 h1 h2 h3 h4 hw4
  go_upto_region 6 with fail
  rw [HW4.out]
  clear HW4
  go_wp2_with fail
  refine cP.mono ?_
  rintro e w5 ⟨rfl, hb5⟩
  have hI5 := HI4.out.below hb5
  have hb58 : Below w5.heap.size w5 (((w5.alloc (.cells #[.int .u64 503, .int .u64 9223372036854775808] 64)).alloc (.cells #[.int .u64 503, .int .u64 9223372036854775808] 64)).alloc (.cells #[.int .u64 0, .int .u64 9223372036854775808] 64)) := (((Below.refl _ w5).alloc (Nat.le_refl _) _).alloc (by simp) _).alloc (by simp; omega) _
  have cC := icharge_any ex_rng (hI5.below hb58) 1 5
  have hE : chgE cEx.nodes [zeB, zeB] 1 5 = 160 := by decide
  rw [hE] at cC
  have hlt5 := hI5.lt
  have hB5 : Below w.heap.size w w5 := HB4.out.trans (hb5.mono HB4.out.size)
  have HL5 : Hid _ := hlt5
  have HLO : Hid _ := hI5.low
  have hs5 := hB5.size
  have t0 := Bx.new w5 (.int .u64 503) (.int .u64 9223372036854775808) 64
  have t0 := (t0.alloc #[.int .u64 503, .int .u64 9223372036854775808] 64).alloc #[.int .u64 0, .int .u64 9223372036854775808] 64
  have t1 := (Bx.new (w5.alloc (.cells #[.int .u64 503, .int .u64 9223372036854775808] 64)) (.int .u64 503) (.int .u64 9223372036854775808) 64).alloc #[.int .u64 0, .int .u64 9223372036854775808] 64
  have t2 := Bx.new ((w5.alloc (.cells #[.int .u64 503, .int .u64 9223372036854775808] 64)).alloc (.cells #[.int .u64 503, .int .u64 9223372036854775808] 64)) (.int .u64 0) (.int .u64 9223372036854775808) 64
  simp only [World.size_alloc] at t1 t2
  obtain ⟨t00, t01, _, _⟩ := t0
  obtain ⟨t10, t11, _, _⟩ := t1
  obtain ⟨t20, t21, _, _⟩ := t2
  have hB8 := hB5.trans (hb58.mono hs5)
  have h58 := hb58.size
  clear cP hI5 hlt5 hb5 hb58 hE HI4 HB4 hB5
  obtain ⟨w8, hw8⟩ : ∃ w8, ((w5.alloc (.cells #[.int .u64 503, .int .u64 9223372036854775808] 64)).alloc (.cells #[.int .u64 503, .int .u64 9223372036854775808] 64)).alloc (.cells #[.int .u64 0, .int .u64 9223372036854775808] 64) = w8 := ⟨_, rfl⟩
  rw [hw8] at cC t00 t01 t10 t11 t20 t21 hB8 h58
  have HW8 : Hid _ := hw8
  clear hw8
  go_upto_region 7 with fail
  rw [HW8.out]
  clear HW8
  go_wp2_with fail
  refine cC.mono ?_
  rintro e w9 ⟨rfl, _, hC9⟩
  have k : ∀ i, w5.heap.size ≤ i → ¬ IK d v' i := fun i hi hk => by have := HL5.out i hk; omega
  have u00 := allocC (.cells #[.int .u64 503, .int .u64 9223372036854775808] 64) (hC9.cell t00 (k _ (Nat.le_refl _)))
  have u01 := allocC (.cells #[.int .u64 503, .int .u64 9223372036854775808] 64) (hC9.cell t01 (k _ (Nat.le_refl _)))
  have u10 := allocC (.cells #[.int .u64 503, .int .u64 9223372036854775808] 64) (hC9.cell t10 (k _ (by simp)))
  have u11 := allocC (.cells #[.int .u64 503, .int .u64 9223372036854775808] 64) (hC9.cell t11 (k _ (by simp)))
  have u20 := allocC (.cells #[.int .u64 503, .int .u64 9223372036854775808] 64) (hC9.cell t20 (k _ (by simp; omega)))
  have u21 := allocC (.cells #[.int .u64 503, .int .u64 9223372036854775808] 64) (hC9.cell t21 (k _ (by simp; omega)))
  have hB9 : Below w.heap.size w w9 := hC9.below hB8 (by omega) (fun i hi => by have := HLO.out i hi; omega)
  have hs9 := hB9.size
  clear cC hC9 t00 t01 t10 t11 t20 t21 k
  go_wp2
  go_ret
  exact ⟨rfl, hB9.alloc hs9 _⟩
end Go.Proofs.YtdkbmligaodpmaaGreatDoor
