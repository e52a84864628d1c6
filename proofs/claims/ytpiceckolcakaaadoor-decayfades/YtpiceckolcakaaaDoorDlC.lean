/-
  LAYER 10: DecayFades walked.
-/
import Derived.Test.YtpiceckolcakaaaDoorDlA
namespace Go.Proofs.YtpiceckolcakaaaDoor
open Go.RowKit Wd Ld

set_option maxHeartbeats 2000000 in
set_option maxRecDepth 20000 in
theorem fades_few (A : Asks) {u f p : Int} (hu : Word u) (hf : Word f) (hp : FitN p) (h1 : ¬ 3000 < p) (w : World) (hT : Tab w) :
    Calls Tryd.prog 4 #[.int .u64 u, .int .u64 f, .int .i64 p] w fun e w' => e = .returned (.bool true) ∧ Below w.heap.size w w' := by
  have hq : FitN (p) := by unfold FitN at *; omega
  have cF := A.fades hu hf hq
  have cR := rfades_any (p := p) hu hf
  have hP := per_le (p)
  obtain ⟨P, hPe⟩ : ∃ P, P = perV (p) := ⟨_, rfl⟩
  rw [← hPe] at hP cF cR
  obtain ⟨z, hz0⟩ : ∃ z, z = fadeN f P u := ⟨_, rfl⟩
  rw [← hz0] at cF cR
  go_enter Tryd.func4, Tryd.ntmps4
  have HB : Below w.heap.size w w := Below.refl _ _
  go_wp2_with fail
  refine (shown_any A _ hT).mono ?_
  rintro e w0 ⟨rfl, hz⟩
  replace HB := HB.trans (hz.mono HB.size)
  clear hz
  go_wp2_with fail
  go_loopw [8, 9] (fun x i wr => ∃ k : Nat, k ≤ P ∧ i = .int .i64 k ∧ x = .int .u64 (fadeN f k u) ∧ Below w.heap.size w wr) (fun _ i _ => P - (intOf i).toNat)
  case atStart => exact ⟨0, by omega, rfl, rfl, HB⟩
  case round =>
    clear HB
    obtain ⟨k, hk, rfl, rfl, HB⟩ := hrel
    have hx := fade_word hf k u hu
    by_cases hlt : k < P
    · obtain ⟨c1, c2⟩ := per_lt (hPe ▸ hlt)
      have ef := fade_succ f k u
      have en := fade_end (f := f) (u := u) (Nat.le_of_lt hlt)
      generalize fadeN f k u = x at hx ef en ⊢
      have cc := A.fade hx hf
      generalize partV x f = y at ef en cc
      clear hPe hP
      by_cases hy : y = x
      · have en' := en hy
        subst hy
        rw [← hz0] at en'
        subst en'
        clear ef en hz0
        go_wp2_with fail
        refine (cc _ (Tab.below HB hT)).mono ?_
        rintro e w1 ⟨rfl, hz⟩
        replace HB := HB.trans (hz.mono HB.size)
        clear hz c1 c2 hlt hk
        go_wp2_with fail
        refine (cF _ (Tab.below HB hT)).mono ?_
        rintro e w3 ⟨rfl, hz⟩
        replace HB := HB.trans (hz.mono HB.size)
        clear hz
        go_wp2_with fail
        refine (cR _).mono ?_
        rintro e w4 ⟨rfl, hz⟩
        replace HB := HB.trans (hz.mono HB.size)
        clear hz
        go_wp2
        go_ret
        exact ⟨rfl, HB⟩
      · have EF : Hid _ := ef
        clear ef en
        go_wp2_with fail
        refine (cc _ (Tab.below HB hT)).mono ?_
        rintro e w1 ⟨rfl, hz⟩
        replace HB := HB.trans (hz.mono HB.size)
        have hk1 : k + 1 < 9223372036854775807 := by omega
        clear hz c1 c2
        go_wp2
        go_roundw
        case rel =>
          exact ⟨k + 1, by omega, by go_num, by rw [← EF.out], HB⟩
        case measure => simp [intOf]; omega
    · obtain rfl : k = P := by omega
      by_cases c1 : (k : Int) < p
      · have c2 : ¬ (k : Int) < 65536 := by rw [hPe] at c1 ⊢; exact per_end c1
        rw [← hz0] at hx ⊢
        clear hPe hz0 hP hlt hk
        go_wp2_with fail
        clear c1 c2
        refine (cF _ (Tab.below HB hT)).mono ?_
        rintro e w3 ⟨rfl, hz⟩
        replace HB := HB.trans (hz.mono HB.size)
        clear hz
        go_wp2_with fail
        refine (cR _).mono ?_
        rintro e w4 ⟨rfl, hz⟩
        replace HB := HB.trans (hz.mono HB.size)
        clear hz
        go_wp2
        go_ret
        exact ⟨rfl, HB⟩
      · rw [← hz0] at hx ⊢
        clear hPe hz0 hP hlt hk
        go_wp2_with fail
        clear c1
        refine (cF _ (Tab.below HB hT)).mono ?_
        rintro e w3 ⟨rfl, hz⟩
        replace HB := HB.trans (hz.mono HB.size)
        clear hz
        go_wp2_with fail
        refine (cR _).mono ?_
        rintro e w4 ⟨rfl, hz⟩
        replace HB := HB.trans (hz.mono HB.size)
        clear hz
        go_wp2
        go_ret
        exact ⟨rfl, HB⟩
set_option maxHeartbeats 2000000 in
set_option maxRecDepth 20000 in
theorem fades_low (A : Asks) {u f p : Int} (hu : Word u) (hf : Word f) (hp : FitN p) (h1 : 3000 < p) (h2 : ¬ 4611686018427387904 < f) (w : World) (hT : Tab w) :
    Calls Tryd.prog 4 #[.int .u64 u, .int .u64 f, .int .i64 p] w fun e w' => e = .returned (.bool true) ∧ Below w.heap.size w w' := by
  have hq : FitN (p) := by unfold FitN at *; omega
  have cF := A.fades hu hf hq
  have cR := rfades_any (p := p) hu hf
  have hP := per_le (p)
  obtain ⟨P, hPe⟩ : ∃ P, P = perV (p) := ⟨_, rfl⟩
  rw [← hPe] at hP cF cR
  obtain ⟨z, hz0⟩ : ∃ z, z = fadeN f P u := ⟨_, rfl⟩
  rw [← hz0] at cF cR
  go_enter Tryd.func4, Tryd.ntmps4
  have HB : Below w.heap.size w w := Below.refl _ _
  go_wp2_with fail
  refine (shown_any A _ hT).mono ?_
  rintro e w0 ⟨rfl, hz⟩
  replace HB := HB.trans (hz.mono HB.size)
  clear hz
  go_wp2_with fail
  go_loopw [8, 9] (fun x i wr => ∃ k : Nat, k ≤ P ∧ i = .int .i64 k ∧ x = .int .u64 (fadeN f k u) ∧ Below w.heap.size w wr) (fun _ i _ => P - (intOf i).toNat)
  case atStart => exact ⟨0, by omega, rfl, rfl, HB⟩
  case round =>
    clear HB
    obtain ⟨k, hk, rfl, rfl, HB⟩ := hrel
    have hx := fade_word hf k u hu
    by_cases hlt : k < P
    · obtain ⟨c1, c2⟩ := per_lt (hPe ▸ hlt)
      have ef := fade_succ f k u
      have en := fade_end (f := f) (u := u) (Nat.le_of_lt hlt)
      generalize fadeN f k u = x at hx ef en ⊢
      have cc := A.fade hx hf
      generalize partV x f = y at ef en cc
      clear hPe hP
      by_cases hy : y = x
      · have en' := en hy
        subst hy
        rw [← hz0] at en'
        subst en'
        clear ef en hz0
        go_wp2_with fail
        refine (cc _ (Tab.below HB hT)).mono ?_
        rintro e w1 ⟨rfl, hz⟩
        replace HB := HB.trans (hz.mono HB.size)
        clear hz c1 c2 hlt hk
        go_wp2_with fail
        refine (cF _ (Tab.below HB hT)).mono ?_
        rintro e w3 ⟨rfl, hz⟩
        replace HB := HB.trans (hz.mono HB.size)
        clear hz
        go_wp2_with fail
        refine (cR _).mono ?_
        rintro e w4 ⟨rfl, hz⟩
        replace HB := HB.trans (hz.mono HB.size)
        clear hz
        go_wp2
        go_ret
        exact ⟨rfl, HB⟩
      · have EF : Hid _ := ef
        clear ef en
        go_wp2_with fail
        refine (cc _ (Tab.below HB hT)).mono ?_
        rintro e w1 ⟨rfl, hz⟩
        replace HB := HB.trans (hz.mono HB.size)
        have hk1 : k + 1 < 9223372036854775807 := by omega
        clear hz c1 c2
        go_wp2
        go_roundw
        case rel =>
          exact ⟨k + 1, by omega, by go_num, by rw [← EF.out], HB⟩
        case measure => simp [intOf]; omega
    · obtain rfl : k = P := by omega
      by_cases c1 : (k : Int) < p
      · have c2 : ¬ (k : Int) < 65536 := by rw [hPe] at c1 ⊢; exact per_end c1
        rw [← hz0] at hx ⊢
        clear hPe hz0 hP hlt hk
        go_wp2_with fail
        clear c1 c2
        refine (cF _ (Tab.below HB hT)).mono ?_
        rintro e w3 ⟨rfl, hz⟩
        replace HB := HB.trans (hz.mono HB.size)
        clear hz
        go_wp2_with fail
        refine (cR _).mono ?_
        rintro e w4 ⟨rfl, hz⟩
        replace HB := HB.trans (hz.mono HB.size)
        clear hz
        go_wp2
        go_ret
        exact ⟨rfl, HB⟩
      · rw [← hz0] at hx ⊢
        clear hPe hz0 hP hlt hk
        go_wp2_with fail
        clear c1
        refine (cF _ (Tab.below HB hT)).mono ?_
        rintro e w3 ⟨rfl, hz⟩
        replace HB := HB.trans (hz.mono HB.size)
        clear hz
        go_wp2_with fail
        refine (cR _).mono ?_
        rintro e w4 ⟨rfl, hz⟩
        replace HB := HB.trans (hz.mono HB.size)
        clear hz
        go_wp2
        go_ret
        exact ⟨rfl, HB⟩
set_option maxHeartbeats 2000000 in
set_option maxRecDepth 20000 in
theorem fades_high (A : Asks) {u f p : Int} (hu : Word u) (hf : Word f) (hp : FitN p) (h1 : 3000 < p) (h2 : 4611686018427387904 < f) (h3 : ¬ f < 9223372036854775808) (w : World) (hT : Tab w) :
    Calls Tryd.prog 4 #[.int .u64 u, .int .u64 f, .int .i64 p] w fun e w' => e = .returned (.bool true) ∧ Below w.heap.size w w' := by
  have hq : FitN (p) := by unfold FitN at *; omega
  have cF := A.fades hu hf hq
  have cR := rfades_any (p := p) hu hf
  have hP := per_le (p)
  obtain ⟨P, hPe⟩ : ∃ P, P = perV (p) := ⟨_, rfl⟩
  rw [← hPe] at hP cF cR
  obtain ⟨z, hz0⟩ : ∃ z, z = fadeN f P u := ⟨_, rfl⟩
  rw [← hz0] at cF cR
  go_enter Tryd.func4, Tryd.ntmps4
  have HB : Below w.heap.size w w := Below.refl _ _
  go_wp2_with fail
  refine (shown_any A _ hT).mono ?_
  rintro e w0 ⟨rfl, hz⟩
  replace HB := HB.trans (hz.mono HB.size)
  clear hz
  go_wp2_with fail
  go_loopw [8, 9] (fun x i wr => ∃ k : Nat, k ≤ P ∧ i = .int .i64 k ∧ x = .int .u64 (fadeN f k u) ∧ Below w.heap.size w wr) (fun _ i _ => P - (intOf i).toNat)
  case atStart => exact ⟨0, by omega, rfl, rfl, HB⟩
  case round =>
    clear HB
    obtain ⟨k, hk, rfl, rfl, HB⟩ := hrel
    have hx := fade_word hf k u hu
    by_cases hlt : k < P
    · obtain ⟨c1, c2⟩ := per_lt (hPe ▸ hlt)
      have ef := fade_succ f k u
      have en := fade_end (f := f) (u := u) (Nat.le_of_lt hlt)
      generalize fadeN f k u = x at hx ef en ⊢
      have cc := A.fade hx hf
      generalize partV x f = y at ef en cc
      clear hPe hP
      by_cases hy : y = x
      · have en' := en hy
        subst hy
        rw [← hz0] at en'
        subst en'
        clear ef en hz0
        go_wp2_with fail
        refine (cc _ (Tab.below HB hT)).mono ?_
        rintro e w1 ⟨rfl, hz⟩
        replace HB := HB.trans (hz.mono HB.size)
        clear hz c1 c2 hlt hk
        go_wp2_with fail
        refine (cF _ (Tab.below HB hT)).mono ?_
        rintro e w3 ⟨rfl, hz⟩
        replace HB := HB.trans (hz.mono HB.size)
        clear hz
        go_wp2_with fail
        refine (cR _).mono ?_
        rintro e w4 ⟨rfl, hz⟩
        replace HB := HB.trans (hz.mono HB.size)
        clear hz
        go_wp2
        go_ret
        exact ⟨rfl, HB⟩
      · have EF : Hid _ := ef
        clear ef en
        go_wp2_with fail
        refine (cc _ (Tab.below HB hT)).mono ?_
        rintro e w1 ⟨rfl, hz⟩
        replace HB := HB.trans (hz.mono HB.size)
        have hk1 : k + 1 < 9223372036854775807 := by omega
        clear hz c1 c2
        go_wp2
        go_roundw
        case rel =>
          exact ⟨k + 1, by omega, by go_num, by rw [← EF.out], HB⟩
        case measure => simp [intOf]; omega
    · obtain rfl : k = P := by omega
      by_cases c1 : (k : Int) < p
      · have c2 : ¬ (k : Int) < 65536 := by rw [hPe] at c1 ⊢; exact per_end c1
        rw [← hz0] at hx ⊢
        clear hPe hz0 hP hlt hk
        go_wp2_with fail
        clear c1 c2
        refine (cF _ (Tab.below HB hT)).mono ?_
        rintro e w3 ⟨rfl, hz⟩
        replace HB := HB.trans (hz.mono HB.size)
        clear hz
        go_wp2_with fail
        refine (cR _).mono ?_
        rintro e w4 ⟨rfl, hz⟩
        replace HB := HB.trans (hz.mono HB.size)
        clear hz
        go_wp2
        go_ret
        exact ⟨rfl, HB⟩
      · rw [← hz0] at hx ⊢
        clear hPe hz0 hP hlt hk
        go_wp2_with fail
        clear c1
        refine (cF _ (Tab.below HB hT)).mono ?_
        rintro e w3 ⟨rfl, hz⟩
        replace HB := HB.trans (hz.mono HB.size)
        clear hz
        go_wp2_with fail
        refine (cR _).mono ?_
        rintro e w4 ⟨rfl, hz⟩
        replace HB := HB.trans (hz.mono HB.size)
        clear hz
        go_wp2
        go_ret
        exact ⟨rfl, HB⟩
set_option maxHeartbeats 2000000 in
set_option maxRecDepth 20000 in
theorem fades_cut (A : Asks) {u f p : Int} (hu : Word u) (hf : Word f) (_hp : FitN p) (h1 : 3000 < p) (h2 : 4611686018427387904 < f) (h3 : f < 9223372036854775808) (w : World) (hT : Tab w) :
    Calls Tryd.prog 4 #[.int .u64 u, .int .u64 f, .int .i64 p] w fun e w' => e = .returned (.bool true) ∧ Below w.heap.size w w' := by
  have em : Int.tmod p 3000 = p % 3000 := Int.tmod_eq_emod_of_nonneg (by omega)
  have e1 : IntKind.i64.wrap (p % 3000) = p % 3000 := by rw [IntKind.wrap_i64]; omega
  have hq : FitN (p % 3000) := by unfold FitN at *; omega
  have cF := A.fades hu hf hq
  have cR := rfades_any (p := p % 3000) hu hf
  have hP := per_le (p % 3000)
  obtain ⟨P, hPe⟩ : ∃ P, P = perV (p % 3000) := ⟨_, rfl⟩
  rw [← hPe] at hP cF cR
  obtain ⟨z, hz0⟩ : ∃ z, z = fadeN f P u := ⟨_, rfl⟩
  rw [← hz0] at cF cR
  go_enter Tryd.func4, Tryd.ntmps4
  have HB : Below w.heap.size w w := Below.refl _ _
  go_wp2_with fail
  refine (shown_any A _ hT).mono ?_
  rintro e w0 ⟨rfl, hz⟩
  replace HB := HB.trans (hz.mono HB.size)
  clear hz
  go_wp2_with fail
  go_loopw [8, 9] (fun x i wr => ∃ k : Nat, k ≤ P ∧ i = .int .i64 k ∧ x = .int .u64 (fadeN f k u) ∧ Below w.heap.size w wr) (fun _ i _ => P - (intOf i).toNat)
  case atStart => exact ⟨0, by omega, rfl, rfl, HB⟩
  case round =>
    clear HB
    obtain ⟨k, hk, rfl, rfl, HB⟩ := hrel
    have hx := fade_word hf k u hu
    by_cases hlt : k < P
    · obtain ⟨c1, c2⟩ := per_lt (hPe ▸ hlt)
      have ef := fade_succ f k u
      have en := fade_end (f := f) (u := u) (Nat.le_of_lt hlt)
      generalize fadeN f k u = x at hx ef en ⊢
      have cc := A.fade hx hf
      generalize partV x f = y at ef en cc
      clear hPe hP
      by_cases hy : y = x
      · have en' := en hy
        subst hy
        rw [← hz0] at en'
        subst en'
        clear ef en hz0
        go_wp2_with fail
        refine (cc _ (Tab.below HB hT)).mono ?_
        rintro e w1 ⟨rfl, hz⟩
        replace HB := HB.trans (hz.mono HB.size)
        clear hz c1 c2 hlt hk
        go_wp2_with fail
        refine (cF _ (Tab.below HB hT)).mono ?_
        rintro e w3 ⟨rfl, hz⟩
        replace HB := HB.trans (hz.mono HB.size)
        clear hz
        go_wp2_with fail
        refine (cR _).mono ?_
        rintro e w4 ⟨rfl, hz⟩
        replace HB := HB.trans (hz.mono HB.size)
        clear hz
        go_wp2
        go_ret
        exact ⟨rfl, HB⟩
      · have EF : Hid _ := ef
        clear ef en
        go_wp2_with fail
        refine (cc _ (Tab.below HB hT)).mono ?_
        rintro e w1 ⟨rfl, hz⟩
        replace HB := HB.trans (hz.mono HB.size)
        have hk1 : k + 1 < 9223372036854775807 := by omega
        clear hz c1 c2
        go_wp2
        go_roundw
        case rel =>
          exact ⟨k + 1, by omega, by go_num, by rw [← EF.out], HB⟩
        case measure => simp [intOf]; omega
    · obtain rfl : k = P := by omega
      by_cases c1 : (k : Int) < p % 3000
      · have c2 : ¬ (k : Int) < 65536 := by rw [hPe] at c1 ⊢; exact per_end c1
        rw [← hz0] at hx ⊢
        clear hPe hz0 hP hlt hk
        go_wp2_with fail
        clear c1 c2
        refine (cF _ (Tab.below HB hT)).mono ?_
        rintro e w3 ⟨rfl, hz⟩
        replace HB := HB.trans (hz.mono HB.size)
        clear hz
        go_wp2_with fail
        refine (cR _).mono ?_
        rintro e w4 ⟨rfl, hz⟩
        replace HB := HB.trans (hz.mono HB.size)
        clear hz
        go_wp2
        go_ret
        exact ⟨rfl, HB⟩
      · rw [← hz0] at hx ⊢
        clear hPe hz0 hP hlt hk
        go_wp2_with fail
        clear c1
        refine (cF _ (Tab.below HB hT)).mono ?_
        rintro e w3 ⟨rfl, hz⟩
        replace HB := HB.trans (hz.mono HB.size)
        clear hz
        go_wp2_with fail
        refine (cR _).mono ?_
        rintro e w4 ⟨rfl, hz⟩
        replace HB := HB.trans (hz.mono HB.size)
        clear hz
        go_wp2
        go_ret
        exact ⟨rfl, HB⟩
theorem fades_walk (A : Asks) {u f p : Int} (hu : Word u) (hf : Word f) (hp : FitN p) (w : World) (hT : Tab w) :
    Calls Tryd.prog 4 #[.int .u64 u, .int .u64 f, .int .i64 p] w fun e w' => e = .returned (.bool true) ∧ Below w.heap.size w w' := by
  by_cases h1 : 3000 < p
  · by_cases h2 : 4611686018427387904 < f
    · by_cases h3 : f < 9223372036854775808
      · exact fades_cut A hu hf hp h1 h2 h3 w hT
      · exact fades_high A hu hf hp h1 h2 h3 w hT
    · exact fades_low A hu hf hp h1 h2 w hT
  · exact fades_few A hu hf hp h1 w hT
end Go.Proofs.YtpiceckolcakaaaDoor
