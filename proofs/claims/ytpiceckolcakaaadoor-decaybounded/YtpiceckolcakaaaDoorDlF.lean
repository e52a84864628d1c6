/-
  LAYER 10: DecayBounded's loop.
-/
import Derived.Test.YtpiceckolcakaaaDoorDlE
namespace Go.Proofs.YtpiceckolcakaaaDoor
open Go.RowKit Wd Ld

set_option maxHeartbeats 4000000 in
set_option maxRecDepth 20000 in
theorem bounded_two (A : Asks) {p h : Int} {M E D K : Nat} {ao : Option Addr} {l : List Int} {c : Nat} (hp : FitN p) (hh : FitN h) (hb : ¬ BadF p h) (hM1 : 1 ≤ M) (hM2 : M ≤ 1048576) (hl : l.length ≤ 9223372036854775807)
    (hEe : E = expV p h) (hDe : D = (8589934592 + E - 1) / E) (hKe : K = kN E) (k1 : D < 2) {w : World} (hA : IntsAt w ao l) (hF : ∀ n, n ∈ l → FitN n) (hT : Tab w) :
    Calls Tryd.prog 6 #[.int .i64 p, .int .i64 h, .int .i64 M, .slice ao l.length c] w fun e w' => e = .returned (.bool true) ∧ Below w.heap.size w w' := by
  have h1 : ¬ p < 1 := fun h => hb (.inl h)
  have h2 : ¬ 1048576 < p := fun h => hb (.inr (.inl h))
  have h3 : ¬ h < 1 := fun h => hb (.inr (.inr (.inl h)))
  have h4 : ¬ 1073741824 < h := fun h => hb (.inr (.inr (.inr h)))
  have c1 := A.good hp hh hb
  have x1 := exp_lt (p := p) (h := h) (by omega) (by omega) (by omega)
  have x2 := exp_pos (p := p) (h := h) (by omega) (by omega) (by omega)
  have e4 := exp_eq (p := p) (h := h) (by omega) (by omega)
  rw [← hEe] at c1 x1 x2 e4
  have hE : 0 < E := by omega
  have hDle : D ≤ 8589934592 + E - 1 := by rw [hDe]; exact Nat.div_le_self _ _
  have e8 : Int.tdiv (8589934592 + (E : Int) - 1) E = (D : Nat) := by
    rw [Int.tdiv_eq_ediv_of_nonneg (by omega), hDe]
    rw [show (8589934592 + (E : Int) - 1) = ((8589934592 + E - 1 : Nat) : Int) by omega]
    exact (Int.natCast_ediv _ _).symm
  have hK2 : K = 2 := by rw [hKe]; unfold kN; rw [← hDe, if_pos k1]
  have k2 : (D : Int) < 2 := by omega
  subst hK2
  have hroom := room (E := E) hM2 (by omega)
  rw [← hKe] at hroom
  have HK : Hid _ := hKe
  have a1 : ¬ (M : Int) < 1 := by omega
  have a2 : ¬ 1048576 < (M : Int) := by omega
  have e1 : IntKind.u64.wrap p = p := by rw [IntKind.wrap_u64]; omega
  have e2 : IntKind.u64.wrap h = h := by rw [IntKind.wrap_u64]; omega
  have e3 : IntKind.u64.wrap (p * 4294967296) = p * 4294967296 := by rw [IntKind.wrap_u64]; omega
  have e5 : IntKind.u64.wrap (8589934592 + (E : Int)) = 8589934592 + E := by rw [IntKind.wrap_u64]; omega
  have e6 : IntKind.u64.wrap (8589934592 + (E : Int) - 1) = 8589934592 + E - 1 := by rw [IntKind.wrap_u64]; omega
  have e9 : IntKind.u64.wrap (D : Int) = D := by rw [IntKind.wrap_u64]; omega
  have e7 : ¬ h = 0 := by omega
  have e10 : ¬ (E : Int) = 0 := by omega
  have m0 : IntKind.u64.wrap (M : Int) = M := by rw [IntKind.wrap_u64]; omega
  have m1 : IntKind.u64.wrap ((M : Int) * 2) = M * 2 := by rw [IntKind.wrap_u64]; omega
  have m2 : IntKind.u64.wrap ((M : Int) * 2 * 4294967296) = M * 2 * 4294967296 := by rw [IntKind.wrap_u64]; omega
  obtain ⟨f, hf⟩ : ∃ f, f = ((halfN E : Nat) : Int) := ⟨_, rfl⟩
  rw [← hf] at c1
  have HF : Hid _ := hf
  obtain ⟨g, o, hg, hc⟩ := hA
  obtain ⟨q, hq⟩ : ∃ q, l.length = q := ⟨_, rfl⟩
  have HQ : Hid _ := hq
  rw [hq] at hg hl ⊢
  obtain ⟨Q, hQ⟩ : ∃ Q, Q = min q 3000 := ⟨_, rfl⟩
  clear hb hq hDe hEe hDle x1 x2 hKe hf
  go_enter Tryd.func6, Tryd.ntmps6
  have HB : Below w.heap.size w w := Below.refl _ _
  go_wp2_with fail
  refine (shown_any A _ hT).mono ?_
  rintro e w0 ⟨rfl, hz⟩
  replace HB := HB.trans (hz.mono HB.size)
  clear hz
  go_wp2_with fail
  refine (c1 _ (Tab.below HB hT)).mono ?_
  rintro e w1 ⟨rfl, hz⟩
  replace HB := HB.trans (hz.mono HB.size)
  clear hz
  go_wp2_with fail
  clear e1 e2 e3 e4 e5 e6 e7 e8 e9 e10 h1 h2 h3 h4 a1 a2 k1 k2 hp hh c1
  go_loopg [14, 15] Q (fun gk x i wr => ∃ j v : Nat, j + gk = Q ∧ i = .int .i64 j ∧ x = .int .u64 (v : Nat) ∧ Below w.heap.size w wr ∧ Left M E v)
  case atStart => exact ⟨0, 0, by omega, rfl, rfl, HB, left_zero _ _⟩
  case round =>
    clear HB
    obtain ⟨j, v, hj, rfl, rfl, HB, hI⟩ := hrel
    by_cases hlt : j < Q
    · have b1 : (j : Int) < (q : Int) := by omega
      have b2 : (j : Int) < 3000 := by omega
      obtain ⟨n, hx⟩ : ∃ n, l[j]? = some n := ⟨_, List.getElem?_eq_getElem (by rw [HQ.out]; omega)⟩
      obtain rfl := hg (by omega)
      have d0 := keepC HB (hc j n hx)
      have hn := hF n (List.mem_of_getElem? hx)
      unfold FitN at hn
      clear hc hg hx hF hQ
      by_cases n1 : n < 0
      · obtain ⟨hle, hlf⟩ := left_next (n := M) hE (Nat.le_refl _) hI
        rw [← HK.out] at hle
        have hlt64 : v + M * 4294967296 < 18446744073709551616 := by omega
        have c2 := A.charge (u := (v : Nat)) (n := M) ⟨by omega, by omega⟩ ⟨by omega, by omega⟩
        rw [ch_nat hlt64] at c2
        have c3 := A.fade (u := ((v + M * 4294967296 : Nat) : Int)) ⟨by omega, by omega⟩ (half_word E)
        rw [part_nat] at c3
        have hng : ¬ (M : Int) * 2 * 4294967296 < ((v + M * 4294967296 : Nat) : Int) := by
          skip
          omega
        have HL : Hid (Left _ _ _) := hlf
        clear hlf hle hI hlt64 hroom
        generalize (v + M * 4294967296) * halfN E / 9223372036854775808 = v' at c3 HL
        generalize v + M * 4294967296 = u' at c2 c3 hng
        have hj1 : j + 1 < 9223372036854775807 := by omega
        rw [← HF.out] at c3
        go_wp2_with fail
        refine (c2 _ (Tab.below HB hT)).mono ?_
        rintro e w2 ⟨rfl, hz⟩
        replace HB := HB.trans (hz.mono HB.size)
        clear hz
        go_wp2_with fail
        refine (c3 _ (Tab.below HB hT)).mono ?_
        rintro e w3 ⟨rfl, hz⟩
        replace HB := HB.trans (hz.mono HB.size)
        clear hz b2
        go_wp2
        go_roundg (Q - (j + 1))
        case measure => omega
        case rel => exact ⟨j + 1, v', by omega, by go_num, rfl, HB, HL.out⟩
      by_cases n2 : (M : Int) < n
      · obtain ⟨hle, hlf⟩ := left_next (n := M) hE (Nat.le_refl _) hI
        rw [← HK.out] at hle
        have hlt64 : v + M * 4294967296 < 18446744073709551616 := by omega
        have c2 := A.charge (u := (v : Nat)) (n := M) ⟨by omega, by omega⟩ ⟨by omega, by omega⟩
        rw [ch_nat hlt64] at c2
        have c3 := A.fade (u := ((v + M * 4294967296 : Nat) : Int)) ⟨by omega, by omega⟩ (half_word E)
        rw [part_nat] at c3
        have hng : ¬ (M : Int) * 2 * 4294967296 < ((v + M * 4294967296 : Nat) : Int) := by
          skip
          omega
        have HL : Hid (Left _ _ _) := hlf
        clear hlf hle hI hlt64 hroom
        generalize (v + M * 4294967296) * halfN E / 9223372036854775808 = v' at c3 HL
        generalize v + M * 4294967296 = u' at c2 c3 hng
        have hj1 : j + 1 < 9223372036854775807 := by omega
        rw [← HF.out] at c3
        go_wp2_with fail
        refine (c2 _ (Tab.below HB hT)).mono ?_
        rintro e w2 ⟨rfl, hz⟩
        replace HB := HB.trans (hz.mono HB.size)
        clear hz
        go_wp2_with fail
        refine (c3 _ (Tab.below HB hT)).mono ?_
        rintro e w3 ⟨rfl, hz⟩
        replace HB := HB.trans (hz.mono HB.size)
        clear hz b2
        go_wp2
        go_roundg (Q - (j + 1))
        case measure => omega
        case rel => exact ⟨j + 1, v', by omega, by go_num, rfl, HB, HL.out⟩
      obtain ⟨n, rfl⟩ : ∃ k : Nat, n = k := ⟨n.toNat, by omega⟩
      have hnM : n ≤ M := by omega
      obtain ⟨hle, hlf⟩ := left_next (n := n) hE hnM hI
      rw [← HK.out] at hle
      have hlt64 : v + n * 4294967296 < 18446744073709551616 := by omega
      have c2 := A.charge (u := (v : Nat)) (n := n) ⟨by omega, by omega⟩ ⟨by omega, by omega⟩
      rw [ch_nat hlt64] at c2
      have c3 := A.fade (u := ((v + n * 4294967296 : Nat) : Int)) ⟨by omega, by omega⟩ (half_word E)
      rw [part_nat] at c3
      have hng : ¬ (M : Int) * 2 * 4294967296 < ((v + n * 4294967296 : Nat) : Int) := by
        skip
        omega
      have HL : Hid (Left _ _ _) := hlf
      clear hlf hle hI hlt64 hroom
      generalize (v + n * 4294967296) * halfN E / 9223372036854775808 = v' at c3 HL
      generalize v + n * 4294967296 = u' at c2 c3 hng
      have hj1 : j + 1 < 9223372036854775807 := by omega
      rw [← HF.out] at c3
      go_wp2_with fail
      refine (c2 _ (Tab.below HB hT)).mono ?_
      rintro e w2 ⟨rfl, hz⟩
      replace HB := HB.trans (hz.mono HB.size)
      clear hz
      go_wp2_with fail
      refine (c3 _ (Tab.below HB hT)).mono ?_
      rintro e w3 ⟨rfl, hz⟩
      replace HB := HB.trans (hz.mono HB.size)
      clear hz b2
      go_wp2
      go_roundg (Q - (j + 1))
      case measure => omega
      case rel => exact ⟨j + 1, v', by omega, by go_num, rfl, HB, HL.out⟩
    · obtain rfl : j = Q := by omega
      by_cases b1 : (j : Int) < (q : Int)
      · have b2 : ¬ (j : Int) < 3000 := by omega
        clear hI hQ hlt hj hc hg hF hroom
        go_wp2
        go_ret
        exact ⟨rfl, HB⟩
      · clear hI hQ hlt hj hc hg hF hroom
        go_wp2
        go_ret
        exact ⟨rfl, HB⟩
set_option maxHeartbeats 4000000 in
set_option maxRecDepth 20000 in
theorem bounded_more (A : Asks) {p h : Int} {M E D K : Nat} {ao : Option Addr} {l : List Int} {c : Nat} (hp : FitN p) (hh : FitN h) (hb : ¬ BadF p h) (hM1 : 1 ≤ M) (hM2 : M ≤ 1048576) (hl : l.length ≤ 9223372036854775807)
    (hEe : E = expV p h) (hDe : D = (8589934592 + E - 1) / E) (hKe : K = kN E) (k1 : ¬ D < 2) (k3 : ¬ 2048 < D) {w : World} (hA : IntsAt w ao l) (hF : ∀ n, n ∈ l → FitN n) (hT : Tab w) :
    Calls Tryd.prog 6 #[.int .i64 p, .int .i64 h, .int .i64 M, .slice ao l.length c] w fun e w' => e = .returned (.bool true) ∧ Below w.heap.size w w' := by
  have h1 : ¬ p < 1 := fun h => hb (.inl h)
  have h2 : ¬ 1048576 < p := fun h => hb (.inr (.inl h))
  have h3 : ¬ h < 1 := fun h => hb (.inr (.inr (.inl h)))
  have h4 : ¬ 1073741824 < h := fun h => hb (.inr (.inr (.inr h)))
  have c1 := A.good hp hh hb
  have x1 := exp_lt (p := p) (h := h) (by omega) (by omega) (by omega)
  have x2 := exp_pos (p := p) (h := h) (by omega) (by omega) (by omega)
  have e4 := exp_eq (p := p) (h := h) (by omega) (by omega)
  rw [← hEe] at c1 x1 x2 e4
  have hE : 0 < E := by omega
  have hDle : D ≤ 8589934592 + E - 1 := by rw [hDe]; exact Nat.div_le_self _ _
  have e8 : Int.tdiv (8589934592 + (E : Int) - 1) E = (D : Nat) := by
    rw [Int.tdiv_eq_ediv_of_nonneg (by omega), hDe]
    rw [show (8589934592 + (E : Int) - 1) = ((8589934592 + E - 1 : Nat) : Int) by omega]
    exact (Int.natCast_ediv _ _).symm
  have hKD : K = D := by rw [hKe]; unfold kN; rw [← hDe, if_neg k1]
  have k2 : ¬ (D : Int) < 2 := by omega
  have k4 : ¬ 2048 < (D : Int) := by omega
  subst hKD
  have hroom := room (E := E) hM2 (by omega)
  rw [← hKe] at hroom
  have HK : Hid _ := hKe
  have a1 : ¬ (M : Int) < 1 := by omega
  have a2 : ¬ 1048576 < (M : Int) := by omega
  have e1 : IntKind.u64.wrap p = p := by rw [IntKind.wrap_u64]; omega
  have e2 : IntKind.u64.wrap h = h := by rw [IntKind.wrap_u64]; omega
  have e3 : IntKind.u64.wrap (p * 4294967296) = p * 4294967296 := by rw [IntKind.wrap_u64]; omega
  have e5 : IntKind.u64.wrap (8589934592 + (E : Int)) = 8589934592 + E := by rw [IntKind.wrap_u64]; omega
  have e6 : IntKind.u64.wrap (8589934592 + (E : Int) - 1) = 8589934592 + E - 1 := by rw [IntKind.wrap_u64]; omega
  have e9 : IntKind.u64.wrap (K : Int) = K := by rw [IntKind.wrap_u64]; omega
  have e7 : ¬ h = 0 := by omega
  have e10 : ¬ (E : Int) = 0 := by omega
  have m0 : IntKind.u64.wrap (M : Int) = M := by rw [IntKind.wrap_u64]; omega
  have m1 : IntKind.u64.wrap ((M : Int) * (K : Int)) = M * K := by rw [IntKind.wrap_u64, ← Int.natCast_mul]; omega
  have m2 : IntKind.u64.wrap ((M : Int) * (K : Int) * 4294967296) = M * K * 4294967296 := by rw [IntKind.wrap_u64, ← Int.natCast_mul]; omega
  obtain ⟨f, hf⟩ : ∃ f, f = ((halfN E : Nat) : Int) := ⟨_, rfl⟩
  rw [← hf] at c1
  have HF : Hid _ := hf
  obtain ⟨g, o, hg, hc⟩ := hA
  obtain ⟨q, hq⟩ : ∃ q, l.length = q := ⟨_, rfl⟩
  have HQ : Hid _ := hq
  rw [hq] at hg hl ⊢
  obtain ⟨Q, hQ⟩ : ∃ Q, Q = min q 3000 := ⟨_, rfl⟩
  clear hb hq hDe hEe hDle x1 x2 hKe hf
  go_enter Tryd.func6, Tryd.ntmps6
  have HB : Below w.heap.size w w := Below.refl _ _
  go_wp2_with fail
  refine (shown_any A _ hT).mono ?_
  rintro e w0 ⟨rfl, hz⟩
  replace HB := HB.trans (hz.mono HB.size)
  clear hz
  go_wp2_with fail
  refine (c1 _ (Tab.below HB hT)).mono ?_
  rintro e w1 ⟨rfl, hz⟩
  replace HB := HB.trans (hz.mono HB.size)
  clear hz
  go_wp2_with fail
  clear e1 e2 e3 e4 e5 e6 e7 e8 e9 e10 h1 h2 h3 h4 a1 a2 k1 k2 k3 k4 hp hh c1
  go_loopg [14, 15] Q (fun gk x i wr => ∃ j v : Nat, j + gk = Q ∧ i = .int .i64 j ∧ x = .int .u64 (v : Nat) ∧ Below w.heap.size w wr ∧ Left M E v)
  case atStart => exact ⟨0, 0, by omega, rfl, rfl, HB, left_zero _ _⟩
  case round =>
    clear HB
    obtain ⟨j, v, hj, rfl, rfl, HB, hI⟩ := hrel
    by_cases hlt : j < Q
    · have b1 : (j : Int) < (q : Int) := by omega
      have b2 : (j : Int) < 3000 := by omega
      obtain ⟨n, hx⟩ : ∃ n, l[j]? = some n := ⟨_, List.getElem?_eq_getElem (by rw [HQ.out]; omega)⟩
      obtain rfl := hg (by omega)
      have d0 := keepC HB (hc j n hx)
      have hn := hF n (List.mem_of_getElem? hx)
      unfold FitN at hn
      clear hc hg hx hF hQ
      by_cases n1 : n < 0
      · obtain ⟨hle, hlf⟩ := left_next (n := M) hE (Nat.le_refl _) hI
        rw [← HK.out] at hle
        have hlt64 : v + M * 4294967296 < 18446744073709551616 := by omega
        have c2 := A.charge (u := (v : Nat)) (n := M) ⟨by omega, by omega⟩ ⟨by omega, by omega⟩
        rw [ch_nat hlt64] at c2
        have c3 := A.fade (u := ((v + M * 4294967296 : Nat) : Int)) ⟨by omega, by omega⟩ (half_word E)
        rw [part_nat] at c3
        have hng : ¬ (M : Int) * (K : Int) * 4294967296 < ((v + M * 4294967296 : Nat) : Int) := by
          rw [← Int.natCast_mul]
          omega
        have HL : Hid (Left _ _ _) := hlf
        clear hlf hle hI hlt64 hroom
        generalize (v + M * 4294967296) * halfN E / 9223372036854775808 = v' at c3 HL
        generalize v + M * 4294967296 = u' at c2 c3 hng
        have hj1 : j + 1 < 9223372036854775807 := by omega
        rw [← HF.out] at c3
        go_wp2_with fail
        refine (c2 _ (Tab.below HB hT)).mono ?_
        rintro e w2 ⟨rfl, hz⟩
        replace HB := HB.trans (hz.mono HB.size)
        clear hz
        go_wp2_with fail
        refine (c3 _ (Tab.below HB hT)).mono ?_
        rintro e w3 ⟨rfl, hz⟩
        replace HB := HB.trans (hz.mono HB.size)
        clear hz b2
        go_wp2
        go_roundg (Q - (j + 1))
        case measure => omega
        case rel => exact ⟨j + 1, v', by omega, by go_num, rfl, HB, HL.out⟩
      by_cases n2 : (M : Int) < n
      · obtain ⟨hle, hlf⟩ := left_next (n := M) hE (Nat.le_refl _) hI
        rw [← HK.out] at hle
        have hlt64 : v + M * 4294967296 < 18446744073709551616 := by omega
        have c2 := A.charge (u := (v : Nat)) (n := M) ⟨by omega, by omega⟩ ⟨by omega, by omega⟩
        rw [ch_nat hlt64] at c2
        have c3 := A.fade (u := ((v + M * 4294967296 : Nat) : Int)) ⟨by omega, by omega⟩ (half_word E)
        rw [part_nat] at c3
        have hng : ¬ (M : Int) * (K : Int) * 4294967296 < ((v + M * 4294967296 : Nat) : Int) := by
          rw [← Int.natCast_mul]
          omega
        have HL : Hid (Left _ _ _) := hlf
        clear hlf hle hI hlt64 hroom
        generalize (v + M * 4294967296) * halfN E / 9223372036854775808 = v' at c3 HL
        generalize v + M * 4294967296 = u' at c2 c3 hng
        have hj1 : j + 1 < 9223372036854775807 := by omega
        rw [← HF.out] at c3
        go_wp2_with fail
        refine (c2 _ (Tab.below HB hT)).mono ?_
        rintro e w2 ⟨rfl, hz⟩
        replace HB := HB.trans (hz.mono HB.size)
        clear hz
        go_wp2_with fail
        refine (c3 _ (Tab.below HB hT)).mono ?_
        rintro e w3 ⟨rfl, hz⟩
        replace HB := HB.trans (hz.mono HB.size)
        clear hz b2
        go_wp2
        go_roundg (Q - (j + 1))
        case measure => omega
        case rel => exact ⟨j + 1, v', by omega, by go_num, rfl, HB, HL.out⟩
      obtain ⟨n, rfl⟩ : ∃ k : Nat, n = k := ⟨n.toNat, by omega⟩
      have hnM : n ≤ M := by omega
      obtain ⟨hle, hlf⟩ := left_next (n := n) hE hnM hI
      rw [← HK.out] at hle
      have hlt64 : v + n * 4294967296 < 18446744073709551616 := by omega
      have c2 := A.charge (u := (v : Nat)) (n := n) ⟨by omega, by omega⟩ ⟨by omega, by omega⟩
      rw [ch_nat hlt64] at c2
      have c3 := A.fade (u := ((v + n * 4294967296 : Nat) : Int)) ⟨by omega, by omega⟩ (half_word E)
      rw [part_nat] at c3
      have hng : ¬ (M : Int) * (K : Int) * 4294967296 < ((v + n * 4294967296 : Nat) : Int) := by
        rw [← Int.natCast_mul]
        omega
      have HL : Hid (Left _ _ _) := hlf
      clear hlf hle hI hlt64 hroom
      generalize (v + n * 4294967296) * halfN E / 9223372036854775808 = v' at c3 HL
      generalize v + n * 4294967296 = u' at c2 c3 hng
      have hj1 : j + 1 < 9223372036854775807 := by omega
      rw [← HF.out] at c3
      go_wp2_with fail
      refine (c2 _ (Tab.below HB hT)).mono ?_
      rintro e w2 ⟨rfl, hz⟩
      replace HB := HB.trans (hz.mono HB.size)
      clear hz
      go_wp2_with fail
      refine (c3 _ (Tab.below HB hT)).mono ?_
      rintro e w3 ⟨rfl, hz⟩
      replace HB := HB.trans (hz.mono HB.size)
      clear hz b2
      go_wp2
      go_roundg (Q - (j + 1))
      case measure => omega
      case rel => exact ⟨j + 1, v', by omega, by go_num, rfl, HB, HL.out⟩
    · obtain rfl : j = Q := by omega
      by_cases b1 : (j : Int) < (q : Int)
      · have b2 : ¬ (j : Int) < 3000 := by omega
        clear hI hQ hlt hj hc hg hF hroom
        go_wp2
        go_ret
        exact ⟨rfl, HB⟩
      · clear hI hQ hlt hj hc hg hF hroom
        go_wp2
        go_ret
        exact ⟨rfl, HB⟩
theorem bounded_far (A : Asks) {p h : Int} {M E D : Nat} {ao : Option Addr} {l : List Int} {c : Nat} (hp : FitN p) (hh : FitN h) (hb : ¬ BadF p h) (hM1 : 1 ≤ M) (hM2 : M ≤ 1048576)
    (hEe : E = expV p h) (hDe : D = (8589934592 + E - 1) / E) (k3 : 2048 < D) {w : World} (hT : Tab w) :
    Calls Tryd.prog 6 #[.int .i64 p, .int .i64 h, .int .i64 M, .slice ao l.length c] w fun e w' => e = .returned (.bool true) ∧ Below w.heap.size w w' := by
  have h1 : ¬ p < 1 := fun h => hb (.inl h)
  have h2 : ¬ 1048576 < p := fun h => hb (.inr (.inl h))
  have h3 : ¬ h < 1 := fun h => hb (.inr (.inr (.inl h)))
  have h4 : ¬ 1073741824 < h := fun h => hb (.inr (.inr (.inr h)))
  have c1 := A.good hp hh hb
  have x1 := exp_lt (p := p) (h := h) (by omega) (by omega) (by omega)
  have x2 := exp_pos (p := p) (h := h) (by omega) (by omega) (by omega)
  have e4 := exp_eq (p := p) (h := h) (by omega) (by omega)
  rw [← hEe] at c1 x1 x2 e4
  have hDle : D ≤ 8589934592 + E - 1 := by rw [hDe]; exact Nat.div_le_self _ _
  have e8 : Int.tdiv (8589934592 + (E : Int) - 1) E = (D : Nat) := by
    rw [Int.tdiv_eq_ediv_of_nonneg (by omega), hDe]
    rw [show (8589934592 + (E : Int) - 1) = ((8589934592 + E - 1 : Nat) : Int) by omega]
    exact (Int.natCast_ediv _ _).symm
  have k2 : ¬ (D : Int) < 2 := by omega
  have k4 : 2048 < (D : Int) := by omega
  have a1 : ¬ (M : Int) < 1 := by omega
  have a2 : ¬ 1048576 < (M : Int) := by omega
  have e1 : IntKind.u64.wrap p = p := by rw [IntKind.wrap_u64]; omega
  have e2 : IntKind.u64.wrap h = h := by rw [IntKind.wrap_u64]; omega
  have e3 : IntKind.u64.wrap (p * 4294967296) = p * 4294967296 := by rw [IntKind.wrap_u64]; omega
  have e5 : IntKind.u64.wrap (8589934592 + (E : Int)) = 8589934592 + E := by rw [IntKind.wrap_u64]; omega
  have e6 : IntKind.u64.wrap (8589934592 + (E : Int) - 1) = 8589934592 + E - 1 := by rw [IntKind.wrap_u64]; omega
  have e9 : IntKind.u64.wrap (D : Int) = D := by rw [IntKind.wrap_u64]; omega
  have e7 : ¬ h = 0 := by omega
  have e10 : ¬ (E : Int) = 0 := by omega
  generalize ((halfN E : Nat) : Int) = f at c1
  generalize l.length = q
  clear hb hDe hEe hDle x1 x2
  go_enter Tryd.func6, Tryd.ntmps6
  have HB : Below w.heap.size w w := Below.refl _ _
  go_wp2_with fail
  refine (shown_any A _ hT).mono ?_
  rintro e w0 ⟨rfl, hz⟩
  replace HB := HB.trans (hz.mono HB.size)
  clear hz
  go_wp2_with fail
  refine (c1 _ (Tab.below HB hT)).mono ?_
  rintro e w1 ⟨rfl, hz⟩
  replace HB := HB.trans (hz.mono HB.size)
  clear hz
  go_wp2
  go_ret
  exact ⟨rfl, HB⟩
theorem bounded_walk (A : Asks) {p h m : Int} {ao : Option Addr} {l : List Int} {c : Nat} (hp : FitN p) (hh : FitN h) (hl : l.length ≤ 9223372036854775807) (w : World) (hA : IntsAt w ao l) (hF : ∀ n, n ∈ l → FitN n) (hT : Tab w) :
    Calls Tryd.prog 6 #[.int .i64 p, .int .i64 h, .int .i64 m, .slice ao l.length c] w fun e w' => e = .returned (.bool true) ∧ Below w.heap.size w w' := by
  by_cases hb : BadF p h
  · exact bounded_bad A hp hh hb w hT
  by_cases m1 : m < 1
  · exact bounded_few A hp hh hb m1 w hT
  by_cases m2 : 1048576 < m
  · exact bounded_many A hp hh hb m1 m2 w hT
  obtain ⟨M, rfl⟩ : ∃ M : Nat, m = M := ⟨m.toNat, by omega⟩
  by_cases k1 : (8589934592 + expV p h - 1) / expV p h < 2
  · exact bounded_two A hp hh hb (by omega) (by omega) hl rfl rfl rfl k1 hA hF hT
  by_cases k2 : 2048 < (8589934592 + expV p h - 1) / expV p h
  · exact bounded_far A hp hh hb (by omega) (by omega) rfl rfl k2 hT
  · exact bounded_more A hp hh hb (by omega) (by omega) hl rfl rfl rfl k1 k2 hA hF hT
end Go.Proofs.YtpiceckolcakaaaDoor
