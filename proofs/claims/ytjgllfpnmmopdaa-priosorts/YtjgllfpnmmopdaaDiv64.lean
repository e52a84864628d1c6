/-
  math/bits.Div64, walked.
-/
import Derived.Test.YtjgllfpnmmopdaaLen
import Derived.Test.YtjgllfpnmmopdaaMth
import Derived.Deep.CutBlock
import Derived.Deep.DeepCutAuto
namespace Go.Proofs.Ytjgllfpnmmopdaa
open Go.RowKit Wd

set_option maxHeartbeats 400000 in
theorem div64_0 (lo y : Int) (h2 : Word lo) (h3 : Word y) (h : 0 < y) (w : World) :
    Calls Try.prog 77 #[.int .u64 0, .int .u64 lo, .int .u64 y] w fun e w' => e = .returned (.tuple #[.int .u64 (lo / y), .int .u64 (lo % y)]) ∧ Below w.heap.size w w' := by
  obtain ⟨a1, a2⟩ := h2; obtain ⟨b1, b2⟩ := h3
  have k1 : (y == 0) = false := by simp; omega
  go_enter Try.func77, Try.ntmps77
  go_wp2
  go_region
  go_wp2
  go_ret2
  exact ⟨rfl, (Below.refl _ _).drew⟩

namespace Wd
/-- What Div64 makes ahead of its first digit. -/
theorem div_prep {hi lo y s : Int} (h1 : Word hi) (h2 : Word lo) (hy0 : hi < y) (s0 : 0 ≤ s) (s1 : s ≤ 63) (y0 : 9223372036854775808 ≤ y * 2 ^ s.toNat) (y1 : y * 2 ^ s.toNat < 18446744073709551616) :
    ∃ U L p z c1 c0 Y qi, bits .or .u64 (IntKind.u64.wrap (hi * 2 ^ s.toNat)) (lo / 2 ^ (64 - s).toNat) = U ∧ IntKind.u64.wrap (lo * 2 ^ s.toNat) = L ∧ y * 2 ^ s.toNat = Y ∧ Y / 4294967296 = p ∧ bits .and .u64 Y 4294967295 = z ∧ L / 4294967296 = c1 ∧ bits .and .u64 L 4294967295 = c0 ∧ U / p = qi ∧
      Y = p * 4294967296 + z ∧ Word Y ∧ Word U ∧ Word L ∧ Digit U c1 p z ∧ (∀ r, 0 ≤ r → r < Y → Digit r c0 p z) ∧ val hi lo * 2 ^ s.toNat = U * 18446744073709551616 + L ∧ c1 = L / 4294967296 ∧ c0 = L % 4294967296 := by
  obtain ⟨e1, _, e2⟩ := shl_small hi lo s h1 h2 s0 (by omega)
  have es : shlV (val hi lo) s = (val hi lo * 2 ^ s.toNat) % 340282366920938463463374607431768211456 := by unfold shlV; rw [if_neg (by omega)]
  have hn := val_num h1 h2
  have hP := pow_pos' s.toNat
  have hlt : val hi lo * 2 ^ s.toNat < (y * 2 ^ s.toNat) * 18446744073709551616 := by
    have a : val hi lo < y * 18446744073709551616 := by obtain ⟨_, _⟩ := h2; unfold val; omega
    have b := Int.mul_lt_mul_of_pos_right a (show (0 : Int) < 2 ^ s.toNat by omega)
    rw [Int.mul_right_comm] at b
    exact b
  have h0 : 0 ≤ val hi lo * 2 ^ s.toNat := Int.mul_nonneg hn.1 (by omega)
  have es' : shlV (val hi lo) s = val hi lo * 2 ^ s.toNat := by rw [es]; omega
  rw [es'] at e1 e2
  refine ⟨_, _, _, _, _, _, _, _, rfl, rfl, rfl, rfl, rfl, rfl, rfl, rfl, ?_⟩
  rw [e1, e2]
  have wL := lo_word (val hi lo * 2 ^ s.toNat)
  have wY : Word (y * 2 ^ s.toNat) := ⟨by omega, y1⟩
  rw [mask32 _ wL, mask32 _ wY]
  have hwords : hiW (val hi lo * 2 ^ s.toNat) * 18446744073709551616 + loW (val hi lo * 2 ^ s.toNat) = val hi lo * 2 ^ s.toNat := val_words (val hi lo * 2 ^ s.toNat)
  have hU : 0 ≤ hiW (val hi lo * 2 ^ s.toNat) ∧ hiW (val hi lo * 2 ^ s.toNat) < y * 2 ^ s.toNat := by
    unfold hiW
    exact ⟨Int.ediv_nonneg h0 (by omega), Int.ediv_lt_of_lt_mul (by omega) hlt⟩
  obtain ⟨u0, u1⟩ := hU
  obtain ⟨l0, l1⟩ := wL
  generalize hiW (val hi lo * 2 ^ s.toNat) = U at *
  generalize loW (val hi lo * 2 ^ s.toNat) = L at *
  generalize y * 2 ^ s.toNat = Y at *
  refine ⟨by omega, wY, ⟨u0, by omega⟩, ⟨l0, l1⟩, ⟨by omega, by omega, by omega, by omega, by omega, by omega, u0, by omega⟩, fun r r0 r1 => ⟨by omega, by omega, by omega, by omega, by omega, by omega, r0, by omega⟩, hwords.symm, rfl, rfl⟩
end Wd

set_option maxHeartbeats 2000000 in
theorem div64_1 (hi lo y : Int) (h1 : Word hi) (h2 : Word lo) (h3 : Word y) (h0 : 0 < hi) (h : hi < y) (w : World) :
    Calls Try.prog 77 #[.int .u64 hi, .int .u64 lo, .int .u64 y] w fun e w' => e = .returned (.tuple #[.int .u64 (val hi lo / y), .int .u64 (val hi lo % y)]) ∧ Below w.heap.size w w' := by
  have w1 := h1; have w2 := h2
  obtain ⟨c1, c2⟩ := h1; obtain ⟨a1, a2⟩ := h2; obtain ⟨b1, b2⟩ := h3
  have k1 : (y == 0) = false := by simp; omega
  have k2 : (hi == 0) = false := by simp; omega
  go_enter Try.func77, Try.ntmps77
  go_wp2_with fail
  refine (lz_any y (by omega) b2 _).mono ?_
  rintro e w' ⟨s, rfl, s0, s1, y0, y1, rfl⟩
  obtain ⟨U, L, p, z, d1, d0, Y, qi, eU, eL, eY, ep, ez, ed1, ed0, eqi, eYp, wY, wU, wL, D1, D0, eV, ed1', ed0'⟩ := div_prep w1 w2 h s0 s1 y0 y1
  rw [eY] at y0 y1
  obtain ⟨p0, p1, z0, z1, dd0, dd1, U0, U1⟩ := D1
  have D1 : Digit U d1 p z := ⟨p0, p1, z0, z1, dd0, dd1, U0, U1⟩
  have S1 := k_init D1
  rw [eqi] at S1
  obtain ⟨_, i1, i2, _, i4, i5⟩ := S1
  have S1 := k_init D1
  rw [eqi] at S1
  have HS1 : Hid (St U d1 p z qi (U - qi * p)) := S1
  have HV : Hid (val hi lo * 2 ^ s.toNat = U * 18446744073709551616 + L ∧ d1 = L / 4294967296 ∧ d0 = L % 4294967296 ∧ Y = p * 4294967296 + z ∧ y * 2 ^ s.toNat = Y) := ⟨eV, ed1', ed0', eYp, eY⟩
  have HD0 : Hid (∀ r, 0 ≤ r → r < Y → Digit r d0 p z) := D0
  obtain ⟨U0', U2⟩ := wU
  obtain ⟨L0, L1⟩ := wL
  have mi : 0 ≤ qi * p := Int.mul_nonneg i4 (by omega)
  clear S1 eV ed1' ed0' eYp D0 w1 w2 wY
  have HQ : Hid (0 ≤ dig U d1 p z ∧ dig U d1 p z < 4294967296) := ⟨dig_nonneg D1, dig_lt D1⟩
  have HD1 : Hid (Digit U d1 p z) := D1
  clear D1
  go_upto_block 0 with fail
  rw [eqi]
  clear eqi
  go_cut [15, 16] (fun a b wc => w' = wc ∧ a = .int .u64 (dig U d1 p z) ∧ ∃ r : Int, b = .int .u64 r)
  case first =>
    go_wp2_with fail
    go_loop [15, 16] (fun a b => ∃ q r : Int, a = .int .u64 q ∧ b = .int .u64 r ∧ St U d1 p z q r) (fun a _ => (intOf a).toNat)
    case atStart => exact ⟨qi, _, rfl, rfl, HS1.out⟩
    case round =>
      obtain ⟨q, r, rfl, rfl, hst⟩ := hrel
      have HS : Hid (St U d1 p z q r) := hst
      obtain ⟨hre, r0, r1, _, q0, q1⟩ := hst
      clear hre
      by_cases g : 4294967296 ≤ q
      · have gb : decide (4294967296 ≤ q) = true := by simp [g]
        by_cases b : 4294967296 ≤ r + p
        · go_wp2
          go_meet
          exact ⟨rfl, by rw [k_break HD1.out HS.out (Or.inl g) b], _, rfl⟩
        · go_wp2
          go_round
          case rel => exact ⟨q - 1, r + p, rfl, rfl, k_next HD1.out HS.out (Or.inl g) (by omega)⟩
          case measure => simp [intOf]; omega
      · have gb : decide (4294967296 ≤ q) = false := by simp; omega
        have m0 : 0 ≤ q * z := Int.mul_nonneg q0 z0
        have m1 : q * z ≤ 4294967295 * 4294967295 := Int.mul_le_mul (by omega) (by omega) z0 (by omega)
        by_cases t : 4294967296 * r + d1 < q * z
        · have tb : decide (4294967296 * r + d1 < q * z) = true := by simp [t]
          have q2 : 1 ≤ q := by
            have := k_true HD1.out HS.out (Or.inr t)
            have := dig_nonneg HD1.out
            omega
          by_cases b : 4294967296 ≤ r + p
          · go_wp2
            go_meet
            exact ⟨rfl, by rw [k_break HD1.out HS.out (Or.inr t) b], _, rfl⟩
          · go_wp2
            go_round
            case rel => exact ⟨q - 1, r + p, rfl, rfl, k_next HD1.out HS.out (Or.inr t) (by omega)⟩
            case measure => simp [intOf]; omega
        · have tb : decide (4294967296 * r + d1 < q * z) = false := by simp; omega
          go_wp2
          go_meet
          exact ⟨rfl, by rw [k_false HD1.out HS.out (by omega)], _, rfl⟩
  case rest =>
    obtain ⟨rfl, rfl, r, rfl⟩ := hcut
    obtain ⟨eR, R0, R1⟩ := k_rem HD1.out
    rw [← HV.out.2.2.2.1] at eR R0 R1
    have HR : Hid ((U * 4294967296 + d1) % Y = (U * 4294967296 + d1) % Y) := rfl
    obtain ⟨Q, eQ⟩ : ∃ Q, dig U d1 p z = Q := ⟨_, rfl⟩
    obtain ⟨R, eR2⟩ : ∃ R, (U * 4294967296 + d1) % Y = R := ⟨_, rfl⟩
    rw [eR2] at eR R0 R1
    rw [eQ] at eR HQ
    obtain ⟨Q0, Q1⟩ := HQ.out
    have HE : Hid (Q = (U * 4294967296 + d1) / Y ∧ R = (U * 4294967296 + d1) % Y) := ⟨by rw [← eQ, dig, ← HV.out.2.2.2.1], eR2.symm⟩
    rw [eQ]
    have HDR : Hid (Digit R d0 p z) := HD0.out R R0 R1
    have HQ2 : Hid (0 ≤ dig R d0 p z ∧ dig R d0 p z < 4294967296) := ⟨dig_nonneg HDR.out, dig_lt HDR.out⟩
    obtain ⟨qj, eqj⟩ : ∃ qj, R / p = qj := ⟨_, rfl⟩
    have S2 := k_init HDR.out
    rw [eqj] at S2
    have HS2 : Hid (St R d0 p z qj (R - qj * p)) := S2
    obtain ⟨_, j1, j2, _, j4, j5⟩ := S2
    have mj : 0 ≤ qj * p := Int.mul_nonneg j4 (by omega)
    obtain ⟨_, _, _, _, e0, e1, _, _⟩ := HDR.out
    clear HR eQ eR2 HS1 HQ i1 i2 i4 i5 mi eU eL eY ep ez ed1 ed0
    go_upto_block 2 with fail
    try rw [eqj]
    clear eqj
    go_cut [18, 16] (fun a b wc => w' = wc ∧ a = .int .u64 (dig R d0 p z) ∧ ∃ r : Int, b = .int .u64 r)
    case first =>
      go_wp2_with fail
      go_loop [18, 16] (fun a b => ∃ q r : Int, a = .int .u64 q ∧ b = .int .u64 r ∧ St R d0 p z q r) (fun a _ => (intOf a).toNat)
      case atStart => exact ⟨qj, _, rfl, rfl, HS2.out⟩
      case round =>
        obtain ⟨q, r, rfl, rfl, hst⟩ := hrel
        have HS : Hid (St R d0 p z q r) := hst
        obtain ⟨hre, r0, r1, _, q0, q1⟩ := hst
        clear hre
        by_cases g : 4294967296 ≤ q
        · have gb : decide (4294967296 ≤ q) = true := by simp [g]
          by_cases b : 4294967296 ≤ r + p
          · go_wp2
            go_meet
            exact ⟨rfl, by rw [k_break HDR.out HS.out (Or.inl g) b], _, rfl⟩
          · go_wp2
            go_round
            case rel => exact ⟨q - 1, r + p, rfl, rfl, k_next HDR.out HS.out (Or.inl g) (by omega)⟩
            case measure => simp [intOf]; omega
        · have gb : decide (4294967296 ≤ q) = false := by simp; omega
          have m0 : 0 ≤ q * z := Int.mul_nonneg q0 z0
          have m1 : q * z ≤ 4294967295 * 4294967295 := Int.mul_le_mul (by omega) (by omega) z0 (by omega)
          by_cases t : 4294967296 * r + d0 < q * z
          · have tb : decide (4294967296 * r + d0 < q * z) = true := by simp [t]
            have q2 : 1 ≤ q := by
              have := k_true HDR.out HS.out (Or.inr t)
              have := dig_nonneg HDR.out
              omega
            by_cases b : 4294967296 ≤ r + p
            · go_wp2
              go_meet
              exact ⟨rfl, by rw [k_break HDR.out HS.out (Or.inr t) b], _, rfl⟩
            · go_wp2
              go_round
              case rel => exact ⟨q - 1, r + p, rfl, rfl, k_next HDR.out HS.out (Or.inr t) (by omega)⟩
              case measure => simp [intOf]; omega
          · have tb : decide (4294967296 * r + d0 < q * z) = false := by simp; omega
            go_wp2
            go_meet
            exact ⟨rfl, by rw [k_false HDR.out HS.out (by omega)], _, rfl⟩
    case rest =>
      obtain ⟨rfl, rfl, r, rfl⟩ := hcut
      obtain ⟨eT, T0, T1⟩ := k_rem HDR.out
      rw [← HV.out.2.2.2.1] at eT T0 T1
      obtain ⟨P, eP⟩ : ∃ P, dig R d0 p z = P := ⟨_, rfl⟩
      obtain ⟨T, eT2⟩ : ∃ T, (R * 4294967296 + d0) % Y = T := ⟨_, rfl⟩
      rw [eT2] at eT T0 T1
      rw [eP] at eT HQ2
      obtain ⟨P0, P1⟩ := HQ2.out
      have HF : Hid (P = (R * 4294967296 + d0) / Y ∧ T = (R * 4294967296 + d0) % Y) := ⟨by rw [← eP, dig, ← HV.out.2.2.2.1], eT2.symm⟩
      rw [eP]
      clear eP eT2 HS2 HQ2 j1 j2 j4 j5 mj eR
      go_wp2
      go_ret2
      obtain ⟨v1, v2, v3, v4, v5⟩ := HV.out
      obtain ⟨u1, u2⟩ := HE.out
      obtain ⟨u3, u4⟩ := HF.out
      obtain ⟨f1, f2⟩ := k_whole (N := val hi lo) (y := y) (P := 2 ^ s.toNat) (Y := Y) (U := U) (L := L) (by omega) (pow_pos' _) v5.symm v1 Q R P T (by rw [← v2]; exact u1) (by rw [← v2]; exact u2) (by rw [← v3]; exact u3) (by rw [← v3]; exact u4)
      exact ⟨by rw [← f1, ← f2]; rfl, Below.refl _ _⟩

/-- math/bits.Div64, where the quotient fits. -/
theorem div64 (hi lo y : Int) (h1 : Word hi) (h2 : Word lo) (h3 : Word y) (h : hi < y) (w : World) :
    Calls Try.prog 77 #[.int .u64 hi, .int .u64 lo, .int .u64 y] w fun e w' => e = .returned (.tuple #[.int .u64 (val hi lo / y), .int .u64 (val hi lo % y)]) ∧ Below w.heap.size w w' := by
  by_cases z : hi = 0
  · subst z
    have e : val 0 lo = lo := by unfold val; omega
    rw [e]
    exact div64_0 lo y h2 h3 h w
  · exact div64_1 hi lo y h1 h2 h3 (by obtain ⟨_, _⟩ := h1; omega) h w
end Go.Proofs.Ytjgllfpnmmopdaa
