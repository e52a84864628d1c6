/-
  THE CONTRACTS OF THE REFERENCE's FUNCTIONS: Sqrt.
-/
import Derived.Test.YtdmliddihhgfaaaRefA
import Derived.Test.YtdmliddihhgfaaaRefB
import Derived.Test.YtdmliddihhgfaaaMathR
namespace Go.Proofs.Ytdmliddihhgfaaa
open Go.RowKit Wd

set_option maxHeartbeats 1000000 in
theorem rsqrt_any (ah al : Int) (h2 : Word al) (w : World) :
    Calls Try.prog 27 #[.agg #[.int .u64 ah, .int .u64 al]] w fun e w' =>
      e = .returned (.int .u64 (sqrtV (val ah al))) ∧ Below w.heap.size w w' := by
  go_enter Try.func27, Try.ntmps27
  go_wp2
  go_loopw [3, 4] (fun r i wr => ∃ j : Nat, ∃ n q : Int, j ≤ 64 ∧ n + 1 = j ∧ i = .int .i64 n ∧ r = .int .u64 q ∧ Root (val ah al) j q ∧ Below (w.heap.size + 1) (w.alloc (.cells #[.int .u64 ah, .int .u64 al] 29)) wr) (fun _ i _ => (intOf i + 1).toNat)
  case atStart => exact ⟨64, 63, 0, by omega, by omega, rfl, rfl, root_start _, Below.refl _ _⟩
  case round =>
    obtain ⟨j, n, q, hj, hn, rfl, rfl, hr, hb⟩ := hrel
    by_cases hlt : 0 ≤ n
    · have c0 : wr.cell? ⟨w.heap.size, 0, none⟩ = some (.int .u64 ah) := by rw [hb.cell (by simp)]; simp [go_sem]
      have c1 : wr.cell? ⟨w.heap.size, 1, none⟩ = some (.int .u64 al) := by rw [hb.cell (by simp)]; simp [go_sem]
      obtain ⟨m, rfl⟩ := Int.eq_ofNat_of_zero_le hlt
      obtain rfl : j = m + 1 := by omega
      obtain ⟨r0, r1, wt, _⟩ := root_word hr
      have ew : IntKind.u64.wrap (2 ^ m) = 2 ^ m := by
        have := pow_pos' m
        rw [IntKind.wrap_u64]; omega
      have ew2 : IntKind.u64.wrap (q + IntKind.u64.wrap (2 ^ m)) = q + 2 ^ m := by
        have := pow_pos' m
        rw [ew, IntKind.wrap_u64]; omega
      obtain ⟨t, et⟩ : ∃ t, IntKind.u64.wrap (q + IntKind.u64.wrap (2 ^ m)) = t := ⟨_, rfl⟩
      have HT : Hid (t = q + 2 ^ m) := by rw [et] at ew2; exact ew2
      have HR : Hid (Root (val ah al) (m + 1) q) := hr
      rw [← HT.out] at wt
      have hm : m < 64 := by omega
      clear hr ew ew2 r1 hn
      by_cases hc : t * t ≤ val ah al
      · have kc := (cmp_le hc).2
        rw [← val_words (t * t)] at kc
        have hh := hi_word (mul_num wt wt)
        have hl := lo_word (t * t)
        have HC : Hid (t * t ≤ val ah al) := hc
        clear hc
        go_wp2
        go_region_held3 (fun w' => w'.cell? ⟨w.heap.size, 0, none⟩ = some (.int .u64 ah) ∧ w'.cell? ⟨w.heap.size, 1, none⟩ = some (.int .u64 al)) (simp (maxDischargeDepth := 12) [*])
          (first
            | (go_at_call 19; refine (rmul_any t t wt wt _).mono ?_; rintro e w1 ⟨rfl, hb1⟩; obtain ⟨hc1, hf1⟩ := bkeep hb1)
            | (go_at_call 16; refine (rcmp_any (hiW (t * t)) (loW (t * t)) ah al hl h2 _).mono ?_; rintro e w2 ⟨rfl, hb2⟩; obtain ⟨hc2, hf2⟩ := bkeep hb2))
        clear hc1 hf1 hc2 hf2
        go_wp2
        go_roundw
        case rel =>
          have z0 := hb.size
          have z1 := hb1.size
          simp at z0 z1
          refine ⟨m, (m : Int) - 1, _, by omega, by omega, by go_num, rfl, ?_, ?_⟩
          · rw [HT.out]; exact root_yes HR.out (by rw [← HT.out]; exact HC.out)
          · exact (hb.drew.trans (hb1.mono (by simp; omega))).trans (hb2.mono (by omega))
        case measure => simp [intOf]
      · replace hc : val ah al < t * t := by omega
        have kc := (cmp_gt hc).2
        rw [← val_words (t * t)] at kc
        have hh := hi_word (mul_num wt wt)
        have hl := lo_word (t * t)
        have HC : Hid (val ah al < t * t) := hc
        clear hc
        go_wp2
        go_region_held3 (fun w' => w'.cell? ⟨w.heap.size, 0, none⟩ = some (.int .u64 ah) ∧ w'.cell? ⟨w.heap.size, 1, none⟩ = some (.int .u64 al)) (simp (maxDischargeDepth := 12) [*])
          (first
            | (go_at_call 19; refine (rmul_any t t wt wt _).mono ?_; rintro e w1 ⟨rfl, hb1⟩; obtain ⟨hc1, hf1⟩ := bkeep hb1)
            | (go_at_call 16; refine (rcmp_any (hiW (t * t)) (loW (t * t)) ah al hl h2 _).mono ?_; rintro e w2 ⟨rfl, hb2⟩; obtain ⟨hc2, hf2⟩ := bkeep hb2))
        clear hc1 hf1 hc2 hf2
        go_wp2
        go_roundw
        case rel =>
          have z0 := hb.size
          have z1 := hb1.size
          simp at z0 z1
          refine ⟨m, (m : Int) - 1, _, by omega, by omega, by go_num, rfl, ?_, ?_⟩
          · exact root_no HR.out (by rw [← HT.out]; exact HC.out)
          · exact (hb.drew.trans (hb1.mono (by simp; omega))).trans (hb2.mono (by omega))
        case measure => simp [intOf]
    · obtain rfl : j = 0 := by omega
      have hn1 : n < 0 := by omega
      have HR : Hid (Root (val ah al) 0 q) := hr
      clear hr hn
      go_wp2
      go_ret
      exact ⟨by rw [← root_end HR.out]; rfl, ((Below.refl _ _).alloc (Nat.le_refl _) _).trans (hb.mono (by omega))⟩
end Go.Proofs.Ytdmliddihhgfaaa
