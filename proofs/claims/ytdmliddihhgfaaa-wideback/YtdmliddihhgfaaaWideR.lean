/-
  THE CONTRACTS OF PACKAGE wide: Sqrt.
-/
import Derived.Test.YtdmliddihhgfaaaWideB
import Derived.Test.YtdmliddihhgfaaaMathR
import Derived.WalkMore
import Derived.Deep.LoopGhost
namespace Go.Proofs.Ytdmliddihhgfaaa
open Go.RowKit Wd

set_option maxHeartbeats 1000000 in
theorem sqrt_any (ah al : Int) (h2 : Word al) (w : World) :
    Calls Try.prog 26 #[.agg #[.int .u64 ah, .int .u64 al]] w fun e w' =>
      e = .returned (.int .u64 (sqrtV (val ah al))) ∧ Below w.heap.size w w' := by
  go_enter Try.func26, Try.ntmps26
  go_wp2
  go_step3
  go_wp2
  go_step3
  go_wp2
  go_loopw [3, 6] (fun r i wr => ∃ k : Nat, ∃ q : Int, k ≤ 64 ∧ i = .int .i64 k ∧ r = .int .u64 q ∧ Root (val ah al) (64 - k) q ∧ Below (w.heap.size + 1) (w.alloc (.cells #[.int .u64 ah, .int .u64 al] 24)) wr) (fun _ i _ => 64 - (intOf i).toNat)
  case atStart => exact ⟨0, 0, by omega, rfl, rfl, root_start _, Below.refl _ _⟩
  case round =>
    obtain ⟨k, q, hk, rfl, rfl, hr, hb⟩ := hrel
    by_cases hlt : k < 64
    · have c0 : wr.cell? ⟨w.heap.size, 0, none⟩ = some (.int .u64 ah) := by rw [hb.cell (by simp)]; simp [go_sem]
      have c1 : wr.cell? ⟨w.heap.size, 1, none⟩ = some (.int .u64 al) := by rw [hb.cell (by simp)]; simp [go_sem]
      rw [show 64 - k = (63 - k) + 1 by omega] at hr
      obtain ⟨r0, r1, wt, eo⟩ := root_word hr
      have ew : IntKind.u64.wrap (2 ^ (63 - k)) = 2 ^ (63 - k) := by
        have := pow_pos' (63 - k)
        rw [IntKind.wrap_u64]; omega
      rw [← ew] at eo
      obtain ⟨t, et⟩ : ∃ t, bits .or .u64 q (IntKind.u64.wrap (2 ^ (63 - k))) = t := ⟨_, rfl⟩
      have HT : Hid (t = q + 2 ^ (63 - k)) := by rw [et, ew] at eo; exact eo
      have HR : Hid (Root (val ah al) (63 - k + 1) q) := hr
      rw [← HT.out] at wt
      clear hr eo ew r1
      by_cases hc : t * t ≤ val ah al
      · have kc := (cmp_le hc).1
        rw [← val_words (t * t)] at kc
        have hh := hi_word (mul_num wt wt)
        have hl := lo_word (t * t)
        have HC : Hid (t * t ≤ val ah al) := hc
        clear hc
        go_wp2
        go_region_held3 (fun w' => w'.cell? ⟨w.heap.size, 0, none⟩ = some (.int .u64 ah) ∧ w'.cell? ⟨w.heap.size, 1, none⟩ = some (.int .u64 al)) (simp (maxDischargeDepth := 12) [*])
          (first
            | (go_at_call 18; refine (mul_any t t wt wt _).mono ?_; rintro e w1 ⟨rfl, hb1⟩; obtain ⟨hc1, hf1⟩ := bkeep hb1)
            | (go_at_call 15; refine (cmp_any (hiW (t * t)) (loW (t * t)) ah al hl h2 _).mono ?_; rintro e w2 ⟨rfl, hb2⟩; obtain ⟨hc2, hf2⟩ := bkeep hb2))
        clear hc1 hf1 hc2 hf2
        go_wp2
        go_roundw
        case rel =>
          have z0 := hb.size
          have z1 := hb1.size
          simp at z0 z1
          refine ⟨k + 1, _, by omega, by go_num, rfl, ?_, ?_⟩
          · rw [show 64 - (k + 1) = 63 - k by omega]
            rw [HT.out]; exact root_yes HR.out (by rw [← HT.out]; exact HC.out)
          · exact (hb.drew.trans (hb1.mono (by simp; omega))).trans (hb2.mono (by omega))
        case measure => simp [intOf]; omega
      · replace hc : val ah al < t * t := by omega
        have kc := (cmp_gt hc).1
        rw [← val_words (t * t)] at kc
        have hh := hi_word (mul_num wt wt)
        have hl := lo_word (t * t)
        have HC : Hid (val ah al < t * t) := hc
        clear hc
        go_wp2
        go_region_held3 (fun w' => w'.cell? ⟨w.heap.size, 0, none⟩ = some (.int .u64 ah) ∧ w'.cell? ⟨w.heap.size, 1, none⟩ = some (.int .u64 al)) (simp (maxDischargeDepth := 12) [*])
          (first
            | (go_at_call 18; refine (mul_any t t wt wt _).mono ?_; rintro e w1 ⟨rfl, hb1⟩; obtain ⟨hc1, hf1⟩ := bkeep hb1)
            | (go_at_call 15; refine (cmp_any (hiW (t * t)) (loW (t * t)) ah al hl h2 _).mono ?_; rintro e w2 ⟨rfl, hb2⟩; obtain ⟨hc2, hf2⟩ := bkeep hb2))
        clear hc1 hf1 hc2 hf2
        go_wp2
        go_roundw
        case rel =>
          have z0 := hb.size
          have z1 := hb1.size
          simp at z0 z1
          refine ⟨k + 1, _, by omega, by go_num, rfl, ?_, ?_⟩
          · rw [show 64 - (k + 1) = 63 - k by omega]
            exact root_no HR.out (by rw [← HT.out]; exact HC.out)
          · exact (hb.drew.trans (hb1.mono (by simp; omega))).trans (hb2.mono (by omega))
        case measure => simp [intOf]; omega
    · have ek : k = 64 := by omega
      subst ek
      have HR : Hid (Root (val ah al) 0 q) := hr
      clear hr
      go_wp2
      rw [Exit.noGoto_ret]
      go_ret
      exact ⟨by rw [← root_end HR.out]; rfl, ((Below.refl _ _).alloc (Nat.le_refl _) _).trans (hb.mono (by omega))⟩
end Go.Proofs.Ytdmliddihhgfaaa
