/-
  THE CONTRACTS OF PACKAGE wide: Sub, Cmp, Times.
-/
import Derived.Test.YtpfhncggbjpflaaWide
namespace Go.Proofs.Ytpfhncggbjpflaa
open Go.RowKit Wd

namespace Wd
theorem bor_01 (x y : Int) : 0 ≤ bor x y ∧ bor x y ≤ 1 := by unfold bor; split <;> omega
theorem sub_yes {ah al bh bl : Int} (h1 : Word ah) (h2 : Word al) (h3 : Word bh) (h4 : Word bl) (h : bh + bor al bl ≤ ah) :
    (ah - bh - bor al bl) % 18446744073709551616 = hiW (subV (val ah al) (val bh bl)) ∧ (al - bl) % 18446744073709551616 = loW (subV (val ah al) (val bh bl)) ∧ subB (val ah al) (val bh bl) = true := by
  obtain ⟨_, _⟩ := h1; obtain ⟨_, _⟩ := h2; obtain ⟨_, _⟩ := h3; obtain ⟨_, _⟩ := h4
  have hle : val bh bl ≤ val ah al := by unfold bor at h; unfold val; split at h <;> omega
  have e : subV (val ah al) (val bh bl) = val ah al - val bh bl := by unfold subV; rw [if_pos hle]
  refine ⟨?_, ?_, by simp [subB, hle]⟩ <;> rw [e] <;> simp only [hiW, loW, val, bor] at * <;> (try split at h) <;> (try rw [if_pos ‹_›]) <;> (try rw [if_neg ‹_›]) <;> omega
theorem sub_no {ah al bh bl : Int} (h1 : Word ah) (h2 : Word al) (h3 : Word bh) (h4 : Word bl) (h : ah < bh + bor al bl) :
    0 = hiW (subV (val ah al) (val bh bl)) ∧ 0 = loW (subV (val ah al) (val bh bl)) ∧ subB (val ah al) (val bh bl) = false := by
  obtain ⟨_, _⟩ := h1; obtain ⟨_, _⟩ := h2; obtain ⟨_, _⟩ := h3; obtain ⟨_, _⟩ := h4
  have hle : ¬ val bh bl ≤ val ah al := by unfold bor at h; unfold val; split at h <;> omega
  have e : subV (val ah al) (val bh bl) = 0 := by unfold subV; rw [if_neg hle]
  refine ⟨?_, ?_, by simp [subB, hle]⟩ <;> rw [e] <;> simp [hiW, loW]
theorem cmp_hi {ah al bh bl : Int} (h2 : Word al) (h4 : Word bl) (h : ah ≠ bh) : cmpV ah bh = cmpV (val ah al) (val bh bl) := by
  obtain ⟨_, _⟩ := h2; obtain ⟨_, _⟩ := h4
  unfold cmpV val; split <;> split <;> (try split) <;> (try split) <;> omega
theorem cmp_lo {ah al bl : Int} : cmpV al bl = cmpV (val ah al) (val ah bl) := by
  unfold cmpV val; split <;> split <;> (try split) <;> (try split) <;> omega
end Wd

set_option maxHeartbeats 400000 in
theorem sub_any (ah al bh bl : Int) (h1 : Word ah) (h2 : Word al) (h3 : Word bh) (h4 : Word bl) (w : World) :
    Calls Try.prog 33 #[.agg #[.int .u64 ah, .int .u64 al], .agg #[.int .u64 bh, .int .u64 bl]] w fun e w' =>
      e = .returned (.tuple #[.agg #[.int .u64 (hiW (subV (val ah al) (val bh bl))), .int .u64 (loW (subV (val ah al) (val bh bl)))], .bool (subB (val ah al) (val bh bl))]) ∧ Below w.heap.size w w' := by
  obtain ⟨k0, k1⟩ := bor_01 al bl
  by_cases h : bh + bor al bl ≤ ah
  · obtain ⟨e1, e2, e3⟩ := sub_yes h1 h2 h3 h4 h
    rw [← e1, ← e2, e3]; clear e1 e2 e3
    obtain ⟨a1, a2⟩ := h1; obtain ⟨b1, b2⟩ := h2; obtain ⟨c1, c2⟩ := h3; obtain ⟨d1, d2⟩ := h4
    have k2 : (bor ah (bh + bor al bl) != 0) = false := by rw [show bor ah (bh + bor al bl) = 0 by rw [bor, if_neg (by omega)]]; rfl
    go_enter Try.func33, Try.ntmps33
    go_wp2_with (first | simp only [sub64_0 al bl b1 d1 d2] | simp only [sub64 ah bh _ a1 c1 c2 k0 k1])
    exact bodyPost_ret (v := .tuple #[.agg #[.int .u64 ((ah - bh - bor al bl) % 18446744073709551616), .int .u64 ((al - bl) % 18446744073709551616)], .bool true]) (by simp [results, Try.results33, go_sem]) rfl ⟨rfl, (((Below.refl _ _).alloc (Nat.le_refl _) _).alloc (by simp) _).alloc (by simp; omega) _⟩
  · obtain ⟨e1, e2, e3⟩ := sub_no h1 h2 h3 h4 (by omega)
    rw [← e1, ← e2, e3]; clear e1 e2 e3
    obtain ⟨a1, a2⟩ := h1; obtain ⟨b1, b2⟩ := h2; obtain ⟨c1, c2⟩ := h3; obtain ⟨d1, d2⟩ := h4
    have k2 : (bor ah (bh + bor al bl) != 0) = true := by rw [show bor ah (bh + bor al bl) = 1 by rw [bor, if_pos (by omega)]]; rfl
    go_enter Try.func33, Try.ntmps33
    go_wp2_with (first | simp only [sub64_0 al bl b1 d1 d2] | simp only [sub64 ah bh _ a1 c1 c2 k0 k1])
    exact bodyPost_ret (v := .tuple #[.agg #[.int .u64 0, .int .u64 0], .bool false]) (by simp [results, Try.results33, go_sem]) rfl ⟨rfl, (((Below.refl _ _).alloc (Nat.le_refl _) _).alloc (by simp) _).alloc (by simp; omega) _⟩

end Go.Proofs.Ytpfhncggbjpflaa
