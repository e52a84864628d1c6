/-
  THE CONTRACTS OF PACKAGE wide: Div.
-/
import Derived.Test.YtjgllfpnmmopdaaWid
import Derived.Test.YtjgllfpnmmopdaaDiv64
namespace Go.Proofs.Ytjgllfpnmmopdaa
open Go.RowKit Wd

namespace Wd
theorem div_words {ah al b : Int} (h1 : Word ah) (h2 : Word al) (h3 : 0 < b) (h4 : b < 18446744073709551616) :
    ah / b = hiW (divV (val ah al) b) ∧ val (ah % b) al / b = loW (divV (val ah al) b) ∧ val (ah % b) al % b = remV (val ah al) b ∧ Word (ah % b) ∧ ah % b < b := by
  obtain ⟨a0, a1⟩ := h1; obtain ⟨l0, l1⟩ := h2
  have m0 := Int.emod_nonneg ah (show b ≠ 0 by omega)
  have m1 := Int.emod_lt_of_pos ah h3
  have q0 := Int.ediv_nonneg a0 (show 0 ≤ b by omega)
  have e := Int.mul_ediv_add_emod ah b
  have ev : val ah al = val (ah % b) al + ah / b * 18446744073709551616 * b := by
    unfold val
    have : ah * 18446744073709551616 = (b * (ah / b) + ah % b) * 18446744073709551616 := by rw [e]
    rw [this, Int.add_mul, Int.mul_comm b, Int.mul_right_comm]; omega
  have hlt : val (ah % b) al < b * 18446744073709551616 := by unfold val; omega
  have h0 : 0 ≤ val (ah % b) al := by unfold val; omega
  have r0 : 0 ≤ val (ah % b) al / b := Int.ediv_nonneg h0 (by omega)
  have r1 : val (ah % b) al / b < 18446744073709551616 := Int.ediv_lt_of_lt_mul h3 (by rw [Int.mul_comm]; exact hlt)
  have ed : divV (val ah al) b = ah / b * 18446744073709551616 + val (ah % b) al / b := by
    unfold divV; rw [if_neg (by omega), ev, Int.add_mul_ediv_right _ _ (by omega), Int.add_comm]
  have er : remV (val ah al) b = val (ah % b) al % b := by
    unfold remV; rw [if_neg (by omega), ev, Int.add_mul_emod_self_right]
  refine ⟨?_, ?_, er.symm, ⟨m0, by omega⟩, m1⟩ <;> rw [ed] <;> simp only [hiW, loW] <;> omega
end Wd

set_option maxHeartbeats 1000000 in
theorem div_any (ah al b : Int) (h1 : Word ah) (h2 : Word al) (h3 : Word b) (w : World) :
    Calls Try.prog 75 #[.agg #[.int .u64 ah, .int .u64 al], .int .u64 b] w fun e w' =>
      e = .returned (.tuple #[.agg #[.int .u64 (hiW (divV (val ah al) b)), .int .u64 (loW (divV (val ah al) b))], .int .u64 (remV (val ah al) b), .bool (divB b)]) ∧ Below w.heap.size w w' := by
  by_cases z : b = 0
  · subst z
    rw [show divV (val ah al) 0 = 0 from rfl, show remV (val ah al) 0 = 0 from rfl, show divB 0 = false from rfl, show hiW 0 = 0 from rfl, show loW 0 = 0 from rfl]
    go_enter Try.func75, Try.ntmps75
    go_wp2
    exact bodyPost_ret (v := .tuple #[.agg #[.int .u64 0, .int .u64 0], .int .u64 0, .bool false]) (by simp [results, Try.results75, go_sem]) rfl ⟨rfl, ((Below.refl _ _).alloc (Nat.le_refl _) _).alloc (by simp) _⟩
  · have hb3 := h3
    obtain ⟨b0, b1⟩ := h3
    have bp : 0 < b := by omega
    obtain ⟨e1, e2, e3, wm, lm⟩ := div_words h1 h2 bp b1
    have ed : divB b = true := by simp [divB, z]
    rw [← e1, ← e2, ← e3, ed]
    have hal := h2
    obtain ⟨a0, a1⟩ := h1; obtain ⟨l0, l1⟩ := h2
    have k : (b == 0) = false := by simp [z]
    have q0 : 0 ≤ ah / b := Int.ediv_nonneg a0 (by omega)
    have q1 : ah / b < 18446744073709551616 := by have := Int.ediv_le_self b a0; omega
    have m0 : 0 ≤ ah % b := wm.1
    clear e1 e2 e3 ed
    have htm : ah.tmod b = ah % b := Int.tmod_eq_emod_of_nonneg a0
    go_enter Try.func75, Try.ntmps75
    go_wp2
    go_region_held3 (fun w' => w'.cell? ⟨w.heap.size, 0, none⟩ = some (.int .u64 ah) ∧ w'.cell? ⟨w.heap.size, 1, none⟩ = some (.int .u64 al)) (simp (maxDischargeDepth := 12) [*, go_sem, World.cell?_alloc_some])
      (first | (go_at_call 77; refine (div64 (ah % b) al b wm hal hb3 lm _).mono ?_; rintro e w1 ⟨rfl, hb⟩; obtain ⟨hc, hf⟩ := bkeep hb))
    have hz := hb.size
    simp at hz
    have c0 : w1.cell? ⟨w.heap.size, 0, none⟩ = some (.int .u64 ah) := keepC hb (by simp [go_sem])
    have d0 : w1.cell? ⟨w.heap.size + 1, 0, none⟩ = some (.int .u64 0) := keepC hb (by simp [go_sem])
    have d1 : w1.cell? ⟨w.heap.size + 1, 1, none⟩ = some (.int .u64 0) := keepC hb (by simp [go_sem])
    have f0 : w1.frozen? ⟨w.heap.size + 1, 0, none⟩ = false := by rw [(bcell hb).2 _ _ (by simp)]; simp [go_sem]
    have f1 : w1.frozen? ⟨w.heap.size + 1, 1, none⟩ = false := by rw [(bcell hb).2 _ _ (by simp)]; simp [go_sem]
    clear hc hf htm
    go_wp2
    refine bodyPost_ret (v := .tuple #[.agg #[.int .u64 (ah / b), .int .u64 (val (ah % b) al / b)], .int .u64 (val (ah % b) al % b), .bool true]) (by simp [results, Try.results75, go_sem, d0, d1]) rfl ⟨rfl, ?_⟩
    exact ((((Below.refl _ _).alloc (Nat.le_refl _) _).alloc (by simp) _).drew.trans (hb.mono (by simp; omega))).setCell (by simp) _ |>.setCell (by simp) _
end Go.Proofs.Ytjgllfpnmmopdaa
