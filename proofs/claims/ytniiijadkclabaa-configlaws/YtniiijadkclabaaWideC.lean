/-
  THE CONTRACTS OF PACKAGE wide: Times.
-/
import Derived.Test.YtniiijadkclabaaWideB
namespace Go.Proofs.Ytniiijadkclabaa
open Go.RowKit Wd

namespace Wd
theorem word0 : Word 0 := by unfold Word; omega
theorem tim_no {ah al b : Int} (h1 : Word ah) (h2 : Word al) (h3 : Word b) (h : hiW (ah * b) ≠ 0) :
    18446744073709551615 = hiW (timV (val ah al) b) ∧ 18446744073709551615 = loW (timV (val ah al) b) ∧ timB (val ah al) b = false := by
  have hn := mul_num h1 h3
  obtain ⟨_, _⟩ := h1; obtain ⟨_, _⟩ := h2; obtain ⟨_, _⟩ := h3; obtain ⟨_, _⟩ := hn
  have e0 : val ah al * b = ah * b * 18446744073709551616 + al * b := by
    unfold val; rw [Int.add_mul, Int.mul_right_comm]
  have hal : 0 ≤ al * b := Int.mul_nonneg (by assumption) (by assumption)
  have hle : ¬ val ah al * b ≤ top := by
    rw [e0]; unfold hiW at h; unfold top
    generalize ah * b = p at *
    generalize al * b = q at *
    omega
  have e : timV (val ah al) b = top := by unfold timV; rw [if_neg hle]
  refine ⟨?_, ?_, by simp [timB, hle]⟩ <;> rw [e] <;> simp only [hiW, loW, top] <;> omega
theorem tim_yes {ah al b : Int} (h : hiW (ah * b) = 0) :
    addV (val (loW (ah * b)) 0) (val (hiW (al * b)) (loW (al * b))) = timV (val ah al) b ∧ addB (val (loW (ah * b)) 0) (val (hiW (al * b)) (loW (al * b))) = timB (val ah al) b := by
  have e0 : val ah al * b = ah * b * 18446744073709551616 + al * b := by
    unfold val; rw [Int.add_mul, Int.mul_right_comm]
  have e1 : val (loW (ah * b)) 0 + val (hiW (al * b)) (loW (al * b)) = val ah al * b := by
    rw [val_words, e0]; unfold val; unfold hiW at h; unfold loW; omega
  unfold addV timV addB timB
  rw [e1]
  exact ⟨rfl, rfl⟩
end Wd

set_option maxHeartbeats 1000000 in
theorem times_any (ah al b : Int) (h1 : Word ah) (h2 : Word al) (h3 : Word b) (w : World) :
    Calls Try.prog 49 #[.agg #[.int .u64 ah, .int .u64 al], .int .u64 b] w fun e w' =>
      e = .returned (.tuple #[.agg #[.int .u64 (hiW (timV (val ah al) b)), .int .u64 (loW (timV (val ah al) b))], .bool (timB (val ah al) b)]) ∧ Below w.heap.size w w' := by
  by_cases h : hiW (ah * b) = 0
  · obtain ⟨e1, e3⟩ := tim_yes (al := al) h
    rw [← e1, ← e3]; clear e1 e3
    have k2 : (hiW (ah * b) != 0) = false := by simp [h]
    clear h
    have hw0 := word0; have hwl := lo_word (ah * b); have hwh := hi_word (mul_num h2 h3); have hwk := lo_word (al * b)
    go_enter Try.func49, Try.ntmps49
    go_wp2_with fail
    refine (mul_any ah b h1 h3 _).mono ?_
    rintro e w1 ⟨rfl, hb⟩
    have hz := hb.size
    simp at hz
    have hne : ¬ w.heap.size + 1 = w1.heap.size := by omega
    have c0 : w1.cell? ⟨w.heap.size, 0, none⟩ = some (.int .u64 ah) := by rw [(bcell hb).1 _ _ (by simp; omega)]; simp [go_sem]
    have c1 : w1.cell? ⟨w.heap.size, 1, none⟩ = some (.int .u64 al) := by rw [(bcell hb).1 _ _ (by simp; omega)]; simp [go_sem]
    have d0 : w1.cell? ⟨w.heap.size + 1, 0, none⟩ = some (.int .u64 0) := by rw [(bcell hb).1 _ _ (by simp)]; simp
    have d1 : w1.cell? ⟨w.heap.size + 1, 1, none⟩ = some (.int .u64 0) := by rw [(bcell hb).1 _ _ (by simp)]; simp
    have f0 : w1.frozen? ⟨w.heap.size + 1, 0, none⟩ = false := by rw [(bcell hb).2 _ _ (by simp)]; simp
    have f1 : w1.frozen? ⟨w.heap.size + 1, 1, none⟩ = false := by rw [(bcell hb).2 _ _ (by simp)]; simp
    go_wp2_with fail
    go_region_held3 (fun w' => w'.cell? ⟨w.heap.size, 0, none⟩ = some (.int .u64 ah) ∧ w'.cell? ⟨w.heap.size, 1, none⟩ = some (.int .u64 al) ∧ w'.cell? ⟨w1.heap.size, 0, none⟩ = some (.int .u64 (hiW (ah * b))) ∧ w'.cell? ⟨w1.heap.size, 1, none⟩ = some (.int .u64 (loW (ah * b)))) (simp (maxDischargeDepth := 12) [*, World.cell?_alloc_some, World.cell?_setCell_far])
      (first
        | (go_at_call 43; refine (mul_any al b h2 h3 _).mono ?_; rintro e w2 ⟨rfl, hb2⟩; obtain ⟨hc2, hf2⟩ := bkeep hb2; have d2 := keepC hb2 (allocC _ d0); have d3 := keepC hb2 (allocC _ d1); have f2 := keepF hb2 (allocC _ d0) (allocF _ _ f0); have f3 := keepF hb2 (allocC _ d1) (allocF _ _ f1))
        | (go_at_call 45; refine (add_any (loW (ah * b)) 0 (hiW (al * b)) (loW (al * b)) hwl hw0 hwh hwk _).mono ?_; rintro e w3 ⟨rfl, hb3⟩; obtain ⟨hc3, hf3⟩ := bkeep hb3; have d4 := keepC hb3 d2; have d5 := keepC hb3 d3; have f4 := keepF hb3 d2 f2; have f5 := keepF hb3 d3 f3))
    go_wp2_with fail
    refine bodyPost_ret (v := .tuple #[.agg #[.int .u64 (hiW (addV (val (loW (ah * b)) 0) (val (hiW (al * b)) (loW (al * b))))), .int .u64 (loW (addV (val (loW (ah * b)) 0) (val (hiW (al * b)) (loW (al * b)))))], .bool (addB (val (loW (ah * b)) 0) (val (hiW (al * b)) (loW (al * b))))]) (by simp [results, Try.results49, go_sem, d4, d5]) rfl ⟨rfl, ?_⟩
    have z2 := hb2.size
    simp at z2
    exact (((((((Below.refl _ _).alloc (Nat.le_refl _) _).alloc (by simp) _).trans (hb.mono (by simp; omega))).alloc (by omega) _).drew.trans (hb2.mono (by simp; omega))).trans (hb3.mono (by omega))).setCell (by simp) _ |>.setCell (by simp) _
  · obtain ⟨e1, e2, e3⟩ := tim_no h1 h2 h3 h
    rw [← e1, ← e2, e3]; clear e1 e2 e3
    have k2 : (hiW (ah * b) != 0) = true := by simp [h]
    go_enter Try.func49, Try.ntmps49
    go_wp2_with fail
    refine (mul_any ah b h1 h3 _).mono ?_
    rintro e w1 ⟨rfl, hb⟩
    have hz := hb.size
    simp at hz
    have c0 : w1.cell? ⟨w.heap.size + 1, 0, none⟩ = some (.int .u64 0) := by rw [(bcell hb).1 _ _ (by simp)]; simp
    have c1 : w1.cell? ⟨w.heap.size + 1, 1, none⟩ = some (.int .u64 0) := by rw [(bcell hb).1 _ _ (by simp)]; simp
    have f0 : w1.frozen? ⟨w.heap.size + 1, 0, none⟩ = false := by rw [(bcell hb).2 _ _ (by simp)]; simp
    have f1 : w1.frozen? ⟨w.heap.size + 1, 1, none⟩ = false := by rw [(bcell hb).2 _ _ (by simp)]; simp
    go_wp2_with fail
    refine (greatest_any _).mono ?_
    rintro e w2 ⟨rfl, hb2⟩
    have hz2 := hb2.size
    simp at hz2
    have d0 : w2.cell? ⟨w.heap.size + 1, 0, none⟩ = some (.int .u64 0) := by rw [(bcell hb2).1 _ _ (by simp; omega), World.cell?_alloc_past (hn := by omega)]; exact c0
    have d1 : w2.cell? ⟨w.heap.size + 1, 1, none⟩ = some (.int .u64 0) := by rw [(bcell hb2).1 _ _ (by simp; omega), World.cell?_alloc_past (hn := by omega)]; exact c1
    have g0 : w2.frozen? ⟨w.heap.size + 1, 0, none⟩ = false := by rw [(bcell hb2).2 _ _ (by simp; omega), World.frozen?_alloc_past (hn := by omega)]; exact f0
    have g1 : w2.frozen? ⟨w.heap.size + 1, 1, none⟩ = false := by rw [(bcell hb2).2 _ _ (by simp; omega), World.frozen?_alloc_past (hn := by omega)]; exact f1
    clear c0 c1 f0 f1
    go_wp2_with fail
    refine bodyPost_ret (v := .tuple #[.agg #[.int .u64 18446744073709551615, .int .u64 18446744073709551615], .bool false]) (by simp [results, Try.results49, go_sem, d0, d1]) rfl ⟨rfl, ?_⟩
    exact ((((((Below.refl _ _).alloc (Nat.le_refl _) _).alloc (by simp) _).trans (hb.mono (by simp; omega))).alloc (by omega) _).trans (hb2.mono (by simp; omega))).setCell (by simp) _ |>.setCell (by simp) _
end Go.Proofs.Ytniiijadkclabaa
