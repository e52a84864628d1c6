/-
  THE CONTRACTS OF THE REFERENCE's FUNCTIONS: Times.
-/
import Derived.Test.YtbcinapnnlfnbaaGreatRefA
import Derived.Test.YtbcinapnnlfnbaaGreatRfW
import Derived.Test.YtbcinapnnlfnbaaGreatWid
namespace Go.Proofs.YtbcinapnnlfnbaaGreat
open Go.RowKit Wd

namespace Wd
theorem add_comm' (a b : Int) : addV a b = addV b a ∧ addB a b = addB b a := by unfold addV addB; rw [Int.add_comm]; exact ⟨rfl, rfl⟩
end Wd

set_option maxHeartbeats 1000000 in
theorem rtimes_any (ah al b : Int) (h1 : Word ah) (h2 : Word al) (h3 : Word b) (w : World) :
    Calls Tryz.prog 43 #[.agg #[.int .u64 ah, .int .u64 al], .int .u64 b] w fun e w' =>
      e = .returned (.tuple #[.agg #[.int .u64 (hiW (timV (val ah al) b)), .int .u64 (loW (timV (val ah al) b))], .bool (timB (val ah al) b)]) ∧ Below w.heap.size w w' := by
  by_cases h : hiW (ah * b) = 0
  · obtain ⟨e1, e3⟩ := tim_yes (al := al) h
    rw [← e1, ← e3, (add_comm' _ _).1, (add_comm' _ _).2]; clear e1 e3
    have k2 : decide (0 < hiW (ah * b)) = false := by simp [h]
    have k3 : ¬ 0 < hiW (ah * b) := by simp [h]
    have hw0 := word0; have hwl := lo_word (ah * b); have hwh := hi_word (mul_num h2 h3); have hwk := lo_word (al * b)
    clear h
    go_enter Tryz.func43, Tryz.ntmps43
    go_wp2_with fail
    refine (rmul_any al b h2 h3 _).mono ?_
    rintro e w1 ⟨rfl, hb⟩
    have hz := hb.size
    simp at hz
    have q0 : w1.cell? ⟨w.heap.size, 0, none⟩ = some (.int .u64 ah) := keepC hb (by simp [go_sem])
    have q4 : w1.cell? ⟨w.heap.size + 1, 0, none⟩ = some (.int .u64 0) := keepC hb (by simp [go_sem])
    have q5 : w1.cell? ⟨w.heap.size + 1, 1, none⟩ = some (.int .u64 0) := keepC hb (by simp [go_sem])
    have f4 : w1.frozen? ⟨w.heap.size + 1, 0, none⟩ = false := by rw [(bcell hb).2 _ _ (by simp)]; simp [go_sem]
    have f5 : w1.frozen? ⟨w.heap.size + 1, 1, none⟩ = false := by rw [(bcell hb).2 _ _ (by simp)]; simp [go_sem]
    have z0 : w.heap.size < w1.heap.size := by omega
    have z1 : w.heap.size + 1 < w1.heap.size := by omega
    go_wp2_with fail
    refine (rmul_any ah b h1 h3 _).mono ?_
    rintro e w2 ⟨rfl, hb2⟩
    have hz2 := hb2.size
    simp at hz2
    have r4 := keepC hb2 (allocC _ q4)
    have r5 := keepC hb2 (allocC _ q5)
    have g4 := keepF hb2 (allocC _ q4) (allocF _ _ f4)
    have g5 := keepF hb2 (allocC _ q5) (allocF _ _ f5)
    have r6 : w2.cell? ⟨w1.heap.size, 0, none⟩ = some (.int .u64 (hiW (al * b))) := keepC hb2 (by simp)
    have r7 : w2.cell? ⟨w1.heap.size, 1, none⟩ = some (.int .u64 (loW (al * b))) := keepC hb2 (by simp)
    have y0 : w.heap.size < w2.heap.size := by omega
    have y1 : w.heap.size + 1 < w2.heap.size := by omega
    have y2 : w1.heap.size < w2.heap.size := by omega
    clear q0 q4 q5 f4 f5 z0
    go_wp2_with fail
    refine (radd_any (hiW (al * b)) (loW (al * b)) (loW (ah * b)) 0 hwh hwk hwl hw0 _).mono ?_
    rintro e w3 ⟨rfl, hb3⟩
    have hz3 := hb3.size
    simp at hz3
    have s4 := keepC hb3 (allocC _ r4)
    have s5 := keepC hb3 (allocC _ r5)
    have t4 := keepF hb3 (allocC _ r4) (allocF _ _ g4)
    have t5 := keepF hb3 (allocC _ r5) (allocF _ _ g5)
    clear r4 r5 g4 g5 r6 r7
    go_wp2
    refine bodyPost_ret (v := .tuple #[.agg #[.int .u64 (hiW (addV (val (hiW (al * b)) (loW (al * b))) (val (loW (ah * b)) 0))), .int .u64 (loW (addV (val (hiW (al * b)) (loW (al * b))) (val (loW (ah * b)) 0)))], .bool (addB (val (hiW (al * b)) (loW (al * b))) (val (loW (ah * b)) 0))]) (by simp [results, Tryz.results43, go_sem, s4, s5]) rfl ⟨rfl, ?_⟩
    exact (((((((Below.refl _ _).alloc (Nat.le_refl _) _).alloc (by simp) _).trans (hb.mono (by simp; omega))).alloc (by omega) _).trans (hb2.mono (by simp; omega))).alloc (by omega) _ |>.trans (hb3.mono (by simp; omega))).setCell (by simp) _ |>.setCell (by simp) _
  · obtain ⟨e1, e2, e3⟩ := tim_no h1 h2 h3 h
    rw [← e1, ← e2, e3]; clear e1 e2 e3
    have hpos : 0 < hiW (ah * b) := by
      have := hi_word (mul_num h1 h3)
      obtain ⟨_, _⟩ := this; omega
    have k2 : decide (0 < hiW (ah * b)) = true := by simp [hpos]
    clear h
    go_enter Tryz.func43, Tryz.ntmps43
    go_wp2_with fail
    refine (rmul_any al b h2 h3 _).mono ?_
    rintro e w1 ⟨rfl, hb⟩
    have hz := hb.size
    simp at hz
    have q0 : w1.cell? ⟨w.heap.size, 0, none⟩ = some (.int .u64 ah) := keepC hb (by simp [go_sem])
    have q4 : w1.cell? ⟨w.heap.size + 1, 0, none⟩ = some (.int .u64 0) := keepC hb (by simp [go_sem])
    have q5 : w1.cell? ⟨w.heap.size + 1, 1, none⟩ = some (.int .u64 0) := keepC hb (by simp [go_sem])
    have f4 : w1.frozen? ⟨w.heap.size + 1, 0, none⟩ = false := by rw [(bcell hb).2 _ _ (by simp)]; simp [go_sem]
    have f5 : w1.frozen? ⟨w.heap.size + 1, 1, none⟩ = false := by rw [(bcell hb).2 _ _ (by simp)]; simp [go_sem]
    have z0 : w.heap.size < w1.heap.size := by omega
    have z1 : w.heap.size + 1 < w1.heap.size := by omega
    go_wp2_with fail
    refine (rmul_any ah b h1 h3 _).mono ?_
    rintro e w2 ⟨rfl, hb2⟩
    have hz2 := hb2.size
    simp at hz2
    have r4 := keepC hb2 (allocC _ q4)
    have r5 := keepC hb2 (allocC _ q5)
    have g4 := keepF hb2 (allocC _ q4) (allocF _ _ f4)
    have g5 := keepF hb2 (allocC _ q5) (allocF _ _ f5)
    have y1 : w.heap.size + 1 < w2.heap.size := by omega
    clear q0 q4 q5 f4 f5 z0
    go_wp2_with fail
    refine (rgreatest_any _).mono ?_
    rintro e w3 ⟨rfl, hb3⟩
    have hz3 := hb3.size
    simp at hz3
    have s4 := keepC hb3 (allocC _ r4)
    have s5 := keepC hb3 (allocC _ r5)
    have t4 := keepF hb3 (allocC _ r4) (allocF _ _ g4)
    have t5 := keepF hb3 (allocC _ r5) (allocF _ _ g5)
    clear r4 r5 g4 g5
    go_wp2
    refine bodyPost_ret (v := .tuple #[.agg #[.int .u64 18446744073709551615, .int .u64 18446744073709551615], .bool false]) (by simp [results, Tryz.results43, go_sem, s4, s5]) rfl ⟨rfl, ?_⟩
    exact (((((((Below.refl _ _).alloc (Nat.le_refl _) _).alloc (by simp) _).trans (hb.mono (by simp; omega))).alloc (by omega) _).trans (hb2.mono (by simp; omega))).alloc (by omega) _ |>.trans (hb3.mono (by simp; omega))).setCell (by simp) _ |>.setCell (by simp) _
end Go.Proofs.YtbcinapnnlfnbaaGreat
