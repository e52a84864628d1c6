/-
  THE CONTRACTS OF THE REFERENCE's FUNCTIONS: Sub.
-/
import Derived.Test.YtdmliddihhgfaaaRefA
namespace Go.Proofs.Ytdmliddihhgfaaa
open Go.RowKit Wd

namespace Wd
theorem cmp_lt {a b : Int} (h : a < b) : decide (cmpV a b < 0) = true := by unfold cmpV; rw [if_pos h]; rfl
theorem cmp_ge {a b : Int} (h : b ≤ a) : decide (cmpV a b < 0) = false := by unfold cmpV; rw [if_neg (by omega)]; split <;> rfl
end Wd

set_option maxHeartbeats 1000000 in
theorem rsub_any (ah al bh bl : Int) (h1 : Word ah) (h2 : Word al) (h3 : Word bh) (h4 : Word bl) (w : World) :
    Calls Try.prog 12 #[.agg #[.int .u64 ah, .int .u64 al], .agg #[.int .u64 bh, .int .u64 bl]] w fun e w' =>
      e = .returned (.tuple #[.agg #[.int .u64 (hiW (subV (val ah al) (val bh bl))), .int .u64 (loW (subV (val ah al) (val bh bl)))], .bool (subB (val ah al) (val bh bl))]) ∧ Below w.heap.size w w' := by
  by_cases hle : val bh bl ≤ val ah al
  · have k := cmp_ge hle
    by_cases l : al < bl
    · have hh : bh < ah := by obtain ⟨_, _⟩ := h1; obtain ⟨_, _⟩ := h2; obtain ⟨_, _⟩ := h3; obtain ⟨_, _⟩ := h4; unfold val at hle; omega
      obtain ⟨e1, e2, e3⟩ := sub2 h1 h2 h3 h4 l hh
      rw [← e1, ← e2, e3]; clear e1 e2 e3 hle
      have hw2 := h2; have hw4 := h4
      obtain ⟨a1, a2⟩ := h1; obtain ⟨b1, b2⟩ := h2; obtain ⟨c1, c2⟩ := h3; obtain ⟨d1, d2⟩ := h4
      go_enter Try.func12, Try.ntmps12
      go_wp2_with fail
      refine (rcmp_any ah al bh bl hw2 hw4 _).mono ?_
      rintro e w1 ⟨rfl, hb⟩
      have hz := hb.size
      simp at hz
      have q0 : w1.cell? ⟨w.heap.size, 0, none⟩ = some (.int .u64 ah) := keepC hb (by simp [go_sem])
      have q1 : w1.cell? ⟨w.heap.size, 1, none⟩ = some (.int .u64 al) := keepC hb (by simp [go_sem])
      have q2 : w1.cell? ⟨w.heap.size + 1, 0, none⟩ = some (.int .u64 bh) := keepC hb (by simp [go_sem])
      have q3 : w1.cell? ⟨w.heap.size + 1, 1, none⟩ = some (.int .u64 bl) := keepC hb (by simp [go_sem])
      have q4 : w1.cell? ⟨w.heap.size + 1 + 1, 0, none⟩ = some (.int .u64 0) := keepC hb (by simp [go_sem])
      have q5 : w1.cell? ⟨w.heap.size + 1 + 1, 1, none⟩ = some (.int .u64 0) := keepC hb (by simp [go_sem])
      have f4 : w1.frozen? ⟨w.heap.size + 1 + 1, 0, none⟩ = false := by rw [(bcell hb).2 _ _ (by simp)]; simp [go_sem]
      have f5 : w1.frozen? ⟨w.heap.size + 1 + 1, 1, none⟩ = false := by rw [(bcell hb).2 _ _ (by simp)]; simp [go_sem]
      have z0 : w.heap.size < w1.heap.size := by omega
      have z1 : w.heap.size + 1 < w1.heap.size := by omega
      have z2 : w.heap.size + 1 + 1 < w1.heap.size := by omega
      go_wp2
      refine bodyPost_ret (v := .tuple #[.agg #[.int .u64 (ah - bh - 1), .int .u64 (IntKind.u64.wrap (al - bl))], .bool true]) (by simp [results, Try.results12, go_sem, z2, q4, q5]) rfl ⟨rfl, ?_⟩
      exact ((((((Below.refl _ _).alloc (Nat.le_refl _) _).alloc (by simp) _).alloc (by simp; omega) _).trans (hb.mono (by simp; omega))).setCell (by simp; omega) _ |>.setCell (by simp; omega) _).alloc (by simp; omega) _
    · have hh : bh ≤ ah := by obtain ⟨_, _⟩ := h1; obtain ⟨_, _⟩ := h2; obtain ⟨_, _⟩ := h3; obtain ⟨_, _⟩ := h4; unfold val at hle; omega
      have l' : bl ≤ al := by omega
      obtain ⟨e1, e2, e3⟩ := sub1 h1 h2 h3 h4 l' hh
      rw [← e1, ← e2, e3]; clear e1 e2 e3 hle
      have hw2 := h2; have hw4 := h4
      obtain ⟨a1, a2⟩ := h1; obtain ⟨b1, b2⟩ := h2; obtain ⟨c1, c2⟩ := h3; obtain ⟨d1, d2⟩ := h4
      go_enter Try.func12, Try.ntmps12
      go_wp2_with fail
      refine (rcmp_any ah al bh bl hw2 hw4 _).mono ?_
      rintro e w1 ⟨rfl, hb⟩
      have hz := hb.size
      simp at hz
      have q0 : w1.cell? ⟨w.heap.size, 0, none⟩ = some (.int .u64 ah) := keepC hb (by simp [go_sem])
      have q1 : w1.cell? ⟨w.heap.size, 1, none⟩ = some (.int .u64 al) := keepC hb (by simp [go_sem])
      have q2 : w1.cell? ⟨w.heap.size + 1, 0, none⟩ = some (.int .u64 bh) := keepC hb (by simp [go_sem])
      have q3 : w1.cell? ⟨w.heap.size + 1, 1, none⟩ = some (.int .u64 bl) := keepC hb (by simp [go_sem])
      have q4 : w1.cell? ⟨w.heap.size + 1 + 1, 0, none⟩ = some (.int .u64 0) := keepC hb (by simp [go_sem])
      have q5 : w1.cell? ⟨w.heap.size + 1 + 1, 1, none⟩ = some (.int .u64 0) := keepC hb (by simp [go_sem])
      have f4 : w1.frozen? ⟨w.heap.size + 1 + 1, 0, none⟩ = false := by rw [(bcell hb).2 _ _ (by simp)]; simp [go_sem]
      have f5 : w1.frozen? ⟨w.heap.size + 1 + 1, 1, none⟩ = false := by rw [(bcell hb).2 _ _ (by simp)]; simp [go_sem]
      have z0 : w.heap.size < w1.heap.size := by omega
      have z1 : w.heap.size + 1 < w1.heap.size := by omega
      have z2 : w.heap.size + 1 + 1 < w1.heap.size := by omega
      go_wp2
      refine bodyPost_ret (v := .tuple #[.agg #[.int .u64 (ah - bh), .int .u64 (al - bl)], .bool true]) (by simp [results, Try.results12, go_sem, z2, q4, q5]) rfl ⟨rfl, ?_⟩
      exact ((((((Below.refl _ _).alloc (Nat.le_refl _) _).alloc (by simp) _).alloc (by simp; omega) _).trans (hb.mono (by simp; omega))).setCell (by simp; omega) _ |>.setCell (by simp; omega) _).alloc (by simp; omega) _
  · have k := cmp_lt (show val ah al < val bh bl by omega)
    have es : subV (val ah al) (val bh bl) = 0 := by unfold subV; rw [if_neg hle]
    have eb : subB (val ah al) (val bh bl) = false := by simp [subB, hle]
    rw [es, eb, show hiW 0 = 0 from rfl, show loW 0 = 0 from rfl]; clear es eb hle
    have hw2 := h2; have hw4 := h4
    obtain ⟨a1, a2⟩ := h1; obtain ⟨b1, b2⟩ := h2; obtain ⟨c1, c2⟩ := h3; obtain ⟨d1, d2⟩ := h4
    go_enter Try.func12, Try.ntmps12
    go_wp2_with fail
    refine (rcmp_any ah al bh bl hw2 hw4 _).mono ?_
    rintro e w1 ⟨rfl, hb⟩
    have hz := hb.size
    simp at hz
    have q4 : w1.cell? ⟨w.heap.size + 1 + 1, 0, none⟩ = some (.int .u64 0) := keepC hb (by simp [go_sem])
    have q5 : w1.cell? ⟨w.heap.size + 1 + 1, 1, none⟩ = some (.int .u64 0) := keepC hb (by simp [go_sem])
    have f4 : w1.frozen? ⟨w.heap.size + 1 + 1, 0, none⟩ = false := by rw [(bcell hb).2 _ _ (by simp)]; simp [go_sem]
    have f5 : w1.frozen? ⟨w.heap.size + 1 + 1, 1, none⟩ = false := by rw [(bcell hb).2 _ _ (by simp)]; simp [go_sem]
    go_wp2
    refine bodyPost_ret (v := .tuple #[.agg #[.int .u64 0, .int .u64 0], .bool false]) (by simp [results, Try.results12, go_sem, q4, q5]) rfl ⟨rfl, ?_⟩
    exact (((((Below.refl _ _).alloc (Nat.le_refl _) _).alloc (by simp) _).alloc (by simp; omega) _).trans (hb.mono (by simp; omega))).setCell (by simp; omega) _ |>.setCell (by simp; omega) _
end Go.Proofs.Ytdmliddihhgfaaa
