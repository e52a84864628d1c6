/-
  THE STATEMENT WideParts, walked.
-/
import Derived.Test.YtdmliddihhgfaaaShown
import Derived.Test.YtdmliddihhgfaaaRefA
import Derived.Test.YtdmliddihhgfaaaRefS
import Derived.Test.YtdmliddihhgfaaaRefR
import Derived.Test.YtdmliddihhgfaaaRefQ
import Derived.Deep.CutBlock
import Derived.Deep.DeepCutAuto
namespace Go.Proofs.Ytdmliddihhgfaaa
open Go.RowKit Wd

theorem keep6 {W w w0 : World} {a0 a1 a2 a3 a4 a5 : Addr} {v0 v1 v2 v3 v4 v5 : Value} (hb : Below W.heap.size W w) (h : W.cell? a0 = some v0 ∧ W.cell? a1 = some v1 ∧ W.cell? a2 = some v2 ∧ W.cell? a3 = some v3 ∧ W.cell? a4 = some v4 ∧ W.cell? a5 = some v5 ∧ Below w0.heap.size w0 W ∧ w0.heap.size ≤ W.heap.size) : w.cell? a0 = some v0 ∧ w.cell? a1 = some v1 ∧ w.cell? a2 = some v2 ∧ w.cell? a3 = some v3 ∧ w.cell? a4 = some v4 ∧ w.cell? a5 = some v5 ∧ Below w0.heap.size w0 w ∧ w0.heap.size ≤ w.heap.size := by
  obtain ⟨h0, h1, h2, h3, h4, h5, hB, hz⟩ := h
  exact ⟨keepC hb h0, keepC hb h1, keepC hb h2, keepC hb h3, keepC hb h4, keepC hb h5, hB.trans (hb.mono hz), Nat.le_trans hz hb.size⟩

set_option maxHeartbeats 4000000 in
set_option maxRecDepth 20000 in
theorem parts_walk (ah al b n : Int) (h1 : Word ah) (h2 : Word al) (h3 : Word b) (hn : n < 9223372036854775808) (w : World) :
    Calls Try.prog 4 #[.agg #[.int .u64 ah, .int .u64 al], .int .u64 b, .int .i64 n] w fun e w' => e = .returned (.bool true) ∧ Below w.heap.size w w' := by
  go_enter Try.func4, Try.ntmps4
  go_wp2_with fail
  refine (shown_any _).mono ?_
  rintro e w1 ⟨rfl, hb1⟩
  have z1 := hb1.size
  simp at z1
  have a0 : w1.cell? ⟨w.heap.size, 0, none⟩ = some (.int .u64 ah) := keepC hb1 (by simp)
  have a1 : w1.cell? ⟨w.heap.size, 1, none⟩ = some (.int .u64 al) := keepC hb1 (by simp)
  go_wp2_with fail
  refine (div_any ah al b h1 h2 h3 _).mono ?_
  rintro e w2 ⟨rfl, hb2⟩
  have z2 := hb2.size
  have n2 : w.heap.size < w2.heap.size := by omega
  replace a0 := keepC hb2 a0
  replace a1 := keepC hb2 a1
  go_wp2_with fail
  refine (ref_any ah al _).mono ?_
  rintro e w3 ⟨rfl, hb3⟩
  have z3 := hb3.size
  simp at z3
  replace a0 := keepC hb3 (allocC _ a0)
  replace a1 := keepC hb3 (allocC _ a1)
  have c0 : w3.cell? ⟨w2.heap.size, 0, none⟩ = some (.int .u64 (hiW (divV (val ah al) b))) := keepC hb3 (by simp)
  have c1 : w3.cell? ⟨w2.heap.size, 1, none⟩ = some (.int .u64 (loW (divV (val ah al) b))) := keepC hb3 (by simp)
  go_wp2_with fail
  refine (rdiv_any ah al b h1 h2 h3 _).mono ?_
  rintro e w4 ⟨rfl, hb4⟩
  have z4 := hb4.size
  replace a0 := keepC hb4 a0
  replace a1 := keepC hb4 a1
  replace c0 := keepC hb4 c0
  replace c1 := keepC hb4 c1
  go_upto_region 4 with fail
  have HS : Hid ((w4.alloc (.cells #[.int .u64 (hiW (divV (val ah al) b)), .int .u64 (loW (divV (val ah al) b))] 29)).drew.cell? ⟨w.heap.size, 0, none⟩ = some (.int .u64 (ah)) ∧ (w4.alloc (.cells #[.int .u64 (hiW (divV (val ah al) b)), .int .u64 (loW (divV (val ah al) b))] 29)).drew.cell? ⟨w.heap.size, 1, none⟩ = some (.int .u64 (al)) ∧ (w4.alloc (.cells #[.int .u64 (hiW (divV (val ah al) b)), .int .u64 (loW (divV (val ah al) b))] 29)).drew.cell? ⟨w2.heap.size, 0, none⟩ = some (.int .u64 (hiW (divV (val ah al) b))) ∧ (w4.alloc (.cells #[.int .u64 (hiW (divV (val ah al) b)), .int .u64 (loW (divV (val ah al) b))] 29)).drew.cell? ⟨w2.heap.size, 1, none⟩ = some (.int .u64 (loW (divV (val ah al) b))) ∧ (w4.alloc (.cells #[.int .u64 (hiW (divV (val ah al) b)), .int .u64 (loW (divV (val ah al) b))] 29)).drew.cell? ⟨w4.heap.size, 0, none⟩ = some (.int .u64 (hiW (divV (val ah al) b))) ∧ (w4.alloc (.cells #[.int .u64 (hiW (divV (val ah al) b)), .int .u64 (loW (divV (val ah al) b))] 29)).drew.cell? ⟨w4.heap.size, 1, none⟩ = some (.int .u64 (loW (divV (val ah al) b))) ∧ Below w.heap.size w (w4.alloc (.cells #[.int .u64 (hiW (divV (val ah al) b)), .int .u64 (loW (divV (val ah al) b))] 29)).drew ∧ w.heap.size ≤ (w4.alloc (.cells #[.int .u64 (hiW (divV (val ah al) b)), .int .u64 (loW (divV (val ah al) b))] 29)).drew.heap.size) := by
    refine ⟨allocC _ a0, allocC _ a1, allocC _ c0, allocC _ c1, by simp, by simp, ?_, by simp; omega⟩
    refine Below.drew (Below.alloc ?_ (by omega) _)
    exact (((((Below.refl _ _).alloc (Nat.le_refl _) _).trans (hb1.mono (by simp))).trans (hb2.mono (by omega))).alloc (by omega) _ |>.trans (hb3.mono (by simp; omega))).trans (hb4.mono (by omega))
  clear a0 a1 c0 c1 hb1 hb2 hb3 hb4 n2
  go_region_held3 (fun w' => w'.cell? ⟨w.heap.size, 0, none⟩ = some (.int .u64 (ah)) ∧ w'.cell? ⟨w.heap.size, 1, none⟩ = some (.int .u64 (al)) ∧ w'.cell? ⟨w2.heap.size, 0, none⟩ = some (.int .u64 (hiW (divV (val ah al) b))) ∧ w'.cell? ⟨w2.heap.size, 1, none⟩ = some (.int .u64 (loW (divV (val ah al) b))) ∧ w'.cell? ⟨w4.heap.size, 0, none⟩ = some (.int .u64 (hiW (divV (val ah al) b))) ∧ w'.cell? ⟨w4.heap.size, 1, none⟩ = some (.int .u64 (loW (divV (val ah al) b))) ∧ Below w.heap.size w w' ∧ w.heap.size ≤ w'.heap.size) (first | exact HS.out | exact keep6 (by assumption) (by assumption))
    (first
      | (go_at_call_of 14 (Value.agg #[Value.int IntKind.u64 (hiW (divV (val ah al) b)), Value.int IntKind.u64 (loW (divV (val ah al) b))]); refine (num_any (hiW (divV (val ah al) b)) (loW (divV (val ah al) b)) _).mono ?_; rintro e x ⟨rfl, hx⟩)
      | (go_at_call_of 14 (Value.agg #[Value.int IntKind.u64 (hiW (shlV (val ah al) n)), Value.int IntKind.u64 (loW (shlV (val ah al) n))]); refine (num_any (hiW (shlV (val ah al) n)) (loW (shlV (val ah al) n)) _).mono ?_; rintro e x ⟨rfl, hx⟩)
      | (go_at_call_of 14 (Value.agg #[Value.int IntKind.u64 (hiW (shrV (val ah al) n)), Value.int IntKind.u64 (loW (shrV (val ah al) n))]); refine (num_any (hiW (shrV (val ah al) n)) (loW (shrV (val ah al) n)) _).mono ?_; rintro e x ⟨rfl, hx⟩)
      | (go_at_call 22; refine (shl_any ah al n h1 h2 hn _).mono ?_; rintro e x ⟨rfl, hx⟩)
      | (go_at_call 23; refine (rshl_any ah al n h1 h2 hn _).mono ?_; rintro e x ⟨rfl, hx⟩)
      | (go_at_call 24; refine (shr_any ah al n h1 h2 hn _).mono ?_; rintro e x ⟨rfl, hx⟩)
      | (go_at_call 25; refine (rshr_any ah al n h1 h2 hn _).mono ?_; rintro e x ⟨rfl, hx⟩)
      | (go_at_call 26; refine (sqrt_any ah al h2 _).mono ?_; rintro e x ⟨rfl, hx⟩)
      | (go_at_call 27; refine (rsqrt_any ah al h2 _).mono ?_; rintro e x ⟨rfl, hx⟩)
      | (go_at_call 11; refine (ref_any ah al _).mono ?_; rintro e x ⟨rfl, hx⟩))
  have hS : x.cell? ⟨w.heap.size, 0, none⟩ = some (.int .u64 (ah)) ∧ x.cell? ⟨w.heap.size, 1, none⟩ = some (.int .u64 (al)) ∧ x.cell? ⟨w2.heap.size, 0, none⟩ = some (.int .u64 (hiW (divV (val ah al) b))) ∧ x.cell? ⟨w2.heap.size, 1, none⟩ = some (.int .u64 (loW (divV (val ah al) b))) ∧ x.cell? ⟨w4.heap.size, 0, none⟩ = some (.int .u64 (hiW (divV (val ah al) b))) ∧ x.cell? ⟨w4.heap.size, 1, none⟩ = some (.int .u64 (loW (divV (val ah al) b))) ∧ Below w.heap.size w x ∧ w.heap.size ≤ x.heap.size := by assumption
  have hB : Below w.heap.size w x := hS.2.2.2.2.2.2.1
  clear hS
  go_wp2
  go_ret
  exact ⟨rfl, hB⟩
end Go.Proofs.Ytdmliddihhgfaaa
