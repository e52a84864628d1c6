/-
  LAYER 11: ConfigLaws walked, where the config is refused.
-/
import Derived.Test.YtniiijadkclabaaClC
namespace Go.Proofs.Ytniiijadkclabaa
open Go.RowKit Wd Cg

set_option maxHeartbeats 4000000 in
set_option maxRecDepth 100000 in
theorem laws_no (A : Asks) {c : Cf} (hf : FitC c) (h : ¬ chkZ c = 0) (w : World) : Calls Try.prog 4 #[cfV c] w fun e w' => e = .returned (.bool true) ∧ Below w.heap.size w w' := by
  have p1 := A.check hf
  have p2 := A.lead hf
  have p3 := A.bound hf
  have p4 := A.most hf
  have p5 := A.floor hf
  have p6 := A.off hf
  rw [if_neg h] at p2 p3 p4 p5
  rw [if_neg h, if_neg h, show nu 0 = .agg #[.int .u64 0, .int .u64 0] from rfl] at p6
  generalize chkZ c = E0 at *
  unfold cfV at *
  have hS := St.new w c
  go_enter Try.func4, Try.ntmps4
  go_wp2_with fail
  refine (shown_any A _).mono ?_
  rintro e w1 ⟨rfl, b⟩
  replace hS := keepW hS b
  clear b
  obtain ⟨s0, s1, s2, s3, s4, s5, s6, s7, _, _⟩ := id hS
  go_wp2_with fail
  refine (p6 _).mono ?_
  rintro e w2 ⟨rfl, b⟩
  replace hS := keepW hS b
  clear b s0 s1 s2 s3 s4 s5 s6 s7
  have bA : Below w2.heap.size w2 (w2.alloc (.cells #[.int .u64 0, .int .u64 0] 27)) := (Below.refl _ _).alloc (Nat.le_refl _) _
  have bB : Below (w2.alloc (.cells #[.int .u64 0, .int .u64 0] 27)).heap.size (w2.alloc (.cells #[.int .u64 0, .int .u64 0] 27)) ((w2.alloc (.cells #[.int .u64 0, .int .u64 0] 27)).alloc (.cells #[.int .u64 0, .int .u64 0] 27)) := (Below.refl _ _).alloc (Nat.le_refl _) _
  have n2 := (Lo.new w2 0).keep bB
  have m2 := Lo.new (w2.alloc (.cells #[.int .u64 0, .int .u64 0] 27)) 0
  rw [World.size_alloc] at m2
  replace hS := keepW (keepW hS bA) bB
  go_upto_region 3 with fail
  generalize (w2.alloc (.cells #[.int .u64 0, .int .u64 0] 27)).alloc (.cells #[.int .u64 0, .int .u64 0] 27) = v2 at *
  clear bA bB
  generalize w2.heap.size = k2 at *
  obtain ⟨s0, s1, s2, s3, s4, s5, s6, s7, _, _⟩ := id hS
  go_wp2_with fail
  refine (p1 _).mono ?_
  rintro e w3 ⟨rfl, b⟩
  replace hS := keepW hS b
  replace n2 := n2.keep b
  replace m2 := m2.keep b
  clear b s0 s1 s2 s3 s4 s5 s6 s7
  obtain ⟨s0, s1, s2, s3, s4, s5, s6, s7, _, _⟩ := id hS
  go_wp2_with fail
  refine (p2 _).mono ?_
  rintro e w4 ⟨rfl, b⟩
  replace hS := keepW hS b
  replace n2 := n2.keep b
  replace m2 := m2.keep b
  clear b s0 s1 s2 s3 s4 s5 s6 s7
  obtain ⟨s0, s1, s2, s3, s4, s5, s6, s7, _, _⟩ := id hS
  go_wp2_with fail
  refine (p3 _).mono ?_
  rintro e w5 ⟨rfl, b⟩
  replace hS := keepW hS b
  replace n2 := n2.keep b
  replace m2 := m2.keep b
  clear b s0 s1 s2 s3 s4 s5 s6 s7
  obtain ⟨s0, s1, s2, s3, s4, s5, s6, s7, _, _⟩ := id hS
  go_wp2_with fail
  refine (p4 _).mono ?_
  rintro e w6 ⟨rfl, b⟩
  replace hS := keepW hS b
  replace n2 := n2.keep b
  replace m2 := m2.keep b
  clear b s0 s1 s2 s3 s4 s5 s6 s7
  obtain ⟨s0, s1, s2, s3, s4, s5, s6, s7, _, _⟩ := id hS
  go_wp2_with fail
  refine (p5 _).mono ?_
  rintro e w7 ⟨rfl, b⟩
  replace hS := keepW hS b
  replace n2 := n2.keep b
  replace m2 := m2.keep b
  clear b s0 s1 s2 s3 s4 s5 s6 s7
  obtain ⟨a0, a1⟩ := id n2
  obtain ⟨a2, a3⟩ := id m2
  have hB := hS.bel
  clear hS n2 m2
  go_wp2
  go_ret
  exact ⟨rfl, hB⟩
end Go.Proofs.Ytniiijadkclabaa
