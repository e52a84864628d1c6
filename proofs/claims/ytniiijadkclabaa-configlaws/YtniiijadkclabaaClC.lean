/-
  LAYER 11: ConfigNumbers, ConfigTells walked.
-/
import Derived.Test.YtniiijadkclabaaClB
namespace Go.Proofs.Ytniiijadkclabaa
open Go.RowKit Wd Cg

theorem numbers_walk (A : Asks) (w : World) : Calls Try.prog 5 #[] w fun e w' => e = .returned (.bool true) ∧ Below w.heap.size w w' := by
  go_enter Try.func5, Try.ntmps5
  go_wp2_with fail
  refine (shown_any A _).mono ?_
  rintro e w' ⟨rfl, hb⟩
  go_wp2
  go_ret
  exact ⟨rfl, hb⟩
theorem rLead_if (c : Cf) (w : World) : Calls Try.prog 12 #[cfV c] w fun e w' => e = .returned (.int .i64 (if chkZ c = 0 then leadZ c else 0)) ∧ Below w.heap.size w w' := by
  by_cases h : chkZ c = 0
  · rw [if_pos h]; exact rLead_yes h w
  · rw [if_neg h]; exact rLead_no h w
theorem rBound_if (c : Cf) (w : World) : Calls Try.prog 14 #[cfV c] w fun e w' => e = .returned (.int .i64 (if chkZ c = 0 then boundZ c else 0)) ∧ Below w.heap.size w w' := by
  by_cases h : chkZ c = 0
  · rw [if_pos h]; exact rBound_yes h w
  · rw [if_neg h]; exact rBound_no h w
theorem rMost_if (c : Cf) (w : World) : Calls Try.prog 16 #[cfV c] w fun e w' => e = .returned (.int .u64 (if chkZ c = 0 then mZ c * 4294967296 else 0)) ∧ Below w.heap.size w w' := by
  by_cases h : chkZ c = 0
  · rw [if_pos h]; exact rMost_yes h w
  · rw [if_neg h]; exact rMost_no h w
theorem rFloor_if (c : Cf) (w : World) : Calls Try.prog 18 #[cfV c] w fun e w' => e = .returned (.int .u64 (if chkZ c = 0 then cZ c * 4294967296 else 0)) ∧ Below w.heap.size w w' := by
  by_cases h : chkZ c = 0
  · rw [if_pos h]; exact rFloor_yes h w
  · rw [if_neg h]; exact rFloor_no h w
theorem rOff_if (c : Cf) (w : World) : Calls Try.prog 8 #[cfV c] w fun e w' => e = .returned (.tuple #[nu (if chkZ c = 0 then offN c else 0), nu (if chkZ c = 0 then offD c else 0)]) ∧ Below w.heap.size w w' := by
  by_cases h : chkZ c = 0
  · rw [if_pos h, if_pos h]; exact rOff_yes h w
  · rw [if_neg h, if_neg h]; exact rOff_no h w
theorem num_any (a b : Int) (w : World) : Calls Try.prog 19 #[.agg #[.int .u64 a, .int .u64 b]] w fun e w' => e = .returned (.agg #[.int .u64 a, .int .u64 b]) ∧ Below w.heap.size w w' := by
  go_enter Try.func19, Try.ntmps19
  go_wp2
  exact bodyPost_ret (v := .agg #[.int .u64 a, .int .u64 b]) (by simp [results, Try.results19, go_sem]) rfl ⟨rfl, by repeat first | exact Below.refl _ _ | refine Below.setCell ?_ (by simp) _ | refine Below.alloc ?_ (by simp) _⟩
structure Nu (w : World) (k : Nat) (v : Int) : Prop where
  c0 : w.cell? ⟨k, 0, none⟩ = some (.int .u64 (hiW v))
  c1 : w.cell? ⟨k, 1, none⟩ = some (.int .u64 (loW v))
theorem Nu.keep {w w' : World} {k : Nat} {v : Int} (h : Nu w k v) (b : Below w.heap.size w w') : Nu w' k v := ⟨keepC b h.c0, keepC b h.c1⟩
theorem Nu.new (w : World) (v : Int) (t : TypeId) : Nu (w.alloc (.cells #[.int .u64 (hiW v), .int .u64 (loW v)] t)) w.heap.size v := ⟨by simp, by simp⟩
def St7 (w : World) (k2 k3 : Nat) (N0 D0 : Int) (c : Cf) (x : World) : Prop := St w w.heap.size c x ∧ x.cell? ⟨k2, 0, none⟩ = some (.int .u64 (hiW N0)) ∧ x.cell? ⟨k2, 1, none⟩ = some (.int .u64 (loW N0)) ∧ x.cell? ⟨k2 + 1, 0, none⟩ = some (.int .u64 (hiW D0)) ∧ x.cell? ⟨k2 + 1, 1, none⟩ = some (.int .u64 (loW D0)) ∧ x.cell? ⟨k3, 0, none⟩ = some (.int .u64 (hiW N0)) ∧ x.cell? ⟨k3, 1, none⟩ = some (.int .u64 (loW N0)) ∧ x.cell? ⟨k3 + 1, 0, none⟩ = some (.int .u64 (hiW D0)) ∧ x.cell? ⟨k3 + 1, 1, none⟩ = some (.int .u64 (loW D0))
theorem keep7 {w x y : World} {k2 k3 : Nat} {N0 D0 : Int} {c : Cf} (h : St7 w k2 k3 N0 D0 c x) (b : Below x.heap.size x y) : St7 w k2 k3 N0 D0 c y := by
  obtain ⟨h0, a, b1, c1, d, e, f, g, i⟩ := h
  exact ⟨keepW h0 b, keepC b a, keepC b b1, keepC b c1, keepC b d, keepC b e, keepC b f, keepC b g, keepC b i⟩
set_option maxHeartbeats 8000000 in
theorem tells_walk (A : Asks) {c : Cf} (hf : FitC c) (w : World) : Calls Try.prog 3 #[cfV c] w fun e w' => e = .returned (.bool true) ∧ Below w.heap.size w w' := by
  have p1 := A.check hf
  have p2 := A.lead hf
  have p3 := A.bound hf
  have p4 := A.most hf
  have p5 := A.floor hf
  have p6 := A.off hf
  have q1 := rcheck_any c
  have q2 := rLead_if c
  have q3 := rBound_if c
  have q4 := rMost_if c
  have q5 := rFloor_if c
  have q6 := rOff_if c
  generalize (if chkZ c = 0 then offN c else 0) = N0 at *
  generalize (if chkZ c = 0 then offD c else 0) = D0 at *
  generalize (if chkZ c = 0 then leadZ c else 0) = L0 at *
  generalize (if chkZ c = 0 then boundZ c else 0) = B0 at *
  generalize (if chkZ c = 0 then mZ c * 4294967296 else 0) = M0 at *
  generalize (if chkZ c = 0 then cZ c * 4294967296 else 0) = F0 at *
  generalize chkZ c = E0 at *
  unfold cfV at *
  have hS := St.new w c
  go_enter Try.func3, Try.ntmps3
  go_wp2_with fail
  refine (shown_any A _).mono ?_
  rintro e w1 ⟨rfl, b⟩
  replace hS := keepW hS b
  clear b
  obtain ⟨s0, s1, s2, s3, s4, s5, s6, s7, _, _⟩ := id hS
  go_wp2_with fail
  refine (p6 _).mono ?_
  rintro e w2 ⟨rfl, b⟩
  replace hS := keepW hS b
  clear b s0 s1 s2 s3 s4 s5 s6 s7
  have bA : Below w2.heap.size w2 (w2.alloc (.cells #[.int .u64 (hiW N0), .int .u64 (loW N0)] 27)) := (Below.refl _ _).alloc (Nat.le_refl _) _
  have bB : Below (w2.alloc (.cells #[.int .u64 (hiW N0), .int .u64 (loW N0)] 27)).heap.size (w2.alloc (.cells #[.int .u64 (hiW N0), .int .u64 (loW N0)] 27)) ((w2.alloc (.cells #[.int .u64 (hiW N0), .int .u64 (loW N0)] 27)).alloc (.cells #[.int .u64 (hiW D0), .int .u64 (loW D0)] 27)) := (Below.refl _ _).alloc (Nat.le_refl _) _
  have n2 := (Nu.new w2 N0 27).keep bB
  have m2 := Nu.new (w2.alloc (.cells #[.int .u64 (hiW N0), .int .u64 (loW N0)] 27)) D0 27
  rw [World.size_alloc] at m2
  replace hS := keepW (keepW hS bA) bB
  go_upto_region 3 with fail
  generalize (w2.alloc (.cells #[.int .u64 (hiW N0), .int .u64 (loW N0)] 27)).alloc (.cells #[.int .u64 (hiW D0), .int .u64 (loW D0)] 27) = v2 at *
  clear bA bB
  generalize w2.heap.size = k2 at *
  obtain ⟨s0, s1, s2, s3, s4, s5, s6, s7, _, _⟩ := id hS
  go_wp2_with fail
  refine (q6 _).mono ?_
  rintro e w3 ⟨rfl, b⟩
  replace hS := keepW hS b
  replace n2 := n2.keep b
  replace m2 := m2.keep b
  clear b s0 s1 s2 s3 s4 s5 s6 s7
  have bA : Below w3.heap.size w3 (w3.alloc (.cells #[.int .u64 (hiW N0), .int .u64 (loW N0)] 30)) := (Below.refl _ _).alloc (Nat.le_refl _) _
  have bB : Below (w3.alloc (.cells #[.int .u64 (hiW N0), .int .u64 (loW N0)] 30)).heap.size (w3.alloc (.cells #[.int .u64 (hiW N0), .int .u64 (loW N0)] 30)) ((w3.alloc (.cells #[.int .u64 (hiW N0), .int .u64 (loW N0)] 30)).alloc (.cells #[.int .u64 (hiW D0), .int .u64 (loW D0)] 30)) := (Below.refl _ _).alloc (Nat.le_refl _) _
  have n3 := (Nu.new w3 N0 30).keep bB
  have m3 := Nu.new (w3.alloc (.cells #[.int .u64 (hiW N0), .int .u64 (loW N0)] 30)) D0 30
  rw [World.size_alloc] at m3
  replace hS := keepW (keepW hS bA) bB
  replace n2 := (n2.keep bA).keep bB
  replace m2 := (m2.keep bA).keep bB
  go_upto_region 4 with fail
  generalize (w3.alloc (.cells #[.int .u64 (hiW N0), .int .u64 (loW N0)] 30)).alloc (.cells #[.int .u64 (hiW D0), .int .u64 (loW D0)] 30) = v3 at *
  clear bA bB
  generalize w3.heap.size = k3 at *
  have HS : Hid (St7 w k2 k3 N0 D0 c v3.drew) := keep7 ⟨hS, n2.c0, n2.c1, m2.c0, m2.c1, n3.c0, n3.c1, m3.c0, m3.c1⟩ ((Below.refl _ _).drew)
  clear hS n2 m2 n3 m3
  go_region_held3 (fun x => (x.cell? ⟨w.heap.size, 0, none⟩ = some (.int .i64 c.nodes) ∧ x.cell? ⟨w.heap.size, 1, none⟩ = some (.int .i64 c.queue) ∧ x.cell? ⟨w.heap.size, 2, none⟩ = some (.int .i64 c.limit) ∧ x.cell? ⟨w.heap.size, 3, none⟩ = some (.int .i64 c.age) ∧ x.cell? ⟨w.heap.size, 4, none⟩ = some (.int .i64 c.fair) ∧ x.cell? ⟨w.heap.size, 5, none⟩ = some (.int .i64 c.size) ∧ x.cell? ⟨w.heap.size, 6, none⟩ = some (.int .i64 c.period) ∧ x.cell? ⟨w.heap.size, 7, none⟩ = some (.int .i64 c.half) ∧ Below w.heap.size w x ∧ w.heap.size ≤ x.heap.size) ∧ x.cell? ⟨k2, 0, none⟩ = some (.int .u64 (hiW N0)) ∧ x.cell? ⟨k2, 1, none⟩ = some (.int .u64 (loW N0)) ∧ x.cell? ⟨k2 + 1, 0, none⟩ = some (.int .u64 (hiW D0)) ∧ x.cell? ⟨k2 + 1, 1, none⟩ = some (.int .u64 (loW D0)) ∧ x.cell? ⟨k3, 0, none⟩ = some (.int .u64 (hiW N0)) ∧ x.cell? ⟨k3, 1, none⟩ = some (.int .u64 (loW N0)) ∧ x.cell? ⟨k3 + 1, 0, none⟩ = some (.int .u64 (hiW D0)) ∧ x.cell? ⟨k3 + 1, 1, none⟩ = some (.int .u64 (loW D0))) (first | exact HS.out | exact keep7 (by assumption) (by assumption))
    (first
      | (go_at_call 9; refine (p1 _).mono ?_; rintro e x ⟨rfl, hx⟩)
      | (go_at_call 10; refine (q1 _).mono ?_; rintro e x ⟨rfl, hx⟩)
      | (go_at_call 11; refine (p2 _).mono ?_; rintro e x ⟨rfl, hx⟩)
      | (go_at_call 12; refine (q2 _).mono ?_; rintro e x ⟨rfl, hx⟩)
      | (go_at_call 13; refine (p3 _).mono ?_; rintro e x ⟨rfl, hx⟩)
      | (go_at_call 14; refine (q3 _).mono ?_; rintro e x ⟨rfl, hx⟩)
      | (go_at_call 15; refine (p4 _).mono ?_; rintro e x ⟨rfl, hx⟩)
      | (go_at_call 16; refine (q4 _).mono ?_; rintro e x ⟨rfl, hx⟩)
      | (go_at_call 17; refine (p5 _).mono ?_; rintro e x ⟨rfl, hx⟩)
      | (go_at_call 18; refine (q5 _).mono ?_; rintro e x ⟨rfl, hx⟩)
      | (go_at_call 19; refine (num_any _ _ _).mono ?_; rintro e x ⟨rfl, hx⟩))
  all_goals
    have hS : St7 w k2 k3 N0 D0 c x := by assumption
    have hB := hS.1.bel
    clear hS HS
    go_wp2
    go_ret
    exact ⟨rfl, hB⟩
end Go.Proofs.Ytniiijadkclabaa
