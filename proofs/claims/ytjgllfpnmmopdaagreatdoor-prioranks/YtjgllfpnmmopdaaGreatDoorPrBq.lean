/-
  The priority walked: the package's, the reference's.
-/
import Derived.Test.YtjgllfpnmmopdaaGreatDoorXpm
import Derived.Deep.RegionHeld3
import Derived.WalkSmall
namespace Go.Proofs.YtjgllfpnmmopdaaGreatDoor
open Go.RowKit Wd Cg
theorem prioV_no1 {c : Cf} {now sub nodes f : Int} (h : ¬ chkZ c = 0) : prioV c now sub nodes f = 0 := if_neg (fun k => h k.1)
theorem prioV_no2 {c : Cf} {now sub nodes f : Int} (h : ¬ Wts c now sub nodes) : prioV c now sub nodes f = 0 := if_neg (fun k => h k.2.1)
theorem prioV_no3 {c : Cf} {now sub nodes f : Int} (h : ¬ f ≤ 9223372036854775808) : prioV c now sub nodes f = 0 := if_neg (fun k => h k.2.2)
theorem iwrap_in {n : Int} (h : -9223372036854775808 ≤ n ∧ n ≤ 9223372036854775807) : IntKind.i64.wrap n = n := by rw [IntKind.wrap_i64]; omega
theorem prio_wrap {a s d n p : Int} (h : (0 ≤ d ∧ d ≤ 1099511627776) ∧ (0 ≤ a * d ∧ a * d ≤ 1152921504606846976) ∧ (0 ≤ p ∧ p ≤ 1048576) ∧ (0 ≤ s * n ∧ s * n ≤ 268435456)) :
    IntKind.i64.wrap (IntKind.i64.wrap (IntKind.i64.wrap (a * IntKind.i64.wrap d) + p) + IntKind.i64.wrap (s * n)) = a * d + p + s * n := by
  rw [iwrap_in (n := d) (by omega), iwrap_in (n := a * d) (by omega), iwrap_in (n := s * n) (by omega), iwrap_in (n := a * d + p) (by omega), iwrap_in (n := a * d + p + s * n) (by omega)]
theorem low_bits (f : Int) (f0 : 0 ≤ f) (f1 : f ≤ 9223372036854775808) : bits BinOp.and IntKind.u64 f 4294967295 = f % 4294967296 := by
  have h := bits_and_u64_nat f.toNat 4294967295 (by omega) (by omega)
  have h1 := Nat.and_two_pow_sub_one_eq_mod f.toNat 32
  rw [show (2 : Nat) ^ 32 - 1 = 4294967295 by decide, show (2 : Nat) ^ 32 = 4294967296 by decide] at h1
  rw [h1, Int.toNat_of_nonneg f0] at h
  have h2 : ((f.toNat % 4294967296 : Nat) : Int) = f % 4294967296 := by omega
  exact h.trans h2
theorem uwrap_in {n : Int} (h : 0 ≤ n ∧ n ≤ 18446744073709551615) : IntKind.u64.wrap n = n := by rw [IntKind.wrap_u64]; omega
theorem rpart_wrap {a f : Int} (a0 : 0 ≤ a) (a1 : a ≤ 1048576) (f0 : 0 ≤ f) (f1 : f ≤ 9223372036854775808) :
    wrap64 (IntKind.u64.wrap (a * (f / 4294967296) + IntKind.u64.wrap (a * bits BinOp.and IntKind.u64 f 4294967295) / 4294967296) / 2147483648) = partF a f := by
  have hh := half_words a0 a1 f0 f1
  have hb := part_box a0 f0 f1
  rw [low_bits f f0 f1, uwrap_in (n := a * (f % 4294967296)) (by omega), uwrap_in (n := a * (f / 4294967296) + a * (f % 4294967296) / 4294967296) (by omega), part_halves]
  unfold wrap64
  omega
set_option maxRecDepth 20000 in
theorem rpart_any {a f : Int} (a0 : 0 ≤ a) (a1 : a ≤ 1048576) (f0 : 0 ≤ f) (f1 : f ≤ 9223372036854775808) (w : World) : Calls Tryz.prog 42 #[.int .i64 a, .int .u64 f] w fun e w' => e = .returned (.int .i64 (partF a f)) ∧ Below w.heap.size w w' := by
  have HP : Hid (wrap64 (IntKind.u64.wrap (a * (f / 4294967296) + IntKind.u64.wrap (a * bits BinOp.and IntKind.u64 f 4294967295) / 4294967296) / 2147483648) = partF a f) := rpart_wrap a0 a1 f0 f1
  have hh := half_words a0 a1 f0 f1
  go_enter Tryz.func42, Tryz.ntmps42
  go_wp2
  go_ret
  exact ⟨by rw [← HP.out]; rfl, Below.refl _ _⟩
set_option maxHeartbeats 1000000 in
set_option maxRecDepth 20000 in
theorem prio_any (c : Cf) (now : Int) (j : Jb) {f : Int} (hf : Word f) (w : World) : Calls Tryz.prog 12 #[cfV c, .int .i64 now, jbV j, .int .u64 f] w fun e w' => e = .returned (.int .i64 (prioV c now j.sb j.nd f)) ∧ Below w.heap.size w w' := by
  obtain ⟨w1, hw1⟩ : ∃ w1, (w.alloc (.cells #[.int .i64 c.nodes, .int .i64 c.queue, .int .i64 c.limit, .int .i64 c.age, .int .i64 c.fair, .int .i64 c.size, .int .i64 c.period, .int .i64 c.half] 23)).alloc (.cells #[.int .i64 j.ac, .int .i64 j.nd, .int .i64 j.lm, .int .i64 j.sb, .int .i64 j.st, .int .i64 j.sr, .int .i64 j.en, j.set] 34) = w1 := ⟨_, rfl⟩
  have hp := Pb.new w c j
  rw [hw1] at hp
  have cc := pcheck_any c w1
  have HP1 : Hid (Pb w c j w1) := hp
  have HWA : Hid (∀ x, Calls Tryz.prog 31 #[cfV c, .int .i64 now, jbV j] x fun e w' => e = .returned (.bool (decide (Wts c now j.sb j.nd))) ∧ Below x.heap.size x w') := fun x => waits_any c now j x
  by_cases h1 : chkZ c = 0
  · rw [h1] at cc
    by_cases h2 : Wts c now j.sb j.nd
    · by_cases h3 : f ≤ 9223372036854775808
      · skip
        have HV : Hid (prioV c now j.sb j.nd f = c.age * (now - j.sb) + partF c.fair f + c.size * j.nd) := prioV_yes h1 h2 h3
        have r := chk_rng h1
        have HBX : Hid ((0 ≤ now - j.sb ∧ now - j.sb ≤ 1099511627776) ∧ (0 ≤ c.age * (now - j.sb) ∧ c.age * (now - j.sb) ≤ 1152921504606846976) ∧ (0 ≤ partF c.fair f ∧ partF c.fair f ≤ 1048576) ∧ (0 ≤ c.size * j.nd ∧ c.size * j.nd ≤ 268435456)) := prio_box r h2 hf.1 h3
        have HPA : Hid (∀ x, Calls Tryz.prog 32 #[.int .i64 c.fair, .int .u64 f] x fun e w' => e = .returned (.int .i64 (partF c.fair f)) ∧ Below x.heap.size x w') := fun x => ppart_any r.f0 r.f1 hf.1 h3 x
        rw [decide_eq_true h2] at HWA
        have h3' : ¬ 9223372036854775808 < f := by omega
        clear h1 h2 h3 r hf
        unfold cfV jbV at *
        obtain ⟨q0, q1, q2, q3, q4, q5, q6, q7, q8, q9, q10, q11, q12, q13, q14, q15, _, _⟩ := id hp
        clear hp
        go_enter Tryz.func12, Tryz.ntmps12
        go_wp2_with fail
        refine cc.mono ?_
        rintro e x1 ⟨rfl, hb1⟩
        have HP2 : Hid (Pb w c j x1) := HP1.out.below hb1
        clear cc hb1 HP1 q0 q1 q2 q3 q4 q5 q6 q7 q8 q9 q10 q11 q12 q13 q14 q15 hw1
        obtain ⟨q0, q1, q2, q3, q4, q5, q6, q7, q8, q9, q10, q11, q12, q13, q14, q15, _, _⟩ := id HP2.out
        have c2 := HWA.out x1
        go_wp2_with fail
        refine c2.mono ?_
        rintro e x2 ⟨rfl, hb2⟩
        have HP3 : Hid (Pb w c j x2) := HP2.out.below hb2
        clear c2 hb2 HP2 q0 q1 q2 q3 q4 q5 q6 q7 q8 q9 q10 q11 q12 q13 q14 q15
        have HX2 : Hid (x2.drew.cell? ⟨w.heap.size, 3, none⟩ = some (.int .i64 c.age) ∧ x2.drew.cell? ⟨w.heap.size, 4, none⟩ = some (.int .i64 c.fair) ∧ x2.drew.cell? ⟨w.heap.size, 5, none⟩ = some (.int .i64 c.size) ∧ x2.drew.cell? ⟨w.heap.size + 1, 3, none⟩ = some (.int .i64 j.sb) ∧ x2.drew.cell? ⟨w.heap.size + 1, 1, none⟩ = some (.int .i64 j.nd)) := ⟨HP3.out.c3, HP3.out.c4, HP3.out.c5, HP3.out.j3, HP3.out.j1⟩
        have c3 := HPA.out x2.drew
        go_upto_region 3 with fail
        go_region_held3 (fun x => x.cell? ⟨w.heap.size, 3, none⟩ = some (.int .i64 c.age) ∧ x.cell? ⟨w.heap.size, 4, none⟩ = some (.int .i64 c.fair) ∧ x.cell? ⟨w.heap.size, 5, none⟩ = some (.int .i64 c.size) ∧ x.cell? ⟨w.heap.size + 1, 3, none⟩ = some (.int .i64 j.sb) ∧ x.cell? ⟨w.heap.size + 1, 1, none⟩ = some (.int .i64 j.nd)) (first | exact HX2.out | exact HX5.out) (first | (go_at_call 32; refine c3.mono ?_; rintro e x5 ⟨rfl, hb5⟩; have HP5 : Hid (Pb w c j x5) := HP3.out.below (((Below.refl _ x2).drew).trans hb5); have HX5 : Hid (x5.cell? ⟨w.heap.size, 3, none⟩ = some (.int .i64 c.age) ∧ x5.cell? ⟨w.heap.size, 4, none⟩ = some (.int .i64 c.fair) ∧ x5.cell? ⟨w.heap.size, 5, none⟩ = some (.int .i64 c.size) ∧ x5.cell? ⟨w.heap.size + 1, 3, none⟩ = some (.int .i64 j.sb) ∧ x5.cell? ⟨w.heap.size + 1, 1, none⟩ = some (.int .i64 j.nd)) := ⟨HP5.out.c3, HP5.out.c4, HP5.out.c5, HP5.out.j3, HP5.out.j1⟩))
        have HBB : Hid (Below w.heap.size w x5) := HP5.out.bel
        clear HP5 HX5 c3 HX2
        go_wp2
        go_ret
        exact ⟨by rw [HV.out]; exact congrArg (fun v => Ending.returned (Value.int IntKind.i64 v)) (prio_wrap HBX.out), HBB.out⟩
      · skip
        have HV : Hid (prioV c now j.sb j.nd f = 0) := prioV_no3 h3
        rw [decide_eq_true h2] at HWA
        have h3' : 9223372036854775808 < f := by omega
        clear h1 h2 h3 hf
        unfold cfV jbV at *
        obtain ⟨q0, q1, q2, q3, q4, q5, q6, q7, q8, q9, q10, q11, q12, q13, q14, q15, _, _⟩ := id hp
        clear hp
        go_enter Tryz.func12, Tryz.ntmps12
        go_wp2_with fail
        refine cc.mono ?_
        rintro e x1 ⟨rfl, hb1⟩
        have HP2 : Hid (Pb w c j x1) := HP1.out.below hb1
        clear cc hb1 HP1 q0 q1 q2 q3 q4 q5 q6 q7 q8 q9 q10 q11 q12 q13 q14 q15 hw1
        obtain ⟨q0, q1, q2, q3, q4, q5, q6, q7, q8, q9, q10, q11, q12, q13, q14, q15, _, _⟩ := id HP2.out
        have c2 := HWA.out x1
        go_wp2_with fail
        refine c2.mono ?_
        rintro e x2 ⟨rfl, hb2⟩
        have HP3 : Hid (Pb w c j x2) := HP2.out.below hb2
        clear c2 hb2 HP2 q0 q1 q2 q3 q4 q5 q6 q7 q8 q9 q10 q11 q12 q13 q14 q15
        have HBB : Hid (Below w.heap.size w x2) := HP3.out.bel
        go_wp2
        go_ret
        exact ⟨by rw [HV.out]; rfl, HBB.out⟩
    · skip
      have HV : Hid (prioV c now j.sb j.nd f = 0) := prioV_no2 h2
      rw [decide_eq_false h2] at HWA
      clear h1 h2 hf
      unfold cfV jbV at *
      obtain ⟨q0, q1, q2, q3, q4, q5, q6, q7, q8, q9, q10, q11, q12, q13, q14, q15, _, _⟩ := id hp
      clear hp
      go_enter Tryz.func12, Tryz.ntmps12
      go_wp2_with fail
      refine cc.mono ?_
      rintro e x1 ⟨rfl, hb1⟩
      have HP2 : Hid (Pb w c j x1) := HP1.out.below hb1
      clear cc hb1 HP1 q0 q1 q2 q3 q4 q5 q6 q7 q8 q9 q10 q11 q12 q13 q14 q15 hw1
      obtain ⟨q0, q1, q2, q3, q4, q5, q6, q7, q8, q9, q10, q11, q12, q13, q14, q15, _, _⟩ := id HP2.out
      have c2 := HWA.out x1
      go_wp2_with fail
      refine c2.mono ?_
      rintro e x2 ⟨rfl, hb2⟩
      have HP3 : Hid (Pb w c j x2) := HP2.out.below hb2
      clear c2 hb2 HP2 q0 q1 q2 q3 q4 q5 q6 q7 q8 q9 q10 q11 q12 q13 q14 q15
      have HBB : Hid (Below w.heap.size w x2) := HP3.out.bel
      go_wp2
      go_ret
      exact ⟨by rw [HV.out]; rfl, HBB.out⟩
  · skip
    have HV : Hid (prioV c now j.sb j.nd f = 0) := prioV_no1 h1
    have hne : (chkZ c != 0) = true := by simpa using h1
    clear hf
    generalize chkZ c = e0 at *
    unfold cfV jbV at *
    obtain ⟨q0, q1, q2, q3, q4, q5, q6, q7, q8, q9, q10, q11, q12, q13, q14, q15, _, _⟩ := id hp
    clear hp
    go_enter Tryz.func12, Tryz.ntmps12
    go_wp2_with fail
    refine cc.mono ?_
    rintro e x1 ⟨rfl, hb1⟩
    have HP2 : Hid (Pb w c j x1) := HP1.out.below hb1
    clear cc hb1 HP1 q0 q1 q2 q3 q4 q5 q6 q7 q8 q9 q10 q11 q12 q13 q14 q15 hw1
    obtain ⟨q0, q1, q2, q3, q4, q5, q6, q7, q8, q9, q10, q11, q12, q13, q14, q15, _, _⟩ := id HP2.out
    have HBB : Hid (Below w.heap.size w x1) := HP2.out.bel
    go_wp2
    go_ret
    exact ⟨by rw [HV.out]; rfl, HBB.out⟩
set_option maxHeartbeats 1000000 in
set_option maxRecDepth 20000 in
theorem rprio_any (c : Cf) (now : Int) (j : Jb) {f : Int} (hf : Word f) (w : World) : Calls Tryz.prog 19 #[cfV c, .int .i64 now, jbV j, .int .u64 f] w fun e w' => e = .returned (.int .i64 (prioV c now j.sb j.nd f)) ∧ Below w.heap.size w w' := by
  obtain ⟨w1, hw1⟩ : ∃ w1, (w.alloc (.cells #[.int .i64 c.nodes, .int .i64 c.queue, .int .i64 c.limit, .int .i64 c.age, .int .i64 c.fair, .int .i64 c.size, .int .i64 c.period, .int .i64 c.half] 23)).alloc (.cells #[.int .i64 j.ac, .int .i64 j.nd, .int .i64 j.lm, .int .i64 j.sb, .int .i64 j.st, .int .i64 j.sr, .int .i64 j.en, j.set] 34) = w1 := ⟨_, rfl⟩
  have hp := Pb.new w c j
  rw [hw1] at hp
  have cc := rcheck_any c w1
  have HP1 : Hid (Pb w c j w1) := hp
  by_cases h1 : chkZ c = 0
  · rw [h1] at cc
    by_cases k0 : now < 0
    · skip
      have HV : Hid (prioV c now j.sb j.nd f = 0) := prioV_no2 (fun h => absurd k0 (by have := h.w0; have := h.w1; omega))
      clear hf
      unfold cfV jbV at *
      obtain ⟨q0, q1, q2, q3, q4, q5, q6, q7, q8, q9, q10, q11, q12, q13, q14, q15, _, _⟩ := id hp
      clear hp
      go_enter Tryz.func19, Tryz.ntmps19
      go_wp2_with fail
      refine cc.mono ?_
      rintro e x1 ⟨rfl, hb1⟩
      have HP2 : Hid (Pb w c j x1) := HP1.out.below hb1
      clear cc hb1 HP1 q0 q1 q2 q3 q4 q5 q6 q7 q8 q9 q10 q11 q12 q13 q14 q15 hw1
      obtain ⟨q0, q1, q2, q3, q4, q5, q6, q7, q8, q9, q10, q11, q12, q13, q14, q15, _, _⟩ := id HP2.out
      have HBB : Hid (Below w.heap.size w x1) := HP2.out.bel
      go_wp2
      go_ret
      exact ⟨by rw [HV.out]; rfl, HBB.out⟩
    by_cases k1 : 1099511627776 < now
    · skip
      have HV : Hid (prioV c now j.sb j.nd f = 0) := prioV_no2 (fun h => absurd k1 (by have := h.w2; omega))
      clear hf
      unfold cfV jbV at *
      obtain ⟨q0, q1, q2, q3, q4, q5, q6, q7, q8, q9, q10, q11, q12, q13, q14, q15, _, _⟩ := id hp
      clear hp
      go_enter Tryz.func19, Tryz.ntmps19
      go_wp2_with fail
      refine cc.mono ?_
      rintro e x1 ⟨rfl, hb1⟩
      have HP2 : Hid (Pb w c j x1) := HP1.out.below hb1
      clear cc hb1 HP1 q0 q1 q2 q3 q4 q5 q6 q7 q8 q9 q10 q11 q12 q13 q14 q15 hw1
      obtain ⟨q0, q1, q2, q3, q4, q5, q6, q7, q8, q9, q10, q11, q12, q13, q14, q15, _, _⟩ := id HP2.out
      have HBB : Hid (Below w.heap.size w x1) := HP2.out.bel
      go_wp2
      go_ret
      exact ⟨by rw [HV.out]; rfl, HBB.out⟩
    by_cases k2 : j.sb < 0
    · skip
      have HV : Hid (prioV c now j.sb j.nd f = 0) := prioV_no2 (fun h => absurd k2 (by have := h.w0; omega))
      clear hf
      unfold cfV jbV at *
      obtain ⟨q0, q1, q2, q3, q4, q5, q6, q7, q8, q9, q10, q11, q12, q13, q14, q15, _, _⟩ := id hp
      clear hp
      go_enter Tryz.func19, Tryz.ntmps19
      go_wp2_with fail
      refine cc.mono ?_
      rintro e x1 ⟨rfl, hb1⟩
      have HP2 : Hid (Pb w c j x1) := HP1.out.below hb1
      clear cc hb1 HP1 q0 q1 q2 q3 q4 q5 q6 q7 q8 q9 q10 q11 q12 q13 q14 q15 hw1
      obtain ⟨q0, q1, q2, q3, q4, q5, q6, q7, q8, q9, q10, q11, q12, q13, q14, q15, _, _⟩ := id HP2.out
      have HBB : Hid (Below w.heap.size w x1) := HP2.out.bel
      go_wp2
      go_ret
      exact ⟨by rw [HV.out]; rfl, HBB.out⟩
    by_cases k3 : now < j.sb
    · skip
      have HV : Hid (prioV c now j.sb j.nd f = 0) := prioV_no2 (fun h => absurd k3 (by have := h.w1; omega))
      clear hf
      unfold cfV jbV at *
      obtain ⟨q0, q1, q2, q3, q4, q5, q6, q7, q8, q9, q10, q11, q12, q13, q14, q15, _, _⟩ := id hp
      clear hp
      go_enter Tryz.func19, Tryz.ntmps19
      go_wp2_with fail
      refine cc.mono ?_
      rintro e x1 ⟨rfl, hb1⟩
      have HP2 : Hid (Pb w c j x1) := HP1.out.below hb1
      clear cc hb1 HP1 q0 q1 q2 q3 q4 q5 q6 q7 q8 q9 q10 q11 q12 q13 q14 q15 hw1
      obtain ⟨q0, q1, q2, q3, q4, q5, q6, q7, q8, q9, q10, q11, q12, q13, q14, q15, _, _⟩ := id HP2.out
      have HBB : Hid (Below w.heap.size w x1) := HP2.out.bel
      go_wp2
      go_ret
      exact ⟨by rw [HV.out]; rfl, HBB.out⟩
    by_cases k4 : j.nd < 1
    · skip
      have HV : Hid (prioV c now j.sb j.nd f = 0) := prioV_no2 (fun h => absurd k4 (by have := h.w3; omega))
      clear hf
      unfold cfV jbV at *
      obtain ⟨q0, q1, q2, q3, q4, q5, q6, q7, q8, q9, q10, q11, q12, q13, q14, q15, _, _⟩ := id hp
      clear hp
      go_enter Tryz.func19, Tryz.ntmps19
      go_wp2_with fail
      refine cc.mono ?_
      rintro e x1 ⟨rfl, hb1⟩
      have HP2 : Hid (Pb w c j x1) := HP1.out.below hb1
      clear cc hb1 HP1 q0 q1 q2 q3 q4 q5 q6 q7 q8 q9 q10 q11 q12 q13 q14 q15 hw1
      obtain ⟨q0, q1, q2, q3, q4, q5, q6, q7, q8, q9, q10, q11, q12, q13, q14, q15, _, _⟩ := id HP2.out
      have HBB : Hid (Below w.heap.size w x1) := HP2.out.bel
      go_wp2
      go_ret
      exact ⟨by rw [HV.out]; rfl, HBB.out⟩
    by_cases k5 : c.nodes < j.nd
    · skip
      have HV : Hid (prioV c now j.sb j.nd f = 0) := prioV_no2 (fun h => absurd k5 (by have := h.w4; omega))
      clear hf
      unfold cfV jbV at *
      obtain ⟨q0, q1, q2, q3, q4, q5, q6, q7, q8, q9, q10, q11, q12, q13, q14, q15, _, _⟩ := id hp
      clear hp
      go_enter Tryz.func19, Tryz.ntmps19
      go_wp2_with fail
      refine cc.mono ?_
      rintro e x1 ⟨rfl, hb1⟩
      have HP2 : Hid (Pb w c j x1) := HP1.out.below hb1
      clear cc hb1 HP1 q0 q1 q2 q3 q4 q5 q6 q7 q8 q9 q10 q11 q12 q13 q14 q15 hw1
      obtain ⟨q0, q1, q2, q3, q4, q5, q6, q7, q8, q9, q10, q11, q12, q13, q14, q15, _, _⟩ := id HP2.out
      have HBB : Hid (Below w.heap.size w x1) := HP2.out.bel
      go_wp2
      go_ret
      exact ⟨by rw [HV.out]; rfl, HBB.out⟩
    have h2 : Wts c now j.sb j.nd := ⟨by omega, by omega, by omega, by omega, by omega⟩
    by_cases h3 : f ≤ 9223372036854775808
    · skip
      have HV : Hid (prioV c now j.sb j.nd f = c.age * (now - j.sb) + partF c.fair f + c.size * j.nd) := prioV_yes h1 h2 h3
      have r := chk_rng h1
      have HBX : Hid ((0 ≤ now - j.sb ∧ now - j.sb ≤ 1099511627776) ∧ (0 ≤ c.age * (now - j.sb) ∧ c.age * (now - j.sb) ≤ 1152921504606846976) ∧ (0 ≤ partF c.fair f ∧ partF c.fair f ≤ 1048576) ∧ (0 ≤ c.size * j.nd ∧ c.size * j.nd ≤ 268435456)) := prio_box r h2 hf.1 h3
      have HPA : Hid (∀ x, Calls Tryz.prog 42 #[.int .i64 c.fair, .int .u64 f] x fun e w' => e = .returned (.int .i64 (partF c.fair f)) ∧ Below x.heap.size x w') := fun x => rpart_any r.f0 r.f1 hf.1 h3 x
      have h3' : ¬ 9223372036854775808 < f := by omega
      clear h1 h2 h3 r hf
      unfold cfV jbV at *
      obtain ⟨q0, q1, q2, q3, q4, q5, q6, q7, q8, q9, q10, q11, q12, q13, q14, q15, _, _⟩ := id hp
      clear hp
      go_enter Tryz.func19, Tryz.ntmps19
      go_wp2_with fail
      refine cc.mono ?_
      rintro e x1 ⟨rfl, hb1⟩
      have HP2 : Hid (Pb w c j x1) := HP1.out.below hb1
      clear cc hb1 HP1 q0 q1 q2 q3 q4 q5 q6 q7 q8 q9 q10 q11 q12 q13 q14 q15 hw1
      obtain ⟨q0, q1, q2, q3, q4, q5, q6, q7, q8, q9, q10, q11, q12, q13, q14, q15, _, _⟩ := id HP2.out
      have HP3 : Hid (Pb w c j x1) := HP2.out
      clear HP2
      have HX2 : Hid (x1.drew.cell? ⟨w.heap.size, 3, none⟩ = some (.int .i64 c.age) ∧ x1.drew.cell? ⟨w.heap.size, 4, none⟩ = some (.int .i64 c.fair) ∧ x1.drew.cell? ⟨w.heap.size, 5, none⟩ = some (.int .i64 c.size) ∧ x1.drew.cell? ⟨w.heap.size + 1, 3, none⟩ = some (.int .i64 j.sb) ∧ x1.drew.cell? ⟨w.heap.size + 1, 1, none⟩ = some (.int .i64 j.nd)) := ⟨HP3.out.c3, HP3.out.c4, HP3.out.c5, HP3.out.j3, HP3.out.j1⟩
      have c3 := HPA.out x1.drew
      go_upto_region 3 with fail
      go_region_held3 (fun x => x.cell? ⟨w.heap.size, 3, none⟩ = some (.int .i64 c.age) ∧ x.cell? ⟨w.heap.size, 4, none⟩ = some (.int .i64 c.fair) ∧ x.cell? ⟨w.heap.size, 5, none⟩ = some (.int .i64 c.size) ∧ x.cell? ⟨w.heap.size + 1, 3, none⟩ = some (.int .i64 j.sb) ∧ x.cell? ⟨w.heap.size + 1, 1, none⟩ = some (.int .i64 j.nd)) (first | exact HX2.out | exact HX5.out) (first | (go_at_call 42; refine c3.mono ?_; rintro e x5 ⟨rfl, hb5⟩; have HP5 : Hid (Pb w c j x5) := HP3.out.below (((Below.refl _ x1).drew).trans hb5); have HX5 : Hid (x5.cell? ⟨w.heap.size, 3, none⟩ = some (.int .i64 c.age) ∧ x5.cell? ⟨w.heap.size, 4, none⟩ = some (.int .i64 c.fair) ∧ x5.cell? ⟨w.heap.size, 5, none⟩ = some (.int .i64 c.size) ∧ x5.cell? ⟨w.heap.size + 1, 3, none⟩ = some (.int .i64 j.sb) ∧ x5.cell? ⟨w.heap.size + 1, 1, none⟩ = some (.int .i64 j.nd)) := ⟨HP5.out.c3, HP5.out.c4, HP5.out.c5, HP5.out.j3, HP5.out.j1⟩))
      have HBB : Hid (Below w.heap.size w x5) := HP5.out.bel
      clear HP5 HX5 c3 HX2
      go_wp2
      go_ret
      exact ⟨by rw [HV.out]; exact congrArg (fun v => Ending.returned (Value.int IntKind.i64 v)) (prio_wrap HBX.out), HBB.out⟩
    · skip
      have HV : Hid (prioV c now j.sb j.nd f = 0) := prioV_no3 h3
      have h3' : 9223372036854775808 < f := by omega
      clear h1 h2 h3 hf
      unfold cfV jbV at *
      obtain ⟨q0, q1, q2, q3, q4, q5, q6, q7, q8, q9, q10, q11, q12, q13, q14, q15, _, _⟩ := id hp
      clear hp
      go_enter Tryz.func19, Tryz.ntmps19
      go_wp2_with fail
      refine cc.mono ?_
      rintro e x1 ⟨rfl, hb1⟩
      have HP2 : Hid (Pb w c j x1) := HP1.out.below hb1
      clear cc hb1 HP1 q0 q1 q2 q3 q4 q5 q6 q7 q8 q9 q10 q11 q12 q13 q14 q15 hw1
      obtain ⟨q0, q1, q2, q3, q4, q5, q6, q7, q8, q9, q10, q11, q12, q13, q14, q15, _, _⟩ := id HP2.out
      have HBB : Hid (Below w.heap.size w x1) := HP2.out.bel
      go_wp2
      go_ret
      exact ⟨by rw [HV.out]; rfl, HBB.out⟩
  · skip
    have HV : Hid (prioV c now j.sb j.nd f = 0) := prioV_no1 h1
    have hne : (chkZ c != 0) = true := by simpa using h1
    clear hf
    generalize chkZ c = e0 at *
    unfold cfV jbV at *
    obtain ⟨q0, q1, q2, q3, q4, q5, q6, q7, q8, q9, q10, q11, q12, q13, q14, q15, _, _⟩ := id hp
    clear hp
    go_enter Tryz.func19, Tryz.ntmps19
    go_wp2_with fail
    refine cc.mono ?_
    rintro e x1 ⟨rfl, hb1⟩
    have HP2 : Hid (Pb w c j x1) := HP1.out.below hb1
    clear cc hb1 HP1 q0 q1 q2 q3 q4 q5 q6 q7 q8 q9 q10 q11 q12 q13 q14 q15 hw1
    obtain ⟨q0, q1, q2, q3, q4, q5, q6, q7, q8, q9, q10, q11, q12, q13, q14, q15, _, _⟩ := id HP2.out
    have HBB : Hid (Below w.heap.size w x1) := HP2.out.bel
    go_wp2
    go_ret
    exact ⟨by rw [HV.out]; rfl, HBB.out⟩
end Go.Proofs.YtjgllfpnmmopdaaGreatDoor
