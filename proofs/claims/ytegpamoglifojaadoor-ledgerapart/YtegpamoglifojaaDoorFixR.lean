/-
  THE CONTRACTS OF THE REFERENCE's CALLS (backfillref04).
-/
import Derived.Test.YtegpamoglifojaaDoorRefA
import Derived.Test.YtegpamoglifojaaDoorRfW
import Derived.Test.YtegpamoglifojaaDoorRefQ
import Derived.Test.YtegpamoglifojaaDoorFxB
namespace Go.Proofs.YtegpamoglifojaaDoor
open Go.RowKit Wd

theorem radd_num (u v : Int) (hu : Num u) (hv : Num v) (w : World) :
    Calls Tryd.prog 81 #[.agg #[.int .u64 (hiW u), .int .u64 (loW u)], .agg #[.int .u64 (hiW v), .int .u64 (loW v)]] w fun e w' =>
      e = .returned (.tuple #[.agg #[.int .u64 (hiW (addV u v)), .int .u64 (loW (addV u v))], .bool (addB u v)]) ∧ Below w.heap.size w w' := by
  have c := radd_any (hiW u) (loW u) (hiW v) (loW v) (hi_word hu) (lo_word u) (hi_word hv) (lo_word v) w
  rw [val_words, val_words] at c
  exact c
theorem rdiv_yes (u b : Int) (hu : Num u) (hb : Word b) (h : b ≠ 0) (w : World) :
    Calls Tryd.prog 104 #[.agg #[.int .u64 (hiW u), .int .u64 (loW u)], .int .u64 b] w fun e w' =>
      e = .returned (.tuple #[.agg #[.int .u64 (hiW (u / b)), .int .u64 (loW (u / b))], .int .u64 (u % b), .bool true]) ∧ Below w.heap.size w w' := by
  have c := rdiv_any (hiW u) (loW u) b (hi_word hu) (lo_word u) hb w
  obtain ⟨e1, e2, e3, _⟩ := div_facts hu hb h
  rw [val_words, e1, e2, e3] at c
  exact c
theorem rdiv_no (u : Int) (hu : Num u) (w : World) :
    Calls Tryd.prog 104 #[.agg #[.int .u64 (hiW u), .int .u64 (loW u)], .int .u64 0] w fun e w' =>
      e = .returned (.tuple #[.agg #[.int .u64 0, .int .u64 0], .int .u64 0, .bool false]) ∧ Below w.heap.size w w' := by
  have c := rdiv_any (hiW u) (loW u) 0 (hi_word hu) (lo_word u) ⟨by omega, by omega⟩ w
  rw [val_words] at c
  exact c

theorem small_num (u : Int) (hu : Num u) (w : World) :
    Calls Tryd.prog 97 #[.agg #[.int .u64 (hiW u), .int .u64 (loW u)]] w fun e w' => e = .returned (.tuple #[.int .u64 (narV u), .bool (narB u)]) ∧ Below w.heap.size w w' := by
  by_cases h : hiW u = 0
  · obtain ⟨e1, e2⟩ := nar_hi hu h
    rw [e1, e2, h]
    go_enter Tryd.func97, Tryd.ntmps97
    go_wp2
    go_ret2
    exact ⟨rfl, (Below.refl _ _).alloc (Nat.le_refl _) _⟩
  · obtain ⟨e1, e2⟩ := nar_no hu h
    rw [e1, e2]
    have k : 0 < hiW u := by have := (hi_word hu).1; omega
    go_enter Tryd.func97, Tryd.ntmps97
    go_wp2
    go_ret2
    exact ⟨rfl, (Below.refl _ _).alloc (Nat.le_refl _) _⟩

theorem one_num : Num 1 := ⟨by omega, by unfold top; omega⟩
/-- A number of two words that lies in block g. -/
def Twoq (w : World) (g : Nat) (x y : Int) : Prop := w.cell? ⟨g, 0, none⟩ = some (.int .u64 x) ∧ w.cell? ⟨g, 1, none⟩ = some (.int .u64 y)
theorem trans_keepq {P w1 w2 : World} (h1 : ∀ a, (P.cell? a).isSome = true → w1.cell? a = P.cell? a) (h2 : ∀ a, (w1.cell? a).isSome = true → w2.cell? a = w1.cell? a) : ∀ a, (P.cell? a).isSome = true → w2.cell? a = P.cell? a :=
  fun a h => (h2 a (by rw [h1 a h]; exact h)).trans (h1 a h)
theorem trans_keepFq {P w1 w2 : World} (h1 : ∀ a, (P.cell? a).isSome = true → w1.cell? a = P.cell? a) (f1 : ∀ a, (P.cell? a).isSome = true → w1.frozen? a = P.frozen? a) (f2 : ∀ a, (w1.cell? a).isSome = true → w2.frozen? a = w1.frozen? a) : ∀ a, (P.cell? a).isSome = true → w2.frozen? a = P.frozen? a :=
  fun a h => (f2 a (by rw [h1 a h]; exact h)).trans (f1 a h)

set_option maxHeartbeats 2000000 in
set_option maxRecDepth 20000 in
theorem rup_num (u : Int) (hu : Num u) (w : World) :
    Calls Tryd.prog 105 #[.agg #[.int .u64 (hiW u), .int .u64 (loW u)]] w fun e w' => e = .returned (.agg #[.int .u64 (hiW (addV u 1)), .int .u64 (loW (addV u 1))]) ∧ Below w.heap.size w w' := by
  go_enter Tryd.func105, Tryd.ntmps105
  go_upto_region 1 with fail
  have A0 : ((w.alloc (.cells #[.int .u64 (hiW u), .int .u64 (loW u)] 90)).alloc (.cells #[.int .u64 0, .int .u64 0] 90)).cell? ⟨w.heap.size, 0, none⟩ = some (.int .u64 (hiW u)) := by simp [go_sem]
  have A1 : ((w.alloc (.cells #[.int .u64 (hiW u), .int .u64 (loW u)] 90)).alloc (.cells #[.int .u64 0, .int .u64 0] 90)).cell? ⟨w.heap.size, 1, none⟩ = some (.int .u64 (loW u)) := by simp [go_sem]
  have B0 : ((w.alloc (.cells #[.int .u64 (hiW u), .int .u64 (loW u)] 90)).alloc (.cells #[.int .u64 0, .int .u64 0] 90)).cell? ⟨w.heap.size + 1, 0, none⟩ = some (.int .u64 0) := by simp [go_sem]
  have B1 : ((w.alloc (.cells #[.int .u64 (hiW u), .int .u64 (loW u)] 90)).alloc (.cells #[.int .u64 0, .int .u64 0] 90)).cell? ⟨w.heap.size + 1, 1, none⟩ = some (.int .u64 0) := by simp [go_sem]
  have F0 : ((w.alloc (.cells #[.int .u64 (hiW u), .int .u64 (loW u)] 90)).alloc (.cells #[.int .u64 0, .int .u64 0] 90)).frozen? ⟨w.heap.size + 1, 0, none⟩ = false := by simp [go_sem]
  have F1 : ((w.alloc (.cells #[.int .u64 (hiW u), .int .u64 (loW u)] 90)).alloc (.cells #[.int .u64 0, .int .u64 0] 90)).frozen? ⟨w.heap.size + 1, 1, none⟩ = false := by simp [go_sem]
  have hb5 : Below w.heap.size w ((w.alloc (.cells #[.int .u64 (hiW u), .int .u64 (loW u)] 90)).alloc (.cells #[.int .u64 0, .int .u64 0] 90)) := ((Below.refl _ _).alloc (Nat.le_refl _) _).alloc (by simp) _
  have z5 : w.heap.size + 1 < ((w.alloc (.cells #[.int .u64 (hiW u), .int .u64 (loW u)] 90)).alloc (.cells #[.int .u64 0, .int .u64 0] 90)).heap.size := by simp
  generalize (w.alloc (.cells #[.int .u64 (hiW u), .int .u64 (loW u)] 90)).alloc (.cells #[.int .u64 0, .int .u64 0] 90) = v0 at *
  have y0 : ¬ v0.heap.size = w.heap.size := by omega
  go_cut [3, 4] (fun p o wc => ∃ g : Nat, p = .pointer (some ⟨g, 0, none⟩) ∧ o = .bool (addB u 1) ∧ Twoq wc g (hiW (addV u 1)) (loW (addV u 1)) ∧ Below v0.heap.size v0 wc)
  case first =>
    go_region_held3 (fun w' => w'.cell? ⟨w.heap.size, 0, none⟩ = some (.int .u64 (hiW u)) ∧ w'.cell? ⟨w.heap.size, 1, none⟩ = some (.int .u64 (loW u))) (simp (maxDischargeDepth := 12) [*, World.cell?_alloc_some, World.cell?_setCell_far])
      (first
        | (go_at_call 78; refine (rof_num 1 ⟨by omega, by omega⟩ _).mono ?_; rintro e x1 ⟨rfl, hx1⟩; obtain ⟨hc1, hf1⟩ := bkeep hx1; have s1 := hx1.size; (try rw [World.size_drew] at s1); (try rw [World.size_alloc] at s1); (try rw [World.size_drew] at s1); have y1 : ¬ x1.heap.size = w.heap.size := by { omega })
        | (go_at_call 81; refine (radd_num u 1 hu one_num _).mono ?_; rintro e x3 ⟨rfl, hx3⟩; obtain ⟨hc3, hf3⟩ := bkeep hx3; have s3 := hx3.size; (try rw [World.size_drew] at s3); (try rw [World.size_alloc] at s3); (try rw [World.size_drew] at s3); have y3 : ¬ x3.heap.size = w.heap.size := by { omega }; (first | (have g3 := trans_keepq hc1 hc3; have j3 := trans_keepFq hc1 hf1 hf3) | skip)))
    all_goals go_wp2_with fail
    all_goals go_meet
    all_goals refine ⟨_, rfl, rfl, ⟨?_, ?_⟩, ?_⟩
    all_goals first | (simp (maxDischargeDepth := 12) [*, go_sem]; done) | (repeat first | exact Below.refl _ _ | refine Below.drew ?_ | refine Below.setCell ?_ (by first | (simp; done) | (simp; omega) | omega) _ | refine Below.alloc ?_ (by first | (simp; done) | (simp; omega) | omega) _ | refine Below.trans ?_ (hx3.mono (by first | (simp; done) | (simp; omega) | omega)) | refine Below.trans ?_ (hx1.mono (by first | (simp; done) | (simp; omega) | omega)))
  case rest =>
    obtain ⟨g1, rfl, rfl, tn1, hv⟩ := hcut
    obtain ⟨c0, c1⟩ := tn1
    obtain ⟨v1, rfl⟩ : ∃ v1 : World, v1 = wc := ⟨_, rfl⟩
    have zv := hv.size
    have f0 := keepF hv B0 F0
    have f1 := keepF hv B1 F1
    replace B0 := keepC hv B0
    replace B1 := keepC hv B1
    clear A0 A1 F0 F1
    go_wp2
    refine bodyPost_ret (v := .agg #[.int .u64 (hiW (addV u 1)), .int .u64 (loW (addV u 1))]) (by simp [results, Tryd.results105, go_sem, B0, B1]) rfl ⟨rfl, ?_⟩
    exact ((hb5.trans (hv.mono (by omega))).setCell (by simp) _).setCell (by simp) _

set_option maxHeartbeats 400000 in
theorem quo_dn (u b : Int) (hu : Num u) (hb : Word b) (w : World) :
    Calls Tryd.prog 98 #[.agg #[.int .u64 (hiW u), .int .u64 (loW u)], .int .u64 b, .bool false] w fun e w' => e = .returned (.tuple #[.int .u64 (dnV u b), .bool (dnB u b)]) ∧ Below w.heap.size w w' := by
  by_cases z : b = 0
  · subst z
    rw [show dnV u 0 = 18446744073709551615 from rfl, show dnB u 0 = false from rfl]
    go_enter Tryd.func98, Tryd.ntmps98
    go_wp2_with fail
    refine (rdiv_no u hu _).mono ?_
    rintro e w1 ⟨rfl, hb1⟩
    go_wp2
    go_ret2
    exact ⟨rfl, (((Below.refl _ _).alloc (Nat.le_refl _) _).trans (hb1.mono (by simp))).alloc (by have := hb1.size; simp at this; omega) _⟩
  · obtain ⟨_, _, _, nq, _⟩ := div_facts hu hb z
    rw [show dnV u b = narV (u / b) by unfold dnV; rw [if_neg z], show dnB u b = narB (u / b) by unfold dnB; rw [if_neg z]]
    go_enter Tryd.func98, Tryd.ntmps98
    go_wp2_with fail
    refine (rdiv_yes u b hu hb z _).mono ?_
    rintro e w1 ⟨rfl, hb1⟩
    go_wp2_with fail
    refine (small_num (u / b) nq _).mono ?_
    rintro e w2 ⟨rfl, hb2⟩
    go_wp2
    go_ret2
    have z1 := hb1.size
    simp at z1
    exact ⟨rfl, ((((Below.refl _ _).alloc (Nat.le_refl _) _).trans (hb1.mono (by simp))).alloc (by omega) _).trans (hb2.mono (by simp; omega))⟩

set_option maxHeartbeats 400000 in
theorem quo_up (u b : Int) (hu : Num u) (hb : Word b) (w : World) :
    Calls Tryd.prog 98 #[.agg #[.int .u64 (hiW u), .int .u64 (loW u)], .int .u64 b, .bool true] w fun e w' => e = .returned (.tuple #[.int .u64 (upV u b), .bool (upB u b)]) ∧ Below w.heap.size w w' := by
  by_cases z : b = 0
  · subst z
    rw [show upV u 0 = 18446744073709551615 from rfl, show upB u 0 = false from rfl]
    go_enter Tryd.func98, Tryd.ntmps98
    go_wp2_with fail
    refine (rdiv_no u hu _).mono ?_
    rintro e w1 ⟨rfl, hb1⟩
    go_wp2
    go_ret2
    exact ⟨rfl, (((Below.refl _ _).alloc (Nat.le_refl _) _).trans (hb1.mono (by simp))).alloc (by have := hb1.size; simp at this; omega) _⟩
  · obtain ⟨_, _, _, nq, m0, m1, _, _⟩ := div_facts hu hb z
    rw [show upV u b = narV (ceilV u b) by unfold upV; rw [if_neg z], show upB u b = narB (ceilV u b) by unfold upB; rw [if_neg z]]
    by_cases m : u % b = 0
    · have e5 : ceilV u b = u / b := by unfold ceilV; rw [if_pos m]
      rw [e5]
      go_enter Tryd.func98, Tryd.ntmps98
      go_wp2_with fail
      refine (rdiv_yes u b hu hb z _).mono ?_
      rintro e w1 ⟨rfl, hb1⟩
      go_wp2_with fail
      refine (small_num (u / b) nq _).mono ?_
      rintro e w2 ⟨rfl, hb2⟩
      go_wp2
      go_ret2
      have z1 := hb1.size
      simp at z1
      exact ⟨rfl, ((((Below.refl _ _).alloc (Nat.le_refl _) _).trans (hb1.mono (by simp))).alloc (by omega) _).trans (hb2.mono (by simp; omega))⟩
    · have e5 : ceilV u b = u / b + 1 := by unfold ceilV; rw [if_neg m]
      obtain ⟨ea, na⟩ := div_more hu hb z m
      have mp : 0 < u % b := by omega
      rw [e5]
      go_enter Tryd.func98, Tryd.ntmps98
      go_wp2_with fail
      refine (rdiv_yes u b hu hb z _).mono ?_
      rintro e w1 ⟨rfl, hb1⟩
      have z1 := hb1.size
      simp at z1
      go_wp2_with fail
      refine (rup_num (u / b) nq _).mono ?_
      rw [ea]
      rintro e w2 ⟨rfl, hb2⟩
      have z2 := hb2.size
      simp at z2
      have q0 : w2.cell? ⟨w1.heap.size, 0, none⟩ = some (.int .u64 (hiW (u / b))) := keepC hb2 (by simp)
      have q1 : w2.cell? ⟨w1.heap.size, 1, none⟩ = some (.int .u64 (loW (u / b))) := keepC hb2 (by simp)
      have f0 : w2.frozen? ⟨w1.heap.size, 0, none⟩ = false := by rw [(bcell hb2).2 _ _ (by simp)]; simp [go_sem]
      have f1 : w2.frozen? ⟨w1.heap.size, 1, none⟩ = false := by rw [(bcell hb2).2 _ _ (by simp)]; simp [go_sem]
      go_wp2_with fail
      refine (small_num (u / b + 1) na _).mono ?_
      rintro e w3 ⟨rfl, hb3⟩
      go_wp2
      go_ret2
      exact ⟨rfl, ((((((Below.refl _ _).alloc (Nat.le_refl _) _).trans (hb1.mono (by simp))).alloc (by omega) _).trans (hb2.mono (by simp; omega))).setCell (by simp; omega) _ |>.setCell (by simp; omega) _).trans (hb3.mono (by simp; omega))⟩

theorem rqadd_any (a b : Int) (ha : Word a) (hb : Word b) (w : World) :
    Calls Tryd.prog 86 #[.int .u64 a, .int .u64 b] w fun e w' => e = .returned (.tuple #[.int .u64 (narV (a + b)), .bool (narB (a + b))]) ∧ Below w.heap.size w w' := by
  obtain ⟨ea, na⟩ := add_words ha hb
  go_enter Tryd.func86, Tryd.ntmps86
  go_wp2_with fail
  refine (rof_num a ha _).mono ?_
  rintro e w1 ⟨rfl, hb1⟩
  go_wp2_with fail
  refine (rof_num b hb _).mono ?_
  rintro e w2 ⟨rfl, hb2⟩
  go_wp2_with fail
  refine (radd_num a b (num_small ha) (num_small hb) _).mono ?_
  rw [ea]
  rintro e w3 ⟨rfl, hb3⟩
  go_wp2_with fail
  refine (small_num (a + b) na _).mono ?_
  rintro e w4 ⟨rfl, hb4⟩
  go_wp2
  go_ret2
  have z1 := hb1.size
  have z2 := hb2.size
  have z3 := hb3.size
  exact ⟨rfl, (((hb1.trans (hb2.mono z1)).trans (hb3.mono (by omega))).alloc (by omega) _).trans (hb4.mono (by simp; omega))⟩

theorem rqof_any (n : Int) (hn : n < 9223372036854775808) (w : World) :
    Calls Tryd.prog 85 #[.int .i64 n] w fun e w' => e = .returned (.tuple #[.int .u64 (ofV n), .bool (ofB n)]) ∧ Below w.heap.size w w' := by
  by_cases h : n < 0
  · rw [show ofV n = 0 by unfold ofV; rw [if_pos h], show ofB n = false by unfold ofB; rw [if_pos h]]
    go_enter Tryd.func85, Tryd.ntmps85
    go_wp2
    go_ret2
    exact ⟨rfl, Below.refl _ _⟩
  · rw [show ofV n = narV (n * 4294967296) by unfold ofV; rw [if_neg h], show ofB n = narB (n * 4294967296) by unfold ofB; rw [if_neg h]]
    have h0 : 0 ≤ n := by omega
    have ew : IntKind.u64.wrap n = n := by rw [IntKind.wrap_u64]; omega
    by_cases g : n < 4294967296
    · rw [show narV (n * 4294967296) = n * 4294967296 by unfold narV; rw [if_pos (by omega)], show narB (n * 4294967296) = true by simp [narB]; omega]
      have ew2 : IntKind.u64.wrap (n * 4294967296) = n * 4294967296 := by rw [IntKind.wrap_u64]; omega
      go_enter Tryd.func85, Tryd.ntmps85
      go_wp2
      go_ret2
      exact ⟨rfl, Below.refl _ _⟩
    · rw [show narV (n * 4294967296) = 18446744073709551615 by unfold narV; rw [if_neg (by omega)], show narB (n * 4294967296) = false by simp [narB]; omega]
      go_enter Tryd.func85, Tryd.ntmps85
      go_wp2
      go_ret2
      exact ⟨rfl, Below.refl _ _⟩

theorem rpart_any (a f : Int) (ha : Word a) (hf : Word f) (w : World) :
    Calls Tryd.prog 87 #[.int .u64 a, .int .u64 f] w fun e w' => e = .returned (.int .u64 (partV a f)) ∧ Below w.heap.size w w' := by
  obtain ⟨e1, e2⟩ := part_dn (f := f) ha
  by_cases h : f ≤ 9223372036854775808
  · have em : minV f = f := by unfold minV; split <;> omega
    rw [em] at e1 e2
    go_enter Tryd.func87, Tryd.ntmps87
    go_wp2_with fail
    refine (rmul_any a f ha hf _).mono ?_
    rintro e w1 ⟨rfl, hb1⟩
    go_wp2_with fail
    refine (quo_dn (a * f) 9223372036854775808 (mul_num ha hf) word63 _).mono ?_
    rw [e1, e2]
    rintro e w2 ⟨rfl, hb2⟩
    go_wp2
    go_ret
    exact ⟨rfl, hb1.trans (hb2.mono hb1.size)⟩
  · have em : partV a f = a := by unfold partV minV; rw [if_neg (by omega)]; exact part_big
    rw [em]
    have h' : 9223372036854775808 < f := by omega
    go_enter Tryd.func87, Tryd.ntmps87
    go_wp2
    go_ret
    exact ⟨rfl, Below.refl _ _⟩
end Go.Proofs.YtegpamoglifojaaDoor
