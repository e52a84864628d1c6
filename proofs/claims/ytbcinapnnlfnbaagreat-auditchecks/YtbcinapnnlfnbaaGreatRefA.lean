/-
  THE CONTRACTS OF THE REFERENCE's FUNCTIONS (backfillref01) and of the statements' own two turners: Mul, Cmp, Add, Sub, Shl, Shr.
-/
import Derived.Test.YtbcinapnnlfnbaaGreatWid
import Derived.Test.YtbcinapnnlfnbaaGreatMth
namespace Go.Proofs.YtbcinapnnlfnbaaGreat
open Go.RowKit Wd

theorem rgreatest_any (w : World) : Calls Tryz.prog 79 #[] w fun e w' => e = .returned (.agg #[.int .u64 18446744073709551615, .int .u64 18446744073709551615]) ∧ Below w.heap.size w w' := by
  go_enter Tryz.func79, Tryz.ntmps79
  go_wp2
  exact bodyPost_ret (v := .agg #[.int .u64 18446744073709551615, .int .u64 18446744073709551615]) (by simp [results, Tryz.results79, go_sem]) rfl ⟨rfl, (Below.refl _ _).alloc (Nat.le_refl _) _⟩
set_option maxHeartbeats 1000000 in
theorem rcmp_any (ah al bh bl : Int) (h2 : Word al) (h4 : Word bl) (w : World) :
    Calls Tryz.prog 45 #[.agg #[.int .u64 ah, .int .u64 al], .agg #[.int .u64 bh, .int .u64 bl]] w fun e w' =>
      e = .returned (.int .i64 (cmpV (val ah al) (val bh bl))) ∧ Below w.heap.size w w' := by
  by_cases h : ah = bh
  · subst h
    rw [← cmp_lo]
    unfold cmpV
    by_cases l : al < bl
    · go_enter Tryz.func45, Tryz.ntmps45
      go_wp2
      go_ret
      exact ⟨by simp, ((Below.refl _ _).alloc (Nat.le_refl _) _).alloc (by simp) _⟩
    · by_cases q : al = bl
      · subst q
        go_enter Tryz.func45, Tryz.ntmps45
        go_wp2
        go_ret
        exact ⟨by simp, ((Below.refl _ _).alloc (Nat.le_refl _) _).alloc (by simp) _⟩
      · have q' : (al == bl) = false := by simp [q]
        go_enter Tryz.func45, Tryz.ntmps45
        go_wp2
        go_ret
        exact ⟨by first | (simp; done) | (simp [q]; done) | (simp [l, q]; done), ((Below.refl _ _).alloc (Nat.le_refl _) _).alloc (by simp) _⟩
  · rw [← cmp_hi h2 h4 h]
    have k : (ah == bh) = false := by simp [h]
    unfold cmpV
    by_cases l : ah < bh
    · go_enter Tryz.func45, Tryz.ntmps45
      go_wp2
      go_ret
      exact ⟨by first | (simp; done) | (simp [l]; done), ((Below.refl _ _).alloc (Nat.le_refl _) _).alloc (by simp) _⟩
    · go_enter Tryz.func45, Tryz.ntmps45
      go_wp2
      go_ret
      exact ⟨by first | (simp; done) | (simp [l, h]; done), ((Below.refl _ _).alloc (Nat.le_refl _) _).alloc (by simp) _⟩

namespace Wd
theorem add1 {ah al bh bl : Int} (h1 : Word ah) (h2 : Word al) (h3 : Word bh) (h4 : Word bl) (c : al + bl < 18446744073709551616) (h : ah + bh < 18446744073709551616) :
    ah + bh = hiW (addV (val ah al) (val bh bl)) ∧ al + bl = loW (addV (val ah al) (val bh bl)) ∧ addB (val ah al) (val bh bl) = true := by
  obtain ⟨e1, e2, e3⟩ := add_yes h1 h2 h3 h4 (by obtain ⟨_, _⟩ := h2; obtain ⟨_, _⟩ := h4; omega)
  obtain ⟨_, _⟩ := h1; obtain ⟨_, _⟩ := h2; obtain ⟨_, _⟩ := h3; obtain ⟨_, _⟩ := h4
  exact ⟨by rw [← e1]; omega, by rw [← e2]; omega, e3⟩
theorem add2 {ah al bh bl : Int} (h1 : Word ah) (h2 : Word al) (h3 : Word bh) (h4 : Word bl) (c : 18446744073709551616 ≤ al + bl) (h : ah + bh + 1 < 18446744073709551616) :
    ah + bh + 1 = hiW (addV (val ah al) (val bh bl)) ∧ IntKind.u64.wrap (al + bl) = loW (addV (val ah al) (val bh bl)) ∧ addB (val ah al) (val bh bl) = true := by
  obtain ⟨e1, e2, e3⟩ := add_yes h1 h2 h3 h4 (by obtain ⟨_, _⟩ := h2; obtain ⟨_, _⟩ := h4; omega)
  obtain ⟨_, _⟩ := h1; obtain ⟨_, _⟩ := h2; obtain ⟨_, _⟩ := h3; obtain ⟨_, _⟩ := h4
  exact ⟨by rw [← e1]; omega, by rw [← e2, IntKind.wrap_u64], e3⟩
theorem wrap_lt1 (a b : Int) (h1 : Word a) (h2 : Word b) (h : 18446744073709551616 ≤ a + b) : IntKind.u64.wrap (a + b) < a := by
  obtain ⟨_, _⟩ := h1; obtain ⟨_, _⟩ := h2; rw [IntKind.wrap_u64]; omega
end Wd

set_option maxHeartbeats 1000000 in
theorem radd_any (ah al bh bl : Int) (h1 : Word ah) (h2 : Word al) (h3 : Word bh) (h4 : Word bl) (w : World) :
    Calls Tryz.prog 78 #[.agg #[.int .u64 ah, .int .u64 al], .agg #[.int .u64 bh, .int .u64 bl]] w fun e w' =>
      e = .returned (.tuple #[.agg #[.int .u64 (hiW (addV (val ah al) (val bh bl))), .int .u64 (loW (addV (val ah al) (val bh bl)))], .bool (addB (val ah al) (val bh bl))]) ∧ Below w.heap.size w w' := by
  by_cases c : al + bl < 18446744073709551616
  · by_cases h : ah + bh < 18446744073709551616
    · obtain ⟨e1, e2, e3⟩ := add1 h1 h2 h3 h4 c h
      rw [← e1, ← e2, e3]; clear e1 e2 e3
      obtain ⟨a1, a2⟩ := h1; obtain ⟨b1, b2⟩ := h2; obtain ⟨c1, c2⟩ := h3; obtain ⟨d1, d2⟩ := h4
      have k : decide (ah ≤ ah + bh) = true := by simp; omega
      go_enter Tryz.func78, Tryz.ntmps78
      go_wp2
      exact bodyPost_ret (v := .tuple #[.agg #[.int .u64 (ah + bh), .int .u64 (al + bl)], .bool true]) (by simp [results, Tryz.results78, go_sem]) rfl ⟨rfl, ((((Below.refl _ _).alloc (Nat.le_refl _) _).alloc (by simp) _).alloc (by simp; omega) _).alloc (by simp; omega) _⟩
    · obtain ⟨e1, e2, e3⟩ := add_no h1 h2 h3 h4 (by obtain ⟨_, _⟩ := h2; obtain ⟨_, _⟩ := h4; omega)
      rw [← e1, ← e2, e3]; clear e1 e2 e3
      have k := wrap_lt1 ah bh h1 h3 (by omega)
      have k' : decide (ah ≤ IntKind.u64.wrap (ah + bh)) = false := by simp; omega
      obtain ⟨a1, a2⟩ := h1; obtain ⟨b1, b2⟩ := h2; obtain ⟨c1, c2⟩ := h3; obtain ⟨d1, d2⟩ := h4
      go_enter Tryz.func78, Tryz.ntmps78
      go_wp2_with (go_at_call 79; refine (rgreatest_any _).mono ?_; rintro e w1 ⟨rfl, hb⟩; obtain ⟨hc, hf⟩ := bcell hb)
      have hz := hb.size
      simp at hz
      refine bodyPost_ret (v := .tuple #[.agg #[.int .u64 18446744073709551615, .int .u64 18446744073709551615], .bool false]) (by simp [results, Tryz.results78, go_sem, hc]) rfl ⟨rfl, ?_⟩
      exact (((((((Below.refl _ _).alloc (Nat.le_refl _) _).alloc (by simp) _).alloc (by simp; omega) _).alloc (by simp; omega) _).trans (hb.mono (by simp; omega))).setCell (by simp; omega) _).setCell (by simp; omega) _
  · have kl := wrap_lt1 al bl h2 h4 (by omega)
    by_cases h : ah + bh + 1 < 18446744073709551616
    · obtain ⟨e1, e2, e3⟩ := add2 h1 h2 h3 h4 (by omega) h
      rw [← e1, ← e2, e3]; clear e1 e2 e3
      obtain ⟨a1, a2⟩ := h1; obtain ⟨b1, b2⟩ := h2; obtain ⟨c1, c2⟩ := h3; obtain ⟨d1, d2⟩ := h4
      have k : decide (ah ≤ ah + bh) = true := by simp; omega
      have k' : decide (0 < ah + bh + 1) = true := by simp; omega
      go_enter Tryz.func78, Tryz.ntmps78
      go_wp2
      exact bodyPost_ret (v := .tuple #[.agg #[.int .u64 (ah + bh + 1), .int .u64 (IntKind.u64.wrap (al + bl))], .bool true]) (by simp [results, Tryz.results78, go_sem]) rfl ⟨rfl, ((((Below.refl _ _).alloc (Nat.le_refl _) _).alloc (by simp) _).alloc (by simp; omega) _).alloc (by simp; omega) _⟩
    · obtain ⟨e1, e2, e3⟩ := add_no h1 h2 h3 h4 (by obtain ⟨_, _⟩ := h2; obtain ⟨_, _⟩ := h4; omega)
      rw [← e1, ← e2, e3]; clear e1 e2 e3
      by_cases g : ah + bh < 18446744073709551616
      · have k : (decide (0 < IntKind.u64.wrap (ah + bh + 1))) = false := by rw [IntKind.wrap_u64]; simp; omega
        have k' : ¬ 0 < IntKind.u64.wrap (ah + bh + 1) := by rw [IntKind.wrap_u64]; omega
        have k2 : decide (ah ≤ ah + bh) = true := by obtain ⟨_, _⟩ := h3; simp; omega
        obtain ⟨a1, a2⟩ := h1; obtain ⟨b1, b2⟩ := h2; obtain ⟨c1, c2⟩ := h3; obtain ⟨d1, d2⟩ := h4
        go_enter Tryz.func78, Tryz.ntmps78
        go_wp2_with (go_at_call 79; refine (rgreatest_any _).mono ?_; rintro e w1 ⟨rfl, hb⟩; obtain ⟨hc, hf⟩ := bcell hb)
        have hz := hb.size
        simp at hz
        refine bodyPost_ret (v := .tuple #[.agg #[.int .u64 18446744073709551615, .int .u64 18446744073709551615], .bool false]) (by simp [results, Tryz.results78, go_sem, hc]) rfl ⟨rfl, ?_⟩
        exact (((((((Below.refl _ _).alloc (Nat.le_refl _) _).alloc (by simp) _).alloc (by simp; omega) _).alloc (by simp; omega) _).trans (hb.mono (by simp; omega))).setCell (by simp; omega) _).setCell (by simp; omega) _
      · have k := wrap_lt1 ah bh h1 h3 (by omega)
        have k' : decide (ah ≤ IntKind.u64.wrap (ah + bh)) = false := by simp; omega
        obtain ⟨a1, a2⟩ := h1; obtain ⟨b1, b2⟩ := h2; obtain ⟨c1, c2⟩ := h3; obtain ⟨d1, d2⟩ := h4
        go_enter Tryz.func78, Tryz.ntmps78
        go_wp2_with (go_at_call 79; refine (rgreatest_any _).mono ?_; rintro e w1 ⟨rfl, hb⟩; obtain ⟨hc, hf⟩ := bcell hb)
        have hz := hb.size
        simp at hz
        refine bodyPost_ret (v := .tuple #[.agg #[.int .u64 18446744073709551615, .int .u64 18446744073709551615], .bool false]) (by simp [results, Tryz.results78, go_sem, hc]) rfl ⟨rfl, ?_⟩
        exact (((((((Below.refl _ _).alloc (Nat.le_refl _) _).alloc (by simp) _).alloc (by simp; omega) _).alloc (by simp; omega) _).trans (hb.mono (by simp; omega))).setCell (by simp; omega) _).setCell (by simp; omega) _
end Go.Proofs.YtbcinapnnlfnbaaGreat
