/-
  THE STATEMENT LadderTrue, walked: the whole.
-/
import Derived.Test.YtbnokceagaodkaaDoorTrueD
import Derived.Test.YtbnokceagaodkaaDoorFallsA
namespace Go.Proofs.YtbnokceagaodkaaDoor
open Go.RowKit Wd Ld

/-- Behind k squarings. -/
structure Sq (f k : Nat) (ma pa mb pb : Nat) : Prop where
  la : Low (halfN f) k ma pa
  ub : Upp (uppN f) k mb pb
  a0 : 9223372036854775808 ≤ ma
  a1 : ma < 18446744073709551616
  b0 : 9223372036854775808 ≤ mb
  b1 : mb < 18446744073709551616
  pa1 : pa + 65 ≤ 130 * 2 ^ k
  pb1 : pb + 65 ≤ 130 * 2 ^ k
theorem Sq.next {f k ma pa mb pb : Nat} (h : Sq f k ma pa mb pb) : Sq f (k + 1) (sqM ma false) (2 * pa + sqD ma false) (sqM mb true) (2 * pb + sqD mb true) := by
  obtain ⟨la, ub, a0, a1, b0, b1, pa1, pb1⟩ := h
  have ra := sqM_range false a0 a1
  have rb := sqM_range true b0 b1
  have da := sqD_range ma false
  have db := sqD_range mb true
  exact ⟨low_next la, upp_next ub, ra.1, ra.2, rb.1, rb.2, by rw [Nat.pow_succ]; omega, by rw [Nat.pow_succ]; omega⟩
theorem Sq.start {f : Nat} (hf : f < 4294967296) : Sq f 0 (nmM (halfN f)) (nmP (halfN f)) (nmM (uppN f)) (nmP (uppN f)) := by
  have h1 := half_least hf
  have h2 := half_top f
  have h3 := half_upper f
  have h4 := upp_top f
  have ra := nm_range h1 h2
  have rb := nm_range (Nat.le_trans h1 h3) h4
  exact ⟨Nat.le_of_eq (nm_eq _), Nat.le_of_eq (nm_eq _).symm, ra.1, ra.2.1, rb.1, rb.2.1, by rw [Nat.pow_zero]; omega, by rw [Nat.pow_zero]; omega⟩

set_option maxHeartbeats 4000000 in
set_option maxRecDepth 20000 in
theorem true_walk (e : Int) (f : Nat) (lo hi : Int) (he0 : 0 ≤ e) (he1 : e < 18446744073709551616) (he : e % 4294967296 = f) (hf : f < 4294967296) (hlo : lo = (halfN f : Nat)) (hhi : hi = (uppN f : Nat)) (hB : BoundsAt (f : Int) lo hi) (h1 : 4611686018427387904 ≤ lo) (h2 : lo ≤ hi) (h3 : hi ≤ 9223372036854775808) (w : World) (hT : Tab w) :
    Calls Tryd.prog 6 #[.int .u64 e] w fun r w' => r = .returned (.bool true) ∧ Below w.heap.size w w' := by
  have ca : ∀ w, Calls Tryd.prog 16 #[.int .u64 lo] w fun r w' => r = .returned (.agg #[.int .u64 (nmM (halfN f) : Nat), .int .i64 ((nmP (halfN f) : Nat) - 128)]) ∧ Below w.heap.size w w' := by
    intro w; rw [hlo]; exact normal_any _ (by omega) (by omega) w
  have cb : ∀ w, Calls Tryd.prog 16 #[.int .u64 hi] w fun r w' => r = .returned (.agg #[.int .u64 (nmM (uppN f) : Nat), .int .i64 ((nmP (uppN f) : Nat) - 128)]) ∧ Below w.heap.size w w' := by
    intro w; rw [hhi]; exact normal_any _ (by omega) (by omega) w
  have S0 := Sq.start hf
  have HF : Hid _ := hf
  generalize nmM (halfN f) = ma at *
  generalize nmP (halfN f) = pa at *
  generalize nmM (uppN f) = mb at *
  generalize nmP (uppN f) = pb at *
  clear hlo hhi
  have H0 : Hid _ := S0
  clear S0
  go_enter Tryd.func6, Tryd.ntmps6
  go_wp2_with fail
  refine (shown_any w hT).mono ?_
  rintro r w1 ⟨rfl, hb1⟩
  have hT1 := hT.below hb1
  go_wp2_with fail
  refine (hB w1 hT1).mono ?_
  rintro r w2 ⟨rfl, hb2⟩
  have hB2 : Below w.heap.size w w2 := hb1.trans (hb2.mono hb1.size)
  have hz2 : w.heap.size ≤ w2.heap.size := Nat.le_trans hb1.size hb2.size
  clear hb1 hb2 hT1
  go_wp2_with fail
  refine (ca w2).mono ?_
  rintro r w3 ⟨rfl, hb3⟩
  have hB3 : Below w.heap.size w w3 := hB2.trans (hb3.mono hz2)
  have hz3 : w.heap.size ≤ w3.heap.size := Nat.le_trans hz2 hb3.size
  clear hb3 hB2 hz2
  go_wp2_with fail
  refine (cb _).mono ?_
  rintro r w4 ⟨rfl, hb4⟩
  have hz4 := hb4.size
  simp at hz4
  have A0 : w4.cell? ⟨w3.heap.size, 0, none⟩ = some (.int .u64 (ma : Int)) := keepC hb4 (by simp [go_sem])
  have A1 : w4.cell? ⟨w3.heap.size, 1, none⟩ = some (.int .i64 ((pa : Int) - 128)) := keepC hb4 (by simp [go_sem])
  have E0 : w4.frozen? ⟨w3.heap.size, 0, none⟩ = false := keepF hb4 (v := .int .u64 (ma : Int)) (by simp [go_sem]) (by simp [go_sem])
  have E1 : w4.frozen? ⟨w3.heap.size, 1, none⟩ = false := keepF hb4 (v := .int .i64 ((pa : Int) - 128)) (by simp [go_sem]) (by simp [go_sem])
  have hB4 : Below w.heap.size w w4 := (hB3.alloc hz3 _).trans (hb4.mono (by simp; omega))
  have F0 : Fl w (w4.alloc (.cells #[.int .u64 (mb : Int), .int .i64 ((pb : Int) - 128)] 37)) w3.heap.size w4.heap.size ma (pa - 128) mb (pb - 128) :=
    ⟨by omega, by omega, allocC _ A0, allocC _ A1, by simp [go_sem], by simp [go_sem], allocF _ _ E0, allocF _ _ E1, by simp [go_sem], by simp [go_sem], by omega, by omega, hB4.alloc (by omega) _, by simp; omega⟩
  clear hb4 A0 A1 E0 E1 hB4 hB3
  go_wp2
  generalize w4.alloc (.cells #[.int .u64 (mb : Int), .int .i64 ((pb : Int) - 128)] 37) = W0 at *
  clear hz3 hz4
  generalize w3.heap.size = A at *
  generalize w4.heap.size = B at *
  go_loopw [9] (fun i wr => ∃ k ma pa mb pb : Nat, k ≤ 32 ∧ i = .int .i64 k ∧ Sq f k ma pa mb pb ∧ Fl w wr A B ma ((pa : Int) - 128 * ((2 ^ k : Nat) : Int)) mb ((pb : Int) - 128 * ((2 ^ k : Nat) : Int))) (fun i _ => 32 - (intOf i).toNat)
  case atStart => exact ⟨0, ma, pa, mb, pb, by omega, rfl, H0.out, F0⟩
  case round =>
    clear F0 H0 ca cb
    obtain ⟨k, ma, pa, mb, pb, hk, rfl, hS, hF⟩ := hrel
    have hP : 2 ^ k ≤ 4294967296 := two_pow_le (b := 32) hk
    have hP2 : 2 ^ (k + 1) = 2 * 2 ^ k := by rw [Nat.pow_succ, Nat.mul_comm]
    have HS : Hid _ := hS
    have pa1 := hS.pa1
    have pb1 := hS.pb1
    have s1 := squared_any ma ((pa : Int) - 128 * ((2 ^ k : Nat) : Int)) false hS.a0 hS.a1 (by omega) (by omega)
    have s2 := squared_any mb ((pb : Int) - 128 * ((2 ^ k : Nat) : Int)) true hS.b0 hS.b1 (by omega) (by omega)
    have ea : 2 * ((pa : Int) - 128 * ((2 ^ k : Nat) : Int)) + (sqD ma false : Nat) = ((2 * pa + sqD ma false : Nat) : Int) - 128 * ((2 ^ (k + 1) : Nat) : Int) := by omega
    have eb : 2 * ((pb : Int) - 128 * ((2 ^ k : Nat) : Int)) + (sqD mb true : Nat) = ((2 * pb + sqD mb true : Nat) : Int) - 128 * ((2 ^ (k + 1) : Nat) : Int) := by omega
    rw [ea] at s1
    rw [eb] at s2
    clear ea eb hP2 hP pa1 pb1 hS
    by_cases hlt : k < 32
    · have hn := HS.out.next
      generalize sqM ma false = ma' at *
      generalize sqM mb true = mb' at *
      generalize 2 * pa + sqD ma false = pa' at *
      generalize 2 * pb + sqD mb true = pb' at *
      have HN : Hid _ := hn
      clear hn HS
      generalize exa : (pa : Int) - 128 * ((2 ^ k : Nat) : Int) = xa at *
      generalize exb : (pb : Int) - 128 * ((2 ^ k : Nat) : Int) = xb at *
      generalize exa' : (pa' : Int) - 128 * ((2 ^ (k + 1) : Nat) : Int) = xa' at *
      generalize exb' : (pb' : Int) - 128 * ((2 ^ (k + 1) : Nat) : Int) = xb' at *
      have HE : Hid _ := And.intro exa' exb'
      clear exa exb exa' exb'
      have HFl : Hid _ := hF
      obtain ⟨ne, nb, a0, a1, b0, b1, fa0, fa1, fb0, fb1, lo', lob, old, sz⟩ := hF
      clear lo' lob old sz
      go_wp2_with fail
      refine (s1 wr).mono ?_
      rintro r w5 ⟨rfl, hb5⟩
      have F1 := HFl.out.below hb5
      have F2 := F1.setA ma' xa'
      have HF2 : Hid _ := F2
      obtain ⟨_, _, a0, a1, b0, b1, fa0, fa1, fb0, fb1, lo', lob, old, sz⟩ := F1
      clear lo' lob old sz hb5 F2 HFl
      go_wp2_with fail
      refine (s2 _).mono ?_
      rintro r w6 ⟨rfl, hb6⟩
      have F3 := HF2.out.below hb6
      have F4 := F3.setB mb' xb'
      have HF4 : Hid _ := F4
      clear a0 a1 b0 b1 fa0 fa1 fb0 fb1
      obtain ⟨_, _, a0, a1, b0, b1, fa0, fa1, fb0, fb1, lo', lob, old, sz⟩ := F3
      clear lo' lob old sz hb6 F4 HF2
      go_wp2
      go_roundw
      case rel =>
        refine ⟨k + 1, ma', pa', mb', pb', by omega, by go_num, HN.out, ?_⟩
        rw [HE.out.1, HE.out.2]
        exact HF4.out
      case measure => simp [intOf]; omega
    · obtain rfl : k = 32 := by omega
      have hl := low_end HS.out.la HS.out.a0
      have hu := upp_end HS.out.ub HS.out.b1
      have hm := HS.out.b0
      have hp : ((2 ^ 32 : Nat) : Int) = 4294967296 := by decide
      rw [hp] at hF
      have hl' : (pa : Int) - 128 * 4294967296 < -63 - (f : Int) ∨ (pa : Int) - 128 * 4294967296 = -63 - (f : Int) ∧ (ma : Int) ≤ 9223372036854775808 := by omega
      have hu' : -63 - (f : Int) < (pb : Int) - 128 * 4294967296 ∨ (pb : Int) - 128 * 4294967296 = -63 - (f : Int) := by omega
      have hm' : 9223372036854775808 ≤ (mb : Int) := by omega
      clear hl hu hm hp s1 s2 HS
      generalize (pa : Int) - 128 * 4294967296 = xa at *
      generalize (pb : Int) - 128 * 4294967296 = xb at *
      generalize (ma : Int) = za at *
      generalize (mb : Int) = zb at *
      have hB' : Below w.heap.size w wr := hF.old
      obtain ⟨ne, nb, a0, a1, b0, b1, fa0, fa1, fb0, fb1, lo', lob, old, sz⟩ := hF
      clear lo' lob old sz fa0 fa1 fb0 fb1
      have hfi : (f : Int) < 4294967296 := by omega
      have hf0 : 0 ≤ (f : Int) := by omega
      rcases hl' with hl' | ⟨hl', hl2⟩ <;> rcases hu' with hu' | hu'
      · go_wp2
        go_ret
        exact ⟨rfl, hB'⟩
      · subst hu'
        have hu3 : ¬ (-63 - (f : Int) < -63 - (f : Int)) := by omega
        go_wp2
        go_ret
        exact ⟨rfl, hB'⟩
      · subst hl'
        have hu3 : ¬ (-63 - (f : Int) < -63 - (f : Int)) := by omega
        go_wp2
        go_ret
        exact ⟨rfl, hB'⟩
      · subst hl'
        subst hu'
        have hu3 : ¬ (-63 - (f : Int) < -63 - (f : Int)) := by omega
        go_wp2
        go_ret
        exact ⟨rfl, hB'⟩

theorem true_int (x : Int) (hx : Word x) (w : World) (hT : Tab w) : Calls Tryd.prog 6 #[.int .u64 x] w fun r w' => r = .returned (.bool true) ∧ Below w.heap.size w w' := by
  obtain ⟨h0, h1⟩ := hx
  have hf : (x % 4294967296).toNat < 4294967296 := by omega
  have a1 := half_least hf
  have a2 := half_upper (x % 4294967296).toNat
  have a3 := upp_top (x % 4294967296).toNat
  exact true_walk x (x % 4294967296).toNat _ _ h0 h1 (by omega) hf rfl rfl (boundsAt _ (by omega)) (by omega) (by omega) (by omega) w hT
end Go.Proofs.YtbnokceagaodkaaDoor
