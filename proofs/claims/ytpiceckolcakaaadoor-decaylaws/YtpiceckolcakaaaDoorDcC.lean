/-
  LAYER 10: the reference's Fades.
-/
import Derived.Test.YtpiceckolcakaaaDoorDcB
namespace Go.Proofs.YtpiceckolcakaaaDoor
open Go.RowKit Wd Ld

theorem fade_add (f : Int) (k m : Nat) : ∀ u, fadeN f (k + m) u = fadeN f m (fadeN f k u) := by
  induction k with
  | zero => intro u; rw [Nat.zero_add]; rfl
  | succ k ih => intro u; rw [show k + 1 + m = k + m + 1 by omega]; exact ih (partV u f)
theorem fade_end {f u : Int} {k P : Nat} (hk : k ≤ P) (h : partV (fadeN f k u) f = fadeN f k u) : fadeN f P u = fadeN f k u := by
  rw [show P = k + (P - k) by omega, fade_add]
  exact fade_still h _
theorem per_lt {p : Int} {k : Nat} (h : k < perV p) : (k : Int) < p ∧ (k : Int) < 65536 := by unfold perV at h; split at h <;> omega
theorem per_end {p : Int} (h1 : ((perV p : Nat) : Int) < p) : ¬ ((perV p : Nat) : Int) < 65536 := by unfold perV at *; split at * <;> omega
theorem per_le (p : Int) : perV p ≤ 65536 := by unfold perV; split <;> omega

set_option maxHeartbeats 1000000 in
set_option maxRecDepth 20000 in
theorem rfades_any {u f p : Int} (hu : Word u) (hf : Word f) (w : World) :
    Calls Tryd.prog 16 #[.int .u64 u, .int .u64 f, .int .i64 p] w fun e w' => e = .returned (.int .u64 (fadeN f (perV p) u)) ∧ Below w.heap.size w w' := by
  have hP := per_le p
  obtain ⟨P, hPe⟩ : ∃ P, P = perV p := ⟨_, rfl⟩
  rw [← hPe] at hP ⊢
  go_enter Tryd.func16, Tryd.ntmps16
  go_wp2
  go_loopw [0, 7] (fun x i wr => ∃ k : Nat, k ≤ P ∧ i = .int .i64 k ∧ x = .int .u64 (fadeN f k u) ∧ Below w.heap.size w wr) (fun _ i _ => P - (intOf i).toNat)
  case atStart => exact ⟨0, by omega, rfl, rfl, Below.refl _ _⟩
  case round =>
    obtain ⟨k, hk, rfl, rfl, hb⟩ := hrel
    have hx := fade_word hf k u hu
    by_cases hlt : k < P
    · obtain ⟨c1, c2⟩ := per_lt (hPe ▸ hlt)
      have ef := fade_succ f k u
      have en := fade_end (f := f) (u := u) (Nat.le_of_lt hlt)
      generalize fadeN f k u = x at hx ef en ⊢
      have cc := rfade_any hx hf
      generalize partV x f = y at ef en cc
      clear hPe hP
      by_cases hq : y = x
      · have en' := en hq
        subst hq
        clear ef en
        go_wp2_with fail
        refine (cc _).mono ?_
        rintro e w1 ⟨rfl, b1⟩
        clear c1 c2 hlt hk
        go_wp2
        go_ret
        exact ⟨by rw [en']; rfl, hb.trans (b1.mono hb.size)⟩
      · have EF : Hid _ := ef
        clear ef en
        go_wp2_with fail
        refine (cc _).mono ?_
        rintro e w1 ⟨rfl, b1⟩
        have hlt' : k + 1 < 9223372036854775807 := by omega
        clear c1 c2
        go_wp2
        go_roundw
        case rel =>
          exact ⟨k + 1, by omega, by go_num, by rw [← EF.out], hb.trans (b1.mono hb.size)⟩
        case measure => simp [intOf]; omega
    · obtain rfl : k = P := by omega
      by_cases c1 : (k : Int) < p
      · have c2 : ¬ (k : Int) < 65536 := by rw [hPe] at c1 ⊢; exact per_end c1
        clear hPe
        go_wp2
        go_ret
        exact ⟨rfl, hb⟩
      · clear hPe
        go_wp2
        go_ret
        exact ⟨rfl, hb⟩
end Go.Proofs.YtpiceckolcakaaaDoor
