/-
  LAYER 10: package decay's Fades: goto.
-/
import Derived.Test.YtpiceckolcakaaaDoorDcP
namespace Go.Proofs.YtpiceckolcakaaaDoor
open Go.RowKit Wd Ld

theorem per_none {p : Int} (h : p ≤ 0) : perV p = 0 := by unfold perV; split <;> omega
theorem per_small {p : Int} (h : ¬ p ≤ 0) (h1 : p ≤ 65536) : ((perV p : Nat) : Int) = p := by unfold perV; split <;> omega
theorem per_big {p : Int} (h1 : ¬ p ≤ 65536) : ((perV p : Nat) : Int) = 65536 := by unfold perV; split <;> omega
/-- What stands at a jump. -/
def AtJump (w : World) (f u p : Int) (P : Nat) (a : Act) (w' : World) : Prop :=
  ∃ (k : Nat) (u8 u9 u10 u11 u12 u13 u14 u15 u16 u17 u18 u19 u20 u21 u22 u23 : Value), k ≤ P ∧ Below w.heap.size w w' ∧
    a = { tmps := #[.int .u64 (fadeN f k u), .int .u64 f, .int .i64 p, undef, undef, undef, .int .u64 0, .int .i64 ((P : Int) - (k : Int)), u8, u9, u10, u11, u12, u13, u14, u15, u16, u17, u18, u19, u20, u21, u22, u23], defers := [] }

theorem AtJump.mk {w w' : World} {f u p x r : Int} {P k : Nat} {u8 u9 u10 u11 u12 u13 u14 u15 u16 u17 u18 u19 u20 u21 u22 u23 : Value} (hk : k ≤ P) (hb : Below w.heap.size w w') (hx : fadeN f k u = x) (hr : (P : Int) - (k : Int) = r) :
    AtJump w f u p P { tmps := #[.int .u64 x, .int .u64 f, .int .i64 p, undef, undef, undef, .int .u64 0, .int .i64 r, u8, u9, u10, u11, u12, u13, u14, u15, u16, u17, u18, u19, u20, u21, u22, u23], defers := [] } w' := by
  subst hx hr
  exact ⟨k, _, _, _, _, _, _, _, _, _, _, _, _, _, _, _, _, hk, hb, rfl⟩
set_option maxHeartbeats 2000000 in
set_option maxRecDepth 20000 in
theorem fades_any {u f p : Int} (hu : Word u) (hf : Word f) (w : World) :
    Calls Tryd.prog 15 #[.int .u64 u, .int .u64 f, .int .i64 p] w fun e w' => e = .returned (.int .u64 (fadeN f (perV p) u)) ∧ Below w.heap.size w w' := by
  have hP := per_le p
  obtain ⟨P, hPe⟩ : ∃ P, P = perV p := ⟨_, rfl⟩
  rw [← hPe] at hP ⊢
  go_enter Tryd.func15, Tryd.ntmps15
  go_wp2
  refine wp_scope_jumps 0 (AtJump w f u p P) (fun a' _ => (intOf (a'.tmps.getD 7 undef)).toNat) rfl ?_ ?_
  · by_cases h0 : p ≤ 0
    · obtain rfl : P = 0 := hPe.trans (per_none h0)
      have hm : p ≤ 65536 := by omega
      clear hPe hP
      go_wp2
      go_step3
      go_wp2
      simp only [Exit.jump]
      go_ret
      exact ⟨rfl, Below.refl _ _⟩
    by_cases h1 : p ≤ 65536
    · have hPi := per_small h0 h1
      rw [← hPe] at hPi
      clear hPe
      have ef : fadeN f 1 u = partV u f := rfl
      have en := fade_end (f := f) (u := u) (k := 0) (P := P) (by omega)
      have cc := fade_any hu hf
      simp only [fadeN] at en
      generalize partV u f = y at ef en cc
      by_cases hy : y = u
      · have en' := en hy
        subst hy
        clear ef en
        go_wp2
        go_step3
        clear h1
        go_wp2_with fail
        refine (cc _).mono ?_
        rintro e w1 ⟨rfl, b1⟩
        go_wp2
        simp only [Exit.jump]
        go_ret
        exact ⟨by rw [en']; rfl, b1⟩
      · have EF : Hid _ := ef
        clear en ef
        have hw : wrap64 (p - 1) = p - 1 := by unfold wrap64; omega
        go_wp2
        go_step3
        clear h1
        go_wp2_with fail
        refine (cc _).mono ?_
        rintro e w1 ⟨rfl, b1⟩
        go_wp2
        go_step3
        exact ⟨rfl, AtJump.mk (k := 1) (by omega) b1 EF.out (by first | omega | (rw [hw]; omega))⟩
    · have hPi := per_big h1
      rw [← hPe] at hPi
      clear hPe
      have ef : fadeN f 1 u = partV u f := rfl
      have en := fade_end (f := f) (u := u) (k := 0) (P := P) (by omega)
      have cc := fade_any hu hf
      simp only [fadeN] at en
      generalize partV u f = y at ef en cc
      by_cases hy : y = u
      · have en' := en hy
        subst hy
        clear ef en
        go_wp2
        go_step3
        clear h1
        go_wp2_with fail
        refine (cc _).mono ?_
        rintro e w1 ⟨rfl, b1⟩
        go_wp2
        simp only [Exit.jump]
        go_ret
        exact ⟨by rw [en']; rfl, b1⟩
      · have EF : Hid _ := ef
        clear en ef
        have hw : wrap64 (65536 - 1) = 65536 - 1 := by unfold wrap64; omega
        go_wp2
        go_step3
        clear h1
        go_wp2_with fail
        refine (cc _).mono ?_
        rintro e w1 ⟨rfl, b1⟩
        go_wp2
        go_step3
        exact ⟨rfl, AtJump.mk (k := 1) (by omega) b1 EF.out (by first | omega | (rw [hw]; omega))⟩
  · rintro a' w' ⟨k, u8, u9, u10, u11, u12, u13, u14, u15, u16, u17, u18, u19, u20, u21, u22, u23, hk, HB, rfl⟩
    clear hPe
    have hx := fade_word hf k u hu
    by_cases hlt : k < P
    · have h0 : ¬ (P : Int) - (k : Int) ≤ 0 := by omega
      have ef := fade_succ f k u
      have en := fade_end (f := f) (u := u) (Nat.le_of_lt hlt)
      generalize fadeN f k u = x at hx ef en ⊢
      have cc := fade_any hx hf
      generalize partV x f = y at ef en cc
      have hw : wrap64 ((P : Int) - (k : Int) - 1) = (P : Int) - ((k + 1 : Nat) : Int) := by unfold wrap64; omega
      obtain ⟨r, hr⟩ : ∃ r, r = (P : Int) - (k : Int) := ⟨_, rfl⟩
      rw [← hr] at h0 hw ⊢
      have HR : Hid _ := hr
      have HW : Hid _ := hw
      clear hr hw
      by_cases hy : y = x
      · have en' := en hy
        subst hy
        clear ef en
        go_wp2_with fail
        refine (cc _).mono ?_
        rintro e w1 ⟨rfl, b1⟩
        go_wp2
        simp only [Exit.jump]
        go_ret
        exact ⟨by rw [en']; rfl, HB.trans (b1.mono HB.size)⟩
      · have EF : Hid _ := ef
        clear en ef
        go_wp2_with fail
        refine (cc _).mono ?_
        rintro e w1 ⟨rfl, b1⟩
        go_wp2
        go_step3
        refine ⟨rfl, AtJump.mk (k := k + 1) (by omega) (HB.trans (b1.mono HB.size)) EF.out HW.out.symm, ?_⟩
        · have := HR.out
          have := HW.out
          simp [intOf]
          omega
    · obtain rfl : k = P := by omega
      have h0 : (k : Int) - (k : Int) = 0 := by omega
      rw [h0]
      go_wp2
      simp only [Exit.jump]
      go_ret
      exact ⟨rfl, HB⟩
end Go.Proofs.YtpiceckolcakaaaDoor
