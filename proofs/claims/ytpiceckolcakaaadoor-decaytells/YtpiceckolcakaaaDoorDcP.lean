/-
  LAYER 10: package decay.
-/
import Derived.Test.YtpiceckolcakaaaDoorDlA
import Derived.ScopeJumps
namespace Go.Proofs.YtpiceckolcakaaaDoor
open Go.RowKit Wd Ld

theorem factor_bad {p h : Int} (hb : BadF p h) (w : World) :
    Calls Tryd.prog 9 #[.int .i64 p, .int .i64 h] w fun e w' => e = .returned (.tuple #[.int .u64 0, .int .i64 100]) ∧ Below w.heap.size w w' := by
  by_cases h1 : p < 1
  · go_enter Tryd.func9, Tryd.ntmps9
    go_wp2
    go_ret2
    exact ⟨rfl, Below.refl _ _⟩
  by_cases h2 : 1048576 < p
  · go_enter Tryd.func9, Tryd.ntmps9
    go_wp2
    go_ret2
    exact ⟨rfl, Below.refl _ _⟩
  by_cases h3 : h < 1
  · go_enter Tryd.func9, Tryd.ntmps9
    go_wp2
    go_ret2
    exact ⟨rfl, Below.refl _ _⟩
  have h4 : 1073741824 < h := by unfold BadF at hb; omega
  go_enter Tryd.func9, Tryd.ntmps9
  go_wp2
  go_ret2
  exact ⟨rfl, Below.refl _ _⟩
theorem exp_dn {p h : Int} (hp : 1 ≤ p) (hp' : p ≤ 1048576) (hh : 1 ≤ h) : dnV (p * 4294967296) h = (expV p h : Nat) := by
  have e5 := exp_lt hp hp' hh
  have e4 := exp_eq hp hh
  unfold dnV narV
  rw [if_neg (by omega), e4, if_pos (by omega)]
theorem factor_good {p h : Int} (hb : ¬ BadF p h) (w : World) (hT : Tab w) :
    Calls Tryd.prog 9 #[.int .i64 p, .int .i64 h] w fun e w' => e = .returned (.tuple #[.int .u64 (halfN (expV p h) : Nat), .int .i64 0]) ∧ Below w.heap.size w w' := by
  have h1 : ¬ p < 1 := fun h => hb (.inl h)
  have h2 : ¬ 1048576 < p := fun h => hb (.inr (.inl h))
  have h3 : ¬ h < 1 := fun h => hb (.inr (.inr (.inl h)))
  have h4 : ¬ 1073741824 < h := fun h => hb (.inr (.inr (.inr h)))
  have e5 := exp_lt (p := p) (h := h) (by omega) (by omega) (by omega)
  have e4 := exp_dn (p := p) (h := h) (by omega) (by omega) (by omega)
  have e1 : IntKind.u64.wrap p = p := by rw [IntKind.wrap_u64]; omega
  have e2 : IntKind.u64.wrap h = h := by rw [IntKind.wrap_u64]; omega
  have cd := divDown_any p h ⟨by omega, by omega⟩ ⟨by omega, by omega⟩
  rw [e4] at cd
  clear e4
  go_enter Tryd.func9, Tryd.ntmps9
  go_wp2_with fail
  refine (cd _).mono ?_
  rintro e w1 ⟨rfl, b1⟩
  go_wp2_with fail
  refine (half_any (expV p h) (by omega) _ (Tab.below b1 hT)).mono ?_
  rintro e w2 ⟨rfl, b2⟩
  go_wp2
  go_ret2
  exact ⟨rfl, b1.trans (b2.mono b1.size)⟩
theorem charge_any {u n : Int} (hu : Word u) (hn : n < 9223372036854775808) (w : World) :
    Calls Tryd.prog 11 #[.int .u64 u, .int .i64 n] w fun e w' => e = .returned (.int .u64 (chV u n)) ∧ Below w.heap.size w w' := by
  have ho : Word (ofV n) := by
    unfold ofV
    split
    · exact ⟨by omega, by omega⟩
    · exact nar_word (by omega)
  have hc : narV (u + ofV n) = chV u n := by
    unfold chV ofV
    split
    · obtain ⟨h0, h1⟩ := hu
      rw [Int.add_zero]
      unfold narV
      rw [if_pos (by omega)]
    · rfl
  have ca := qadd_any u (ofV n) hu ho
  rw [hc] at ca
  clear hc
  go_enter Tryd.func11, Tryd.ntmps11
  go_wp2_with fail
  refine (qof_any n hn _).mono ?_
  rintro e w1 ⟨rfl, b1⟩
  go_wp2_with fail
  refine (ca _).mono ?_
  rintro e w2 ⟨rfl, b2⟩
  go_wp2
  go_ret
  exact ⟨rfl, b1.trans (b2.mono b1.size)⟩
theorem fade_any {u f : Int} (hu : Word u) (hf : Word f) (w : World) :
    Calls Tryd.prog 13 #[.int .u64 u, .int .u64 f] w fun e w' => e = .returned (.int .u64 (partV u f)) ∧ Below w.heap.size w w' := by
  go_enter Tryd.func13, Tryd.ntmps13
  go_wp2_with fail
  refine (part_any u f hu hf _).mono ?_
  rintro e w1 ⟨rfl, b1⟩
  go_wp2
  go_ret
  exact ⟨rfl, b1⟩
end Go.Proofs.YtpiceckolcakaaaDoor
