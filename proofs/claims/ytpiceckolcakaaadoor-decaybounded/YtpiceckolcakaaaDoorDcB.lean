/-
  LAYER 10: the contracts of the reference's calls (backfillref10).
-/
import Derived.Test.YtpiceckolcakaaaDoorDcA
namespace Go.Proofs.YtpiceckolcakaaaDoor
open Go.RowKit Wd Ld

theorem rfactor_bad {p h : Int} (hb : BadF p h) (w : World) :
    Calls Tryd.prog 10 #[.int .i64 p, .int .i64 h] w fun e w' => e = .returned (.tuple #[.int .u64 0, .int .i64 100]) ∧ Below w.heap.size w w' := by
  by_cases h1 : p < 1
  · go_enter Tryd.func10, Tryd.ntmps10
    go_wp2
    go_ret2
    exact ⟨rfl, Below.refl _ _⟩
  by_cases h2 : 1048576 < p
  · go_enter Tryd.func10, Tryd.ntmps10
    go_wp2
    go_ret2
    exact ⟨rfl, Below.refl _ _⟩
  by_cases h3 : h < 1
  · go_enter Tryd.func10, Tryd.ntmps10
    go_wp2
    go_ret2
    exact ⟨rfl, Below.refl _ _⟩
  have h4 : 1073741824 < h := by unfold BadF at hb; omega
  go_enter Tryd.func10, Tryd.ntmps10
  go_wp2
  go_ret2
  exact ⟨rfl, Below.refl _ _⟩
theorem rfactor_good {p h : Int} (hb : ¬ BadF p h) (w : World) :
    Calls Tryd.prog 10 #[.int .i64 p, .int .i64 h] w fun e w' => e = .returned (.tuple #[.int .u64 (halfN (expV p h) : Nat), .int .i64 0]) ∧ Below w.heap.size w w' := by
  have h1 : ¬ p < 1 := fun h => hb (.inl h)
  have h2 : ¬ 1048576 < p := fun h => hb (.inr (.inl h))
  have h3 : ¬ h < 1 := fun h => hb (.inr (.inr (.inl h)))
  have h4 : ¬ 1073741824 < h := fun h => hb (.inr (.inr (.inr h)))
  have e5 := exp_lt (p := p) (h := h) (by omega) (by omega) (by omega)
  go_enter Tryd.func10, Tryd.ntmps10
  go_wp2_with fail
  refine (rexp_any (p := p) (h := h) (by omega) (by omega) (by omega) (by omega) _).mono ?_
  rintro e w1 ⟨rfl, rfl⟩
  go_wp2_with fail
  refine (rhalf_any (expV p h) (by omega) _).mono ?_
  rintro e w2 ⟨rfl, b2⟩
  go_wp2
  go_ret2
  exact ⟨rfl, b2⟩
theorem rcharge_any {u n : Int} (hu : Word u) (hn : n < 9223372036854775808) (w : World) :
    Calls Tryd.prog 12 #[.int .u64 u, .int .i64 n] w fun e w' => e = .returned (.int .u64 (chV u n)) ∧ Below w.heap.size w w' := by
  unfold chV
  by_cases h : n < 0
  · rw [if_pos h]
    go_enter Tryd.func12, Tryd.ntmps12
    go_wp2
    go_ret
    exact ⟨rfl, Below.refl _ _⟩
  · rw [if_neg h]
    have ho : ofV n = narV (n * 4294967296) := by unfold ofV; rw [if_neg h]
    have hw : Word (narV (n * 4294967296)) := nar_word (by omega)
    go_enter Tryd.func12, Tryd.ntmps12
    go_wp2_with fail
    refine (rqof_any n hn _).mono ?_
    rw [ho]
    rintro e w1 ⟨rfl, b1⟩
    go_wp2_with fail
    refine (rqadd_any u (narV (n * 4294967296)) hu hw _).mono ?_
    rintro e w2 ⟨rfl, b2⟩
    go_wp2
    go_ret
    exact ⟨rfl, b1.trans (b2.mono b1.size)⟩
theorem rfade_any {u f : Int} (hu : Word u) (hf : Word f) (w : World) :
    Calls Tryd.prog 14 #[.int .u64 u, .int .u64 f] w fun e w' => e = .returned (.int .u64 (partV u f)) ∧ Below w.heap.size w w' := by
  go_enter Tryd.func14, Tryd.ntmps14
  go_wp2_with fail
  refine (rpart_any u f hu hf _).mono ?_
  rintro e w1 ⟨rfl, b1⟩
  go_wp2
  go_ret
  exact ⟨rfl, b1⟩
/-- So many Fades. -/
def fadeN (f : Int) : Nat → Int → Int
  | 0, u => u
  | n + 1, u => fadeN f n (partV u f)
theorem fade_still {f u : Int} (h : partV u f = u) (n : Nat) : fadeN f n u = u := by
  induction n with
  | zero => rfl
  | succ n ih => show fadeN f n (partV u f) = u; rw [h]; exact ih
theorem fade_word {f : Int} (hf : Word f) (n : Nat) : ∀ u, Word u → Word (fadeN f n u) := by
  induction n with
  | zero => intro u h; exact h
  | succ n ih => intro u h; exact ih _ (part_word h hf)
theorem fade_succ (f : Int) (n : Nat) : ∀ u, fadeN f (n + 1) u = partV (fadeN f n u) f := by
  induction n with
  | zero => intro u; rfl
  | succ n ih => intro u; exact ih (partV u f)
def perV (p : Int) : Nat := (if p < 65536 then p else 65536).toNat
end Go.Proofs.YtpiceckolcakaaaDoor
