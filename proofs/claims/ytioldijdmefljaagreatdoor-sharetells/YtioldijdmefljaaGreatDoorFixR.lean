/-
  THE CONTRACTS OF THE REFERENCE's CALLS (backfillref04).
-/
import Derived.Test.YtioldijdmefljaaGreatDoorRefA
import Derived.Test.YtioldijdmefljaaGreatDoorRfW
import Derived.Test.YtioldijdmefljaaGreatDoorRefQ
import Derived.Test.YtioldijdmefljaaGreatDoorFxB
namespace Go.Proofs.YtioldijdmefljaaGreatDoor
open Go.RowKit Wd

theorem radd_num (u v : Int) (hu : Num u) (hv : Num v) (w : World) :
    Calls Tryz.prog 67 #[.agg #[.int .u64 (hiW u), .int .u64 (loW u)], .agg #[.int .u64 (hiW v), .int .u64 (loW v)]] w fun e w' =>
      e = .returned (.tuple #[.agg #[.int .u64 (hiW (addV u v)), .int .u64 (loW (addV u v))], .bool (addB u v)]) ∧ Below w.heap.size w w' := by
  have c := radd_any (hiW u) (loW u) (hiW v) (loW v) (hi_word hu) (lo_word u) (hi_word hv) (lo_word v) w
  rw [val_words, val_words] at c
  exact c
theorem rdiv_yes (u b : Int) (hu : Num u) (hb : Word b) (h : b ≠ 0) (w : World) :
    Calls Tryz.prog 59 #[.agg #[.int .u64 (hiW u), .int .u64 (loW u)], .int .u64 b] w fun e w' =>
      e = .returned (.tuple #[.agg #[.int .u64 (hiW (u / b)), .int .u64 (loW (u / b))], .int .u64 (u % b), .bool true]) ∧ Below w.heap.size w w' := by
  have c := rdiv_any (hiW u) (loW u) b (hi_word hu) (lo_word u) hb w
  obtain ⟨e1, e2, e3, _⟩ := div_facts hu hb h
  rw [val_words, e1, e2, e3] at c
  exact c
theorem rdiv_no (u : Int) (hu : Num u) (w : World) :
    Calls Tryz.prog 59 #[.agg #[.int .u64 (hiW u), .int .u64 (loW u)], .int .u64 0] w fun e w' =>
      e = .returned (.tuple #[.agg #[.int .u64 0, .int .u64 0], .int .u64 0, .bool false]) ∧ Below w.heap.size w w' := by
  have c := rdiv_any (hiW u) (loW u) 0 (hi_word hu) (lo_word u) ⟨by omega, by omega⟩ w
  rw [val_words] at c
  exact c

theorem small_num (u : Int) (hu : Num u) (w : World) :
    Calls Tryz.prog 92 #[.agg #[.int .u64 (hiW u), .int .u64 (loW u)]] w fun e w' => e = .returned (.tuple #[.int .u64 (narV u), .bool (narB u)]) ∧ Below w.heap.size w w' := by
  by_cases h : hiW u = 0
  · obtain ⟨e1, e2⟩ := nar_hi hu h
    rw [e1, e2, h]
    go_enter Tryz.func92, Tryz.ntmps92
    go_wp2
    go_ret2
    exact ⟨rfl, (Below.refl _ _).alloc (Nat.le_refl _) _⟩
  · obtain ⟨e1, e2⟩ := nar_no hu h
    rw [e1, e2]
    have k : 0 < hiW u := by have := (hi_word hu).1; omega
    go_enter Tryz.func92, Tryz.ntmps92
    go_wp2
    go_ret2
    exact ⟨rfl, (Below.refl _ _).alloc (Nat.le_refl _) _⟩

theorem one_num : Num 1 := ⟨by omega, by unfold top; omega⟩
/-- A number of two words that lies in block g. -/
def Twoq (w : World) (g : Nat) (x y : Int) : Prop := w.cell? ⟨g, 0, none⟩ = some (.int .u64 x) ∧ w.cell? ⟨g, 1, none⟩ = some (.int .u64 y)
theorem trans_keepq {P w1 w2 : World} (h1 : ∀ a, (P.cell? a).isSome = true → w1.cell? a = P.cell? a) (h2 : ∀ a, (w1.cell? a).isSome = true → w2.cell? a = w1.cell? a) : ∀ a, (P.cell? a).isSome = true → w2.cell? a = P.cell? a :=
  fun a h => (h2 a (by rw [h1 a h]; exact h)).trans (h1 a h)
theorem trans_keepFq {P w1 w2 : World} (h1 : ∀ a, (P.cell? a).isSome = true → w1.cell? a = P.cell? a) (f1 : ∀ a, (P.cell? a).isSome = true → w1.frozen? a = P.frozen? a) (f2 : ∀ a, (w1.cell? a).isSome = true → w2.frozen? a = w1.frozen? a) : ∀ a, (P.cell? a).isSome = true → w2.frozen? a = P.frozen? a :=
  fun a h => (f2 a (by rw [h1 a h]; exact h)).trans (f1 a h)

theorem rqadd_any (a b : Int) (ha : Word a) (hb : Word b) (w : World) :
    Calls Tryz.prog 56 #[.int .u64 a, .int .u64 b] w fun e w' => e = .returned (.tuple #[.int .u64 (narV (a + b)), .bool (narB (a + b))]) ∧ Below w.heap.size w w' := by
  obtain ⟨ea, na⟩ := add_words ha hb
  go_enter Tryz.func56, Tryz.ntmps56
  go_wp2_with fail
  refine (rof_num a ha _).mono ?_
  rintro e w1 ⟨rfl, hb1⟩
  go_wp2_with fail
  refine (rof_num b hb _).mono ?_
  rintro e w2 ⟨rfl, hb2⟩
  go_wp2_with fail
  refine (radd_num a b (num_small ha) (num_small hb) _).mono ?_
  rw [ea]
  rintro e w3 ⟨rfl, hb3⟩
  go_wp2_with fail
  refine (small_num (a + b) na _).mono ?_
  rintro e w4 ⟨rfl, hb4⟩
  go_wp2
  go_ret2
  have z1 := hb1.size
  have z2 := hb2.size
  have z3 := hb3.size
  exact ⟨rfl, (((hb1.trans (hb2.mono z1)).trans (hb3.mono (by omega))).alloc (by omega) _).trans (hb4.mono (by simp; omega))⟩

end Go.Proofs.YtioldijdmefljaaGreatDoor
