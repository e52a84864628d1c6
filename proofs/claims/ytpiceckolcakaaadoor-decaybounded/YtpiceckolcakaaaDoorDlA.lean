/-
  LAYER 10, the statements: what they ask of package decay; the statements' head; DecayNumbers and DecayTells walked.
-/
import Derived.Test.YtpiceckolcakaaaDoorDcC
namespace Go.Proofs.YtpiceckolcakaaaDoor
open Go.RowKit Wd Ld

def FitN (n : Int) : Prop := -9223372036854775808 ≤ n ∧ n < 9223372036854775808
/-- What the statements ask of the package. -/
structure Asks : Prop where
  bad : ∀ {p h : Int}, FitN p → FitN h → BadF p h → ∀ w, Tab w → Calls Tryd.prog 9 #[.int .i64 p, .int .i64 h] w fun e w' => e = .returned (.tuple #[.int .u64 0, .int .i64 100]) ∧ Below w.heap.size w w'
  good : ∀ {p h : Int}, FitN p → FitN h → ¬ BadF p h → ∀ w, Tab w → Calls Tryd.prog 9 #[.int .i64 p, .int .i64 h] w fun e w' => e = .returned (.tuple #[.int .u64 (halfN (expV p h) : Nat), .int .i64 0]) ∧ Below w.heap.size w w'
  charge : ∀ {u n : Int}, Word u → FitN n → ∀ w, Tab w → Calls Tryd.prog 11 #[.int .u64 u, .int .i64 n] w fun e w' => e = .returned (.int .u64 (chV u n)) ∧ Below w.heap.size w w'
  fade : ∀ {u f : Int}, Word u → Word f → ∀ w, Tab w → Calls Tryd.prog 13 #[.int .u64 u, .int .u64 f] w fun e w' => e = .returned (.int .u64 (partV u f)) ∧ Below w.heap.size w w'
  fades : ∀ {u f p : Int}, Word u → Word f → FitN p → ∀ w, Tab w → Calls Tryd.prog 15 #[.int .u64 u, .int .u64 f, .int .i64 p] w fun e w' => e = .returned (.int .u64 (fadeN f (perV p) u)) ∧ Below w.heap.size w w'

theorem shown_half : halfN (expV 100 100) = 4611686018427387904 := by
  have h : expV 100 100 = 1 * 4294967296 := by decide
  rw [h, half_whole (by decide)]
theorem shown_charge : chV 5 3 = 12884901893 := by decide
theorem shown_fade : partV 7 4611686018427387904 = 3 := by decide
theorem shown_fades : fadeN 4611686018427387904 (perV 2) 7 = 1 := by decide
set_option maxRecDepth 20000 in
theorem shown_any (A : Asks) (w : World) (hT : Tab w) : Calls Tryd.prog 8 #[] w fun e w' => e = .returned (.bool true) ∧ Below w.heap.size w w' := by
  have c1 := A.good (p := 100) (h := 100) (by unfold FitN; omega) (by unfold FitN; omega) (by unfold BadF; omega)
  rw [shown_half] at c1
  have c2 := A.bad (p := 0) (h := 1) (by unfold FitN; omega) (by unfold FitN; omega) (by unfold BadF; omega)
  have c3 := A.charge (u := 5) (n := 3) (by unfold Word; omega) (by unfold FitN; omega)
  rw [shown_charge] at c3
  have c4 := A.fade (u := 7) (f := 4611686018427387904) (by unfold Word; omega) (by unfold Word; omega)
  rw [shown_fade] at c4
  have c5 := A.fades (u := 7) (f := 4611686018427387904) (p := 2) (by unfold Word; omega) (by unfold Word; omega) (by unfold FitN; omega)
  rw [shown_fades] at c5
  go_enter Tryd.func8, Tryd.ntmps8
  have HB : Below w.heap.size w w := Below.refl _ _
  go_wp2_with fail
  refine (c1 _ hT).mono ?_
  rintro e w1 ⟨rfl, hz⟩
  replace HB := HB.trans (hz.mono HB.size)
  clear hz
  go_wp2_with fail
  refine (c2 _ (Tab.below HB hT)).mono ?_
  rintro e w2 ⟨rfl, hz⟩
  replace HB := HB.trans (hz.mono HB.size)
  clear hz
  go_wp2_with fail
  refine (c3 _ (Tab.below HB hT)).mono ?_
  rintro e w3 ⟨rfl, hz⟩
  replace HB := HB.trans (hz.mono HB.size)
  clear hz
  go_wp2_with fail
  refine (c4 _ (Tab.below HB hT)).mono ?_
  rintro e w4 ⟨rfl, hz⟩
  replace HB := HB.trans (hz.mono HB.size)
  clear hz
  go_wp2_with fail
  refine (c5 _ (Tab.below HB hT)).mono ?_
  rintro e w5 ⟨rfl, hz⟩
  replace HB := HB.trans (hz.mono HB.size)
  clear hz
  go_wp2
  go_ret
  exact ⟨rfl, HB⟩
theorem numbers_walk (A : Asks) (w : World) (hT : Tab w) : Calls Tryd.prog 7 #[] w fun e w' => e = .returned (.bool true) ∧ Below w.heap.size w w' := by
  go_enter Tryd.func7, Tryd.ntmps7
  go_wp2_with fail
  refine (shown_any A _ hT).mono ?_
  rintro e w' ⟨rfl, hb⟩
  go_wp2
  go_ret
  exact ⟨rfl, hb⟩
end Go.Proofs.YtpiceckolcakaaaDoor
