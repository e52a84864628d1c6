/-
  Layer 8's statements: what they ask of the program; their head; VerbsNames.
-/
import Derived.Test.YtokpcpmkilikaaaDoorRvJ
namespace Go.Proofs.YtokpcpmkilikaaaDoor
open Go.RowKit Vb

/-- What the four calls of package verbs answer, T being what they need of memory. -/
structure Asks (T : World → Prop) : Prop where
  keep : ∀ {w w' : World}, Below w.heap.size w w' → T w → T w'
  parse : ∀ (line : Bs) (w : World), T w → Calls Tryd.prog 8 #[.string (str line)] w fun e w' => e = .returned (parA (parseV line)) ∧ Below w.heap.size w w'
  valid : ∀ (s : Bs) (w : World), T w → Calls Tryd.prog 10 #[.string (str s)] w fun e w' => e = .returned (.bool (validV s)) ∧ Below w.heap.size w w'
  print : ∀ (c : Cm), Fits c → ∀ w : World, T w → Calls Tryd.prog 12 #[cmV c] w fun e w' => e = .returned (.tuple #[.string (str (printV c).1), .int .i64 (printV c).2]) ∧ Below w.heap.size w w'
  check : ∀ (c : Cm) (w : World), T w → Calls Tryd.prog 14 #[cmV c] w fun e w' => e = .returned (.int .i64 (checkV c)) ∧ Below w.heap.size w w'

namespace Vb
theorem ex_parse : parseV [115, 117, 98, 109, 105, 116, 32, 97, 32, 50, 32, 53] = (⟨1, [97], [], 0, 2, 5, 0, 0⟩, 0) := by kernel_rfl
theorem ex_parse2 : parseV [116, 105, 99, 107, 32, 48, 49] = (zeroC, 83) := by kernel_rfl
theorem ex_print : printV ⟨4, [], [], 0, 0, 0, 0, 3⟩ = ([116, 105, 99, 107, 32, 51], 0) := by
  have hc : checkV ⟨4, [], [], 0, 0, 0, 0, 3⟩ = 0 := by decide
  unfold printV
  rw [if_pos hc]
  simp only [word_4]
  have e : pieceV ⟨4, [], [], 0, 0, 0, 0, 3⟩ 116 = [51] := by
    unfold pieceV
    rw [if_neg (by decide)]
    exact digV_small (n := 3) (by decide)
  simp only [lineV, e]
  rfl
theorem ex_check : checkV ⟨14, [], [], 0, 0, 0, 0, 0⟩ = 84 := by decide
theorem ex_valid : validV [97, 45, 66, 95, 57] = true := by decide
theorem ex_valid2 : validV [97, 32, 98] = false := by decide
end Vb
set_option maxHeartbeats 2000000 in
theorem shown_any {T : World → Prop} (A : Asks T) (w : World) (hT : T w) : Calls Tryd.prog 7 #[] w fun e w' => e = .returned (.bool true) ∧ Below w.heap.size w w' := by
  have c1 : ∀ w, T w → Calls Tryd.prog 8 #[.string ⟨#[115, 117, 98, 109, 105, 116, 32, 97, 32, 50, 32, 53]⟩] w fun e w' => e = .returned (.tuple #[.agg #[.int .i64 1, .string ⟨#[97]⟩, .string ⟨#[]⟩, .int .i64 0, .int .i64 2, .int .i64 5, .int .i64 0, .int .i64 0], .int .i64 0]) ∧ Below w.heap.size w w' := by
    intro w hT
    have h := A.parse [115, 117, 98, 109, 105, 116, 32, 97, 32, 50, 32, 53] w hT
    rw [ex_parse] at h
    exact h
  have c2 : ∀ w, T w → Calls Tryd.prog 8 #[.string ⟨#[116, 105, 99, 107, 32, 48, 49]⟩] w fun e w' => e = .returned (.tuple #[.agg #[.int .i64 0, .string ⟨#[]⟩, .string ⟨#[]⟩, .int .i64 0, .int .i64 0, .int .i64 0, .int .i64 0, .int .i64 0], .int .i64 83]) ∧ Below w.heap.size w w' := by
    intro w hT
    have h := A.parse [116, 105, 99, 107, 32, 48, 49] w hT
    rw [ex_parse2] at h
    exact h
  have c3 : ∀ w, T w → Calls Tryd.prog 12 #[.agg #[.int .i64 4, .string ⟨#[]⟩, .string ⟨#[]⟩, .int .i64 0, .int .i64 0, .int .i64 0, .int .i64 0, .int .i64 3]] w fun e w' => e = .returned (.tuple #[.string ⟨#[116, 105, 99, 107, 32, 51]⟩, .int .i64 0]) ∧ Below w.heap.size w w' := by
    intro w hT
    have h := A.print ⟨4, [], [], 0, 0, 0, 0, 3⟩ ⟨by decide, by decide, by decide, by decide, by decide⟩ w hT
    rw [ex_print] at h
    exact h
  have c4 : ∀ w, T w → Calls Tryd.prog 14 #[.agg #[.int .i64 14, .string ⟨#[]⟩, .string ⟨#[]⟩, .int .i64 0, .int .i64 0, .int .i64 0, .int .i64 0, .int .i64 0]] w fun e w' => e = .returned (.int .i64 84) ∧ Below w.heap.size w w' := by
    intro w hT
    have h := A.check ⟨14, [], [], 0, 0, 0, 0, 0⟩ w hT
    rw [ex_check] at h
    exact h
  have c5 : ∀ w, T w → Calls Tryd.prog 10 #[.string ⟨#[97, 45, 66, 95, 57]⟩] w fun e w' => e = .returned (.bool true) ∧ Below w.heap.size w w' := by
    intro w hT
    have h := A.valid [97, 45, 66, 95, 57] w hT
    rw [ex_valid] at h
    exact h
  have c6 : ∀ w, T w → Calls Tryd.prog 10 #[.string ⟨#[97, 32, 98]⟩] w fun e w' => e = .returned (.bool false) ∧ Below w.heap.size w w' := by
    intro w hT
    have h := A.valid [97, 32, 98] w hT
    rw [ex_valid2] at h
    exact h
  go_enter Tryd.func7, Tryd.ntmps7
  go_wp2_with fail
  refine (c1 w hT).mono ?_
  rintro e w1 ⟨rfl, b1⟩
  have T1 := (A.keep b1 hT)
  have hz1 := b1.size
  have T1' := A.keep ((Below.refl _ _).alloc (Nat.le_refl _) (.cells #[.int .i64 1, .string ⟨#[97]⟩, .string ⟨#[]⟩, .int .i64 0, .int .i64 2, .int .i64 5, .int .i64 0, .int .i64 0] 24)) T1
  go_wp2_with fail
  refine (c2 _ T1').mono ?_
  rintro e w2 ⟨rfl, b2⟩
  have T2 := A.keep b2 T1'
  have T2' := A.keep ((Below.refl _ _).alloc (Nat.le_refl _) (.cells #[.int .i64 0, .string ⟨#[]⟩, .string ⟨#[]⟩, .int .i64 0, .int .i64 0, .int .i64 0, .int .i64 0, .int .i64 0] 24)) T2
  have C2 : CmAt w2 w1.heap.size ⟨1, [97], [], 0, 2, 5, 0, 0⟩ := (CmAt.new w1 ⟨1, [97], [], 0, 2, 5, 0, 0⟩).below b2
  have C2' : CmAt (w2.alloc (.cells #[.int .i64 0, .string ⟨#[]⟩, .string ⟨#[]⟩, .int .i64 0, .int .i64 0, .int .i64 0, .int .i64 0, .int .i64 0] 24)) w1.heap.size ⟨1, [97], [], 0, 2, 5, 0, 0⟩ := C2.below ((Below.refl _ _).alloc (Nat.le_refl _) _)
  have hz2 := b2.size
  simp at hz2
  have B2 : Below w.heap.size w w2 := (b1.alloc hz1 _).trans (b2.mono (by simp; omega))
  have HC2 : Hid (CmAt _ _ _) := C2'
  clear b1 b2 C2 C2'
  go_wp2_with fail
  refine (c3 _ T2').mono ?_
  rintro e w3 ⟨rfl, b3⟩
  have T3 := A.keep b3 T2'
  have C3 := HC2.out.below b3
  obtain ⟨⟨x0, x1, x2, x3, x4, x5, x6, x7⟩, _⟩ := C3.cells
  have x1' : w3.cell? ⟨w1.heap.size, 1, none⟩ = some (.string ⟨#[97]⟩) := x1
  have x2' : w3.cell? ⟨w1.heap.size, 2, none⟩ = some (.string ⟨#[]⟩) := x2
  have hz3 := b3.size
  simp at hz3
  have B3 : Below w.heap.size w w3 := (B2.alloc (by omega) _).trans (b3.mono (by simp; omega))
  clear b3 C3 x1 x2 B2
  simp only at x0 x3 x4 x5 x6 x7
  go_wp2_with fail
  refine (c4 _ T3).mono ?_
  rintro e w4 ⟨rfl, b4⟩
  have T4 := A.keep b4 T3
  go_wp2_with fail
  refine (c5 _ T4).mono ?_
  rintro e w5 ⟨rfl, b5⟩
  have T5 := A.keep b5 T4
  go_wp2_with fail
  refine (c6 _ T5).mono ?_
  rintro e w6 ⟨rfl, b6⟩
  have z4 := b4.size
  have z5 := b5.size
  have B6 : Below w.heap.size w w6 := ((B3.trans (b4.mono (by omega))).trans (b5.mono (by omega))).trans (b6.mono (by omega))
  clear b4 b5 b6
  go_wp2
  go_ret
  exact ⟨rfl, B6⟩
theorem names_walk {T : World → Prop} (A : Asks T) (w : World) (hT : T w) : Calls Tryd.prog 6 #[] w fun e w' => e = .returned (.bool true) ∧ Below w.heap.size w w' := by
  go_enter Tryd.func6, Tryd.ntmps6
  go_wp2_with fail
  refine (shown_any A w hT).mono ?_
  rintro e w1 ⟨rfl, b1⟩
  go_wp2
  go_ret
  exact ⟨rfl, b1⟩
end Go.Proofs.YtokpcpmkilikaaaDoor
