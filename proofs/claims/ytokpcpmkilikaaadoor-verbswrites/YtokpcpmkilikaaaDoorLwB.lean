/-
  Layer 8's statements: VerbsReads, VerbsWrites.
-/
import Derived.Test.YtokpcpmkilikaaaDoorLwA
import Derived.Deep.DrawnRows
import Derived.Deep.CutBlock
import Derived.Deep.DeepCutAuto
namespace Go.Proofs.YtokpcpmkilikaaaDoor
open Go.RowKit Vb

abbrev cmA (c : Cm) : Value := .agg #[.int .i64 c.kind, .string (str c.nm), .string (str c.pa), .int .i64 c.sh, .int .i64 c.nd, .int .i64 c.lm, .int .i64 c.jb, .int .i64 c.tk]
abbrev cmO (c : Cm) : Obj := .cells #[.int .i64 c.kind, .string (str c.nm), .string (str c.pa), .int .i64 c.sh, .int .i64 c.nd, .int .i64 c.lm, .int .i64 c.jb, .int .i64 c.tk] 24
set_option maxHeartbeats 2000000 in
theorem reads_walk {T : World → Prop} (A : Asks T) (line : Bs) (w : World) (hT : T w) : Calls Tryd.prog 3 #[.string (str line)] w fun e w' => e = .returned (.bool true) ∧ Below w.heap.size w w' := by
  have p1 : ∀ w, T w → Calls Tryd.prog 8 #[.string (str line)] w fun e w' => e = .returned (.tuple #[cmA (parseV line).1, .int .i64 (parseV line).2]) ∧ Below w.heap.size w w' := fun w hT => A.parse line w hT
  have p2 : ∀ w, Calls Tryd.prog 9 #[.string (str line)] w fun e w' => e = .returned (.tuple #[cmA (parseV line).1, .int .i64 (parseV line).2]) ∧ Below w.heap.size w w' := fun w => rparse_any line w
  generalize (parseV line).1 = c at *
  generalize (parseV line).2 = er at *
  go_enter Tryd.func3, Tryd.ntmps3
  go_wp2_with fail
  refine (shown_any A w hT).mono ?_
  rintro e w1 ⟨rfl, b1⟩
  have T1 := A.keep b1 hT
  go_wp2_with fail
  refine (p1 _ T1).mono ?_
  rintro e w2 ⟨rfl, b2⟩
  have T2 := A.keep b2 T1
  have T2' := A.keep ((Below.refl _ _).alloc (Nat.le_refl _) (cmO c)) T2
  have C2 : CmAt (w2.alloc (cmO c)) w2.heap.size c := CmAt.new w2 c
  have z1 := b1.size
  have z2 := b2.size
  have B2 : Below w.heap.size w w2 := b1.trans (b2.mono z1)
  go_wp2_with fail
  refine (p2 _).mono ?_
  rintro e w3 ⟨rfl, b3⟩
  have T3 := A.keep b3 T2'
  have T3' := A.keep ((Below.refl _ _).alloc (Nat.le_refl _) (cmO c)) T3
  have C3 : CmAt (w3.alloc (cmO c)) w2.heap.size c := (C2.below b3).below ((Below.refl _ _).alloc (Nat.le_refl _) _)
  obtain ⟨⟨x0, x1, x2, x3, x4, x5, x6, x7⟩, _⟩ := C3.cells
  have z3 := b3.size
  simp at z3
  have B3 : Below w.heap.size w (w3.alloc (cmO c)) := ((B2.alloc (by omega) _).trans (b3.mono (by simp; omega))).alloc (by omega) _
  clear b1 b2 b3 C2 C3 B2
  go_wp2_with fail
  refine (A.valid line _ T3').mono ?_
  rintro e w4 ⟨rfl, b4⟩
  go_wp2_with fail
  refine (rvalid_any line _).mono ?_
  rintro e w5 ⟨rfl, b5⟩
  have z4 := b4.size
  simp at z4
  go_wp2
  go_ret
  exact ⟨rfl, (B3.trans (b4.mono (by simp; omega))).trans (b5.mono (by omega))⟩
end Go.Proofs.YtokpcpmkilikaaaDoor
