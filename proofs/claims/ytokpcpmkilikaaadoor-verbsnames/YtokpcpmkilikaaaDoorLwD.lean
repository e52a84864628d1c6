/-
  Layer 8's statements: VerbsBack.
-/
import Derived.Test.YtokpcpmkilikaaaDoorLwC
namespace Go.Proofs.YtokpcpmkilikaaaDoor
open Go.RowKit Vb

namespace Vb
theorem fits_setS {c : Cm} (h : Fits c) (x : UInt8) (s : Bs) : Fits (setS c x s) := by
  obtain ⟨h1, h2, h3, h4, h5⟩ := h
  unfold setS
  split <;> exact ⟨h1, h2, h3, h4, h5⟩
theorem fits_setI {c : Cm} (h : Fits c) (x : UInt8) {n : Int} (hn : n ≤ 9223372036854775807) : Fits (setI c x n) := by
  obtain ⟨h1, h2, h3, h4, h5⟩ := h
  unfold setI
  split
  · exact ⟨hn, h2, h3, h4, h5⟩
  · split
    · exact ⟨h1, hn, h3, h4, h5⟩
    · split
      · exact ⟨h1, h2, hn, h4, h5⟩
      · split
        · exact ⟨h1, h2, h3, hn, h5⟩
        · exact ⟨h1, h2, h3, h4, hn⟩
theorem fits_fill (f : Bs) : ∀ (c : Cm) (ps : List Bs) (d : Cm), Fits c → fillV c f ps = some d → Fits d := by
  induction f with
  | nil => intro c ps d hc h; injection h with h; subst h; exact hc
  | cons x f ih =>
    intro c ps d hc h
    cases ps with
    | nil => cases h
    | cons p ps =>
      simp only [fillV] at h
      by_cases hn : isNm x = true
      · rw [if_pos hn] at h
        by_cases hv : validV p = true
        · rw [if_pos hv] at h; exact ih _ _ _ (fits_setS hc x p) h
        · rw [if_neg hv] at h; cases h
      · rw [if_neg hn] at h
        cases hm : numV p with
        | none => rw [hm] at h; cases h
        | some n =>
          rw [hm] at h
          have := (num_some hm).2
          exact ih _ _ _ (fits_setI hc x (by omega)) h
theorem fits_parse (line : Bs) : Fits (parseV line).1 := by
  have hz : Fits zeroC := ⟨by decide, by decide, by decide, by decide, by decide⟩
  unfold parseV
  split
  · exact hz
  · unfold parseP parseK
    split
    · exact hz
    · split
      · exact hz
      · split
        · exact hz
        · next c h => exact fits_fill _ _ _ _ (by exact ⟨hz.sh, hz.nd, hz.lm, hz.jb, hz.tk⟩) h
theorem print_bad {c : Cm} (h : checkV c ≠ 0) : printV c = ([], 84) := by unfold printV; rw [if_neg h]
theorem print_ok {c : Cm} (h : checkV c = 0) : (printV c).2 = 0 := by unfold printV; rw [if_pos h]
end Vb

set_option maxHeartbeats 2000000 in
theorem back_yes_yes {T : World → Prop} (A : Asks T) (c : Cm) (t : Bs) (line : Bs) (d : Cm)
    (p1 : ∀ w, T w → Calls Tryd.prog 12 #[cmA c] w fun e w' => e = .returned (.tuple #[.string (str t), .int .i64 0]) ∧ Below w.heap.size w w')
    (p2 : ∀ w, T w → Calls Tryd.prog 14 #[cmA c] w fun e w' => e = .returned (.int .i64 0) ∧ Below w.heap.size w w')
    (p3 : ∀ w, T w → Calls Tryd.prog 8 #[.string (str t)] w fun e w' => e = .returned (.tuple #[cmA c, .int .i64 0]) ∧ Below w.heap.size w w')
    (p4 : ∀ w, T w → Calls Tryd.prog 8 #[.string (str line)] w fun e w' => e = .returned (.tuple #[cmA d, .int .i64 0]) ∧ Below w.heap.size w w')
    (p5 : ∀ w, T w → Calls Tryd.prog 12 #[cmA d] w fun e w' => e = .returned (.tuple #[.string (str line), .int .i64 0]) ∧ Below w.heap.size w w')
    (p6 : ∀ w, T w → Calls Tryd.prog 14 #[cmA d] w fun e w' => e = .returned (.int .i64 0) ∧ Below w.heap.size w w') (w : World) (hT : T w) : Calls Tryd.prog 5 #[cmA c, .string (str line)] w fun e w' => e = .returned (.bool true) ∧ Below w.heap.size w w' := by
  have T0 := A.keep ((Below.refl _ w).alloc (Nat.le_refl _) (cmO c)) hT
  have C0 : CmAt (w.alloc (cmO c)) w.heap.size c := CmAt.new w c
  go_enter Tryd.func5, Tryd.ntmps5
  go_wp2_with fail
  refine (shown_any A _ T0).mono ?_
  rintro e w1 ⟨rfl, b1⟩
  have T1 := A.keep b1 T0
  have C1 := C0.below b1
  have z1 := b1.size
  simp at z1
  have B1 : Below w.heap.size w w1 := ((Below.refl _ _).alloc (Nat.le_refl _) _).trans (b1.mono (by simp))
  obtain ⟨⟨x0, x1, x2, x3, x4, x5, x6, x7⟩, _⟩ := C1.cells
  clear b1 C0 T0
  go_wp2_with fail
  refine (p1 _ T1).mono ?_
  rintro e w2 ⟨rfl, b2⟩
  have T2 := A.keep b2 T1
  have C2 := C1.below b2
  have z2 := b2.size
  have B2 : Below w.heap.size w w2 := B1.trans (b2.mono (by omega))
  clear x0 x1 x2 x3 x4 x5 x6 x7 b2 C1 B1 T1
  obtain ⟨⟨x0, x1, x2, x3, x4, x5, x6, x7⟩, _⟩ := C2.cells
  go_wp2_with fail
  refine (p2 _ T2).mono ?_
  rintro e w3 ⟨rfl, b3⟩
  have T3 := A.keep b3 T2
  have C3 := C2.below b3
  have z3 := b3.size
  have B3 : Below w.heap.size w w3 := B2.trans (b3.mono (by omega))
  clear x0 x1 x2 x3 x4 x5 x6 x7 b3 C2 B2 T2
  go_wp2_with fail
  refine (p3 _ T3).mono ?_
  rintro e w4 ⟨rfl, b4⟩
  have T4 := A.keep b4 T3
  have C4 := (C3.below b4).below ((Below.refl _ _).alloc (Nat.le_refl _) (cmO c))
  have z4 := b4.size
  have B4 : Below w.heap.size w w4 := B3.trans (b4.mono (by omega))
  have T5 := A.keep ((Below.refl _ _).alloc (Nat.le_refl _) (cmO c)) T4
  have B5 : Below w.heap.size w (w4.alloc (cmO c)) := B4.alloc (by omega) _
  obtain ⟨⟨x0, x1, x2, x3, x4, x5, x6, x7⟩, _⟩ := C4.cells
  clear b4 C3 B3 T3 T4 B4
  go_wp2_with fail
  refine (p4 _ T5).mono ?_
  rintro e w6 ⟨rfl, b6⟩
  have T6 := A.keep b6 T5
  have z6 := b6.size
  have B6 : Below w.heap.size w w6 := B5.trans (b6.mono (by simp; omega))
  clear b6 B5 T5
  simp at z6
  have T7 := A.keep ((Below.refl _ _).alloc (Nat.le_refl _) (cmO d)) T6
  have D7 : CmAt (w6.alloc (cmO d)) w6.heap.size d := CmAt.new w6 d
  have B7 : Below w.heap.size w (w6.alloc (cmO d)) := B6.alloc (by omega) _
  go_wp2_with fail
  refine (p5 _ T7).mono ?_
  rintro e w8 ⟨rfl, b8⟩
  have T8 := A.keep b8 T7
  have D8 := D7.below b8
  have z8 := b8.size
  simp at z8
  have B8 : Below w.heap.size w w8 := B7.trans (b8.mono (by simp; omega))
  obtain ⟨⟨y0, y1, y2, y3, y4, y5, y6, y7⟩, _⟩ := D8.cells
  clear b8 B7 T7 D7
  go_wp2_with fail
  refine (p6 _ T8).mono ?_
  rintro e w9 ⟨rfl, b9⟩
  have B9 : Below w.heap.size w w9 := B8.trans (b9.mono (by omega))
  clear b9 B8
  go_wp2
  go_ret
  exact ⟨rfl, B9⟩
set_option maxHeartbeats 2000000 in
theorem back_yes_no {T : World → Prop} (A : Asks T) (c : Cm) (t : Bs) (line : Bs) (er : Int)
    (p1 : ∀ w, T w → Calls Tryd.prog 12 #[cmA c] w fun e w' => e = .returned (.tuple #[.string (str t), .int .i64 0]) ∧ Below w.heap.size w w')
    (p2 : ∀ w, T w → Calls Tryd.prog 14 #[cmA c] w fun e w' => e = .returned (.int .i64 0) ∧ Below w.heap.size w w')
    (p3 : ∀ w, T w → Calls Tryd.prog 8 #[.string (str t)] w fun e w' => e = .returned (.tuple #[cmA c, .int .i64 0]) ∧ Below w.heap.size w w')
    (p4 : ∀ w, T w → Calls Tryd.prog 8 #[.string (str line)] w fun e w' => e = .returned (.tuple #[.agg #[.int .i64 0, .string ⟨#[]⟩, .string ⟨#[]⟩, .int .i64 0, .int .i64 0, .int .i64 0, .int .i64 0, .int .i64 0], .int .i64 er]) ∧ Below w.heap.size w w') (he : er ≠ 0) (w : World) (hT : T w) : Calls Tryd.prog 5 #[cmA c, .string (str line)] w fun e w' => e = .returned (.bool true) ∧ Below w.heap.size w w' := by
  have T0 := A.keep ((Below.refl _ w).alloc (Nat.le_refl _) (cmO c)) hT
  have C0 : CmAt (w.alloc (cmO c)) w.heap.size c := CmAt.new w c
  go_enter Tryd.func5, Tryd.ntmps5
  go_wp2_with fail
  refine (shown_any A _ T0).mono ?_
  rintro e w1 ⟨rfl, b1⟩
  have T1 := A.keep b1 T0
  have C1 := C0.below b1
  have z1 := b1.size
  simp at z1
  have B1 : Below w.heap.size w w1 := ((Below.refl _ _).alloc (Nat.le_refl _) _).trans (b1.mono (by simp))
  obtain ⟨⟨x0, x1, x2, x3, x4, x5, x6, x7⟩, _⟩ := C1.cells
  clear b1 C0 T0
  go_wp2_with fail
  refine (p1 _ T1).mono ?_
  rintro e w2 ⟨rfl, b2⟩
  have T2 := A.keep b2 T1
  have C2 := C1.below b2
  have z2 := b2.size
  have B2 : Below w.heap.size w w2 := B1.trans (b2.mono (by omega))
  clear x0 x1 x2 x3 x4 x5 x6 x7 b2 C1 B1 T1
  obtain ⟨⟨x0, x1, x2, x3, x4, x5, x6, x7⟩, _⟩ := C2.cells
  go_wp2_with fail
  refine (p2 _ T2).mono ?_
  rintro e w3 ⟨rfl, b3⟩
  have T3 := A.keep b3 T2
  have C3 := C2.below b3
  have z3 := b3.size
  have B3 : Below w.heap.size w w3 := B2.trans (b3.mono (by omega))
  clear x0 x1 x2 x3 x4 x5 x6 x7 b3 C2 B2 T2
  go_wp2_with fail
  refine (p3 _ T3).mono ?_
  rintro e w4 ⟨rfl, b4⟩
  have T4 := A.keep b4 T3
  have C4 := (C3.below b4).below ((Below.refl _ _).alloc (Nat.le_refl _) (cmO c))
  have z4 := b4.size
  have B4 : Below w.heap.size w w4 := B3.trans (b4.mono (by omega))
  have T5 := A.keep ((Below.refl _ _).alloc (Nat.le_refl _) (cmO c)) T4
  have B5 : Below w.heap.size w (w4.alloc (cmO c)) := B4.alloc (by omega) _
  obtain ⟨⟨x0, x1, x2, x3, x4, x5, x6, x7⟩, _⟩ := C4.cells
  clear b4 C3 B3 T3 T4 B4
  go_wp2_with fail
  refine (p4 _ T5).mono ?_
  rintro e w6 ⟨rfl, b6⟩
  have T6 := A.keep b6 T5
  have z6 := b6.size
  have B6 : Below w.heap.size w w6 := B5.trans (b6.mono (by simp; omega))
  clear b6 B5 T5
  simp at z6
  have he' : (er != 0) = true := by simpa using he
  have B7 : Below w.heap.size w (w6.alloc (.cells #[.int .i64 0, .string ⟨#[]⟩, .string ⟨#[]⟩, .int .i64 0, .int .i64 0, .int .i64 0, .int .i64 0, .int .i64 0] 24)) := B6.alloc (by omega) _
  go_wp2
  go_ret
  exact ⟨rfl, B7⟩
set_option maxHeartbeats 2000000 in
theorem back_no_yes {T : World → Prop} (A : Asks T) (c : Cm) (line : Bs) (d : Cm)
    (p1 : ∀ w, T w → Calls Tryd.prog 12 #[cmA c] w fun e w' => e = .returned (.tuple #[.string ⟨#[]⟩, .int .i64 84]) ∧ Below w.heap.size w w')
    (p2 : ∀ w, T w → Calls Tryd.prog 14 #[cmA c] w fun e w' => e = .returned (.int .i64 84) ∧ Below w.heap.size w w')
    (p4 : ∀ w, T w → Calls Tryd.prog 8 #[.string (str line)] w fun e w' => e = .returned (.tuple #[cmA d, .int .i64 0]) ∧ Below w.heap.size w w')
    (p5 : ∀ w, T w → Calls Tryd.prog 12 #[cmA d] w fun e w' => e = .returned (.tuple #[.string (str line), .int .i64 0]) ∧ Below w.heap.size w w')
    (p6 : ∀ w, T w → Calls Tryd.prog 14 #[cmA d] w fun e w' => e = .returned (.int .i64 0) ∧ Below w.heap.size w w') (w : World) (hT : T w) : Calls Tryd.prog 5 #[cmA c, .string (str line)] w fun e w' => e = .returned (.bool true) ∧ Below w.heap.size w w' := by
  have T0 := A.keep ((Below.refl _ w).alloc (Nat.le_refl _) (cmO c)) hT
  have C0 : CmAt (w.alloc (cmO c)) w.heap.size c := CmAt.new w c
  go_enter Tryd.func5, Tryd.ntmps5
  go_wp2_with fail
  refine (shown_any A _ T0).mono ?_
  rintro e w1 ⟨rfl, b1⟩
  have T1 := A.keep b1 T0
  have C1 := C0.below b1
  have z1 := b1.size
  simp at z1
  have B1 : Below w.heap.size w w1 := ((Below.refl _ _).alloc (Nat.le_refl _) _).trans (b1.mono (by simp))
  obtain ⟨⟨x0, x1, x2, x3, x4, x5, x6, x7⟩, _⟩ := C1.cells
  clear b1 C0 T0
  go_wp2_with fail
  refine (p1 _ T1).mono ?_
  rintro e w2 ⟨rfl, b2⟩
  have T2 := A.keep b2 T1
  have C2 := C1.below b2
  have z2 := b2.size
  have B2 : Below w.heap.size w w2 := B1.trans (b2.mono (by omega))
  clear x0 x1 x2 x3 x4 x5 x6 x7 b2 C1 B1 T1
  obtain ⟨⟨x0, x1, x2, x3, x4, x5, x6, x7⟩, _⟩ := C2.cells
  go_wp2_with fail
  refine (p2 _ T2).mono ?_
  rintro e w3 ⟨rfl, b3⟩
  have T3 := A.keep b3 T2
  have C3 := C2.below b3
  have z3 := b3.size
  have B3 : Below w.heap.size w w3 := B2.trans (b3.mono (by omega))
  clear x0 x1 x2 x3 x4 x5 x6 x7 b3 C2 B2 T2
  go_wp2_with fail
  refine (p4 _ T3).mono ?_
  rintro e w6 ⟨rfl, b6⟩
  have T6 := A.keep b6 T3
  have z6 := b6.size
  have B6 : Below w.heap.size w w6 := B3.trans (b6.mono (by omega))
  clear b6 B3 T3
  have T7 := A.keep ((Below.refl _ _).alloc (Nat.le_refl _) (cmO d)) T6
  have D7 : CmAt (w6.alloc (cmO d)) w6.heap.size d := CmAt.new w6 d
  have B7 : Below w.heap.size w (w6.alloc (cmO d)) := B6.alloc (by omega) _
  go_wp2_with fail
  refine (p5 _ T7).mono ?_
  rintro e w8 ⟨rfl, b8⟩
  have T8 := A.keep b8 T7
  have D8 := D7.below b8
  have z8 := b8.size
  simp at z8
  have B8 : Below w.heap.size w w8 := B7.trans (b8.mono (by simp; omega))
  obtain ⟨⟨y0, y1, y2, y3, y4, y5, y6, y7⟩, _⟩ := D8.cells
  clear b8 B7 T7 D7
  go_wp2_with fail
  refine (p6 _ T8).mono ?_
  rintro e w9 ⟨rfl, b9⟩
  have B9 : Below w.heap.size w w9 := B8.trans (b9.mono (by omega))
  clear b9 B8
  go_wp2
  go_ret
  exact ⟨rfl, B9⟩
set_option maxHeartbeats 2000000 in
theorem back_no_no {T : World → Prop} (A : Asks T) (c : Cm) (line : Bs) (er : Int)
    (p1 : ∀ w, T w → Calls Tryd.prog 12 #[cmA c] w fun e w' => e = .returned (.tuple #[.string ⟨#[]⟩, .int .i64 84]) ∧ Below w.heap.size w w')
    (p2 : ∀ w, T w → Calls Tryd.prog 14 #[cmA c] w fun e w' => e = .returned (.int .i64 84) ∧ Below w.heap.size w w')
    (p4 : ∀ w, T w → Calls Tryd.prog 8 #[.string (str line)] w fun e w' => e = .returned (.tuple #[.agg #[.int .i64 0, .string ⟨#[]⟩, .string ⟨#[]⟩, .int .i64 0, .int .i64 0, .int .i64 0, .int .i64 0, .int .i64 0], .int .i64 er]) ∧ Below w.heap.size w w') (he : er ≠ 0) (w : World) (hT : T w) : Calls Tryd.prog 5 #[cmA c, .string (str line)] w fun e w' => e = .returned (.bool true) ∧ Below w.heap.size w w' := by
  have T0 := A.keep ((Below.refl _ w).alloc (Nat.le_refl _) (cmO c)) hT
  have C0 : CmAt (w.alloc (cmO c)) w.heap.size c := CmAt.new w c
  go_enter Tryd.func5, Tryd.ntmps5
  go_wp2_with fail
  refine (shown_any A _ T0).mono ?_
  rintro e w1 ⟨rfl, b1⟩
  have T1 := A.keep b1 T0
  have C1 := C0.below b1
  have z1 := b1.size
  simp at z1
  have B1 : Below w.heap.size w w1 := ((Below.refl _ _).alloc (Nat.le_refl _) _).trans (b1.mono (by simp))
  obtain ⟨⟨x0, x1, x2, x3, x4, x5, x6, x7⟩, _⟩ := C1.cells
  clear b1 C0 T0
  go_wp2_with fail
  refine (p1 _ T1).mono ?_
  rintro e w2 ⟨rfl, b2⟩
  have T2 := A.keep b2 T1
  have C2 := C1.below b2
  have z2 := b2.size
  have B2 : Below w.heap.size w w2 := B1.trans (b2.mono (by omega))
  clear x0 x1 x2 x3 x4 x5 x6 x7 b2 C1 B1 T1
  obtain ⟨⟨x0, x1, x2, x3, x4, x5, x6, x7⟩, _⟩ := C2.cells
  go_wp2_with fail
  refine (p2 _ T2).mono ?_
  rintro e w3 ⟨rfl, b3⟩
  have T3 := A.keep b3 T2
  have C3 := C2.below b3
  have z3 := b3.size
  have B3 : Below w.heap.size w w3 := B2.trans (b3.mono (by omega))
  clear x0 x1 x2 x3 x4 x5 x6 x7 b3 C2 B2 T2
  go_wp2_with fail
  refine (p4 _ T3).mono ?_
  rintro e w6 ⟨rfl, b6⟩
  have T6 := A.keep b6 T3
  have z6 := b6.size
  have B6 : Below w.heap.size w w6 := B3.trans (b6.mono (by omega))
  clear b6 B3 T3
  have he' : (er != 0) = true := by simpa using he
  have B7 : Below w.heap.size w (w6.alloc (.cells #[.int .i64 0, .string ⟨#[]⟩, .string ⟨#[]⟩, .int .i64 0, .int .i64 0, .int .i64 0, .int .i64 0, .int .i64 0] 24)) := B6.alloc (by omega) _
  go_wp2
  go_ret
  exact ⟨rfl, B7⟩
theorem back_walk {T : World → Prop} (A : Asks T) (c : Cm) (hFit : Fits c) (line : Bs) (w : World) (hT : T w) : Calls Tryd.prog 5 #[cmA c, .string (str line)] w fun e w' => e = .returned (.bool true) ∧ Below w.heap.size w w' := by
  have hp := fun w hT => A.print c hFit w hT
  have hc := fun w hT => A.check c w hT
  have hl := fun w hT => A.parse line w hT
  have hf := fits_parse line
  rcases check_two c with h | h
  · have hb := back hFit h
    have hp3 := fun w hT => A.parse (printV c).1 w hT
    rw [hb] at hp3
    rw [print_ok h] at hp
    rw [h] at hc
    by_cases he : (parseV line).2 = 0
    · have hpl : parseV line = ((parseV line).1, 0) := by rw [← he]
      have hfo := forth hpl
      have hp5 := fun w hT => A.print (parseV line).1 hf w hT
      have hp6 := fun w hT => A.check (parseV line).1 w hT
      rw [print_ok hfo.1, hfo.2] at hp5
      rw [hfo.1] at hp6
      rw [hpl] at hl
      exact back_yes_yes A c (printV c).1 line (parseV line).1 hp hc hp3 hl hp5 hp6 w hT
    · have hz : parseV line = (zeroC, (parseV line).2) := by
        rcases parse_zero line with e | e
        · exact absurd e he
        · rw [← e]
      rw [hz] at hl
      exact back_yes_no A c (printV c).1 line (parseV line).2 hp hc hp3 hl he w hT
  · have hb := print_bad (c := c) (by omega)
    rw [hb] at hp
    rw [h] at hc
    by_cases he : (parseV line).2 = 0
    · have hpl : parseV line = ((parseV line).1, 0) := by rw [← he]
      have hfo := forth hpl
      have hp5 := fun w hT => A.print (parseV line).1 hf w hT
      have hp6 := fun w hT => A.check (parseV line).1 w hT
      rw [print_ok hfo.1, hfo.2] at hp5
      rw [hfo.1] at hp6
      rw [hpl] at hl
      exact back_no_yes A c line (parseV line).1 hp hc hl hp5 hp6 w hT
    · have hz : parseV line = (zeroC, (parseV line).2) := by
        rcases parse_zero line with e | e
        · exact absurd e he
        · rw [← e]
      rw [hz] at hl
      exact back_no_no A c line (parseV line).2 hp hc hl he w hT
end Go.Proofs.YtokpcpmkilikaaaDoor
