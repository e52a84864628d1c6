/-
  Layer 8's statements: VerbsWrites.
-/
import Derived.Test.YtokpcpmkilikaaaDoorLwB
namespace Go.Proofs.YtokpcpmkilikaaaDoor
open Go.RowKit Vb

/-- What a region that draws finds: the command in its block, and what was there. -/
def St (T : World → Prop) (w : World) (g : Nat) (c : Cm) (w' : World) : Prop :=
  w'.cell? ⟨g, 0, none⟩ = some (.int .i64 c.kind) ∧ w'.cell? ⟨g, 1, none⟩ = some (.string (str c.nm)) ∧ w'.cell? ⟨g, 2, none⟩ = some (.string (str c.pa)) ∧ w'.cell? ⟨g, 3, none⟩ = some (.int .i64 c.sh) ∧ w'.cell? ⟨g, 4, none⟩ = some (.int .i64 c.nd) ∧ w'.cell? ⟨g, 5, none⟩ = some (.int .i64 c.lm) ∧ w'.cell? ⟨g, 6, none⟩ = some (.int .i64 c.jb) ∧ w'.cell? ⟨g, 7, none⟩ = some (.int .i64 c.tk) ∧ T w' ∧ Below w.heap.size w w' ∧ w.heap.size ≤ w'.heap.size
theorem St.of {T : World → Prop} {w w' : World} {g : Nat} {c : Cm} (h : CmAt w' g c) (hT : T w') (hb : Below w.heap.size w w') (hz : w.heap.size ≤ w'.heap.size) : St T w g c w' := by
  obtain ⟨⟨x0, x1, x2, x3, x4, x5, x6, x7⟩, _⟩ := h.cells
  exact ⟨x0, x1, x2, x3, x4, x5, x6, x7, hT, hb, hz⟩
theorem keepW {T : World → Prop} (A : Asks T) {w x y : World} {g : Nat} {c : Cm} (h : St T w g c x) (hy : Below x.heap.size x y) : St T w g c y := by
  obtain ⟨x0, x1, x2, x3, x4, x5, x6, x7, hT, hb, hz⟩ := h
  have k : ∀ {a : Addr} {v : Value}, x.cell? a = some v → y.cell? a = some v := fun h => (hy.cell (World.block_lt_of_cell? x _ h)).trans h
  exact ⟨k x0, k x1, k x2, k x3, k x4, k x5, k x6, k x7, A.keep hy hT, hb.trans (hy.mono hz), Nat.le_trans hz hy.size⟩
theorem St.t {T : World → Prop} {w w' : World} {g : Nat} {c : Cm} (h : St T w g c w') : T w' := h.2.2.2.2.2.2.2.2.1
set_option maxHeartbeats 2000000 in
theorem writes_walk {T : World → Prop} (A : Asks T) (c : Cm) (hFit : Fits c) (w : World) (hT : T w) : Calls Tryd.prog 4 #[cmA c] w fun e w' => e = .returned (.bool true) ∧ Below w.heap.size w w' := by
  have p1 : ∀ w, T w → Calls Tryd.prog 12 #[cmA c] w fun e w' => e = .returned (.tuple #[.string (str (printV c).1), .int .i64 (printV c).2]) ∧ Below w.heap.size w w' := fun w hT => A.print c hFit w hT
  have p2 : ∀ w, Calls Tryd.prog 13 #[cmA c] w fun e w' => e = .returned (.tuple #[.string (str (printV c).1), .int .i64 (printV c).2]) ∧ Below w.heap.size w w' := fun w => rprint_any c hFit w
  have p3 : ∀ w, T w → Calls Tryd.prog 14 #[cmA c] w fun e w' => e = .returned (.int .i64 (checkV c)) ∧ Below w.heap.size w w' := fun w hT => A.check c w hT
  have p4 : ∀ w, Calls Tryd.prog 15 #[cmA c] w fun e w' => e = .returned (.int .i64 (checkV c)) ∧ Below w.heap.size w w' := fun w => rcheck_any c w
  generalize (printV c).1 = t at *
  generalize (printV c).2 = er at *
  generalize checkV c = ck at *
  have T0 := A.keep ((Below.refl _ w).alloc (Nat.le_refl _) (cmO c)) hT
  have C0 : CmAt (w.alloc (cmO c)) w.heap.size c := CmAt.new w c
  go_enter Tryd.func4, Tryd.ntmps4
  go_wp2_with fail
  refine (shown_any A _ T0).mono ?_
  rintro e w1 ⟨rfl, b1⟩
  have T1 := A.keep b1 T0
  have C1 := C0.below b1
  have z1 := b1.size
  simp at z1
  have B1 : Below w.heap.size w w1 := ((Below.refl _ _).alloc (Nat.le_refl _) _).trans (b1.mono (by simp))
  obtain ⟨⟨x0, x1, x2, x3, x4, x5, x6, x7⟩, _⟩ := C1.cells
  clear b1 C0
  go_wp2_with fail
  refine (p1 _ T1).mono ?_
  rintro e w2 ⟨rfl, b2⟩
  have T2 := A.keep b2 T1
  have C2 := C1.below b2
  have z2 := b2.size
  have B2 : Below w.heap.size w w2 := B1.trans (b2.mono (by omega))
  clear x0 x1 x2 x3 x4 x5 x6 x7 b2 C1 B1
  obtain ⟨⟨x0, x1, x2, x3, x4, x5, x6, x7⟩, _⟩ := C2.cells
  go_wp2_with fail
  refine (p2 _).mono ?_
  rintro e w3 ⟨rfl, b3⟩
  have T3 := A.keep b3 T2
  have C3 := C2.below b3
  have z3 := b3.size
  have B3 : Below w.heap.size w w3 := B2.trans (b3.mono (by omega))
  clear x0 x1 x2 x3 x4 x5 x6 x7 b3 C2 B2
  have S3 := St.of C3 T3 B3 (by omega)
  have HS : Hid (St T w w.heap.size c w3.drew) := keepW A S3 ((Below.refl _ _).drew)
  clear S3 C3 B3 T3 T2 T1 T0
  go_upto_region 5 with fail
  go_region_held3 (fun w' => w'.cell? ⟨w.heap.size, 0, none⟩ = some (.int .i64 c.kind) ∧ w'.cell? ⟨w.heap.size, 1, none⟩ = some (.string (str c.nm)) ∧ w'.cell? ⟨w.heap.size, 2, none⟩ = some (.string (str c.pa)) ∧ w'.cell? ⟨w.heap.size, 3, none⟩ = some (.int .i64 c.sh) ∧ w'.cell? ⟨w.heap.size, 4, none⟩ = some (.int .i64 c.nd) ∧ w'.cell? ⟨w.heap.size, 5, none⟩ = some (.int .i64 c.lm) ∧ w'.cell? ⟨w.heap.size, 6, none⟩ = some (.int .i64 c.jb) ∧ w'.cell? ⟨w.heap.size, 7, none⟩ = some (.int .i64 c.tk) ∧ T w' ∧ Below w.heap.size w w' ∧ w.heap.size ≤ w'.heap.size) (first | exact HS.out | exact keepW A (by assumption) (by assumption))
    (first
      | (go_at_call 14; (first | refine (p3 _ (St.t HS.out)).mono ?_ | refine (p3 _ (St.t (w := w) (g := w.heap.size) (c := c) (by assumption))).mono ?_); rintro e x ⟨rfl, hx⟩)
      | (go_at_call 15; refine (p4 _).mono ?_; rintro e x ⟨rfl, hx⟩))
  have hS : St T w w.heap.size c x := by assumption
  have hB' : Below w.heap.size w x := hS.2.2.2.2.2.2.2.2.2.1
  clear hS HS
  go_wp2
  go_ret
  exact ⟨rfl, hB'⟩
end Go.Proofs.YtokpcpmkilikaaaDoor
