/-
  One act: Add, Get, Drop, Clone.
-/
import Derived.Test.YtjmiifgofedcnaaActA
import Derived.Test.YtjmiifgofedcnaaOrder
namespace Go.Proofs.Ytjmiifgofedcnaa
open Go.RowKit Ag

theorem Agn.nodup {w : World} {a m : Nat} {ao : Option Addr} {L : List En} (r : Agn 68 76 w a m ao L) : L.Nodup := r.srt.imp (fun {e f} h => by
  rintro rfl
  have := (bef_iff e e).1 h
  omega)
/-- What an act leaves. -/
def ActPost (w : World) (a m : Nat) (ao : Option Addr) (d : Nat) (L : List En) (e : Ending) (w' : World) : Prop := e = .returned (.bool true) ∧ ∃ ao' L', Agn 68 76 w' a m ao' L' ∧ Rf w' d L' ∧ IntL L' ∧ L'.length ≤ L.length + 1 ∧ Moved w ao ao' ∧ Chg (fun k => Kag a m ao k ∨ k = d) w w'
theorem ActPost.still {w w' : World} {a m d : Nat} {ao : Option Addr} {L : List En} (r : Agn 68 76 w a m ao L) (q : Rf w d L) (hi : IntL L) (b : Below w.heap.size w w') : ActPost w a m ao d L (.returned (.bool true)) w' := ⟨rfl, ao, L, r.below b, q.below b, hi, by omega, .inl rfl, Chg.of_below b _⟩
theorem ActPost.turned {w w1 w2 : World} {a m d : Nat} {ao ao' : Option Addr} {L L' : List En} (r : Agn 68 76 w1 a m ao' L') (c1 : Chg (Kag a m ao) w w1) (hm : Moved w ao ao') (q : Rf w2 d L') (q1 : Rf w1 d L) (c2 : Chg (fun j => j = d) w1 w2) (hi : IntL L') (hl : L'.length ≤ L.length + 1) : ActPost w a m ao d L (.returned (.bool true)) w2 :=
  ⟨rfl, ao', L', r.byR q1 c2, q, hi, hl, hm, (c1.mono (fun _ _ h => .inl h)).trans c2 (fun _ _ h => .inr h)⟩

theorem ActPost.from0 {w w0 w' : World} {a m d : Nat} {ao : Option Addr} {L : List En} {e : Ending} (b0 : Below w.heap.size w w0) (h : ActPost w0 a m ao d L e w') : ActPost w a m ao d L e w' := by
  obtain ⟨h0, ao', L', h1, h2, h3, h4, h5, h6⟩ := h
  refine ⟨h0, ao', L', h1, h2, h3, h4, ?_, (Chg.of_below b0 _).trans h6 (fun _ _ h => h)⟩
  rcases h5 with h5 | ⟨g, hg, h5⟩
  · exact .inl h5
  · exact .inr ⟨g, Nat.le_trans b0.size hg, h5⟩
theorem IntL.ins {L : List En} (hi : IntL L) {id tm : Int} (xv : Int) : IntL (insL ⟨id, tm, .int .i64 xv⟩ L) := fun e he => by
  rcases (mem_insL _ _ _).1 he with rfl | he
  · exact ⟨xv, rfl⟩
  · exact hi e he
theorem IntL.cut {L : List En} (hi : IntL L) (k : Nat) : IntL (L.take k ++ L.drop (k + 1)) := hi.sub (fun e he => by
  rcases List.mem_append.1 he with he | he
  · exact List.mem_of_mem_take he
  · exact List.mem_of_mem_drop he)
/-- The act's own copy of what is asked. -/
def Asked (w w0 : World) (kd wh id tm xv : Int) : Prop := w0.heap[w.heap.size]? = some (.cells #[.int .i64 kd, .int .i64 wh, .int .i64 id, .int .i64 tm, .int .i64 xv] 31 (0, 0))
theorem act_open {w w0 : World} {kd wh id tm xv : Int} (h : w.alloc (.cells #[.int .i64 kd, .int .i64 wh, .int .i64 id, .int .i64 tm, .int .i64 xv] 31) = w0) : Below w.heap.size w w0 ∧ Asked w w0 kd wh id tm xv := by
  subst h
  exact ⟨(Below.refl _ w).alloc (Nat.le_refl _) _, heap_alloc_new _ _⟩
section
variable {w w0 w1 : World} {kd wh id tm xv : Int} {K : Nat → Prop}
theorem Asked.cells (h : Asked w w0 kd wh id tm xv) : w0.cell? ⟨w.heap.size, 2, none⟩ = some (.int .i64 id) ∧ w0.cell? ⟨w.heap.size, 3, none⟩ = some (.int .i64 tm) ∧ w0.cell? ⟨w.heap.size, 4, none⟩ = some (.int .i64 xv) := ⟨cells_at h rfl, cells_at h rfl, cells_at h rfl⟩
theorem Asked.kept (h : Asked w w0 kd wh id tm xv) (c : Chg K w0 w1) (hK : ∀ k, K k → k < w.heap.size) : Asked w w1 kd wh id tm xv := (c.block _ (Array.getElem?_eq_some_iff.1 h).1 (fun e => by have := hK _ e; omega)).trans h
theorem Asked.below (h : Asked w w0 kd wh id tm xv) (b : Below w0.heap.size w0 w1) : Asked w w1 kd wh id tm xv := (b.block _ (Array.getElem?_eq_some_iff.1 h).1).trans h
end

set_option maxHeartbeats 1000000 in
theorem act_clone {w : World} {a m d : Nat} {ao : Option Addr} {L : List En} (r : Agn 68 76 w a m ao L) (q : Rf w d L) (hi : IntL L) (kd wh id tm xv : Int) (hk : amgV kd 6 = 4) :
    Calls Try.prog 14 #[.agg #[.int .i64 kd, .int .i64 wh, .int .i64 id, .int .i64 tm, .int .i64 xv], .pointer (some ⟨a, 0, none⟩), .pointer (some ⟨d, 0, none⟩)] w (ActPost w a m ao d L) := by
  go_enter Try.func14, Try.ntmps14
  go_wp2_with fail
  obtain ⟨w0, hw0⟩ : ∃ w0, w.alloc (.cells #[.int .i64 kd, .int .i64 wh, .int .i64 id, .int .i64 tm, .int .i64 xv] 31) = w0 := ⟨_, rfl⟩
  rw [hw0]
  obtain ⟨b0, as0⟩ := act_open hw0
  clear hw0
  have hlt := r.lt
  have r0 := r.below b0
  have q0 := q.below b0
  have ha := among_any kd 6 w0 (by omega) (by omega)
  rw [hk] at ha
  obtain ⟨y2, y3, y4⟩ := as0.cells
  have RA : Hid _ := r0
  have RB : Hid _ := q0
  have AS : Hid _ := as0
  clear as0
  clear r q r0 q0
  go_wp2_with (first
    | (go_at_call 11; refine ha.mono ?_; rintro e w1 ⟨rfl, hw⟩; obtain rfl := hw.symm))
  go_ret
  exact ActPost.from0 b0 (ActPost.still RA.out RB.out hi (Below.refl _ _))

set_option maxHeartbeats 2000000 in
theorem act_get {w : World} {a m d : Nat} {ao : Option Addr} {L : List En} (r : Agn 68 76 w a m ao L) (q : Rf w d L) (hi : IntL L) (kd wh id tm xv : Int) (hid : wfI id) (hlen : L.length * 40 ≤ 140737488355328) (hk : amgV kd 6 = 1) :
    Calls Try.prog 14 #[.agg #[.int .i64 kd, .int .i64 wh, .int .i64 id, .int .i64 tm, .int .i64 xv], .pointer (some ⟨a, 0, none⟩), .pointer (some ⟨d, 0, none⟩)] w (ActPost w a m ao d L) := by
  go_enter Try.func14, Try.ntmps14
  go_wp2_with fail
  obtain ⟨w0, hw0⟩ : ∃ w0, w.alloc (.cells #[.int .i64 kd, .int .i64 wh, .int .i64 id, .int .i64 tm, .int .i64 xv] 31) = w0 := ⟨_, rfl⟩
  rw [hw0]
  obtain ⟨b0, as0⟩ := act_open hw0
  clear hw0
  have hlt := r.lt
  have r0 := r.below b0
  have q0 := q.below b0
  have ha := among_any kd 6 w0 (by omega) (by omega)
  rw [hk] at ha
  obtain ⟨y2, y3, y4⟩ := as0.cells
  have RA : Hid _ := r0
  have RB : Hid _ := q0
  have AS : Hid _ := as0
  clear as0
  cases hp : posL L id with
  | none =>
    have h1 := get_no_I r0 id hid (pos_no hp)
    have h2 := rget_no q0 id hi.one (by omega) hp
    clear r q r0 q0
    go_wp2_with (first
      | (go_at_call 11; refine ha.mono ?_; rintro e w1 ⟨rfl, hw⟩; obtain rfl := hw.symm)
      | (go_at_call 22; refine h1.mono ?_; rintro e w2 ⟨rfl, hw2⟩; obtain rfl := hw2.symm)
      | (go_at_call 43; refine h2.mono ?_; rintro e w3 ⟨rfl, b3⟩))
    go_ret
    exact ActPost.from0 b0 (ActPost.still RA.out RB.out hi b3)
  | some k =>
    obtain ⟨f, hf1, hf2, hf3, hf4⟩ := pos_yes hp
    obtain ⟨x0, hx0⟩ := hi f hf3
    have h1 := get_yes_I r0 f hf3
    rw [hf2, hx0] at h1
    clear r q r0 q0
    go_wp2_with (first
      | (go_at_call 11; refine ha.mono ?_; rintro e w1 ⟨rfl, hw⟩; obtain rfl := hw.symm)
      | (go_at_call 22; refine h1.mono ?_; rintro e w2 ⟨rfl, g2⟩; have q2 := Rf.below RB.out (Grew.below g2); have as2 := Asked.below AS.out (Grew.below g2); obtain ⟨z2, z3, z4⟩ := as2.cells; have h2 := rget_yes q2 id hi.one (by omega) hp hf1; rw [hx0] at h2)
      | (go_at_call 43; refine h2.mono ?_; rintro e w3 ⟨rfl, b3⟩))
    go_ret
    exact ActPost.from0 b0 (ActPost.still RA.out RB.out hi ((Grew.below g2).trans (b3.mono (Grew.below g2).size)))
end Go.Proofs.Ytjmiifgofedcnaa
