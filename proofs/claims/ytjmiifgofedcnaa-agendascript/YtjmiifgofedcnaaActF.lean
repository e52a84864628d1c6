/-
  One act: Due.
-/
import Derived.Test.YtjmiifgofedcnaaActE
namespace Go.Proofs.Ytjmiifgofedcnaa
open Go.RowKit Ag

/-- What stands while the list that was handed out is written over. -/
def DSt (w0 : World) (a m : Nat) (ao : Option Addr) (d : Nat) (R : List En) (W : World) : Prop := Agn 68 76 W a m ao R ∧ Rf W d R ∧ Chg (fun k => Kag a m ao k ∨ k = d) w0 W
theorem DSt.row {w0 W W' : World} {a m d n : Nat} {ao : Option Addr} {R : List En} {v : Value} {ys : List Value} (h : DSt w0 a m ao d R W) (o : W.ownsRow w0.heap.size 3 1 v n ys) (hl : ∀ k, Kag a m ao k → k < w0.heap.size) (c : Chg (fun k => v.ownBlock = some k) W W') : DSt w0 a m ao d R W' := by
  obtain ⟨h1, h2, h3⟩ := h
  refine ⟨h1.kept c (fun k hk e => ?_), h2.kept c (fun k _ e => ?_), h3.trans c (fun k hk e => ?_)⟩
  · have := (o.lt k e).1
    have := hl k hk
    omega
  · obtain ⟨cs, hcs⟩ := row_block o e
    rw [tg_cells hcs]
    decide
  · have := (o.lt k e).1
    omega

set_option maxHeartbeats 2000000 in
set_option maxRecDepth 20000 in
theorem act_due {w : World} {a m d : Nat} {ao : Option Addr} {L : List En} (r : Agn 68 76 w a m ao L) (q : Rf w d L) (hi : IntL L) (kd wh id tm xv : Int) (hlen : L.length * 40 ≤ 140737488355328) (hk : amgV kd 6 = 3) :
    Calls Try.prog 14 #[.agg #[.int .i64 kd, .int .i64 wh, .int .i64 id, .int .i64 tm, .int .i64 xv], .pointer (some ⟨a, 0, none⟩), .pointer (some ⟨d, 0, none⟩)] w (ActPost w a m ao d L) := by
  go_enter Try.func14, Try.ntmps14
  go_wp2_with fail
  obtain ⟨w0, hw0⟩ : ∃ w0, w.alloc (.cells #[.int .i64 kd, .int .i64 wh, .int .i64 id, .int .i64 tm, .int .i64 xv] 31) = w0 := ⟨_, rfl⟩
  rw [hw0]
  obtain ⟨b0, as0⟩ := act_open hw0
  clear hw0
  have hlt := r.lt
  have r0 := r.below b0
  have q0 := q.below b0
  have ha := among_any kd 6 w0 (by omega) (by omega)
  rw [hk] at ha
  obtain ⟨y2, y3, y4⟩ := as0.cells
  have RA : Hid _ := r0
  have RB : Hid _ := q0
  have AS : Hid _ := as0
  clear as0
  have h1 := due_I r0 tm (by omega)
  obtain ⟨i0, hi0, hz0, hz1, hz2⟩ := info_parts Try.inf3I
  have hlt0 := r0.lt
  have hd0 := q0.tag.2
  clear r q r0 q0
  go_wp2_with (first
    | (go_at_call_of 11 (Value.int IntKind.i64 kd); refine ha.mono ?_; rintro e w1 ⟨rfl, hw⟩; obtain rfl := hw.symm)
    | (go_at_call 19; refine h1.mono ?_; rintro e w2 ⟨v1, rfl, o1, r2, c2⟩; have q2 := Rf.byA RB.out RA.out c2; have as2 := Asked.kept AS.out c2 hlt; obtain ⟨z2, z3, z4⟩ := as2.cells)
    | (go_at_call 45; refine (rdue_any q2 tm hlen).mono ?_; rintro e w3 ⟨v3, rfl, o3, q3, c3⟩; have r3 := Agn.byR r2 q2 c3; have p1 : w3.ownsRow w0.heap.size 3 1 v1 (dueL tm L).length (ints ((dueL tm L).map En.id)) := row_kept o1 (fun k hk => c3.block k (o1.lt k hk).2 (fun e => by have := (o1.lt k hk).1; subst e; omega)); have el : (dueL tm L).length = ((dueL tm L).map En.id).length := (by simp); have x1 := rd_own (el ▸ p1); have x3 := rd_own (el ▸ o3))
    | (go_at_call 21; refine (numbers_any x1 x3 (by have := due_len tm L; rw [List.length_map]; omega) (by have := due_len tm L; rw [List.length_map]; omega)).mono ?_; rintro e w4 ⟨rfl, g4⟩; have r4 := r3.below (Grew.below g4); have q4 := q3.below (Grew.below g4); have p4 := row_kept p1 (fun k hk => (Grew.below g4).block k (p1.lt k hk).2); obtain ⟨n, hn⟩ : ∃ n, (dueL tm L).length = n := ⟨_, rfl⟩; obtain ⟨a1, cp1, h1v, hle1⟩ := owns_slice p4; subst h1v; rw [hn] at p4 hle1; rw [hn]; clear x1 x3 p1 o1))
  have D4 : DSt w0 a m ao d (restL tm L) w4 := ⟨r4, q4, ((c2.mono (fun _ _ h => .inl h)).trans c3 (fun _ _ h => .inr h)).trans (Chg.of_below (Grew.below g4) (fun _ => False)) (fun _ _ h => h.elim)⟩
  have hnl : n ≤ L.length := by have := due_len tm L; omega
  have D0 : Hid _ := D4
  have P0 : Hid _ := p4
  have HL : Hid _ := hlt0
  clear D4 p4 r4 q4 r3 q3 c3 c2 r2 q2 as2 z2 z3 z4 y2 y3 y4 o3 h1 ha g4 el hlt0 AS
  go_loopg [99] n (fun gk c wr => ∃ k : Nat, k + gk = n ∧ c = .int .i64 k ∧ (∃ ys, wr.ownsRow w0.heap.size 3 1 (.slice a1 n cp1) n ys) ∧ DSt w0 a m ao d (restL tm L) wr)
  case atStart => exact ⟨0, by omega, rfl, ⟨_, P0.out⟩, D0.out⟩
  case round =>
    obtain ⟨k, hk, rfl, ⟨ys, o⟩, hD⟩ := hrel
    by_cases hkn : k < n
    · rcases owns_shape o with ⟨_, h0⟩ | ⟨g, cap, hv, _, _⟩
      · omega
      simp only [Value.slice.injEq, true_and] at hv
      obtain ⟨rfl, rfl⟩ := hv
      obtain ⟨y, hy⟩ : ∃ y, ys[k]? = some y := ⟨_, List.getElem?_eq_getElem (by have := o.1; omega)⟩
      have s0 := o.cellAt k (by omega)
      rw [hy] at s0
      have s1 := o.frozenAt k
      obtain ⟨o', hg'⟩ := o.stored k (.int .i64 (-9))
      have hD' := hD.row o HL.out (Chg.of_gr hg' (fun j e => .inl e))
      have O : Hid _ := o'
      have HD : Hid _ := hD'
      clear o o' hD hD' hg'
      go_wp2
      go_roundg (n - (k + 1))
      case measure => omega
      case rel => exact ⟨k + 1, by omega, rfl, ⟨_, O.out⟩, HD.out⟩
    · have P1 : Hid _ := o
      have D1 : Hid _ := hD
      clear o hD
      go_wp2
      go_loopg [13, 106] 4 (fun gk l c wr => ∃ k : Nat, k + gk = 4 ∧ c = .int .i64 k ∧ (∃ ys, wr.ownsRow w0.heap.size 3 1 l (n + k) ys) ∧ DSt w0 a m ao d (restL tm L) wr)
      case atStart => exact ⟨0, by omega, rfl, ⟨_, P1.out⟩, D1.out⟩
      case round =>
        obtain ⟨j, hj, rfl, ⟨zs, o⟩, hD⟩ := hrel
        have hsz := hD.2.2.size
        by_cases hj4 : j < 4
        · go_wp2_with (first
            | (at_builtin; refine wpList_append_own _ rfl (.tmp 108) (.tmp 109) 38 rfl w0.heap.size 3 i0 (.int .i64 0) 1 8 Try.underlying38 hi0 hz0 hz1 hz2 rfl (by decide) _ _ _ rfl (o.alloc _) ⟨_, 0, none⟩ 1 1 [.int .i64 (-9)] rfl rfl (cell_one_new _ _ _) (by intro u hu; simp at hu; subst hu; rfl) (Nat.le_trans (m := 35184372088832) (by omega) (by decide)) (by omega) (by simp; omega) ?_; intro v2 w6 o6 hg6 hnil6; have hD6 := hD.row o HL.out (((Chg.refl _ _).alloc _).trans (K' := fun k => _ = some k) (Chg.of_gr hg6 (fun k e => .inl e)) (fun _ _ h => h))))
          go_roundg (4 - (j + 1))
          case measure => omega
          case rel => exact ⟨j + 1, by omega, rfl, ⟨_, o6⟩, hD6⟩
        · go_wp2
          go_ret
          exact ActPost.from0 b0 ⟨rfl, ao, restL tm L, hD.1, hD.2.1, hi.sub (fun e he => by rw [← due_rest tm L]; exact List.mem_append_right _ he), by have := due_len tm L; omega, .inl rfl, hD.2.2⟩
end Go.Proofs.Ytjmiifgofedcnaa
