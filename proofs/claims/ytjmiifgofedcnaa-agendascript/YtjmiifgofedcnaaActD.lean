/-
  One act: Add, Drop.
-/
import Derived.Test.YtjmiifgofedcnaaActB
import Derived.Deep.RegionHeld3
namespace Go.Proofs.Ytjmiifgofedcnaa
open Go.RowKit Ag

set_option maxHeartbeats 2000000 in
theorem act_add {w : World} {a m d : Nat} {ao : Option Addr} {L : List En} (r : Agn 68 76 w a m ao L) (q : Rf w d L) (hi : IntL L) (kd wh id tm xv : Int) (hid : wfI id) (htm : wfI tm) (hlen : (L.length + 1) * 40 ≤ 140737488355328) (hk : amgV kd 6 = 0) :
    Calls Try.prog 14 #[.agg #[.int .i64 kd, .int .i64 wh, .int .i64 id, .int .i64 tm, .int .i64 xv], .pointer (some ⟨a, 0, none⟩), .pointer (some ⟨d, 0, none⟩)] w (ActPost w a m ao d L) := by
  go_enter Try.func14, Try.ntmps14
  go_wp2_with fail
  obtain ⟨w0, hw0⟩ : ∃ w0, w.alloc (.cells #[.int .i64 kd, .int .i64 wh, .int .i64 id, .int .i64 tm, .int .i64 xv] 31) = w0 := ⟨_, rfl⟩
  rw [hw0]
  obtain ⟨b0, as0⟩ := act_open hw0
  clear hw0
  have hlt := r.lt
  have hdl0 := q.tag.2
  have r0 := r.below b0
  have q0 := q.below b0
  have ha := among_any kd 6 w0 (by omega) (by omega)
  rw [hk] at ha
  obtain ⟨y2, y3, y4⟩ := as0.cells
  have hD : Below w0.heap.size w0 w0.drew := (Below.refl _ w0).drew
  have r1 := r0.below hD
  have q1 := q0.below hD
  have RA : Hid _ := r1
  have RB : Hid _ := q1
  have AS : Hid _ := as0.below hD
  have b1 : Below w.heap.size w w0.drew := b0.drew
  clear as0
  cases hp : posL L id with
  | none =>
    have h1 := add_yes_I r1 id tm xv hid htm (pos_no hp) hlen
    clear r q r0 q0 r1 q1
    go_wp2_with (first
      | (go_at_call 11; refine ha.mono ?_; rintro e w1 ⟨rfl, hw⟩; obtain rfl := hw.symm))
    go_region_held3 (fun w' => w'.cell? ⟨w.heap.size, 2, none⟩ = some (.int .i64 id) ∧ w'.cell? ⟨w.heap.size, 3, none⟩ = some (.int .i64 tm) ∧ w'.cell? ⟨w.heap.size, 4, none⟩ = some (.int .i64 xv)) (first | exact Asked.cells AS.out | exact Asked.cells as2 | exact Asked.cells as3)
      (first
      | (go_at_call 23; refine h1.mono ?_; rintro e w2 ⟨rfl, ao', r2, hm, c2⟩; have q2 := Rf.byA RB.out RA.out c2; have as2 := Asked.kept AS.out c2 hlt; obtain ⟨z2, z3, z4⟩ := as2.cells)
      | (go_at_call 42; refine (radd_yes q2 id tm xv hi.one hlen hp).mono ?_; rintro e w3 ⟨rfl, q3, c3⟩; have as3 := Asked.kept as2 c3 (fun k h => h ▸ hdl0)))
    all_goals (go_wp2; go_ret)
    all_goals exact ActPost.from0 b1 (ActPost.turned r2 c2 hm q3 q2 c3 (hi.ins xv) (by rw [len_insL]; omega))
  | some k =>
    obtain ⟨f, hf1, hf2, hf3, hf4⟩ := pos_yes hp
    have h1 := add_no_I r1 f hf3 tm xv
    rw [hf2] at h1
    have h2 := radd_no q1 id tm xv hi.one (by omega) hp
    clear r q r0 q0 r1 q1
    go_wp2_with (first
      | (go_at_call 11; refine ha.mono ?_; rintro e w1 ⟨rfl, hw⟩; obtain rfl := hw.symm))
    go_region_held3 (fun w' => w'.cell? ⟨w.heap.size, 2, none⟩ = some (.int .i64 id) ∧ w'.cell? ⟨w.heap.size, 3, none⟩ = some (.int .i64 tm) ∧ w'.cell? ⟨w.heap.size, 4, none⟩ = some (.int .i64 xv)) (first | exact Asked.cells AS.out | exact Asked.cells as2 | exact Asked.cells as3)
      (first
      | (go_at_call 23; refine h1.mono ?_; rintro e w2 ⟨rfl, hw2⟩; obtain rfl := hw2.symm)
      | (go_at_call 42; refine h2.mono ?_; rintro e w3 ⟨rfl, q3, b3⟩; have as3 := Asked.below AS.out b3))
    all_goals (go_wp2; go_ret)
    all_goals exact ActPost.from0 b1 (ActPost.still RA.out RB.out hi b3)

set_option maxHeartbeats 2000000 in
theorem act_drop {w : World} {a m d : Nat} {ao : Option Addr} {L : List En} (r : Agn 68 76 w a m ao L) (q : Rf w d L) (hi : IntL L) (kd wh id tm xv : Int) (hid : wfI id) (hlen : L.length * 40 ≤ 140737488355328) (hk : amgV kd 6 = 2) :
    Calls Try.prog 14 #[.agg #[.int .i64 kd, .int .i64 wh, .int .i64 id, .int .i64 tm, .int .i64 xv], .pointer (some ⟨a, 0, none⟩), .pointer (some ⟨d, 0, none⟩)] w (ActPost w a m ao d L) := by
  go_enter Try.func14, Try.ntmps14
  go_wp2_with fail
  obtain ⟨w0, hw0⟩ : ∃ w0, w.alloc (.cells #[.int .i64 kd, .int .i64 wh, .int .i64 id, .int .i64 tm, .int .i64 xv] 31) = w0 := ⟨_, rfl⟩
  rw [hw0]
  obtain ⟨b0, as0⟩ := act_open hw0
  clear hw0
  have hlt := r.lt
  have hdl0 := q.tag.2
  have r0 := r.below b0
  have q0 := q.below b0
  have ha := among_any kd 6 w0 (by omega) (by omega)
  rw [hk] at ha
  obtain ⟨y2, y3, y4⟩ := as0.cells
  have hD : Below w0.heap.size w0 w0.drew := (Below.refl _ w0).drew
  have r1 := r0.below hD
  have q1 := q0.below hD
  have RA : Hid _ := r1
  have RB : Hid _ := q1
  have AS : Hid _ := as0.below hD
  have b1 : Below w.heap.size w w0.drew := b0.drew
  clear as0
  cases hp : posL L id with
  | none =>
    have h1 := drop_no_I r1 id hid (pos_no hp)
    have h2 := rdrop_no q1 id hi.one (by omega) hp
    clear r q r0 q0 r1 q1
    go_wp2_with (first
      | (go_at_call 11; refine ha.mono ?_; rintro e w1 ⟨rfl, hw⟩; obtain rfl := hw.symm))
    go_region_held3 (fun w' => w'.cell? ⟨w.heap.size, 2, none⟩ = some (.int .i64 id)) (first | exact (Asked.cells AS.out).1 | exact (Asked.cells as2).1 | exact (Asked.cells as3).1)
      (first
      | (go_at_call 25; refine h1.mono ?_; rintro e w2 ⟨rfl, hw2⟩; obtain rfl := hw2.symm)
      | (go_at_call 44; refine h2.mono ?_; rintro e w3 ⟨rfl, q3, b3⟩; have as3 := Asked.below AS.out b3))
    all_goals (go_wp2; go_ret)
    all_goals exact ActPost.from0 b1 (ActPost.still RA.out RB.out hi b3)
  | some k =>
    obtain ⟨f, hf1, hf2, hf3, hf4⟩ := pos_yes hp
    have h1 := drop_yes_I r1 f hf3
    have hdl := del_pos hp (Agn.ids r1) (Agn.nodup r1)
    rw [hf2, hdl] at h1
    clear r q r0 q0 r1 q1
    go_wp2_with (first
      | (go_at_call 11; refine ha.mono ?_; rintro e w1 ⟨rfl, hw⟩; obtain rfl := hw.symm))
    go_region_held3 (fun w' => w'.cell? ⟨w.heap.size, 2, none⟩ = some (.int .i64 id)) (first | exact (Asked.cells AS.out).1 | exact (Asked.cells as2).1 | exact (Asked.cells as3).1)
      (first
      | (go_at_call 25; refine h1.mono ?_; rintro e w2 ⟨rfl, r2, c2⟩; have q2 := Rf.byA RB.out RA.out c2; have as2 := Asked.kept AS.out c2 hlt; obtain ⟨z2, z3, z4⟩ := as2.cells)
      | (go_at_call 44; refine (rdrop_yes q2 id hi.one hlen hp hf4).mono ?_; rintro e w3 ⟨rfl, q3, c3⟩; have as3 := Asked.kept as2 c3 (fun k h => h ▸ hdl0)))
    all_goals (go_wp2; go_ret)
    all_goals exact ActPost.from0 b1 (ActPost.turned r2 c2 (.inl rfl) q3 q2 c3 (hi.cut k) (by rw [List.length_append, List.length_take, List.length_drop]; omega))
end Go.Proofs.Ytjmiifgofedcnaa
