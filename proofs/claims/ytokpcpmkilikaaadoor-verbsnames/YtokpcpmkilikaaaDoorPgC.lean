/-
  Package verbs: place.
-/
import Derived.Test.YtokpcpmkilikaaaDoorPgA
import Derived.Test.YtokpcpmkilikaaaDoorPgB
namespace Go.Proofs.YtokpcpmkilikaaaDoor
open Go.RowKit Vb

theorem place_text (x : UInt8) (hx : isNm x = true) (g : Nat) (w : World) : Calls Tryd.prog 33 #[.pointer (some ⟨g, 0, none⟩), .int .i64 (fnum x)] w fun e w' => e = .returned (.tuple #[.pointer (some ⟨g, offS x, none⟩), .pointer none]) ∧ w' = w := by
  unfold fnum
  rw [if_pos hx]
  unfold offS
  by_cases h : x = 78
  · rw [if_pos h]
    go_enter Tryd.func33, Tryd.ntmps33
    go_wp2
    go_ret2
    exact ⟨rfl, rfl⟩
  · rw [if_neg h]
    go_enter Tryd.func33, Tryd.ntmps33
    go_wp2
    go_ret2
    exact ⟨rfl, rfl⟩
theorem place_num (x : UInt8) (hx : isNm x = false) (g : Nat) (w : World) : Calls Tryd.prog 33 #[.pointer (some ⟨g, 0, none⟩), .int .i64 (fnum x)] w fun e w' => e = .returned (.tuple #[.pointer none, .pointer (some ⟨g, offI x, none⟩)]) ∧ ∃ q, w' = w.drewN q := by
  unfold fnum
  rw [if_neg (by simp [hx])]
  have h : offI x = 3 ∨ offI x = 4 ∨ offI x = 5 ∨ offI x = 6 ∨ offI x = 7 := by
    unfold offI
    repeat' split
    all_goals omega
  clear hx
  rcases h with h | h | h | h | h <;> rw [h] <;> clear h
  all_goals
    go_enter Tryd.func33, Tryd.ntmps33
    go_wp2_with fail
    go_quiet (fail)
    go_wp2
    go_ret2
    exact ⟨rfl, nq, rfl⟩
theorem below_drew (w : World) (n : Nat) : Below w.heap.size w (w.drewN n) := ⟨rfl, rfl, rfl, Nat.le_refl _, fun _ _ => rfl⟩

set_option maxHeartbeats 2000000 in
theorem read_text {x : UInt8} (hx : isNm x = true) {g : Nat} {c : Cm} (p : Bs) {w : World} (hc : CmAt w g c) :
    Calls Tryd.prog 19 #[.pointer (some ⟨g, 0, none⟩), .int .i64 (fnum x), .string (str p)] w fun e w' => e = .returned (.bool (validV p)) ∧ w' = w.setCell ⟨g, offS x, none⟩ (.string (str p)) := by
  have hp := place_text x hx g w
  have h1 := hc.text x
  have zf := hc.cells.2 (offS x)
  have hv := pvalid_any p
  generalize offS x = k at *
  generalize fnum x = f at *
  go_enter Tryd.func19, Tryd.ntmps19
  go_wp2_with fail
  refine hp.mono ?_
  rintro e w1 ⟨rfl, rfl⟩
  go_wp2_with fail
  refine (hv _).mono ?_
  rintro e w2 ⟨rfl, rfl⟩
  go_wp2
  go_ret
  exact ⟨rfl, rfl⟩
set_option maxHeartbeats 2000000 in
theorem read_num {x : UInt8} (hx : isNm x = false) {g : Nat} {c : Cm} (p : Bs) (hl : p.length ≤ 256) {w : World} (hc : CmAt w g c) (hT : Tab w) :
    Calls Tryd.prog 19 #[.pointer (some ⟨g, 0, none⟩), .int .i64 (fnum x), .string (str p)] w fun e w' => e = .returned (.bool (numV p).isSome) ∧ ∃ W, Below w.heap.size w W ∧ w' = W.setCell ⟨g, offI x, none⟩ (.int .i64 ((numV p).getD 0 : Nat)) := by
  have hp := place_num x hx g w
  have h1 := hc.num x
  have hv := num_any p hl
  unfold numA at hv
  generalize (numV p).isSome = ok at *
  generalize (numV p).getD 0 = n at *
  generalize offI x = k at *
  generalize fnum x = f at *
  go_enter Tryd.func19, Tryd.ntmps19
  go_wp2_with fail
  refine hp.mono ?_
  rintro e w1 ⟨rfl, q, rfl⟩
  go_wp2_with fail
  refine (hv _ (hT.below (below_drew w q))).mono ?_
  rintro e w2 ⟨rfl, b2⟩
  have h2 := kept b2 (kept (below_drew w q) h1)
  have zf := ((hc.below (below_drew w q)).below b2).cells.2 k
  clear h1
  go_wp2
  go_ret
  exact ⟨rfl, w2, (below_drew w q).trans b2, rfl⟩
set_option maxHeartbeats 2000000 in
theorem take_text {x : UInt8} (hx : isNm x = true) {g : Nat} {c : Cm} {w : World} (hc : CmAt w g c) :
    Calls Tryd.prog 31 #[.pointer (some ⟨g, 0, none⟩), .int .i64 (fnum x)] w fun e w' => e = .returned (.bool (validV (getS c x))) ∧ w' = w.setCell ⟨g, offS x, none⟩ (.string (str [])) := by
  have hp := place_text x hx g w
  have h1 := hc.text x
  have zf := hc.cells.2 (offS x)
  have hv := pvalid_any (getS c x)
  generalize getS c x = p at *
  generalize offS x = k at *
  generalize fnum x = f at *
  go_enter Tryd.func31, Tryd.ntmps31
  go_wp2_with fail
  refine hp.mono ?_
  rintro e w1 ⟨rfl, rfl⟩
  go_wp2_with fail
  refine (hv _).mono ?_
  rintro e w2 ⟨rfl, rfl⟩
  go_wp2
  go_ret
  exact ⟨rfl, rfl⟩
set_option maxHeartbeats 2000000 in
theorem take_num {x : UInt8} (hx : isNm x = false) {g : Nat} {c : Cm} {w : World} (hc : CmAt w g c) :
    Calls Tryd.prog 31 #[.pointer (some ⟨g, 0, none⟩), .int .i64 (fnum x)] w fun e w' => e = .returned (.bool (decide (0 ≤ getI c x))) ∧ ∃ q, w' = (w.setCell ⟨g, offI x, none⟩ (.int .i64 0)).drewN q := by
  have hp := place_num x hx g w
  have h1 := hc.num x
  have zf := hc.cells.2 (offI x)
  generalize getI c x = n at *
  generalize offI x = k at *
  generalize fnum x = f at *
  go_enter Tryd.func31, Tryd.ntmps31
  go_wp2_with fail
  refine hp.mono ?_
  rintro e w1 ⟨rfl, q, rfl⟩
  go_wp2
  go_ret
  exact ⟨rfl, q, rfl⟩
set_option maxHeartbeats 2000000 in
theorem written_text {x : UInt8} (hx : isNm x = true) (c : Cm) (w : World) :
    Calls Tryd.prog 27 #[cmV c, .int .i64 (fnum x)] w fun e w' => e = .returned (.string (str (getS c x))) ∧ Below w.heap.size w w' := by
  have hp := place_text x hx w.heap.size
  have hnew := CmAt.new w c
  have h1 := hnew.text x
  have hcm : cmV c = .agg #[.int .i64 c.kind, .string (str c.nm), .string (str c.pa), .int .i64 c.sh, .int .i64 c.nd, .int .i64 c.lm, .int .i64 c.jb, .int .i64 c.tk] := rfl
  rw [hcm]
  clear hnew
  unfold cmCells at h1
  generalize getS c x = s at *
  generalize offS x = k at *
  generalize fnum x = f at *
  go_enter Tryd.func27, Tryd.ntmps27
  go_wp2_with fail
  refine (hp _).mono ?_
  rintro e w1 ⟨rfl, rfl⟩
  go_wp2
  go_ret
  exact ⟨rfl, (Below.refl _ _).alloc (Nat.le_refl _) _⟩
set_option maxHeartbeats 2000000 in
theorem written_num {x : UInt8} (hx : isNm x = false) (c : Cm) (n : Nat) (hn : getI c x = n) (hb : (n : Int) ≤ 9223372036854775807) (w : World) (hT : Tab w) :
    Calls Tryd.prog 27 #[cmV c, .int .i64 (fnum x)] w fun e w' => e = .returned (.string (str (digV n))) ∧ Below w.heap.size w w' := by
  have hp := place_num x hx w.heap.size
  have hnew := CmAt.new w c
  have h1 := hnew.num x
  rw [hn] at h1
  have hi := itoa_any n hb
  have hcm : cmV c = .agg #[.int .i64 c.kind, .string (str c.nm), .string (str c.pa), .int .i64 c.sh, .int .i64 c.nd, .int .i64 c.lm, .int .i64 c.jb, .int .i64 c.tk] := rfl
  rw [hcm]
  clear hnew
  unfold cmCells at h1
  generalize offI x = k at *
  generalize fnum x = f at *
  clear hn
  have ba : Below w.heap.size w (w.alloc (.cells #[.int .i64 c.kind, .string (str c.nm), .string (str c.pa), .int .i64 c.sh, .int .i64 c.nd, .int .i64 c.lm, .int .i64 c.jb, .int .i64 c.tk] 24)) := (Below.refl _ _).alloc (Nat.le_refl _) _
  go_enter Tryd.func27, Tryd.ntmps27
  go_wp2_with fail
  refine (hp _).mono ?_
  rintro e w1 ⟨rfl, q, rfl⟩
  have hP : Pow ((w.alloc (.cells #[.int .i64 c.kind, .string (str c.nm), .string (str c.pa), .int .i64 c.sh, .int .i64 c.nd, .int .i64 c.lm, .int .i64 c.jb, .int .i64 c.tk] 24)).drewN q) := (hT.pow.below ba).below (below_drew _ q)
  go_wp2_with fail
  refine (hi _ hP).mono ?_
  rintro e w2 ⟨rfl, b2⟩
  go_wp2
  go_ret
  exact ⟨rfl, (ba.trans ((below_drew _ q).mono ba.size)).trans (b2.mono ba.size)⟩
end Go.Proofs.YtokpcpmkilikaaaDoor
