/-
  Package verbs: Check.
-/
import Derived.Test.YtokpcpmkilikaaaDoorPgD
namespace Go.Proofs.YtokpcpmkilikaaaDoor
open Go.RowKit Vb

/-- A row of fields. -/
def FldAt (w : World) (o : Nat) (F : Bs) : Prop := ∀ (j : Nat) (x : UInt8), F[j]? = some x → w.cell? ⟨o, j, none⟩ = some (.int .i64 (fnum x : Nat))
theorem FldAt.below {w w' : World} {o : Nat} {F : Bs} (h : FldAt w o F) (b : Below w.heap.size w w') : FldAt w' o F := fun j x hx => kept b (h j x hx)
theorem FldAt.far {w : World} {o g k : Nat} {F : Bs} {v : Value} (h : FldAt w o F) (hn : o ≠ g) : FldAt (w.setCell ⟨g, k, none⟩ v) o F := fun j x hx => (World.cell?_setCell_far w ⟨g, k, none⟩ ⟨o, j, none⟩ v (fun e => hn e.symm)).trans (h j x hx)
theorem row_flds {w : World} {B : Nat} {v : Value} {F : Bs} (h : w.ownsRow B 3 1 v F.length (fints F)) : ∃ ao cap o, v = .slice ao F.length cap ∧ (0 < F.length → ao = some ⟨o, 0, none⟩) ∧ B ≤ o ∧ FldAt w o F := by
  have h' := h
  rcases h.2 with ⟨e0, e1⟩ | ⟨o, cap, cur, rfl, hb, hg, _⟩
  · refine ⟨none, 0, B, by rw [e1]; exact e0, fun hp => by omega, Nat.le_refl _, fun j x hx => ?_⟩
    have := (List.getElem?_eq_some_iff.1 hx).1
    omega
  · refine ⟨some ⟨o, 0, none⟩, cap, o, rfl, fun _ => rfl, hb, fun j x hx => ?_⟩
    have hj : j < F.length := (List.getElem?_eq_some_iff.1 hx).1
    rw [h'.cellAt j (by omega)]
    simp [fints, hx]
theorem word_out {k : Int} (h : ¬ (1 ≤ k ∧ k ≤ 13)) : wordV k = ([], []) := by unfold wordV; rw [if_neg h]
theorem word_in {k : Nat} (h : 1 ≤ k ∧ k ≤ 13) : (wordV (k : Int)).1 ≠ [] := by
  have : ∀ k : Fin 13, (wordV ((k.val + 1 : Nat) : Int)).1 ≠ [] := by decide
  have h' := this ⟨k - 1, by omega⟩
  simp only [show k - 1 + 1 = k by omega] at h'
  exact h'
theorem flds_len (k : Int) : (wordV k).2.length ≤ 3 := form_len k
set_option maxHeartbeats 4000000 in
theorem check_no (c : Cm) (h : ¬ (1 ≤ c.kind ∧ c.kind ≤ 13)) (w : World) : Calls Tryd.prog 14 #[cmV c] w fun e w' => e = .returned (.int .i64 84) ∧ Below w.heap.size w w' := by
  have hk := iskind_any c.kind
  have e : (decide (1 ≤ c.kind) && decide (c.kind ≤ 13)) = false := by simp; omega
  rw [e] at hk
  unfold cmV
  clear e
  go_enter Tryd.func14, Tryd.ntmps14
  go_wp2_with fail
  refine (hk _).mono ?_
  rintro e w1 ⟨rfl, rfl⟩
  go_wp2
  go_ret
  exact ⟨rfl, (Below.refl _ _).alloc (Nat.le_refl _) _⟩
set_option maxHeartbeats 4000000 in
theorem check_yes (k : Nat) (hk1 : 1 ≤ k) (hk2 : k ≤ 13) (nm pa : Bs) (sh nd lm jb tk : Int) (w : World) (hT : Tab w) : Calls Tryd.prog 14 #[cmV ⟨k, nm, pa, sh, nd, lm, jb, tk⟩] w fun e w' => e = .returned (.int .i64 (endV (clearV ⟨0, nm, pa, sh, nd, lm, jb, tk⟩ (wordV (k : Int)).2))) ∧ Below w.heap.size w w' := by
  have hk := iskind_any (k : Int)
  have e : (decide (1 ≤ (k : Int)) && decide ((k : Int) ≤ 13)) = true := by simp; omega
  rw [e] at hk
  have hfl := fields_any k hk1 hk2
  have hln := flds_len (k : Int)
  generalize (wordV (k : Int)).2 = F at *
  unfold cmV
  simp only
  clear e
  have bA : Below w.heap.size w ((w.alloc (.cells #[.int .i64 k, .string (str nm), .string (str pa), .int .i64 sh, .int .i64 nd, .int .i64 lm, .int .i64 jb, .int .i64 tk] 24)).alloc (.cells #[.int .i64 0, .string (str nm), .string (str pa), .int .i64 sh, .int .i64 nd, .int .i64 lm, .int .i64 jb, .int .i64 tk] 24)) := ((Below.refl _ _).alloc (Nat.le_refl _) _).alloc (by simp) _
  have C0 : CmAt ((w.alloc (.cells #[.int .i64 k, .string (str nm), .string (str pa), .int .i64 sh, .int .i64 nd, .int .i64 lm, .int .i64 jb, .int .i64 tk] 24)).alloc (.cells #[.int .i64 0, .string (str nm), .string (str pa), .int .i64 sh, .int .i64 nd, .int .i64 lm, .int .i64 jb, .int .i64 tk] 24)) (w.heap.size + 1) ⟨0, nm, pa, sh, nd, lm, jb, tk⟩ := by
    have := CmAt.new (w.alloc (.cells #[.int .i64 k, .string (str nm), .string (str pa), .int .i64 sh, .int .i64 nd, .int .i64 lm, .int .i64 jb, .int .i64 tk] 24)) ⟨0, nm, pa, sh, nd, lm, jb, tk⟩
    rwa [World.size_alloc] at this
  have HC0 : Hid (CmAt _ _ _) := C0
  have HT : Hid _ := hT.below bA
  have HB : Hid _ := bA
  clear C0 bA
  go_enter Tryd.func14, Tryd.ntmps14
  go_wp2_with fail
  refine (hk _).mono ?_
  rintro e w1 ⟨rfl, rfl⟩
  go_wp2_with fail
  refine (hfl _ HT.out).mono ?_
  rintro e w2 ⟨v, rfl, hrow, b2⟩
  obtain ⟨ao, cap, o, rfl, hao, hBo, hF⟩ := row_flds hrow
  simp at hBo
  have hC2 := CmAt.below HC0.out b2
  have hB2 := HB.out.trans (b2.mono HB.out.size)
  clear HC0 HT HB b2 hrow hfl hk
  obtain ⟨q, hq⟩ : ∃ q, F.length = q := ⟨_, rfl⟩
  have HQ : Hid _ := hq
  rw [hq] at hao hln ⊢
  clear hq
  go_wp2
  go_loopg [16] q (fun gk p wr => ∃ (j : Nat) (d : Cm), j + gk = q ∧ p = .int .i64 j ∧ CmAt wr (w.heap.size + 1) d ∧ FldAt wr o F ∧ Below w.heap.size w wr ∧ clearV ⟨0, nm, pa, sh, nd, lm, jb, tk⟩ F = clearV d (F.drop j))
  case atStart => exact ⟨0, _, by omega, rfl, hC2, hF, hB2, by simp⟩
  case round =>
    clear hC2 hF hB2
    obtain ⟨j, d, hj, rfl, hC, hF, hb, hinv⟩ := hrel
    have hz := hb.size
    by_cases hlt : j < q
    · have hlt' : (j : Int) < q := by omega
      obtain ⟨x, hx⟩ : ∃ x, F[j]? = some x := ⟨_, List.getElem?_eq_getElem (by rw [HQ.out]; exact hlt)⟩
      have hcell := hF j x hx
      obtain rfl := hao (by omega)
      cases hn : isNm x with
      | true =>
        rw [clear_name hx hn] at hinv
        have HI : Hid _ := hinv
        have htk := take_text hn hC
        have C1 := hC.setText x []
        have HC1 : Hid (CmAt _ _ _) := C1
        have F1 : Hid (FldAt _ _ _) := hF.far (g := w.heap.size + 1) (k := offS x) (v := .string (str [])) (by omega)
        have B1 : Hid (Below _ _ _) := hb.setCell (p := ⟨w.heap.size + 1, offS x, none⟩) (by simp) (.string (str []))
        clear hx hinv hn hC hF C1
        cases hvv : validV (getS d x) with
        | true =>
          rw [hvv, if_pos rfl] at HI
          rw [hvv] at htk
          go_wp2_with fail
          refine htk.mono ?_
          rintro e w1 ⟨rfl, rfl⟩
          go_wp2
          go_roundg (q - (j + 1))
          case measure => omega
          case rel => exact ⟨j + 1, setS d x [], by omega, by go_num, HC1.out, F1.out, B1.out, HI.out⟩
        | false =>
          rw [hvv, if_neg (by simp)] at HI
          rw [hvv] at htk
          go_wp2_with fail
          refine htk.mono ?_
          rintro e w1 ⟨rfl, rfl⟩
          go_wp2
          go_ret
          exact ⟨by rw [HI.out]; rfl, B1.out⟩
      | false =>
        rw [clear_num hx hn] at hinv
        have htk := take_num hn hC
        have C1 := hC.setNum x 0
        have HC1 : Hid (CmAt _ _ _) := C1
        have F1 : Hid (FldAt _ _ _) := hF.far (g := w.heap.size + 1) (k := offI x) (v := .int .i64 0) (by omega)
        have B1 : Hid (Below _ _ _) := hb.setCell (p := ⟨w.heap.size + 1, offI x, none⟩) (by simp) (.int .i64 0)
        clear hx hn C1 hC hF
        by_cases hneg : getI d x < 0
        · rw [if_pos hneg] at hinv
          have HI : Hid _ := hinv
          rw [decide_eq_false (by omega)] at htk
          clear hinv hneg
          go_wp2_with fail
          refine htk.mono ?_
          rintro e w1 ⟨rfl, n, rfl⟩
          go_wp2
          go_ret
          exact ⟨by rw [HI.out]; rfl, B1.out.trans ((below_drew _ n).mono B1.out.size)⟩
        · rw [if_neg hneg] at hinv
          have HI : Hid _ := hinv
          rw [decide_eq_true (by omega)] at htk
          clear hinv hneg
          go_wp2_with fail
          refine htk.mono ?_
          rintro e w1 ⟨rfl, n, rfl⟩
          go_wp2
          go_roundg (q - (j + 1))
          case measure => omega
          case rel => exact ⟨j + 1, setI d x 0, by omega, by go_num, CmAt.below HC1.out (below_drew _ n), FldAt.below F1.out (below_drew _ n), B1.out.trans ((below_drew _ n).mono B1.out.size), HI.out⟩
    · obtain rfl : j = q := by omega
      have HI : Hid (clearV ⟨0, nm, pa, sh, nd, lm, jb, tk⟩ F = some d) := by
        rw [hinv, List.drop_of_length_le (by rw [HQ.out]; exact Nat.le_refl _)]; exact rfl
      clear hinv
      obtain ⟨kd, nm', pa', sh', nd', lm', jb', tk'⟩ := d
      obtain ⟨⟨z0, z1, z2, z3, z4, z5, z6, z7⟩, _⟩ := hC.cells
      simp only at z0 z1 z2 z3 z4 z5 z6 z7
      go_wp2
      all_goals go_ret
      all_goals refine ⟨?_, hb⟩
      all_goals rw [HI.out, end_zero]
      all_goals first
        | (rw [if_pos (by refine ⟨?_, ?_, ?_, ?_, ?_, ?_, ?_, ?_⟩ <;> assumption)]; rfl)
        | (rw [if_neg (by rintro ⟨y0, y1, y2, y3, y4, y5, y6, y7⟩; contradiction)]; rfl)
theorem pcheck_any (c : Cm) (w : World) (hT : Tab w) : Calls Tryd.prog 14 #[cmV c] w fun e w' => e = .returned (.int .i64 (checkV c)) ∧ Below w.heap.size w w' := by
  have hck : checkV c = if (wordV c.kind).1 = [] then 84 else endV (clearV { c with kind := 0 } (wordV c.kind).2) := rfl
  rw [hck]
  obtain ⟨kind, nm, pa, sh, nd, lm, jb, tk⟩ := c
  by_cases h : 1 ≤ kind ∧ kind ≤ 13
  · obtain ⟨k, rfl⟩ : ∃ k : Nat, kind = k := ⟨kind.toNat, by omega⟩
    rw [if_neg (word_in ⟨by omega, by omega⟩)]
    exact check_yes k (by omega) (by omega) nm pa sh nd lm jb tk w hT
  · rw [if_pos (by rw [word_out h])]
    exact check_no _ h w
end Go.Proofs.YtokpcpmkilikaaaDoor
