/-
  Layer 8's reference: Check.
-/
import Derived.Test.YtokpcpmkilikaaaDoorRvF
namespace Go.Proofs.YtokpcpmkilikaaaDoor
open Go.RowKit Vb

def endV (o : Option Cm) : Int := match o with
  | none => 84
  | some r => @ite Int (r = zeroC) (cmDec r zeroC) 0 84
theorem str_list (s : Bs) : (str s).toList = s := by rw [Lib.toList_data]; rfl
theorem end_zero (kd : Int) (nm pa : Bs) (sh nd lm jb tk : Int) : endV (some ⟨kd, nm, pa, sh, nd, lm, jb, tk⟩) = if kd = 0 ∧ (str nm).toList = [] ∧ (str pa).toList = [] ∧ sh = 0 ∧ nd = 0 ∧ lm = 0 ∧ jb = 0 ∧ tk = 0 then 0 else 84 := by
  unfold endV zeroC
  simp only [str_list, Cm.mk.injEq]
theorem clear_name {d : Cm} {F : Bs} {j : Nat} {x : UInt8} (h : F[j]? = some x) (hn : isNm x = true) : clearV d (F.drop j) = if validV (getS d x) = true then clearV (setS d x []) (F.drop (j + 1)) else none := by
  obtain ⟨hj, rfl⟩ := List.getElem?_eq_some_iff.1 h
  rw [List.drop_eq_getElem_cons hj]
  simp only [clearV]
  rw [if_pos hn]
theorem clear_num {d : Cm} {F : Bs} {j : Nat} {x : UInt8} (h : F[j]? = some x) (hn : isNm x = false) : clearV d (F.drop j) = if getI d x < 0 then none else clearV (setI d x 0) (F.drop (j + 1)) := by
  obtain ⟨hj, rfl⟩ := List.getElem?_eq_some_iff.1 h
  rw [List.drop_eq_getElem_cons hj]
  simp only [clearV]
  rw [if_neg (by simp [hn])]
set_option maxHeartbeats 2000000 in
theorem rcheck_any (c : Cm) (w : World) : Calls Tryd.prog 15 #[cmV c] w fun e w' => e = .returned (.int .i64 (checkV c)) ∧ Below w.heap.size w w' := by
  have hwd := word_any c.kind
  have hfl := form_len c.kind
  have hck : checkV c = if (wordV c.kind).1 = [] then 84 else endV (clearV { c with kind := 0 } (wordV c.kind).2) := rfl
  obtain ⟨W, hW⟩ : ∃ W, (wordV c.kind).1 = W := ⟨_, rfl⟩
  obtain ⟨F, hF⟩ : ∃ F, (wordV c.kind).2 = F := ⟨_, rfl⟩
  rw [hW, hF] at hck hwd
  rw [hF] at hfl
  rw [hck]
  obtain ⟨kind, nm, pa, sh, nd, lm, jb, tk⟩ := c
  unfold cmV
  simp only at hwd ⊢
  clear hck hW hF
  by_cases h : W = []
  · subst h
    rw [if_pos rfl]
    have he : (str []).toList.isEmpty = true := by rw [Lib.toList_data]; rfl
    go_enter Tryd.func15, Tryd.ntmps15
    go_wp2_with fail
    refine (hwd _).mono ?_
    rintro e w1 ⟨rfl, rfl⟩
    go_wp2
    go_ret
    exact ⟨rfl, (Below.refl _ _).alloc (Nat.le_refl _) _⟩
  · rw [if_neg h]
    have he : (str W).toList.isEmpty = false := by
      rw [Lib.toList_data]
      cases W with
      | nil => exact absurd rfl h
      | cons x r => rfl
    have hsz := str_size F
    obtain ⟨q, hq⟩ : ∃ q, F.length = q := ⟨_, rfl⟩
    have HQ : Hid _ := hq
    rw [hq] at hsz hfl
    clear h hq
    go_enter Tryd.func15, Tryd.ntmps15
    go_wp2_with fail
    refine (hwd _).mono ?_
    rintro e w1 ⟨rfl, rfl⟩
    go_wp2
    have C0 : CmAt ((w.alloc (.cells #[.int .i64 kind, .string (str nm), .string (str pa), .int .i64 sh, .int .i64 nd, .int .i64 lm, .int .i64 jb, .int .i64 tk] 24)).alloc (.cells #[.int .i64 0, .string (str nm), .string (str pa), .int .i64 sh, .int .i64 nd, .int .i64 lm, .int .i64 jb, .int .i64 tk] 24)) (w.heap.size + 1) ⟨0, nm, pa, sh, nd, lm, jb, tk⟩ := by
      have := CmAt.new (w.alloc (.cells #[.int .i64 kind, .string (str nm), .string (str pa), .int .i64 sh, .int .i64 nd, .int .i64 lm, .int .i64 jb, .int .i64 tk] 24)) ⟨0, nm, pa, sh, nd, lm, jb, tk⟩
      rwa [World.size_alloc] at this
    have HC0 : Hid _ := C0
    clear C0
    go_loopg [6] q (fun gk p wr => ∃ (j : Nat) (d : Cm), j + gk = q ∧ p = .int .i64 j ∧ CmAt wr (w.heap.size + 1) d ∧ Below w.heap.size w wr ∧ clearV ⟨0, nm, pa, sh, nd, lm, jb, tk⟩ F = clearV d (F.drop j))
    case atStart => exact ⟨0, _, by omega, rfl, HC0.out, ((Below.refl _ _).alloc (Nat.le_refl _) _).alloc (by simp) _, by simp⟩
    case round =>
      clear HC0
      obtain ⟨j, d, hj, rfl, hC, hb, hinv⟩ := hrel
      have hz := hb.size
      by_cases hlt : j < q
      · have hlt' : (j : Int) < q := by omega
        obtain ⟨x, hx⟩ : ∃ x, F[j]? = some x := ⟨_, List.getElem?_eq_getElem (by rw [HQ.out]; exact hlt)⟩
        have hjs : j < (str F).size := by omega
        have hxs : (str F)[j] = x := str_at F hx hjs
        have hnm := named_any x
        cases hn : isNm x with
        | true =>
          rw [clear_name hx hn] at hinv
          rw [hn] at hnm
          have HI : Hid _ := hinv
          have c1 := hC.text x
          have f1 := hC.cells.2 (offS x)
          have hv := rvalid_any (getS d x)
          have C1 := hC.setText x []
          clear hx hinv hn
          go_wp2_with fail
          refine (hnm _).mono ?_
          rintro e w1 ⟨rfl, rfl⟩
          go_wp2_with fail
          refine (text_any x (w.heap.size + 1) _).mono ?_
          rintro e w2 ⟨rfl, rfl⟩
          go_wp2_with fail
          refine (hv _).mono ?_
          rintro e w3 ⟨rfl, b3⟩
          have hC3 := hC.below b3
          have c3 := hC3.text x
          have f3 := hC3.cells.2 (offS x)
          have C3 := hC3.setText x []
          have HC3 : Hid (CmAt _ _ _) := C3
          clear C3 hC3 hC c1 f1 C1
          cases hvv : validV (getS d x) with
          | true =>
            rw [hvv, if_pos rfl] at HI
            go_wp2
            go_roundg (q - (j + 1))
            case measure => omega
            case rel => exact ⟨j + 1, setS d x [], by omega, by go_num, HC3.out, (hb.trans (b3.mono hz)).setCell (by simp) _, HI.out⟩
          | false =>
            rw [hvv, if_neg (by simp)] at HI
            go_wp2
            go_ret
            exact ⟨by rw [HI.out]; rfl, hb.trans (b3.mono hz)⟩
        | false =>
          rw [clear_num hx hn] at hinv
          rw [hn] at hnm
          have c1 := hC.num x
          have f1 := hC.cells.2 (offI x)
          have C1 := hC.setNum x 0
          have HC1 : Hid (CmAt _ _ _) := C1
          clear hx hn C1 hC
          by_cases hneg : getI d x < 0
          · rw [if_pos hneg] at hinv
            have HI : Hid _ := hinv
            clear hinv
            go_wp2_with fail
            refine (hnm _).mono ?_
            rintro e w1 ⟨rfl, rfl⟩
            go_wp2_with fail
            refine (value_any x (w.heap.size + 1) _).mono ?_
            rintro e w2 ⟨rfl, rfl⟩
            go_wp2
            go_ret
            exact ⟨by rw [HI.out]; rfl, hb⟩
          · rw [if_neg hneg] at hinv
            have HI : Hid _ := hinv
            clear hinv
            go_wp2_with fail
            refine (hnm _).mono ?_
            rintro e w1 ⟨rfl, rfl⟩
            go_wp2_with fail
            refine (value_any x (w.heap.size + 1) _).mono ?_
            rintro e w2 ⟨rfl, rfl⟩
            go_wp2
            go_roundg (q - (j + 1))
            case measure => omega
            case rel => exact ⟨j + 1, setI d x 0, by omega, by go_num, HC1.out, hb.setCell (by simp) _, HI.out⟩
      · obtain rfl : j = q := by omega
        have HI : Hid (clearV ⟨0, nm, pa, sh, nd, lm, jb, tk⟩ F = some d) := by
          rw [hinv, List.drop_of_length_le (by rw [HQ.out]; exact Nat.le_refl _)]; exact rfl
        clear hinv
        obtain ⟨kd, nm', pa', sh', nd', lm', jb', tk'⟩ := d
        obtain ⟨⟨z0, z1, z2, z3, z4, z5, z6, z7⟩, _⟩ := hC.cells
        simp only at z0 z1 z2 z3 z4 z5 z6 z7
        go_wp2
        all_goals go_ret
        all_goals refine ⟨?_, hb⟩
        all_goals rw [HI.out, end_zero]
        all_goals first
          | (rw [if_pos (by refine ⟨?_, ?_, ?_, ?_, ?_, ?_, ?_, ?_⟩ <;> assumption)]; rfl)
          | (rw [if_neg (by rintro ⟨y0, y1, y2, y3, y4, y5, y6, y7⟩; contradiction)]; rfl)
end Go.Proofs.YtokpcpmkilikaaaDoor
