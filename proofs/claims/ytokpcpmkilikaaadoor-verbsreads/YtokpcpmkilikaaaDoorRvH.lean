/-
  Layer 8's reference: Print.
-/
import Derived.Test.YtokpcpmkilikaaaDoorRvG
import Derived.Test.YtokpcpmkilikaaaDoorVbE
namespace Go.Proofs.YtokpcpmkilikaaaDoor
open Go.RowKit Vb

theorem str_blank (s : Bs) (p : Bs) : str s ++ ⟨#[32]⟩ ++ str p = str (s ++ 32 :: p) := by
  have e : (⟨#[32]⟩ : ByteArray) = str [32] := rfl
  rw [e, str_append, str_append]
  congr 1
  simp
theorem line_step {c : Cm} {F : Bs} {j : Nat} {x : UInt8} (t : Bs) (h : F[j]? = some x) : lineV c t (F.drop j) = lineV c (t ++ 32 :: pieceV c x) (F.drop (j + 1)) := by
  obtain ⟨hj, rfl⟩ := List.getElem?_eq_some_iff.1 h
  rw [List.drop_eq_getElem_cons hj]
  rfl
set_option maxHeartbeats 2000000 in
theorem rprint_any (c : Cm) (hFit : Fits c) (w : World) : Calls Tryd.prog 13 #[cmV c] w fun e w' => e = .returned (.tuple #[.string (str (printV c).1), .int .i64 (printV c).2]) ∧ Below w.heap.size w w' := by
  have hch := rcheck_any c
  have hnew := CmAt.new w c
  unfold printV
  rcases check_two c with h | h
  · rw [if_pos h]
    rw [h] at hch
    have hok := pieces_ok hFit h
    have hwd := word_any c.kind
    have hfl := form_len c.kind
    have hwl := word_len c.kind
    obtain ⟨W, hW⟩ : ∃ W, (wordV c.kind).1 = W := ⟨_, rfl⟩
    obtain ⟨F, hF⟩ : ∃ F, (wordV c.kind).2 = F := ⟨_, rfl⟩
    rw [hW, hF] at hwd ⊢
    rw [hF] at hfl hok
    rw [hW] at hwl
    have HOK : Hid _ := hok
    clear hW hF hok h
    have hsz := str_size F
    obtain ⟨q, hq⟩ : ∃ q, F.length = q := ⟨_, rfl⟩
    have HQ : Hid _ := hq
    rw [hq] at hsz hfl
    clear hq
    have hcm : cmV c = .agg #[.int .i64 c.kind, .string (str c.nm), .string (str c.pa), .int .i64 c.sh, .int .i64 c.nd, .int .i64 c.lm, .int .i64 c.jb, .int .i64 c.tk] := rfl
    rw [hcm] at hch ⊢
    unfold cmCells at hnew
    clear hcm
    go_enter Tryd.func13, Tryd.ntmps13
    go_wp2_with fail
    refine (hch _).mono ?_
    rintro e w1 ⟨rfl, b1⟩
    have hC1 := CmAt.below hnew b1
    have hB1 : Below w.heap.size w w1 := ((Below.refl _ _).alloc (Nat.le_refl _) _).trans (b1.mono (by simp))
    obtain ⟨⟨z0, _⟩, _⟩ := hC1.cells
    clear b1
    go_wp2_with fail
    refine (hwd _).mono ?_
    rintro e w2 ⟨rfl, rfl⟩
    clear z0
    go_wp2
    go_loopg [4, 6] q (fun gk s p wr => ∃ (j : Nat) (t : Bs), j + gk = q ∧ p = .int .i64 j ∧ s = .string (str t) ∧ t.length ≤ 8 + 33 * j ∧ CmAt wr w.heap.size c ∧ Below w.heap.size w wr ∧ lineV c W F = lineV c t (F.drop j))
    case atStart => exact ⟨0, W, by omega, rfl, rfl, by omega, hC1, hB1, by simp⟩
    case round =>
      clear hC1 hB1
      obtain ⟨j, t, hj, rfl, rfl, htl, hC, hb, hinv⟩ := hrel
      have hz := hb.size
      have hts := str_size t
      by_cases hlt : j < q
      · have hlt' : (j : Int) < q := by omega
        obtain ⟨x, hx⟩ : ∃ x, F[j]? = some x := ⟨_, List.getElem?_eq_getElem (by rw [HQ.out]; exact hlt)⟩
        have hjs : j < (str F).size := by omega
        have hxs : (str F)[j] = x := str_at F hx hjs
        have hnm := named_any x
        have hp := HOK.out x (List.mem_of_getElem? hx)
        have hpl := piece_len hp
        rw [line_step t hx] at hinv
        have HI : Hid _ := hinv
        clear hinv hx
        cases hn : isNm x with
        | true =>
          rw [hn] at hnm
          have c1 := hC.text x
          have hpc : pieceV c x = getS c x := by unfold pieceV; rw [if_pos hn]
          rw [hpc] at hpl
          have HPC : Hid _ := hpc
          have hps := str_size (getS c x)
          clear hn hp hpc
          go_wp2_with fail
          refine (hnm _).mono ?_
          rintro e w3 ⟨rfl, rfl⟩
          go_wp2_with fail
          refine (text_any x w.heap.size _).mono ?_
          rintro e w4 ⟨rfl, rfl⟩
          go_wp2
          go_roundg (q - (j + 1))
          case measure => omega
          case rel =>
            refine ⟨j + 1, t ++ 32 :: getS c x, by omega, by go_num, by rw [str_blank], by simp; omega, hC, hb, ?_⟩
            rw [← HPC.out]; exact HI.out
        | false =>
          rw [hn] at hnm
          obtain ⟨g0, g1⟩ := hp.2 hn
          have hpc : pieceV c x = digV (getI c x).toNat := by unfold pieceV; rw [if_neg (by simp [hn])]
          rw [hpc] at hpl
          have HPC : Hid _ := hpc
          have c1 := hC.num x
          obtain ⟨n, hn'⟩ : ∃ n : Nat, getI c x = n := ⟨(getI c x).toNat, by omega⟩
          rw [hn'] at c1 hpl HPC g1
          rw [Int.toNat_natCast] at hpl HPC
          have hdg := digits_any n (by omega)
          have hps := str_size (digV n)
          clear hn hp hpc hn' g0
          go_wp2_with fail
          refine (hnm _).mono ?_
          rintro e w3 ⟨rfl, rfl⟩
          go_wp2_with fail
          refine (value_any x w.heap.size _).mono ?_
          rintro e w4 ⟨rfl, rfl⟩
          go_wp2_with fail
          refine (hdg _).mono ?_
          rintro e w5 ⟨rfl, b5⟩
          have hC5 := hC.below b5
          clear c1
          go_wp2
          go_roundg (q - (j + 1))
          case measure => omega
          case rel =>
            refine ⟨j + 1, t ++ 32 :: digV n, by omega, by go_num, by rw [str_blank], by simp; omega, hC5, hb.trans (b5.mono hz), ?_⟩
            rw [← HPC.out]; exact HI.out
      · obtain rfl : j = q := by omega
        have HI : Hid (lineV c W F = t) := by
          rw [hinv, List.drop_of_length_le (by rw [HQ.out]; exact Nat.le_refl _)]; exact rfl
        clear hinv
        go_wp2
        go_ret2
        exact ⟨by rw [HI.out]; rfl, hb⟩
  · rw [if_neg (by omega)]
    rw [h] at hch
    have hcm : cmV c = .agg #[.int .i64 c.kind, .string (str c.nm), .string (str c.pa), .int .i64 c.sh, .int .i64 c.nd, .int .i64 c.lm, .int .i64 c.jb, .int .i64 c.tk] := rfl
    rw [hcm] at hch ⊢
    clear hcm hnew
    go_enter Tryd.func13, Tryd.ntmps13
    go_wp2_with fail
    refine (hch _).mono ?_
    rintro e w1 ⟨rfl, b1⟩
    go_wp2
    go_ret2
    exact ⟨rfl, ((Below.refl _ _).alloc (Nat.le_refl _) _).trans (b1.mono (by simp))⟩
end Go.Proofs.YtokpcpmkilikaaaDoor
