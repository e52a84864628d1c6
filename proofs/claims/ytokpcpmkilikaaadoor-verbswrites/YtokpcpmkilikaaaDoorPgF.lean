/-
  Package verbs: Print.
-/
import Derived.Test.YtokpcpmkilikaaaDoorPgE
namespace Go.Proofs.YtokpcpmkilikaaaDoor
open Go.RowKit Vb

theorem join_len : ∀ (l : List Bs), (∀ p, p ∈ l → p.length ≤ 40) → (joinV l).length ≤ 41 * l.length
  | [], _ => Nat.le_refl _
  | [p], h => by have := h p (by simp); show p.length ≤ _; simp; omega
  | p :: q :: l, h => by
    have h1 := h p (by simp)
    have h2 := join_len (q :: l) (fun x hx => h x (by simp at hx ⊢; exact .inr hx))
    rw [Vb.join_cons p (by simp)]
    simp at h2 ⊢
    omega
set_option maxHeartbeats 2000000 in
theorem joined_any {w : World} {B : Nat} {v : Value} {P : List Bs} (h : w.ownsRow B 9 1 v P.length (texts P)) (h0 : 0 < P.length) (hN : P.length ≤ 4) (hlen : (joinV P).length ≤ 1000) :
    Calls Tryd.prog 28 #[v] w fun e w' => e = .returned (.string (str (joinV P))) ∧ Below w.heap.size w w' := by
  obtain ⟨g, cap, cur, rfl, _, hg, hcap, _⟩ : ∃ g cap cur, v = .slice (some ⟨g, 0, none⟩) P.length cap ∧ B ≤ g ∧ w.heap[g]? = some (.cells cur 9 (0, 0)) ∧ P.length ≤ cap ∧ cap ≤ maxLen := by
    rcases h.2 with ⟨_, e⟩ | ⟨g, cap, cur, e, h1, h2, h3, h4, _⟩
    · omega
    · exact ⟨g, cap, cur, e, h1, h2, h3, h4⟩
  have hc : ∀ (j : Nat) x, P[j]? = some x → w.cell? ⟨g, 0 + j, none⟩ = some (.string (str x)) := fun j x hx => by
    have hj : j < P.length := (List.getElem?_eq_some_iff.1 hx).1
    rw [Nat.zero_add, h.cellAt j (by omega)]
    simp [texts, hx]
  have hj := join_any g 0 cap P w hc (Array.getElem?_eq_some_iff.1 hg).1 hN hcap hlen
  clear hc hg h
  generalize P.length = n at *
  go_enter Tryd.func28, Tryd.ntmps28
  go_wp2_with fail
  refine hj.mono ?_
  rintro e w1 ⟨rfl, b1⟩
  go_wp2
  go_ret
  exact ⟨rfl, b1⟩
theorem CmAt.grown {w w' : World} {g : Nat} {c : Cm} {r : Option Nat} (h : CmAt w g c) (hg : w.grownBy w' r) (hn : r ≠ some g) : CmAt w' g c := (hg.block g (Array.getElem?_eq_some_iff.1 h).1 (fun e => hn e.symm)).trans h
theorem FldAt.grown {w w' : World} {o : Nat} {F : Bs} {r : Option Nat} (h : FldAt w o F) (hg : w.grownBy w' r) (hn : r ≠ some o) : FldAt w' o F := fun j x hx => hg.cell (h j x hx) (fun e => hn e.symm)
theorem print_no (c : Cm) (h : checkV c = 84) (w : World) (hT : Tab w) : Calls Tryd.prog 12 #[cmV c] w fun e w' => e = .returned (.tuple #[.string (str []), .int .i64 84]) ∧ Below w.heap.size w w' := by
  have hch := pcheck_any c
  rw [h] at hch
  have hcm : cmV c = .agg #[.int .i64 c.kind, .string (str c.nm), .string (str c.pa), .int .i64 c.sh, .int .i64 c.nd, .int .i64 c.lm, .int .i64 c.jb, .int .i64 c.tk] := rfl
  rw [hcm] at hch ⊢
  clear hcm h
  have ba : Below w.heap.size w (w.alloc (.cells #[.int .i64 c.kind, .string (str c.nm), .string (str c.pa), .int .i64 c.sh, .int .i64 c.nd, .int .i64 c.lm, .int .i64 c.jb, .int .i64 c.tk] 24)) := (Below.refl _ _).alloc (Nat.le_refl _) _
  have HT : Hid _ := hT.below ba
  have HB : Hid _ := ba
  clear ba
  go_enter Tryd.func12, Tryd.ntmps12
  go_wp2_with fail
  refine (hch _ HT.out).mono ?_
  rintro e w1 ⟨rfl, b1⟩
  go_wp2
  go_ret2
  exact ⟨rfl, HB.out.trans (b1.mono HB.out.size)⟩
theorem join_step {c : Cm} {F : Bs} {W : Bs} {j : Nat} {x : UInt8} (h : F[j]? = some x) : W :: (F.take (j + 1)).map (pieceV c) = (W :: (F.take j).map (pieceV c)) ++ [pieceV c x] := by
  rw [List.take_add_one, h]
  simp
set_option maxHeartbeats 4000000 in
set_option maxRecDepth 20000 in
theorem print_yes (k : Nat) (hk1 : 1 ≤ k) (hk2 : k ≤ 13) (c : Cm) (hck : c.kind = k) (h : checkV c = 0) (hok : ∀ x, x ∈ (wordV (k : Int)).2 → (isNm x = true → validV (getS c x) = true) ∧ (isNm x = false → 0 ≤ getI c x ∧ getI c x ≤ 9223372036854775807)) (w : World) (hT : Tab w) :
    Calls Tryd.prog 12 #[cmV c] w fun e w' => e = .returned (.tuple #[.string (str (joinV ((wordV (k : Int)).1 :: (wordV (k : Int)).2.map (pieceV c)))), .int .i64 0]) ∧ Below w.heap.size w w' := by
  obtain ⟨i0, hi0, hz0, hz1, hz2⟩ := info_parts Tryd.inf9
  have hch := pcheck_any c
  rw [h] at hch
  have hfl := fields_any k hk1 hk2
  have hln := flds_len (k : Int)
  have hwl := word_len (k : Int)
  have hwc : ∀ w, Tab w → w.cell? ⟨0, k * 4, none⟩ = some (.string (str (wordV (k : Int)).1)) := fun w hT => hT.word k (by omega)
  generalize (wordV (k : Int)).2 = F at *
  generalize (wordV (k : Int)).1 = W at *
  have HOK : Hid _ := hok
  have hnew := CmAt.new w c
  have hcm : cmV c = .agg #[.int .i64 c.kind, .string (str c.nm), .string (str c.pa), .int .i64 c.sh, .int .i64 c.nd, .int .i64 c.lm, .int .i64 c.jb, .int .i64 c.tk] := rfl
  rw [hcm] at hch ⊢
  rw [hck] at hcm hch ⊢
  unfold cmCells at hnew
  rw [hck] at hnew
  have ba : Below w.heap.size w (w.alloc (.cells #[.int .i64 k, .string (str c.nm), .string (str c.pa), .int .i64 c.sh, .int .i64 c.nd, .int .i64 c.lm, .int .i64 c.jb, .int .i64 c.tk] 24)) := (Below.refl _ _).alloc (Nat.le_refl _) _
  have HA : Hid (CmAt _ _ _) := hnew
  have HT : Hid _ := hT.below ba
  have HB : Hid _ := ba
  have HCM : Hid _ := hcm
  clear ba hnew h hok hcm
  have k1 : (0 : Int) ≤ k := by omega
  have k2 : (k : Int) < 14 := by omega
  go_enter Tryd.func12, Tryd.ntmps12
  go_wp2_with fail
  refine (hch _ HT.out).mono ?_
  rintro e w1 ⟨rfl, b1⟩
  have hC1 := CmAt.below HA.out b1
  have hB1 := HB.out.trans (b1.mono HB.out.size)
  have hT1 : Tab w1 := hT.below hB1
  have hz1' := b1.size
  simp at hz1'
  have cw := hwc w1 hT1
  have c0 := hC1.cells.1.1
  rw [hck] at c0
  have bb : Below w1.heap.size w1 (w1.alloc (.cells #[.string (str W)] 9)) := (Below.refl _ _).alloc (Nat.le_refl _) _
  have HT2 : Hid _ := hT1.below bb
  have HC2 : Hid (CmAt _ _ _) := hC1.below bb
  have HB2 : Hid _ := hB1.trans (bb.mono hB1.size)
  have hr0 : Hid ((w1.alloc (.cells #[.string (str W)] 9)).ownsRow (w.heap.size + 1) 9 1 (.slice (some ⟨w1.heap.size, 0, none⟩) 1 1) 1 (texts [W])) := ⟨rfl, .inr ⟨w1.heap.size, 1, _, rfl, by omega, heap_alloc_new w1 _, Nat.le_refl _, by decide, rfl, rfl⟩⟩
  have c1 := (CmAt.cells HC2.out).1.1
  rw [hck] at c1
  clear hch HA HT HB b1 hC1 hB1 hT1 bb hwc
  go_wp2_with fail
  refine (hfl _ HT2.out).mono ?_
  rintro e w2 ⟨v, rfl, hrow, b2⟩
  obtain ⟨ao, cap, o, rfl, hao, hBo, hF⟩ := row_flds hrow
  simp at hBo
  have hC2 := CmAt.below HC2.out b2
  have hB2 := HB2.out.trans (b2.mono HB2.out.size)
  have hR2 : w2.ownsRow (w.heap.size + 1) 9 1 (.slice (some ⟨w1.heap.size, 0, none⟩) 1 1) 1 (texts [W]) := by
    refine ⟨rfl, ?_⟩
    rcases hr0.out.2 with ⟨e, _⟩ | ⟨g, cp, cur, e, h1, h2, h3⟩
    · cases e
    · exact .inr ⟨g, cp, cur, e, h1, (b2.block g (Array.getElem?_eq_some_iff.1 h2).1).trans h2, h3⟩
  clear HC2 HT2 HB2 b2 hrow hfl hr0 cw c0 c1
  obtain ⟨q, hq⟩ : ∃ q, F.length = q := ⟨_, rfl⟩
  have HQ : Hid _ := hq
  rw [hq] at hao hln ⊢
  clear hq
  go_wp2
  go_loopg [5, 23] q (fun gk u p wr => ∃ (j : Nat) (v : Value), j + gk = q ∧ p = .int .i64 j ∧ v = u ∧ wr.ownsRow (w.heap.size + 1) 9 1 v (W :: (F.take j).map (pieceV c)).length (texts (W :: (F.take j).map (pieceV c))) ∧ v.ownBlock ≠ some o ∧ CmAt wr w.heap.size c ∧ FldAt wr o F ∧ Below w.heap.size w wr ∧ w.heap.size < wr.heap.size)
  case atStart => exact ⟨0, _, by omega, rfl, rfl, hR2, fun e => by simp [Value.ownBlock] at e; omega, hC2, hF, hB2, (Array.getElem?_eq_some_iff.1 hC2).1⟩
  case round =>
    clear hC2 hF hB2 hR2
    obtain ⟨j, v, hj, rfl, rfl, hR, hno, hC, hF, hb, hsz⟩ := hrel
    by_cases hlt : j < q
    · have hlt' : (j : Int) < q := by omega
      obtain ⟨x, hx⟩ : ∃ x, F[j]? = some x := ⟨_, List.getElem?_eq_getElem (by rw [HQ.out]; exact hlt)⟩
      have hcell := hF j x hx
      have hol := World.block_lt_of_cell? _ _ hcell
      obtain rfl := hao (by omega)
      have hp := HOK.out x (List.mem_of_getElem? hx)
      have hPl : (W :: (F.take j).map (pieceV c)).length ≤ 4 := by simp; omega
      have hst := join_step (c := c) (W := W) hx
      have HST : Hid _ := hst
      generalize W :: (F.take j).map (pieceV c) = P at *
      obtain ⟨⟨z0, z1, z2, z3, z4, z5, z6, z7⟩, _⟩ := hC.cells
      rw [hck] at z0
      have hwr : Calls Tryd.prog 27 #[.agg #[.int .i64 k, .string (str c.nm), .string (str c.pa), .int .i64 c.sh, .int .i64 c.nd, .int .i64 c.lm, .int .i64 c.jb, .int .i64 c.tk], .int .i64 (fnum x)] wr fun e w' => e = .returned (.string (str (pieceV c x))) ∧ Below wr.heap.size wr w' := by
        rw [← HCM.out]
        cases hn : isNm x with
        | true => 
          have e : pieceV c x = getS c x := by unfold pieceV; rw [if_pos hn]
          rw [e]
          exact written_text hn c wr
        | false =>
          obtain ⟨g0, g1⟩ := hp.2 hn
          have e : pieceV c x = digV (getI c x).toNat := by unfold pieceV; rw [if_neg (by simp [hn])]
          rw [e]
          exact written_num hn c _ (by omega) (by omega) wr (hT.below hb)
      generalize pieceV c x = t at *
      clear hx hp hst
      go_wp2_with fail
      refine hwr.mono ?_
      rintro e w3 ⟨rfl, b3⟩
      have hsz3 := b3.size
      have hR3 : w3.ownsRow (w.heap.size + 1) 9 1 v P.length (texts P) := by
        refine ⟨hR.1, ?_⟩
        rcases hR.2 with h0 | ⟨g, cp, cur, e, h1, h2, h3⟩
        · exact .inl h0
        · exact .inr ⟨g, cp, cur, e, h1, (b3.block g (Array.getElem?_eq_some_iff.1 h2).1).trans h2, h3⟩
      have hC3 : Hid (CmAt _ _ _) := hC.below b3
      have hF3 : Hid (FldAt _ _ _) := hF.below b3
      have hB3 : Hid (Below _ _ _) := hb.trans (b3.mono hb.size)
      have hnc : ∀ i z, [Value.string (str t)][i]? = some z → (w3.alloc (.cells #[.string (str t)] 9)).cell? ((⟨w3.heap.size, 0, none⟩ : Addr).add i) = some z := cell_one_new w3 (.string (str t)) 9
      clear z0 z1 z2 z3 z4 z5 z6 z7 hcell hwr hC hF hb hR b3
      go_wp2_with (at_builtin; refine wpList_append_own_at _ rfl (.tmp 27) (.tmp 31) 34 rfl (w.heap.size + 1) 9 i0 _ 1 16 Tryd.underlying34 hi0 hz0 hz1 hz2 rfl (by decide) v P.length (texts P) rfl (hR3.alloc _) ⟨w3.heap.size, 0, none⟩ 1 1 [.string (str t)] rfl rfl hnc (fun u hu => by simp at hu; subst hu; rfl) ?_ ?_ ?_ ?_; exact (Nat.le_trans (m := 35184372088832) (by omega) (by decide)); omega; (simp; omega); intro v' w5 hown hgr _ hblk)
      go_roundg (q - (j + 1))
      case measure => omega
      case rel =>
        have hgz := hgr.size
        simp at hgz
        have hvb : v.ownBlock ≠ some w.heap.size := fun e => by have := (hR3.lt _ e).1; omega
        refine ⟨j + 1, v', by omega, by go_num, rfl, ?_, ?_, ?_, ?_, ?_, by omega⟩
        · rw [HST.out, texts_more]; simpa using hown
        · rcases hblk with e | e
          · rw [e]; exact hno
          · rw [e]; intro e'; injection e' with e'; simp at e'; omega
        · exact CmAt.grown ((CmAt.below hC3.out ((Below.refl _ _).alloc (Nat.le_refl _) _))) hgr hvb
        · exact FldAt.grown ((FldAt.below hF3.out ((Below.refl _ _).alloc (Nat.le_refl _) _))) hgr hno
        · exact (hB3.out.alloc (by omega) _).grown hgr (by simp; omega) (fun k e => by have := (hR3.lt k e).1; omega)
    · obtain rfl : j = q := by omega
      have e : F.take j = F := List.take_of_length_le (by rw [HQ.out]; exact Nat.le_refl _)
      rw [e] at hR
      have hjn := joined_any hR (by simp) (by simp; rw [HQ.out]; omega) (by
        refine Nat.le_trans (join_len _ ?_) (by simp; rw [HQ.out]; omega)
        intro p hp
        simp at hp
        rcases hp with rfl | ⟨x, hx, rfl⟩
        · omega
        · exact Nat.le_trans (piece_len (HOK.out x hx)) (by decide))
      clear e hR
      go_wp2_with fail
      refine hjn.mono ?_
      rintro e w3 ⟨rfl, b3⟩
      go_wp2
      go_ret2
      exact ⟨rfl, hb.trans (b3.mono hb.size)⟩
theorem pprint_any (c : Cm) (hFit : Fits c) (w : World) (hT : Tab w) : Calls Tryd.prog 12 #[cmV c] w fun e w' => e = .returned (.tuple #[.string (str (printV c).1), .int .i64 (printV c).2]) ∧ Below w.heap.size w w' := by
  unfold printV
  rcases check_two c with h | h
  · rw [if_pos h]
    have hk : 1 ≤ c.kind ∧ c.kind ≤ 13 := by
      refine Classical.byContradiction fun hc => ?_
      have e : checkV c = 84 := by unfold checkV; rw [if_pos (by rw [word_out hc])]
      omega
    have hok := pieces_ok hFit h
    obtain ⟨k, hck⟩ : ∃ k : Nat, c.kind = k := ⟨c.kind.toNat, by omega⟩
    have hp := print_yes k (by omega) (by omega) c hck h (by rw [← hck]; exact hok) w hT
    rw [line_join, hck]
    exact hp
  · rw [if_neg (by omega)]
    exact print_no c h w hT
end Go.Proofs.YtokpcpmkilikaaaDoor
