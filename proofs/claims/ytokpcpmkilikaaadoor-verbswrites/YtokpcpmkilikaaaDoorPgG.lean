/-
  Package verbs: Parse.
-/
import Derived.Test.YtokpcpmkilikaaaDoorPgE
namespace Go.Proofs.YtokpcpmkilikaaaDoor
open Go.RowKit Vb

theorem piece_le (s : Bs) : ∀ p, p ∈ splitV s → p.length ≤ s.length := by
  induction s with
  | nil => intro p hp; simp [splitV] at hp; subst hp; exact Nat.le_refl _
  | cons c r ih =>
    intro p hp
    unfold splitV at hp
    split at hp
    · simp at hp
      rcases hp with rfl | hp
      · simp
      · have := ih p hp; simp; omega
    · split at hp
      · simp at hp; subst hp; simp
      · next q qs e =>
        simp at hp
        rcases hp with rfl | hp
        · have := ih q (by rw [e]; simp); simp; omega
        · have := ih p (by rw [e]; simp [hp]); simp; omega
theorem split_row (line : Bs) (hl : line.length ≤ 256) (w : World) (hT : Tab w) :
    Calls Tryd.prog 16 #[.string (str line), .string ⟨#[32]⟩] w fun e w' => ∃ o, e = .returned (.slice (some ⟨o, 0, none⟩) (splitV line).length (splitV line).length) ∧ w.heap.size ≤ o ∧ o < w'.heap.size ∧ (∀ (j : Nat) p, (splitV line)[j]? = some p → w'.cell? ⟨o, j, none⟩ = some (.string (str p))) ∧ Below w.heap.size w w' := by
  refine (split_any line hl w hT).mono ?_
  rintro e w' ⟨rfl, rfl⟩
  refine ⟨_, rfl, Nat.le_refl _, by simp, fun j p hp => ?_, (Below.refl _ _).alloc (Nat.le_refl _) _⟩
  have h := heap_alloc_new w (.cells (texts (splitV line)).toArray 9)
  simp only [World.cell?, h]
  simp [texts, hp]
set_option maxHeartbeats 2000000 in
theorem parse_long (line : Bs) (h : 256 < line.length) (w : World) : Calls Tryd.prog 8 #[.string (str line)] w fun e w' => e = .returned (parA (parseV line)) ∧ Below w.heap.size w w' := by
  unfold parseV
  rw [if_pos h]
  have hs := str_size line
  have h' : (256 : Int) < (str line).size := by omega
  clear hs
  go_enter Tryd.func8, Tryd.ntmps8
  go_wp2
  exact bodyPost_ret (v := parA (zeroC, 80)) (by simp [results, Tryd.results8, go_sem, parA, cmV, zeroC]; rfl) rfl ⟨rfl, (Below.refl _ _).alloc (Nat.le_refl _) _⟩
set_option maxHeartbeats 3000000 in
set_option maxRecDepth 20000 in
theorem parse_short (line : Bs) (h : line.length ≤ 256) (w : World) (hTw : Tab w) : Calls Tryd.prog 8 #[.string (str line)] w fun e w' => e = .returned (parA (parseV line)) ∧ Below w.heap.size w w' := by
  unfold parseV
  rw [if_neg (by omega)]
  have hsp := split_row line h
  obtain ⟨p0, ps, hl⟩ : ∃ p0 ps, splitV line = p0 :: ps := by
    cases e : splitV line with
    | nil => exact absurd e (split_ne line)
    | cons p ps => exact ⟨p, ps, rfl⟩
  have hpl := pieces_len line
  have hpc := piece_le line
  obtain ⟨l, hll⟩ : ∃ l, splitV line = l := ⟨_, rfl⟩
  have h0 : l[0]? = some p0 := by rw [← hll, hl]; rfl
  have htl : l.tail = ps := by rw [← hll, hl]; rfl
  have hhd : l.headD [] = p0 := by rw [← hll, hl]; rfl
  rw [hll] at hsp hpl hpc ⊢
  have HPC : Hid (∀ p, p ∈ l → p.length ≤ 256) := fun p hp => Nat.le_trans (hpc p hp) h
  obtain ⟨n, hn⟩ : ∃ n, l.length = n := ⟨_, rfl⟩
  have hn0 : 0 < n := by rw [← hn]; exact (List.getElem?_eq_some_iff.1 h0).1
  have HN : Hid _ := hn
  rw [hn] at hsp hpl
  have hs := str_size line
  have h' : ¬ (256 : Int) < (str line).size := by omega
  have HT : Hid _ := And.intro htl hhd
  have hkd := kind_any p0
  have bA : Below w.heap.size w (w.alloc (.cells #[.int .i64 0, .string ⟨#[]⟩, .string ⟨#[]⟩, .int .i64 0, .int .i64 0, .int .i64 0, .int .i64 0, .int .i64 0] 24)) := (Below.refl _ _).alloc (Nat.le_refl _) _
  have HTA : Hid _ := hTw.below bA
  have HBA : Hid _ := bA
  have HRA : Hid (CmAt _ _ _) := CmAt.new w zeroC
  clear hs hl hll hn htl hhd hpc bA
  go_enter Tryd.func8, Tryd.ntmps8
  go_wp2_with fail
  refine (hsp _ HTA.out).mono ?_
  rintro e w1 ⟨o, rfl, ho1, ho2, hrow, b1⟩
  simp at ho1
  have hB1 := HBA.out.trans (b1.mono HBA.out.size)
  have hz1 := b1.size
  simp at hz1
  have hR1 := CmAt.below HRA.out b1
  have hT1 := hTw.below hB1
  have c0 := hrow 0 p0 h0
  clear HTA HBA HRA b1 hsp
  have hfl := form_len (kindV p0 : Nat)
  have hkr := kindTo_some p0 13 (by omega)
  have hK : kindTo p0 13 = kindV p0 := rfl
  have hpp : parseP l = parseK (kindV p0) l := by unfold parseP; rw [HT.out.2]
  rw [hK] at hkr
  obtain ⟨K, hKK⟩ : ∃ K, kindV p0 = K := ⟨_, rfl⟩
  rw [hKK] at hpp hfl hkr hkd
  clear hK hKK
  unfold parseK at hpp
  unfold kindA at hkd
  have hfd := fields_any K
  obtain ⟨F, hF⟩ : ∃ F, (wordV (K : Nat)).2 = F := ⟨_, rfl⟩
  rw [hF] at hpp hfl hfd
  rw [HN.out, HT.out.1] at hpp
  obtain ⟨q, hq⟩ : ∃ q, F.length = q := ⟨_, rfl⟩
  have HQ : Hid _ := hq
  rw [hq] at hpp hfl
  clear hF hq
  by_cases hK0 : K = 0
  · rw [if_pos hK0] at hpp
    have HPP : Hid _ := hpp
    subst hK0
    have hd0 : decide ((0 : Nat) ≠ 0) = false := by simp
    rw [hd0] at hkd
    have HY : Hid (CmAt _ _ _) := toldZ hR1
    obtain ⟨⟨r0, r1, r2, r3, r4, r5, r6, r7⟩, rf⟩ := hR1.cells
    clear hpp hkr hfd hd0
    go_wp2_with fail
    refine (hkd _ hT1).mono ?_
    rintro e w2 ⟨rfl, rfl⟩
    go_wp2
    obtain ⟨⟨y0, y1, y2, y3, y4, y5, y6, y7⟩, _⟩ := HY.out.cells
    exact bodyPost_ret (v := parA (zeroC, 81)) (by simp [results, Tryd.results8, go_sem, parA, cmV, y0, y1, y2, y3, y4, y5, y6, y7]) rfl ⟨by rw [HPP.out], told_below hB1 (Nat.le_refl _) _ _ _ _ _ _ _ _⟩
  · rw [if_neg hK0] at hpp
    rw [decide_eq_true hK0] at hkd
    obtain ⟨hK1, hK2, _⟩ := hkr.resolve_left hK0
    clear hkr hK0
    go_wp2_with fail
    refine (hkd _ hT1).mono ?_
    rintro e w2 ⟨rfl, rfl⟩
    clear hkd c0
    go_wp2_with fail
    refine (hfd hK1 hK2 _ hT1).mono ?_
    rintro e w2 ⟨v, rfl, hown, b2⟩
    obtain ⟨ao, cap, f, rfl, hao, hfo, hFl⟩ := row_flds hown
    rw [HQ.out] at hao ⊢
    have hR2 := hR1.below b2
    have hrow2 : ∀ (j : Nat) p, l[j]? = some p → w2.cell? ⟨o, j, none⟩ = some (.string (str p)) := fun j p hp => kept b2 (hrow j p hp)
    have hB2 := hB1.trans (b2.mono hB1.size)
    have hz2 := b2.size
    clear hR1 hrow hB1 hT1 b2 hown hfd
    by_cases hm : n ≠ q + 1
    · rw [if_pos hm] at hpp
      have HPP : Hid _ := hpp
      have hm' : ((n : Int) != 1 + (q : Int)) = true := by simp; omega
      have HY : Hid (CmAt _ _ _) := toldZ hR2
      obtain ⟨⟨r0, r1, r2, r3, r4, r5, r6, r7⟩, rf⟩ := hR2.cells
      clear hpp
      go_wp2
      obtain ⟨⟨y0, y1, y2, y3, y4, y5, y6, y7⟩, _⟩ := HY.out.cells
      exact bodyPost_ret (v := parA (zeroC, 82)) (by simp [results, Tryd.results8, go_sem, parA, cmV, y0, y1, y2, y3, y4, y5, y6, y7]) rfl ⟨by rw [HPP.out], told_below hB2 (Nat.le_refl _) _ _ _ _ _ _ _ _⟩
    · rw [if_neg hm] at hpp
      have hm' : ((n : Int) != 1 + (q : Int)) = false := by simp; omega
      have hpp2 : parseP l = fillA (fillV { zeroC with kind := (K : Nat) } F ps) := by rw [hpp]; rfl
      have HPP2 : Hid _ := hpp2
      have hnq : n = q + 1 := by omega
      have HNQ : Hid _ := hnq
      have hlr := (Array.getElem?_eq_some_iff.1 hR2).1
      have ba : Below w2.heap.size w2 (w2.alloc (.cells #[.int .i64 K, .string ⟨#[]⟩, .string ⟨#[]⟩, .int .i64 0, .int .i64 0, .int .i64 0, .int .i64 0, .int .i64 0] 24)) := (Below.refl _ _).alloc (Nat.le_refl _) _
      have PS0 : PS w (w2.alloc (.cells #[.int .i64 K, .string ⟨#[]⟩, .string ⟨#[]⟩, .int .i64 0, .int .i64 0, .int .i64 0, .int .i64 0, .int .i64 0] 24)) w.heap.size w2.heap.size o l { zeroC with kind := (K : Nat) } :=
        ⟨hR2.below ba, CmAt.new w2 { zeroC with kind := (K : Nat) }, fun j p hp => kept ba (hrow2 j p hp), by omega, by omega, hB2.trans (ba.mono hB2.size), Nat.le_refl _, by omega, by omega⟩
      have HPS : Hid (PS _ _ _ _ _ _ _) := PS0
      have HFL : Hid (FldAt _ _ _) := hFl.below ba
      have HFN : Hid (0 < q → f ≠ w2.heap.size) := fun hq => by
        obtain ⟨x, hx⟩ : ∃ x, F[0]? = some x := ⟨_, List.getElem?_eq_getElem (by rw [HQ.out]; exact hq)⟩
        have := World.block_lt_of_cell? _ _ (hFl 0 x hx)
        exact fun e => by simp at this; omega
      clear hpp hpp2 hR2 hrow2 hB2 PS0 ba hnq hm hFl hlr
      go_wp2
      generalize w2.alloc (.cells #[.int .i64 K, .string ⟨#[]⟩, .string ⟨#[]⟩, .int .i64 0, .int .i64 0, .int .i64 0, .int .i64 0, .int .i64 0] 24) = W3 at *
      obtain ⟨g, hg⟩ : ∃ g, w2.heap.size = g := ⟨_, rfl⟩
      rw [hg] at HPS HFN ⊢
      clear hg hz2 hfo
      go_loopg [40] q (fun gk p wx => ∃ (j : Nat) (d : Cm), j + gk = q ∧ p = .int .i64 j ∧ PS w wx w.heap.size g o l d ∧ FldAt wx f F ∧ fillV { zeroC with kind := (K : Nat) } F ps = fillV d (F.drop j) (ps.drop j))
      case atStart => exact ⟨0, _, by omega, rfl, HPS.out, HFL.out, by simp⟩
      case round =>
        clear HPS HFL
        obtain ⟨j, d, hj, rfl, hPS, hFl, hinv⟩ := hrel
        by_cases hlt2 : j < q
        · have hlt2' : (j : Int) < q := by omega
          have hj1 : 1 + (j : Int) < n := by have := HNQ.out; omega
          obtain ⟨x, hx⟩ : ∃ x, F[j]? = some x := ⟨_, List.getElem?_eq_getElem (by rw [HQ.out]; exact hlt2)⟩
          obtain ⟨p, hp⟩ : ∃ p, l[j + 1]? = some p := ⟨_, List.getElem?_eq_getElem (by rw [HN.out, HNQ.out]; omega)⟩
          have hpp : ps[j]? = some p := by rw [← HT.out.1, List.getElem?_tail]; exact hp
          have cp := hPS.row (j + 1) p hp
          have cp1 : wr.cell? ⟨o, (1 + (j : Int)).toNat, none⟩ = some (.string (str p)) := by rw [show (1 + (j : Int)).toNat = j + 1 by omega]; exact cp
          have cp2 : wr.cell? ⟨o, 1 + j, none⟩ = some (.string (str p)) := by rw [Nat.add_comm]; exact cp
          have cf := hFl j x hx
          have hp256 := HPC.out p (List.mem_of_getElem? hp)
          have hfn := HFN.out (by omega)
          obtain rfl := hao (by omega)
          cases hn : isNm x with
          | true =>
            rw [fill_name hx hpp hn] at hinv
            have hrd := read_text hn p hPS.cmd
            have S4 := hPS.set (offS x) (.string (str p)) (hPS.cmd.setText x p)
            have HS4 : Hid (PS _ _ _ _ _ _ _) := S4
            have HF4 : Hid (FldAt _ _ _) := hFl.far (g := g) (k := offS x) (v := .string (str p)) hfn
            clear hx hp hpp hn
            cases hvv : validV p with
            | true =>
              rw [hvv] at hinv hrd
              rw [if_pos rfl] at hinv
              have HI : Hid _ := hinv
              clear hinv hPS hFl S4
              go_wp2_with fail
              refine hrd.mono ?_
              rintro e w3 ⟨rfl, rfl⟩
              go_wp2
              go_roundg (q - (j + 1))
              case measure => omega
              case rel => exact ⟨j + 1, setS d x p, by omega, by go_num, HS4.out, HF4.out, HI.out⟩
            | false =>
              rw [hvv] at hinv hrd
              rw [if_neg (by simp)] at hinv
              have HI : Hid _ := hinv
              clear hinv hPS hFl S4
              go_wp2_with fail
              refine hrd.mono ?_
              rintro e w3 ⟨rfl, h3⟩
              rw [← h3] at HS4
              clear h3 HF4 cp cp1 cp2 cf hrd
              have S4 := HS4.out
              have HY : Hid (CmAt _ _ _) := toldZ S4.res
              obtain ⟨⟨r0, r1, r2, r3, r4, r5, r6, r7⟩, rf⟩ := S4.res.cells
              have hold := S4.old
              clear S4 HS4
              go_wp2
              obtain ⟨⟨y0, y1, y2, y3, y4, y5, y6, y7⟩, _⟩ := HY.out.cells
              exact bodyPost_ret (v := parA (zeroC, 83)) (by simp [results, Tryd.results8, go_sem, parA, cmV, y0, y1, y2, y3, y4, y5, y6, y7]) rfl ⟨by rw [HPP2.out, HI.out]; rfl, told_below hold (Nat.le_refl _) _ _ _ _ _ _ _ _⟩
          | false =>
            rw [fill_num hx hpp hn] at hinv
            have hrd := read_num hn p hp256 hPS.cmd (hTw.below hPS.old)
            clear hx hp hpp hn
            cases hvv : numV p with
            | some m =>
              rw [hvv] at hinv hrd
              have HI : Hid _ := hinv
              have HP : Hid (PS _ _ _ _ _ _ _) := hPS
              have HF : Hid (FldAt _ _ _) := hFl
              clear hinv hPS hFl
              go_wp2_with fail
              refine hrd.mono ?_
              rintro e w3 ⟨rfl, W, bW, rfl⟩
              have P4 := PS.below HP.out bW
              have S4 := P4.set (offI x) (.int .i64 (m : Int)) (P4.cmd.setNum x m)
              have HS4 : Hid (PS _ _ _ _ _ _ _) := S4
              have HF4 : Hid (FldAt _ _ _) := (FldAt.below HF.out bW).far (g := g) (k := offI x) (v := .int .i64 (m : Int)) hfn
              clear S4 P4 HP HF cp cp1 cp2 cf bW hrd
              go_wp2
              go_roundg (q - (j + 1))
              case measure => omega
              case rel => exact ⟨j + 1, setI d x m, by omega, by go_num, HS4.out, HF4.out, HI.out⟩
            | none =>
              rw [hvv] at hinv hrd
              have HI : Hid _ := hinv
              have HP : Hid (PS _ _ _ _ _ _ _) := hPS
              clear hinv hPS hFl
              go_wp2_with fail
              refine hrd.mono ?_
              rintro e w3 ⟨rfl, W, bW, h3⟩
              have P4 := PS.below HP.out bW
              have S4 := P4.set (offI x) (.int .i64 ((0 : Nat) : Int)) (P4.cmd.setNum x ((0 : Nat) : Int))
              have h3' : w3 = W.setCell ⟨g, offI x, none⟩ (.int .i64 ((0 : Nat) : Int)) := h3
              rw [← h3'] at S4
              have HY : Hid (CmAt _ _ _) := toldZ S4.res
              obtain ⟨⟨r0, r1, r2, r3, r4, r5, r6, r7⟩, rf⟩ := S4.res.cells
              have hold := S4.old
              clear S4 P4 HP cp cp1 cp2 cf bW hrd h3 h3'
              go_wp2
              obtain ⟨⟨y0, y1, y2, y3, y4, y5, y6, y7⟩, _⟩ := HY.out.cells
              exact bodyPost_ret (v := parA (zeroC, 83)) (by simp [results, Tryd.results8, go_sem, parA, cmV, y0, y1, y2, y3, y4, y5, y6, y7]) rfl ⟨by rw [HPP2.out, HI.out]; rfl, told_below hold (Nat.le_refl _) _ _ _ _ _ _ _ _⟩
        · obtain rfl : j = q := by omega
          have HI : Hid (fillV { zeroC with kind := (K : Nat) } F ps = some d) := by
            rw [hinv, List.drop_of_length_le (by rw [HQ.out]; exact Nat.le_refl _)]; exact rfl
          have HY : Hid (CmAt _ _ _) := told hPS.res d
          obtain ⟨⟨r0, r1, r2, r3, r4, r5, r6, r7⟩, rf⟩ := hPS.res.cells
          obtain ⟨⟨x0, x1, x2, x3, x4, x5, x6, x7⟩, _⟩ := hPS.cmd.cells
          have hold := hPS.old
          clear hinv hPS hFl
          go_wp2
          obtain ⟨⟨y0, y1, y2, y3, y4, y5, y6, y7⟩, _⟩ := HY.out.cells
          exact bodyPost_ret (v := parA (d, 0)) (by simp [results, Tryd.results8, go_sem, parA, cmV, y0, y1, y2, y3, y4, y5, y6, y7]) rfl ⟨by rw [HPP2.out, HI.out]; rfl, told_below hold (Nat.le_refl _) _ _ _ _ _ _ _ _⟩
theorem pparse_any (line : Bs) (w : World) (hT : Tab w) : Calls Tryd.prog 8 #[.string (str line)] w fun e w' => e = .returned (parA (parseV line)) ∧ Below w.heap.size w w' := by
  by_cases h : 256 < line.length
  · exact parse_long line h w
  · exact parse_short line (by omega) w hT
end Go.Proofs.YtokpcpmkilikaaaDoor
