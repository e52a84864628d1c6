/-
  Layer 8's reference: Parse.
-/
import Derived.Test.YtokpcpmkilikaaaDoorRvI
namespace Go.Proofs.YtokpcpmkilikaaaDoor
open Go.RowKit Vb

theorem row_cells {w : World} {B n : Nat} {v : Value} {l : List Bs} (h : w.ownsRow B 9 1 v n (texts l)) (hn : n = l.length) (h0 : 0 < n) : ∃ o cap, v = .slice (some ⟨o, 0, none⟩) n cap ∧ B ≤ o ∧ o < w.heap.size ∧ ∀ j p, l[j]? = some p → w.cell? ⟨o, j, none⟩ = some (.string (str p)) := by
  have h' := h
  rcases h.2 with ⟨_, e⟩ | ⟨o, cap, cur, rfl, hb, hg, _⟩
  · omega
  · refine ⟨o, cap, rfl, hb, (Array.getElem?_eq_some_iff.1 hg).1, fun j p hp => ?_⟩
    have hj : j < l.length := (List.getElem?_eq_some_iff.1 hp).1
    rw [h'.cellAt j (by omega)]
    simp [texts, hp]
theorem kindTo_step (p : Bs) (k : Nat) : kindTo p (k + 1) = if (wordV ((k : Int) + 1)).1 = p then k + 1 else kindTo p k := rfl
theorem list_eq {a b : Bs} (h : a = b) : ((str a).toList == (str b).toList) = true := by rw [h]; simp
theorem list_ne {a b : Bs} (h : a ≠ b) : ((str a).toList == (str b).toList) = false := by rw [str_list, str_list]; simpa using h

theorem fill_name {d : Cm} {F : Bs} {l : List Bs} {j : Nat} {x : UInt8} {p : Bs} (h : F[j]? = some x) (hp : l[j]? = some p) (hn : isNm x = true) : fillV d (F.drop j) (l.drop j) = if validV p = true then fillV (setS d x p) (F.drop (j + 1)) (l.drop (j + 1)) else none := by
  obtain ⟨hj, rfl⟩ := List.getElem?_eq_some_iff.1 h
  obtain ⟨hj', rfl⟩ := List.getElem?_eq_some_iff.1 hp
  rw [List.drop_eq_getElem_cons hj, List.drop_eq_getElem_cons hj']
  simp only [fillV]
  rw [if_pos hn]
theorem fill_num {d : Cm} {F : Bs} {l : List Bs} {j : Nat} {x : UInt8} {p : Bs} (h : F[j]? = some x) (hp : l[j]? = some p) (hn : isNm x = false) : fillV d (F.drop j) (l.drop j) = match numV p with
    | none => none
    | some n => fillV (setI d x (n : Int)) (F.drop (j + 1)) (l.drop (j + 1)) := by
  obtain ⟨hj, rfl⟩ := List.getElem?_eq_some_iff.1 h
  obtain ⟨hj', rfl⟩ := List.getElem?_eq_some_iff.1 hp
  rw [List.drop_eq_getElem_cons hj, List.drop_eq_getElem_cons hj']
  simp only [fillV]
  rw [if_neg (by simp [hn])]
  cases numV l[j] <;> rfl
/-- The answer is told: nothing beside an error. -/
theorem toldZ {w : World} {r : Nat} (h : CmAt w r zeroC) : CmAt ((((((((w.setCell ⟨r, 0, none⟩ (.int .i64 0)).setCell ⟨r, 1, none⟩ (.string ⟨#[]⟩)).setCell ⟨r, 2, none⟩ (.string ⟨#[]⟩)).setCell ⟨r, 3, none⟩ (.int .i64 0)).setCell ⟨r, 4, none⟩ (.int .i64 0)).setCell ⟨r, 5, none⟩ (.int .i64 0)).setCell ⟨r, 6, none⟩ (.int .i64 0)).setCell ⟨r, 7, none⟩ (.int .i64 0)) r zeroC := told h zeroC
def fillA (o : Option Cm) : Cm × Int := match o with
  | none => (zeroC, 83)
  | some c => (c, 0)
theorem num_str (s : Bs) (w : World) : Calls Tryd.prog 24 #[.string (str s)] w fun e w' => e = .returned (numA (numV s)) ∧ w' = w := number_ba (str s) w
set_option maxHeartbeats 4000000 in
theorem rparse_short (line : Bs) (h : line.length ≤ 256) (w : World) : Calls Tryd.prog 9 #[.string (str line)] w fun e w' => e = .returned (parA (parseV line)) ∧ Below w.heap.size w w' := by
  unfold parseV
  rw [if_neg (by omega)]
  have hsp := split_ba (str line) (by rw [str_size]; exact h)
  have hdl : (str line).data.toList = line := rfl
  rw [hdl] at hsp
  obtain ⟨p0, ps, hl⟩ : ∃ p0 ps, splitV line = p0 :: ps := by
    cases e : splitV line with
    | nil => exact absurd e (split_ne line)
    | cons p ps => exact ⟨p, ps, rfl⟩
  have hpl := pieces_len line
  obtain ⟨l, hll⟩ : ∃ l, splitV line = l := ⟨_, rfl⟩
  have h0 : l[0]? = some p0 := by rw [← hll, hl]; rfl
  have htl : l.tail = ps := by rw [← hll, hl]; rfl
  have hhd : l.headD [] = p0 := by rw [← hll, hl]; rfl
  rw [hll] at hsp hpl ⊢
  obtain ⟨n, hn⟩ : ∃ n, l.length = n := ⟨_, rfl⟩
  have hn0 : 0 < n := by rw [← hn]; exact (List.getElem?_eq_some_iff.1 h0).1
  have HN : Hid _ := hn
  rw [hn] at hsp hpl
  have hs := str_size line
  have h' : ¬ (256 : Int) < (str line).size := by omega
  have HT : Hid _ := And.intro htl hhd
  clear hs hl hll hdl hn htl hhd
  go_enter Tryd.func9, Tryd.ntmps9
  go_wp2_with fail
  refine (hsp _).mono ?_
  rintro e w1 ⟨v, rfl, hown, b1⟩
  obtain ⟨o, cap, rfl, ho1, ho2, hrow⟩ := row_cells hown HN.out.symm hn0
  simp at ho1
  have hz1 := b1.size
  simp at hz1
  have PS0 : PS w (w1.alloc (.cells #[.int .i64 0, .string ⟨#[]⟩, .string ⟨#[]⟩, .int .i64 0, .int .i64 0, .int .i64 0, .int .i64 0, .int .i64 0] 24)) w.heap.size w1.heap.size o l zeroC :=
    ⟨((CmAt.new w zeroC).below b1).below ((Below.refl _ _).alloc (Nat.le_refl _) _), CmAt.new w1 zeroC, fun j p hp => (World.cell?_alloc_some w1 _ _ (by rw [hrow j p hp]; rfl)).trans (hrow j p hp), by omega, by omega, (((Below.refl _ _).alloc (Nat.le_refl _) _).trans (b1.mono (by simp))).alloc (by omega) _, by omega, by omega, by omega⟩
  have HPS0 : Hid (PS _ _ _ _ _ _ _) := PS0
  clear hown b1 hrow PS0 hsp
  go_wp2
  generalize w1.alloc (.cells #[.int .i64 0, .string ⟨#[]⟩, .string ⟨#[]⟩, .int .i64 0, .int .i64 0, .int .i64 0, .int .i64 0, .int .i64 0] 24) = W1 at *
  obtain ⟨g, hg⟩ : ∃ g, w1.heap.size = g := ⟨_, rfl⟩
  rw [hg] at HPS0 hz1 ho2 ⊢
  clear hg
  go_loopg [6, 7] 13 (fun gk f p wr => ∃ k : Nat, k + gk = 13 ∧ p = .int .i64 ((k : Int) + 1) ∧ f = .string (str (wordV (kindTo p0 k : Nat)).2) ∧ PS w wr w.heap.size g o l { zeroC with kind := (kindTo p0 k : Nat) })
  case atStart => exact ⟨0, by omega, rfl, rfl, HPS0.out⟩
  case round =>
    clear HPS0
    obtain ⟨k, hk, rfl, rfl, hPS⟩ := hrel
    by_cases hlt : k < 13
    · have hlt' : (k : Int) + 1 ≤ 13 := by omega
      have hwd := word_any ((k : Int) + 1)
      have c0 := hPS.row 0 p0 h0
      obtain ⟨⟨z0, _⟩, zf⟩ := hPS.cmd.cells
      have zf0 := zf 0
      have hst := hPS.set 0 (.int .i64 ((k : Int) + 1)) (hPS.cmd.setKind _)
      have hks := kindTo_step p0 k
      clear zf
      by_cases he : (wordV ((k : Int) + 1)).1 = p0
      · rw [if_pos he] at hks
        have HKS : Hid _ := hks
        have HST : Hid (PS _ _ _ _ _ _ _) := hst
        have heq := list_eq he
        clear hks he hst hPS
        go_wp2_with fail
        refine (hwd _).mono ?_
        rintro e w2 ⟨rfl, rfl⟩
        go_wp2
        go_roundg (13 - (k + 1))
        case measure => omega
        case rel =>
          refine ⟨k + 1, by omega, by go_num, ?_, ?_⟩
          · rw [HKS.out]; rfl
          · rw [HKS.out]; exact HST.out
      · rw [if_neg he] at hks
        have HKS : Hid _ := hks
        have HST : Hid (PS _ _ _ _ _ _ _) := hPS
        have heq := list_ne he
        clear hks he hst hPS
        go_wp2_with fail
        refine (hwd _).mono ?_
        rintro e w2 ⟨rfl, rfl⟩
        go_wp2
        go_roundg (13 - (k + 1))
        case measure => omega
        case rel =>
          refine ⟨k + 1, by omega, by go_num, ?_, ?_⟩
          · rw [HKS.out]
          · rw [HKS.out]; exact HST.out
    · obtain rfl : k = 13 := by omega
      have hK : kindTo p0 13 = kindV p0 := rfl
      rw [hK] at hPS ⊢
      have hfl := form_len (kindV p0 : Nat)
      have hpp : parseP l = parseK (kindV p0) l := by unfold parseP; rw [HT.out.2]
      obtain ⟨K, hKK⟩ : ∃ K, kindV p0 = K := ⟨_, rfl⟩
      rw [hKK] at hPS hpp hfl ⊢
      clear hK hKK
      unfold parseK at hpp
      obtain ⟨F, hF⟩ : ∃ F, (wordV (K : Nat)).2 = F := ⟨_, rfl⟩
      rw [hF] at hpp hfl ⊢
      rw [HN.out, HT.out.1] at hpp
      have hFs := str_size F
      obtain ⟨q, hq⟩ : ∃ q, F.length = q := ⟨_, rfl⟩
      have HQ : Hid _ := hq
      rw [hq] at hpp hFs hfl
      clear hF hq
      obtain ⟨⟨z0, _⟩, _⟩ := hPS.cmd.cells
      simp only at z0
      have hPr := hPS.res
      have y := toldZ hPr
      have HY : Hid (CmAt _ _ _) := y
      obtain ⟨⟨r0, r1, r2, r3, r4, r5, r6, r7⟩, rf⟩ := hPr.cells
      have hold := hPS.old
      clear y hPr
      by_cases hK0 : K = 0
      · rw [if_pos hK0] at hpp
        have HPP : Hid _ := hpp
        subst hK0
        clear hpp
        go_wp2
        obtain ⟨⟨y0, y1, y2, y3, y4, y5, y6, y7⟩, _⟩ := HY.out.cells
        exact bodyPost_ret (v := parA (zeroC, 81)) (by simp [results, Tryd.results9, go_sem, parA, cmV, y0, y1, y2, y3, y4, y5, y6, y7]) rfl ⟨by rw [HPP.out], told_below hold (Nat.le_refl _) _ _ _ _ _ _ _ _⟩
      · rw [if_neg hK0] at hpp
        have hK0' : ((K : Int) == 0) = false := by rw [beq_eq_false_iff_ne]; omega
        by_cases hm : n ≠ q + 1
        · rw [if_pos hm] at hpp
          have HPP : Hid _ := hpp
          have hm' : ((n : Int) != (q : Int) + 1) = true := by simp; omega
          clear hpp
          go_wp2
          obtain ⟨⟨y0, y1, y2, y3, y4, y5, y6, y7⟩, _⟩ := HY.out.cells
          exact bodyPost_ret (v := parA (zeroC, 82)) (by simp [results, Tryd.results9, go_sem, parA, cmV, y0, y1, y2, y3, y4, y5, y6, y7]) rfl ⟨by rw [HPP.out], told_below hold (Nat.le_refl _) _ _ _ _ _ _ _ _⟩
        · rw [if_neg hm] at hpp
          have hm' : ((n : Int) != (q : Int) + 1) = false := by simp; omega
          have hpp2 : parseP l = fillA (fillV { zeroC with kind := (K : Nat) } F ps) := by rw [hpp]; rfl
          have HPP2 : Hid _ := hpp2
          have HPS : Hid (PS _ _ _ _ _ _ _) := hPS
          clear hpp hpp2 r0 r1 r2 r3 r4 r5 r6 r7 rf HY hPS hold hK0
          have hnq : n = q + 1 := by omega
          have HNQ : Hid _ := hnq
          have hnq' : (q : Int) < n := by omega
          clear hnq hm
          go_wp2
          go_loopg [10] q (fun gk p wx => ∃ (j : Nat) (d : Cm), j + gk = q ∧ p = .int .i64 j ∧ PS w wx w.heap.size g o l d ∧ fillV { zeroC with kind := (K : Nat) } F ps = fillV d (F.drop j) (ps.drop j))
          case atStart => exact ⟨0, _, by omega, rfl, HPS.out, by simp⟩
          case round =>
            clear HPS z0
            obtain ⟨j, d, hj, rfl, hPS, hinv⟩ := hrel
            by_cases hlt2 : j < q
            · have hlt2' : (j : Int) < q := by omega
              have hj1 : (j : Int) + 1 < n := by omega
              obtain ⟨x, hx⟩ : ∃ x, F[j]? = some x := ⟨_, List.getElem?_eq_getElem (by rw [HQ.out]; exact hlt2)⟩
              have hjs : j < (str F).size := by omega
              have hxs : (str F)[j] = x := str_at F hx hjs
              obtain ⟨p, hp⟩ : ∃ p, l[j + 1]? = some p := ⟨_, List.getElem?_eq_getElem (by rw [HN.out, HNQ.out]; omega)⟩
              have hpp : ps[j]? = some p := by rw [← HT.out.1, List.getElem?_tail]; exact hp
              have cp := hPS.row (j + 1) p hp
              have hnm := named_any x
              cases hn : isNm x with
              | true =>
                rw [fill_name hx hpp hn] at hinv
                rw [hn] at hnm
                have hv := rvalid_any p
                clear hx hp hpp hn
                cases hvv : validV p with
                | true =>
                  rw [hvv] at hinv hv
                  rw [if_pos rfl] at hinv
                  have HI : Hid _ := hinv
                  clear hinv
                  go_wp2_with fail
                  refine (hnm _).mono ?_
                  rintro e w3 ⟨rfl, rfl⟩
                  go_wp2_with fail
                  refine (hv _).mono ?_
                  rintro e w4 ⟨rfl, b4⟩
                  have P4 := hPS.below b4
                  have c4 := P4.cmd.text x
                  have f4 := P4.cmd.cells.2 (offS x)
                  have S4 := P4.set (offS x) (.string (str p)) (P4.cmd.setText x p)
                  have HS4 : Hid (PS _ _ _ _ _ _ _) := S4
                  clear S4 P4 b4 hPS
                  go_wp2_with fail
                  refine (text_any x g _).mono ?_
                  rintro e w5 ⟨rfl, rfl⟩
                  go_wp2
                  go_roundg (q - (j + 1))
                  case measure => omega
                  case rel => exact ⟨j + 1, setS d x p, by omega, by go_num, HS4.out, HI.out⟩
                | false =>
                  rw [hvv] at hinv hv
                  rw [if_neg (by simp)] at hinv
                  have HI : Hid _ := hinv
                  clear hinv
                  go_wp2_with fail
                  refine (hnm _).mono ?_
                  rintro e w3 ⟨rfl, rfl⟩
                  go_wp2_with fail
                  refine (hv _).mono ?_
                  rintro e w4 ⟨rfl, b4⟩
                  have P4 := hPS.below b4
                  have HY : Hid (CmAt _ _ _) := toldZ P4.res
                  obtain ⟨⟨r0, r1, r2, r3, r4, r5, r6, r7⟩, rf⟩ := P4.res.cells
                  have hold := P4.old
                  clear P4 b4 hPS
                  go_wp2
                  obtain ⟨⟨y0, y1, y2, y3, y4, y5, y6, y7⟩, _⟩ := HY.out.cells
                  exact bodyPost_ret (v := parA (zeroC, 83)) (by simp [results, Tryd.results9, go_sem, parA, cmV, y0, y1, y2, y3, y4, y5, y6, y7]) rfl ⟨by rw [HPP2.out, HI.out]; rfl, told_below hold (Nat.le_refl _) _ _ _ _ _ _ _ _⟩
              | false =>
                rw [fill_num hx hpp hn] at hinv
                rw [hn] at hnm
                have hnu := num_str p
                clear hx hp hpp hn
                cases hvv : numV p with
                | some m =>
                  rw [hvv] at hinv hnu
                  have HI : Hid _ := hinv
                  have c4 := hPS.cmd.num x
                  have f4 := hPS.cmd.cells.2 (offI x)
                  have S4 := hPS.set (offI x) (.int .i64 (m : Int)) (hPS.cmd.setNum x m)
                  have HS4 : Hid (PS _ _ _ _ _ _ _) := S4
                  clear hinv S4 hPS
                  go_wp2_with fail
                  refine (hnm _).mono ?_
                  rintro e w3 ⟨rfl, rfl⟩
                  go_wp2_with fail
                  refine (hnu _).mono ?_
                  rintro e w4 ⟨rfl, rfl⟩
                  unfold numA
                  go_wp2_with fail
                  refine (value_any x g _).mono ?_
                  rintro e w5 ⟨rfl, rfl⟩
                  go_wp2
                  go_roundg (q - (j + 1))
                  case measure => omega
                  case rel => exact ⟨j + 1, setI d x m, by omega, by go_num, HS4.out, HI.out⟩
                | none =>
                  rw [hvv] at hinv hnu
                  have HI : Hid _ := hinv
                  have HY : Hid (CmAt _ _ _) := toldZ hPS.res
                  obtain ⟨⟨r0, r1, r2, r3, r4, r5, r6, r7⟩, rf⟩ := hPS.res.cells
                  have hold := hPS.old
                  clear hinv hPS
                  go_wp2_with fail
                  refine (hnm _).mono ?_
                  rintro e w3 ⟨rfl, rfl⟩
                  go_wp2_with fail
                  refine (hnu _).mono ?_
                  rintro e w4 ⟨rfl, rfl⟩
                  unfold numA
                  go_wp2
                  obtain ⟨⟨y0, y1, y2, y3, y4, y5, y6, y7⟩, _⟩ := HY.out.cells
                  exact bodyPost_ret (v := parA (zeroC, 83)) (by simp [results, Tryd.results9, go_sem, parA, cmV, y0, y1, y2, y3, y4, y5, y6, y7]) rfl ⟨by rw [HPP2.out, HI.out]; rfl, told_below hold (Nat.le_refl _) _ _ _ _ _ _ _ _⟩
            · obtain rfl : j = q := by omega
              have HI : Hid (fillV { zeroC with kind := (K : Nat) } F ps = some d) := by
                rw [hinv, List.drop_of_length_le (by rw [HQ.out]; exact Nat.le_refl _)]; exact rfl
              have HY : Hid (CmAt _ _ _) := told hPS.res d
              obtain ⟨⟨r0, r1, r2, r3, r4, r5, r6, r7⟩, rf⟩ := hPS.res.cells
              obtain ⟨⟨x0, x1, x2, x3, x4, x5, x6, x7⟩, _⟩ := hPS.cmd.cells
              have hold := hPS.old
              clear hinv hPS
              go_wp2
              obtain ⟨⟨y0, y1, y2, y3, y4, y5, y6, y7⟩, _⟩ := HY.out.cells
              exact bodyPost_ret (v := parA (d, 0)) (by simp [results, Tryd.results9, go_sem, parA, cmV, y0, y1, y2, y3, y4, y5, y6, y7]) rfl ⟨by rw [HPP2.out, HI.out]; rfl, told_below hold (Nat.le_refl _) _ _ _ _ _ _ _ _⟩
theorem rparse_any (line : Bs) (w : World) : Calls Tryd.prog 9 #[.string (str line)] w fun e w' => e = .returned (parA (parseV line)) ∧ Below w.heap.size w w' := by
  by_cases h : 256 < line.length
  · exact rparse_long line h w
  · exact rparse_short line (by omega) w
end Go.Proofs.YtokpcpmkilikaaaDoor
