/-
  The plain mathematics of layer 8: there and back, some theorems a kind (by program).
-/
import Derived.Test.YtokpcpmkilikaaaDoorVbC
namespace Go.Proofs.YtokpcpmkilikaaaDoor.Vb

theorem word_1 : wordV 1 = ([115, 117, 98, 109, 105, 116], [78, 110, 108]) := by decide
theorem kindv_1 : kindV [115, 117, 98, 109, 105, 116] = 1 := by decide
theorem check_1 (nm pa : Bs) (sh nd lm jb tk : Int) : checkV ⟨1, nm, pa, sh, nd, lm, jb, tk⟩ = 0 ↔ validV nm = true ∧ 0 ≤ nd ∧ 0 ≤ lm ∧ pa = [] ∧ sh = 0 ∧ jb = 0 ∧ tk = 0 := by
  unfold checkV
  simp only [word_1]
  simp [clearV, isNm, getS, setS, getI, setI, zeroC]
  by_cases h0 : validV nm = true
  rotate_left
  · simp [h0]
  · skip
    by_cases h1 : nd < 0
    · have g1 : ¬ 0 ≤ nd := by omega
      simp [h0, h1, g1]
    · skip
      by_cases h2 : lm < 0
      · have g2 : ¬ 0 ≤ lm := by omega
        simp [h0, h1, h2, g2]
      · skip
        have g1 : 0 ≤ nd := by omega
        have g2 : 0 ≤ lm := by omega
        simp [h0, h1, h2, g1, g2]
theorem back_1 (nm : Bs) (nd lm : Int) (h0 : validV nm = true) (h1 : 0 ≤ nd) (u1 : nd ≤ 9223372036854775807) (h2 : 0 ≤ lm) (u2 : lm ≤ 9223372036854775807) : parseV (lineV ⟨1, nm, [], 0, nd, lm, 0, 0⟩ [115, 117, 98, 109, 105, 116] [78, 110, 108]) = (⟨1, nm, [], 0, nd, lm, 0, 0⟩, 0) := by
  have el : lineV ⟨1, nm, [], 0, nd, lm, 0, 0⟩ [115, 117, 98, 109, 105, 116] [78, 110, 108] = joinV [[115, 117, 98, 109, 105, 116], nm, digV nd.toNat, digV lm.toNat] := line_join _ _ _
  have l0 := valid_len h0
  have l1 := dig_len (n := nd.toNat) (by omega)
  have n1 := num_dig (n := nd.toNat) (by omega)
  have l2 := dig_len (n := lm.toNat) (by omega)
  have n2 := num_dig (n := lm.toNat) (by omega)
  have hs : splitV (joinV [[115, 117, 98, 109, 105, 116], nm, digV nd.toNat, digV lm.toNat]) = [[115, 117, 98, 109, 105, 116], nm, digV nd.toNat, digV lm.toNat] := by
    refine split_join _ (by simp) ?_
    intro p hp
    simp only [List.mem_cons, List.not_mem_nil, or_false] at hp
    rcases hp with rfl | rfl | rfl | rfl
    · decide
    · exact valid_plain h0
    · exact dig_plain _
    · exact dig_plain _
  rw [el]
  unfold parseV
  rw [if_neg (by simp [joinV]; omega), hs]
  unfold parseP parseK
  simp only [List.headD_cons, kindv_1, word_1, Int.cast_ofNat_Int]
  simp [fillV, isNm, setS, setI, h0, n1, n2, zeroC]
  exact ⟨by omega, by omega⟩
theorem word_2 : wordV 2 = ([99, 97, 110, 99, 101, 108], [106]) := by decide
theorem kindv_2 : kindV [99, 97, 110, 99, 101, 108] = 2 := by decide
theorem check_2 (nm pa : Bs) (sh nd lm jb tk : Int) : checkV ⟨2, nm, pa, sh, nd, lm, jb, tk⟩ = 0 ↔ 0 ≤ jb ∧ nm = [] ∧ pa = [] ∧ sh = 0 ∧ nd = 0 ∧ lm = 0 ∧ tk = 0 := by
  unfold checkV
  simp only [word_2]
  simp [clearV, isNm, getI, setI, zeroC]
  by_cases h0 : jb < 0
  · have g0 : ¬ 0 ≤ jb := by omega
    simp [h0, g0]
  · skip
    have g0 : 0 ≤ jb := by omega
    simp [h0, g0]
theorem back_2 (jb : Int) (h0 : 0 ≤ jb) (u0 : jb ≤ 9223372036854775807) : parseV (lineV ⟨2, [], [], 0, 0, 0, jb, 0⟩ [99, 97, 110, 99, 101, 108] [106]) = (⟨2, [], [], 0, 0, 0, jb, 0⟩, 0) := by
  have el : lineV ⟨2, [], [], 0, 0, 0, jb, 0⟩ [99, 97, 110, 99, 101, 108] [106] = joinV [[99, 97, 110, 99, 101, 108], digV jb.toNat] := line_join _ _ _
  have l0 := dig_len (n := jb.toNat) (by omega)
  have n0 := num_dig (n := jb.toNat) (by omega)
  have hs : splitV (joinV [[99, 97, 110, 99, 101, 108], digV jb.toNat]) = [[99, 97, 110, 99, 101, 108], digV jb.toNat] := by
    refine split_join _ (by simp) ?_
    intro p hp
    simp only [List.mem_cons, List.not_mem_nil, or_false] at hp
    rcases hp with rfl | rfl
    · decide
    · exact dig_plain _
  rw [el]
  unfold parseV
  rw [if_neg (by simp [joinV]; omega), hs]
  unfold parseP parseK
  simp only [List.headD_cons, kindv_2, word_2, Int.cast_ofNat_Int]
  simp [fillV, isNm, setI, n0, zeroC]
  omega
theorem word_3 : wordV 3 = ([99, 111, 109, 112, 108, 101, 116, 101], [106]) := by decide
theorem kindv_3 : kindV [99, 111, 109, 112, 108, 101, 116, 101] = 3 := by decide
theorem check_3 (nm pa : Bs) (sh nd lm jb tk : Int) : checkV ⟨3, nm, pa, sh, nd, lm, jb, tk⟩ = 0 ↔ 0 ≤ jb ∧ nm = [] ∧ pa = [] ∧ sh = 0 ∧ nd = 0 ∧ lm = 0 ∧ tk = 0 := by
  unfold checkV
  simp only [word_3]
  simp [clearV, isNm, getI, setI, zeroC]
  by_cases h0 : jb < 0
  · have g0 : ¬ 0 ≤ jb := by omega
    simp [h0, g0]
  · skip
    have g0 : 0 ≤ jb := by omega
    simp [h0, g0]
theorem back_3 (jb : Int) (h0 : 0 ≤ jb) (u0 : jb ≤ 9223372036854775807) : parseV (lineV ⟨3, [], [], 0, 0, 0, jb, 0⟩ [99, 111, 109, 112, 108, 101, 116, 101] [106]) = (⟨3, [], [], 0, 0, 0, jb, 0⟩, 0) := by
  have el : lineV ⟨3, [], [], 0, 0, 0, jb, 0⟩ [99, 111, 109, 112, 108, 101, 116, 101] [106] = joinV [[99, 111, 109, 112, 108, 101, 116, 101], digV jb.toNat] := line_join _ _ _
  have l0 := dig_len (n := jb.toNat) (by omega)
  have n0 := num_dig (n := jb.toNat) (by omega)
  have hs : splitV (joinV [[99, 111, 109, 112, 108, 101, 116, 101], digV jb.toNat]) = [[99, 111, 109, 112, 108, 101, 116, 101], digV jb.toNat] := by
    refine split_join _ (by simp) ?_
    intro p hp
    simp only [List.mem_cons, List.not_mem_nil, or_false] at hp
    rcases hp with rfl | rfl
    · decide
    · exact dig_plain _
  rw [el]
  unfold parseV
  rw [if_neg (by simp [joinV]; omega), hs]
  unfold parseP parseK
  simp only [List.headD_cons, kindv_3, word_3, Int.cast_ofNat_Int]
  simp [fillV, isNm, setI, n0, zeroC]
  omega
theorem word_4 : wordV 4 = ([116, 105, 99, 107], [116]) := by decide
theorem kindv_4 : kindV [116, 105, 99, 107] = 4 := by decide
theorem check_4 (nm pa : Bs) (sh nd lm jb tk : Int) : checkV ⟨4, nm, pa, sh, nd, lm, jb, tk⟩ = 0 ↔ 0 ≤ tk ∧ nm = [] ∧ pa = [] ∧ sh = 0 ∧ nd = 0 ∧ lm = 0 ∧ jb = 0 := by
  unfold checkV
  simp only [word_4]
  simp [clearV, isNm, getI, setI, zeroC]
  by_cases h0 : tk < 0
  · have g0 : ¬ 0 ≤ tk := by omega
    simp [h0, g0]
  · skip
    have g0 : 0 ≤ tk := by omega
    simp [h0, g0]
theorem back_4 (tk : Int) (h0 : 0 ≤ tk) (u0 : tk ≤ 9223372036854775807) : parseV (lineV ⟨4, [], [], 0, 0, 0, 0, tk⟩ [116, 105, 99, 107] [116]) = (⟨4, [], [], 0, 0, 0, 0, tk⟩, 0) := by
  have el : lineV ⟨4, [], [], 0, 0, 0, 0, tk⟩ [116, 105, 99, 107] [116] = joinV [[116, 105, 99, 107], digV tk.toNat] := line_join _ _ _
  have l0 := dig_len (n := tk.toNat) (by omega)
  have n0 := num_dig (n := tk.toNat) (by omega)
  have hs : splitV (joinV [[116, 105, 99, 107], digV tk.toNat]) = [[116, 105, 99, 107], digV tk.toNat] := by
    refine split_join _ (by simp) ?_
    intro p hp
    simp only [List.mem_cons, List.not_mem_nil, or_false] at hp
    rcases hp with rfl | rfl
    · decide
    · exact dig_plain _
  rw [el]
  unfold parseV
  rw [if_neg (by simp [joinV]; omega), hs]
  unfold parseP parseK
  simp only [List.headD_cons, kindv_4, word_4, Int.cast_ofNat_Int]
  simp [fillV, isNm, setI, n0, zeroC]
  omega
theorem word_5 : wordV 5 = ([97, 99, 99, 111, 117, 110, 116], [78, 80, 104]) := by decide
theorem kindv_5 : kindV [97, 99, 99, 111, 117, 110, 116] = 5 := by decide
theorem check_5 (nm pa : Bs) (sh nd lm jb tk : Int) : checkV ⟨5, nm, pa, sh, nd, lm, jb, tk⟩ = 0 ↔ validV nm = true ∧ validV pa = true ∧ 0 ≤ sh ∧ nd = 0 ∧ lm = 0 ∧ jb = 0 ∧ tk = 0 := by
  unfold checkV
  simp only [word_5]
  simp [clearV, isNm, getS, setS, getI, setI, zeroC]
  by_cases h0 : validV nm = true
  rotate_left
  · simp [h0]
  · skip
    by_cases h1 : validV pa = true
    rotate_left
    · simp [h0, h1]
    · skip
      by_cases h2 : sh < 0
      · have g2 : ¬ 0 ≤ sh := by omega
        simp [h0, h1, h2, g2]
      · skip
        have g2 : 0 ≤ sh := by omega
        simp [h0, h1, h2, g2]
theorem back_5 (nm pa : Bs) (sh : Int) (h0 : validV nm = true) (h1 : validV pa = true) (h2 : 0 ≤ sh) (u2 : sh ≤ 9223372036854775807) : parseV (lineV ⟨5, nm, pa, sh, 0, 0, 0, 0⟩ [97, 99, 99, 111, 117, 110, 116] [78, 80, 104]) = (⟨5, nm, pa, sh, 0, 0, 0, 0⟩, 0) := by
  have el : lineV ⟨5, nm, pa, sh, 0, 0, 0, 0⟩ [97, 99, 99, 111, 117, 110, 116] [78, 80, 104] = joinV [[97, 99, 99, 111, 117, 110, 116], nm, pa, digV sh.toNat] := line_join _ _ _
  have l0 := valid_len h0
  have l1 := valid_len h1
  have l2 := dig_len (n := sh.toNat) (by omega)
  have n2 := num_dig (n := sh.toNat) (by omega)
  have hs : splitV (joinV [[97, 99, 99, 111, 117, 110, 116], nm, pa, digV sh.toNat]) = [[97, 99, 99, 111, 117, 110, 116], nm, pa, digV sh.toNat] := by
    refine split_join _ (by simp) ?_
    intro p hp
    simp only [List.mem_cons, List.not_mem_nil, or_false] at hp
    rcases hp with rfl | rfl | rfl | rfl
    · decide
    · exact valid_plain h0
    · exact valid_plain h1
    · exact dig_plain _
  rw [el]
  unfold parseV
  rw [if_neg (by simp [joinV]; omega), hs]
  unfold parseP parseK
  simp only [List.headD_cons, kindv_5, word_5, Int.cast_ofNat_Int]
  simp [fillV, isNm, setS, setI, h0, h1, n2, zeroC]
  omega
theorem word_6 : wordV 6 = ([115, 104, 97, 114, 101, 115], [78, 104]) := by decide
theorem kindv_6 : kindV [115, 104, 97, 114, 101, 115] = 6 := by decide
theorem check_6 (nm pa : Bs) (sh nd lm jb tk : Int) : checkV ⟨6, nm, pa, sh, nd, lm, jb, tk⟩ = 0 ↔ validV nm = true ∧ 0 ≤ sh ∧ pa = [] ∧ nd = 0 ∧ lm = 0 ∧ jb = 0 ∧ tk = 0 := by
  unfold checkV
  simp only [word_6]
  simp [clearV, isNm, getS, setS, getI, setI, zeroC]
  by_cases h0 : validV nm = true
  rotate_left
  · simp [h0]
  · skip
    by_cases h1 : sh < 0
    · have g1 : ¬ 0 ≤ sh := by omega
      simp [h0, h1, g1]
    · skip
      have g1 : 0 ≤ sh := by omega
      simp [h0, h1, g1]
theorem back_6 (nm : Bs) (sh : Int) (h0 : validV nm = true) (h1 : 0 ≤ sh) (u1 : sh ≤ 9223372036854775807) : parseV (lineV ⟨6, nm, [], sh, 0, 0, 0, 0⟩ [115, 104, 97, 114, 101, 115] [78, 104]) = (⟨6, nm, [], sh, 0, 0, 0, 0⟩, 0) := by
  have el : lineV ⟨6, nm, [], sh, 0, 0, 0, 0⟩ [115, 104, 97, 114, 101, 115] [78, 104] = joinV [[115, 104, 97, 114, 101, 115], nm, digV sh.toNat] := line_join _ _ _
  have l0 := valid_len h0
  have l1 := dig_len (n := sh.toNat) (by omega)
  have n1 := num_dig (n := sh.toNat) (by omega)
  have hs : splitV (joinV [[115, 104, 97, 114, 101, 115], nm, digV sh.toNat]) = [[115, 104, 97, 114, 101, 115], nm, digV sh.toNat] := by
    refine split_join _ (by simp) ?_
    intro p hp
    simp only [List.mem_cons, List.not_mem_nil, or_false] at hp
    rcases hp with rfl | rfl | rfl
    · decide
    · exact valid_plain h0
    · exact dig_plain _
  rw [el]
  unfold parseV
  rw [if_neg (by simp [joinV]; omega), hs]
  unfold parseP parseK
  simp only [List.headD_cons, kindv_6, word_6, Int.cast_ofNat_Int]
  simp [fillV, isNm, setS, setI, h0, n1, zeroC]
  omega
theorem word_7 : wordV 7 = ([109, 111, 118, 101], [78, 80]) := by decide
theorem kindv_7 : kindV [109, 111, 118, 101] = 7 := by decide
theorem check_7 (nm pa : Bs) (sh nd lm jb tk : Int) : checkV ⟨7, nm, pa, sh, nd, lm, jb, tk⟩ = 0 ↔ validV nm = true ∧ validV pa = true ∧ sh = 0 ∧ nd = 0 ∧ lm = 0 ∧ jb = 0 ∧ tk = 0 := by
  unfold checkV
  simp only [word_7]
  simp [clearV, isNm, getS, setS, zeroC]
  by_cases h0 : validV nm = true
  rotate_left
  · simp [h0]
  · skip
    by_cases h1 : validV pa = true
    rotate_left
    · simp [h0, h1]
    · skip
      simp [h0, h1]
theorem back_7 (nm pa : Bs) (h0 : validV nm = true) (h1 : validV pa = true) : parseV (lineV ⟨7, nm, pa, 0, 0, 0, 0, 0⟩ [109, 111, 118, 101] [78, 80]) = (⟨7, nm, pa, 0, 0, 0, 0, 0⟩, 0) := by
  have el : lineV ⟨7, nm, pa, 0, 0, 0, 0, 0⟩ [109, 111, 118, 101] [78, 80] = joinV [[109, 111, 118, 101], nm, pa] := line_join _ _ _
  have l0 := valid_len h0
  have l1 := valid_len h1
  have hs : splitV (joinV [[109, 111, 118, 101], nm, pa]) = [[109, 111, 118, 101], nm, pa] := by
    refine split_join _ (by simp) ?_
    intro p hp
    simp only [List.mem_cons, List.not_mem_nil, or_false] at hp
    rcases hp with rfl | rfl | rfl
    · decide
    · exact valid_plain h0
    · exact valid_plain h1
  rw [el]
  unfold parseV
  rw [if_neg (by simp [joinV]; omega), hs]
  unfold parseP parseK
  simp only [List.headD_cons, kindv_7, word_7, Int.cast_ofNat_Int]
  simp [fillV, isNm, setS, h0, h1, zeroC]
theorem word_8 : wordV 8 = ([99, 108, 111, 115, 101], [78]) := by decide
theorem kindv_8 : kindV [99, 108, 111, 115, 101] = 8 := by decide
theorem check_8 (nm pa : Bs) (sh nd lm jb tk : Int) : checkV ⟨8, nm, pa, sh, nd, lm, jb, tk⟩ = 0 ↔ validV nm = true ∧ pa = [] ∧ sh = 0 ∧ nd = 0 ∧ lm = 0 ∧ jb = 0 ∧ tk = 0 := by
  unfold checkV
  simp only [word_8]
  simp [clearV, isNm, getS, setS, zeroC]
  by_cases h0 : validV nm = true
  rotate_left
  · simp [h0]
  · skip
    simp [h0]
theorem back_8 (nm : Bs) (h0 : validV nm = true) : parseV (lineV ⟨8, nm, [], 0, 0, 0, 0, 0⟩ [99, 108, 111, 115, 101] [78]) = (⟨8, nm, [], 0, 0, 0, 0, 0⟩, 0) := by
  have el : lineV ⟨8, nm, [], 0, 0, 0, 0, 0⟩ [99, 108, 111, 115, 101] [78] = joinV [[99, 108, 111, 115, 101], nm] := line_join _ _ _
  have l0 := valid_len h0
  have hs : splitV (joinV [[99, 108, 111, 115, 101], nm]) = [[99, 108, 111, 115, 101], nm] := by
    refine split_join _ (by simp) ?_
    intro p hp
    simp only [List.mem_cons, List.not_mem_nil, or_false] at hp
    rcases hp with rfl | rfl
    · decide
    · exact valid_plain h0
  rw [el]
  unfold parseV
  rw [if_neg (by simp [joinV]; omega), hs]
  unfold parseP parseK
  simp only [List.headD_cons, kindv_8, word_8, Int.cast_ofNat_Int]
  simp [fillV, isNm, setS, h0, zeroC]
theorem word_9 : wordV 9 = ([106, 111, 98], [106]) := by decide
theorem kindv_9 : kindV [106, 111, 98] = 9 := by decide
theorem check_9 (nm pa : Bs) (sh nd lm jb tk : Int) : checkV ⟨9, nm, pa, sh, nd, lm, jb, tk⟩ = 0 ↔ 0 ≤ jb ∧ nm = [] ∧ pa = [] ∧ sh = 0 ∧ nd = 0 ∧ lm = 0 ∧ tk = 0 := by
  unfold checkV
  simp only [word_9]
  simp [clearV, isNm, getI, setI, zeroC]
  by_cases h0 : jb < 0
  · have g0 : ¬ 0 ≤ jb := by omega
    simp [h0, g0]
  · skip
    have g0 : 0 ≤ jb := by omega
    simp [h0, g0]
theorem back_9 (jb : Int) (h0 : 0 ≤ jb) (u0 : jb ≤ 9223372036854775807) : parseV (lineV ⟨9, [], [], 0, 0, 0, jb, 0⟩ [106, 111, 98] [106]) = (⟨9, [], [], 0, 0, 0, jb, 0⟩, 0) := by
  have el : lineV ⟨9, [], [], 0, 0, 0, jb, 0⟩ [106, 111, 98] [106] = joinV [[106, 111, 98], digV jb.toNat] := line_join _ _ _
  have l0 := dig_len (n := jb.toNat) (by omega)
  have n0 := num_dig (n := jb.toNat) (by omega)
  have hs : splitV (joinV [[106, 111, 98], digV jb.toNat]) = [[106, 111, 98], digV jb.toNat] := by
    refine split_join _ (by simp) ?_
    intro p hp
    simp only [List.mem_cons, List.not_mem_nil, or_false] at hp
    rcases hp with rfl | rfl
    · decide
    · exact dig_plain _
  rw [el]
  unfold parseV
  rw [if_neg (by simp [joinV]; omega), hs]
  unfold parseP parseK
  simp only [List.headD_cons, kindv_9, word_9, Int.cast_ofNat_Int]
  simp [fillV, isNm, setI, n0, zeroC]
  omega
theorem word_10 : wordV 10 = ([113, 117, 101, 117, 101], []) := by decide
theorem kindv_10 : kindV [113, 117, 101, 117, 101] = 10 := by decide
theorem check_10 (nm pa : Bs) (sh nd lm jb tk : Int) : checkV ⟨10, nm, pa, sh, nd, lm, jb, tk⟩ = 0 ↔ nm = [] ∧ pa = [] ∧ sh = 0 ∧ nd = 0 ∧ lm = 0 ∧ jb = 0 ∧ tk = 0 := by
  unfold checkV
  simp only [word_10]
  simp [clearV, zeroC]
theorem back_10  : parseV (lineV ⟨10, [], [], 0, 0, 0, 0, 0⟩ [113, 117, 101, 117, 101] []) = (⟨10, [], [], 0, 0, 0, 0, 0⟩, 0) := by
  have el : lineV ⟨10, [], [], 0, 0, 0, 0, 0⟩ [113, 117, 101, 117, 101] [] = joinV [[113, 117, 101, 117, 101]] := line_join _ _ _
  have hs : splitV (joinV [[113, 117, 101, 117, 101]]) = [[113, 117, 101, 117, 101]] := by decide
  rw [el]
  unfold parseV
  rw [if_neg (by simp [joinV]), hs]
  unfold parseP parseK
  simp only [List.headD_cons, kindv_10, word_10, Int.cast_ofNat_Int]
  simp [fillV, zeroC]
theorem word_11 : wordV 11 = ([117, 115, 97, 103, 101], [78]) := by decide
theorem kindv_11 : kindV [117, 115, 97, 103, 101] = 11 := by decide
theorem check_11 (nm pa : Bs) (sh nd lm jb tk : Int) : checkV ⟨11, nm, pa, sh, nd, lm, jb, tk⟩ = 0 ↔ validV nm = true ∧ pa = [] ∧ sh = 0 ∧ nd = 0 ∧ lm = 0 ∧ jb = 0 ∧ tk = 0 := by
  unfold checkV
  simp only [word_11]
  simp [clearV, isNm, getS, setS, zeroC]
  by_cases h0 : validV nm = true
  rotate_left
  · simp [h0]
  · skip
    simp [h0]
theorem back_11 (nm : Bs) (h0 : validV nm = true) : parseV (lineV ⟨11, nm, [], 0, 0, 0, 0, 0⟩ [117, 115, 97, 103, 101] [78]) = (⟨11, nm, [], 0, 0, 0, 0, 0⟩, 0) := by
  have el : lineV ⟨11, nm, [], 0, 0, 0, 0, 0⟩ [117, 115, 97, 103, 101] [78] = joinV [[117, 115, 97, 103, 101], nm] := line_join _ _ _
  have l0 := valid_len h0
  have hs : splitV (joinV [[117, 115, 97, 103, 101], nm]) = [[117, 115, 97, 103, 101], nm] := by
    refine split_join _ (by simp) ?_
    intro p hp
    simp only [List.mem_cons, List.not_mem_nil, or_false] at hp
    rcases hp with rfl | rfl
    · decide
    · exact valid_plain h0
  rw [el]
  unfold parseV
  rw [if_neg (by simp [joinV]; omega), hs]
  unfold parseP parseK
  simp only [List.headD_cons, kindv_11, word_11, Int.cast_ofNat_Int]
  simp [fillV, isNm, setS, h0, zeroC]
theorem word_12 : wordV 12 = ([110, 111, 100, 101, 115], []) := by decide
theorem kindv_12 : kindV [110, 111, 100, 101, 115] = 12 := by decide
theorem check_12 (nm pa : Bs) (sh nd lm jb tk : Int) : checkV ⟨12, nm, pa, sh, nd, lm, jb, tk⟩ = 0 ↔ nm = [] ∧ pa = [] ∧ sh = 0 ∧ nd = 0 ∧ lm = 0 ∧ jb = 0 ∧ tk = 0 := by
  unfold checkV
  simp only [word_12]
  simp [clearV, zeroC]
theorem back_12  : parseV (lineV ⟨12, [], [], 0, 0, 0, 0, 0⟩ [110, 111, 100, 101, 115] []) = (⟨12, [], [], 0, 0, 0, 0, 0⟩, 0) := by
  have el : lineV ⟨12, [], [], 0, 0, 0, 0, 0⟩ [110, 111, 100, 101, 115] [] = joinV [[110, 111, 100, 101, 115]] := line_join _ _ _
  have hs : splitV (joinV [[110, 111, 100, 101, 115]]) = [[110, 111, 100, 101, 115]] := by decide
  rw [el]
  unfold parseV
  rw [if_neg (by simp [joinV]), hs]
  unfold parseP parseK
  simp only [List.headD_cons, kindv_12, word_12, Int.cast_ofNat_Int]
  simp [fillV, zeroC]
theorem word_13 : wordV 13 = ([99, 111, 110, 102, 105, 103], []) := by decide
theorem kindv_13 : kindV [99, 111, 110, 102, 105, 103] = 13 := by decide
theorem check_13 (nm pa : Bs) (sh nd lm jb tk : Int) : checkV ⟨13, nm, pa, sh, nd, lm, jb, tk⟩ = 0 ↔ nm = [] ∧ pa = [] ∧ sh = 0 ∧ nd = 0 ∧ lm = 0 ∧ jb = 0 ∧ tk = 0 := by
  unfold checkV
  simp only [word_13]
  simp [clearV, zeroC]
theorem back_13  : parseV (lineV ⟨13, [], [], 0, 0, 0, 0, 0⟩ [99, 111, 110, 102, 105, 103] []) = (⟨13, [], [], 0, 0, 0, 0, 0⟩, 0) := by
  have el : lineV ⟨13, [], [], 0, 0, 0, 0, 0⟩ [99, 111, 110, 102, 105, 103] [] = joinV [[99, 111, 110, 102, 105, 103]] := line_join _ _ _
  have hs : splitV (joinV [[99, 111, 110, 102, 105, 103]]) = [[99, 111, 110, 102, 105, 103]] := by decide
  rw [el]
  unfold parseV
  rw [if_neg (by simp [joinV]), hs]
  unfold parseP parseK
  simp only [List.headD_cons, kindv_13, word_13, Int.cast_ofNat_Int]
  simp [fillV, zeroC]
end Go.Proofs.YtokpcpmkilikaaaDoor.Vb
