/-
  LAYER 12: raw node-ticks (from stage 12).
  LAYER 17: jobs in memory with their nodes; the reference's set, times.
  LAYER 17: the reference's times (made by gen17a.py).
  LAYER 17: jobs in a row with their nodes; the reference's usage.
  A region that draws, whose last operation turns a cell that the others read: what is to stand behind each operation is not asked behind the last one (number L), for which every operation that is taken first must be waited for.
  LAYER 17: the reference's job (made by gen17b.py).
  LAYER 17: the reference's common.
-/
import Derived.Test.YtbcinapnnlfnbaaGreatRwM
import Derived.Test.YtbcinapnnlfnbaaGreatRfX
import Derived.Test.YtbcinapnnlfnbaaGreatXcf
import Derived.Deep.LoopGhost
import Derived.Deep.RegionHeld3
import Derived.Deep.QuietTactic
import Derived.Test.YtbcinapnnlfnbaaGreatAuM
import Derived.StillTail
import Derived.Test.YtbcinapnnlfnbaaGreatProg
import Derived.Deep.CutBlock
import Derived.Deep.DeepCutAuto
namespace Go.Proofs.YtbcinapnnlfnbaaGreat
open Go.RowKit Wd Ld Cg Lg

theorem drew_below (w : World) : Below w.heap.size w w.drew := ⟨rfl, rfl, rfl, Nat.le_refl _, fun _ _ => rfl⟩
def IntsAt (W : World) (ao : Option Addr) (l : List Int) : Prop := ∃ g o, (0 < l.length → ao = some ⟨g, o, none⟩) ∧ ∀ k n, l[k]? = some n → W.cell? ⟨g, o + k, none⟩ = some (.int .i64 n)
theorem IntsAt.below {W W' : World} {ao : Option Addr} {l : List Int} (h : IntsAt W ao l) (b : Below W.heap.size W W') : IntsAt W' ao l := by
  obtain ⟨g, o, h1, h2⟩ := h
  exact ⟨g, o, h1, fun k n hn => cellB b (h2 k n hn)⟩
theorem index_any {w : World} {ao : Option Addr} {xs : List Int} {c : Nat} (hA : IntsAt w ao xs) (hl : xs.length ≤ 140737488355328) (p : Int) :
    Calls Tryz.prog 102 #[.slice ao xs.length c, .int .i64 p] w fun e w' => (∃ i : Int, e = .returned (.int .i64 i) ∧ decide (0 ≤ i) = decide (p ∈ xs)) ∧ w = w' := by
  obtain ⟨q, hq⟩ : ∃ q, xs.length = q := ⟨_, rfl⟩
  obtain ⟨g, o, hg, hc⟩ := hA
  rw [hq] at hg hl ⊢
  go_enter Tryz.func102, Tryz.ntmps102
  go_wp2
  go_loopg [8] q (fun gk pv wr => ∃ j : Nat, j + gk = q ∧ pv = .int .i64 j ∧ w = wr ∧ ∀ i x, i < j → xs[i]? = some x → x ≠ p)
  case atStart => exact ⟨0, by omega, rfl, rfl, fun i x hi => by omega⟩
  case round =>
    obtain ⟨j, hj, rfl, rfl, hinv⟩ := hrel
    by_cases hlt : j < q
    · have hlt' : (j : Int) < q := by omega
      obtain ⟨x, hx⟩ : ∃ x, xs[j]? = some x := ⟨_, List.getElem?_eq_getElem (by omega)⟩
      obtain rfl := hg (by omega)
      have d0 := hc j x hx
      have HINV : Hid _ := hinv
      clear hc hg hinv
      by_cases e : x = p
      · subst e
        have hmem := List.mem_of_getElem? hx
        have HM : Hid _ := hmem
        clear hmem hx
        go_wp2
        go_ret
        exact ⟨⟨j, rfl, by simp [HM.out]⟩, rfl⟩
      · have e' : (p == x) = false := by simpa using fun h : p = x => e h.symm
        have HX : Hid _ := hx
        clear hx
        go_wp2
        go_roundg (q - (j + 1))
        case measure => omega
        case rel =>
          refine ⟨j + 1, by omega, rfl, rfl, fun i y hi hy => ?_⟩
          by_cases hij : i = j
          · subst hij
            rw [HX.out] at hy
            cases hy
            exact e
          · exact HINV.out i y (by omega) hy
    · obtain rfl : j = q := by omega
      have hno : p ∉ xs := fun hm => by
        obtain ⟨i, hi⟩ := List.getElem?_of_mem hm
        exact hinv i p (by have := (List.getElem?_eq_some_iff.1 hi).1; omega) hi rfl
      clear hinv
      go_wp2
      go_ret
      exact ⟨⟨-1, rfl, by simp [hno]⟩, rfl⟩
theorem contains_any {w : World} {ao : Option Addr} {xs : List Int} {c : Nat} (hA : IntsAt w ao xs) (hl : xs.length ≤ 140737488355328) (p : Int) :
    Calls Tryz.prog 70 #[.slice ao xs.length c, .int .i64 p] w fun e w' => e = .returned (.bool (decide (p ∈ xs))) ∧ w = w' := by
  have hi := index_any (c := c) hA hl p
  clear hA
  go_enter Tryz.func70, Tryz.ntmps70
  go_wp2_with fail
  refine hi.mono ?_
  rintro e w1 ⟨⟨i, rfl, hd⟩, rfl⟩
  have HD : Hid _ := hd
  clear hd
  go_wp2
  go_ret
  exact ⟨by rw [← HD.out]; rfl, rfl⟩
/-- A job as a value. -/
def jbV (j : Jb) : Value := .agg #[.int .i64 j.ac, .int .i64 j.nd, .int .i64 j.lm, .int .i64 j.sb, .int .i64 j.st, .int .i64 j.sr, .int .i64 j.en, .slice j.sa j.sl j.sc]
theorem ran_any (j : Jb) (now : Int) (w : World) :
    Calls Tryz.prog 71 #[jbV j, .int .i64 now] w fun e w' => e = .returned (.int .i64 (wrap64 (ranZ now j))) ∧ Below w.heap.size w w' := by
  unfold jbV ranZ
  have b0 : ∀ o, Below w.heap.size w (w.alloc o) := fun o => (Below.refl _ w).alloc (Nat.le_refl _) o
  by_cases h3 : j.st = 3
  · rw [if_pos (.inl h3), h3]
    go_enter Tryz.func71, Tryz.ntmps71
    go_wp2
    go_ret
    exact ⟨rfl, b0 _⟩
  by_cases h4 : j.st = 4
  · rw [if_pos (.inr (.inl h4)), h4]
    go_enter Tryz.func71, Tryz.ntmps71
    go_wp2
    go_ret
    exact ⟨rfl, b0 _⟩
  by_cases h5 : j.st = 5
  · rw [if_pos (.inr (.inr h5)), h5]
    go_enter Tryz.func71, Tryz.ntmps71
    go_wp2
    go_ret
    exact ⟨rfl, b0 _⟩
  rw [if_neg (by omega)]
  by_cases h2 : j.st = 2
  · rw [if_pos h2, h2]
    go_enter Tryz.func71, Tryz.ntmps71
    go_wp2
    go_ret
    exact ⟨rfl, b0 _⟩
  · rw [if_neg h2, show wrap64 0 = 0 by unfold wrap64; omega]
    go_enter Tryz.func71, Tryz.ntmps71
    go_wp2
    go_ret
    exact ⟨rfl, b0 _⟩
/-- The cells of a job, at an offset. -/
structure JbAt (W : World) (g o : Nat) (j : Jb) : Prop where
  ac : W.cell? ⟨g, o, none⟩ = some (.int .i64 j.ac)
  nd : W.cell? ⟨g, o + 1, none⟩ = some (.int .i64 j.nd)
  lm : W.cell? ⟨g, o + 2, none⟩ = some (.int .i64 j.lm)
  sb : W.cell? ⟨g, o + 3, none⟩ = some (.int .i64 j.sb)
  st : W.cell? ⟨g, o + 4, none⟩ = some (.int .i64 j.st)
  sr : W.cell? ⟨g, o + 5, none⟩ = some (.int .i64 j.sr)
  en : W.cell? ⟨g, o + 6, none⟩ = some (.int .i64 j.en)
  se : W.cell? ⟨g, o + 7, none⟩ = some (.slice j.sa j.sl j.sc)
theorem JbAt.below {W W' : World} {g o : Nat} {j : Jb} (h : JbAt W g o j) (b : Below W.heap.size W W') : JbAt W' g o j := ⟨cellB b h.ac, cellB b h.nd, cellB b h.lm, cellB b h.sb, cellB b h.st, cellB b h.sr, cellB b h.en, cellB b h.se⟩
def JobsAt (W : World) (ao : Option Addr) (l : List Jb) : Prop := ∃ g o, (0 < l.length → ao = some ⟨g, o, none⟩) ∧ ∀ k j, l[k]? = some j → JbAt W g (o + k * 8) j
theorem JobsAt.below {W W' : World} {ao : Option Addr} {l : List Jb} (h : JobsAt W ao l) (b : Below W.heap.size W W') : JobsAt W' ao l := by
  obtain ⟨g, o, h1, h2⟩ := h
  exact ⟨g, o, h1, fun k j hj => (h2 k j hj).below b⟩
def rawV (acc : List Int) (now : Int) (js : List Jb) : Int := wrap64 (rawZ acc now js)
theorem one_in {acc : List Int} {now : Int} {j : Jb} (h : j.ac ∈ acc) : oneZ acc now j = j.nd * ranZ now j := by unfold oneZ; rw [if_pos h]
theorem one_out {acc : List Int} {now : Int} {j : Jb} (h : j.ac ∉ acc) : oneZ acc now j = 0 := by unfold oneZ; rw [if_neg h]
/-- One job more. -/
theorem raw_in {acc : List Int} {now : Int} {js : List Jb} {i : Nat} {j : Jb} (h : js[i]? = some j) (hm : j.ac ∈ acc) : wrap64 (rawV acc now (js.take i) + wrap64 (j.nd * wrap64 (ranZ now j))) = rawV acc now (js.take (i + 1)) := by
  unfold rawV
  rw [wrap_one, raw_take h, one_in hm]
theorem raw_out {acc : List Int} {now : Int} {js : List Jb} {i : Nat} {j : Jb} (h : js[i]? = some j) (hm : oneZ acc now j = 0) : rawV acc now (js.take i) = rawV acc now (js.take (i + 1)) := by
  unfold rawV
  rw [raw_take h, hm, Int.add_zero]
theorem raw_zero {acc : List Int} {now : Int} {js : List Jb} : rawV acc now (js.take 0) = 0 := by simp [rawV, rawZ, wrap64]
theorem raw_all {acc : List Int} {now : Int} {js : List Jb} : rawV acc now (js.take js.length) = rawV acc now js := by simp
/-- A job's own copy. -/
theorem JbAt.new (w : World) (j : Jb) : JbAt (w.alloc (.cells #[.int .i64 j.ac, .int .i64 j.nd, .int .i64 j.lm, .int .i64 j.sb, .int .i64 j.st, .int .i64 j.sr, .int .i64 j.en, .slice j.sa j.sl j.sc] 36)) w.heap.size 0 j :=
  ⟨cells_at (heap_alloc_new _ _) rfl, cells_at (heap_alloc_new _ _) rfl, cells_at (heap_alloc_new _ _) rfl, cells_at (heap_alloc_new _ _) rfl, cells_at (heap_alloc_new _ _) rfl, cells_at (heap_alloc_new _ _) rfl, cells_at (heap_alloc_new _ _) rfl, cells_at (heap_alloc_new _ _) rfl⟩
theorem JbAt.eight {w : World} {g : Nat} {j : Jb} (h : JbAt w g 0 j) : w.cell? ⟨g, 0, none⟩ = some (.int .i64 j.ac) ∧ w.cell? ⟨g, 1, none⟩ = some (.int .i64 j.nd) ∧ w.cell? ⟨g, 2, none⟩ = some (.int .i64 j.lm) ∧ w.cell? ⟨g, 3, none⟩ = some (.int .i64 j.sb) ∧ w.cell? ⟨g, 4, none⟩ = some (.int .i64 j.st) ∧ w.cell? ⟨g, 5, none⟩ = some (.int .i64 j.sr) ∧ w.cell? ⟨g, 6, none⟩ = some (.int .i64 j.en) ∧ w.cell? ⟨g, 7, none⟩ = some (.slice j.sa j.sl j.sc) := by
  obtain ⟨h0, h1, h2, h3, h4, h5, h6, h7⟩ := h
  simp only [Nat.zero_add] at *
  exact ⟨h0, h1, h2, h3, h4, h5, h6, h7⟩
set_option maxRecDepth 20000 in
set_option maxHeartbeats 2000000 in
theorem raw_any {w : World} {ao bo : Option Addr} {js : List Jb} {xs : List Int} {c c' : Nat} (hJ : JobsAt w ao js) (hl : js.length ≤ 140737488355328) (hA : IntsAt w bo xs) (hl' : xs.length ≤ 140737488355328) (now : Int) :
    Calls Tryz.prog 38 #[.slice ao js.length c, .slice bo xs.length c', .int .i64 now] w fun e w' => e = .returned (.int .i64 (rawV xs now js)) ∧ Below w.heap.size w w' := by
  have HCT : Hid (∀ W, Below w.heap.size w W → ∀ p, Calls Tryz.prog 70 #[.slice bo xs.length c', .int .i64 p] W fun e w' => e = .returned (.bool (decide (p ∈ xs))) ∧ W = w') := fun W hb p => contains_any (hA.below hb) hl' p
  clear hA
  rw [← raw_all]
  obtain ⟨q, hq⟩ : ∃ q, js.length = q := ⟨_, rfl⟩
  obtain ⟨m, hm⟩ : ∃ m, xs.length = m := ⟨_, rfl⟩
  obtain ⟨g, o, hg, hc⟩ := hJ
  rw [hm] at HCT hl' ⊢
  rw [hq] at hg hl ⊢
  clear hm
  have HQ : Hid (js.length = q) := hq
  clear hq
  go_enter Tryz.func38, Tryz.ntmps38
  go_wp2
  go_loopg [7, 12] q (fun gk ps pj wr => ∃ i : Nat, i + gk = q ∧ pj = .int .i64 i ∧ ps = .int .i64 (rawV xs now (js.take i)) ∧ Below w.heap.size w wr)
  case atStart => exact ⟨0, by omega, rfl, by rw [raw_zero], Below.refl _ _⟩
  case round =>
    obtain ⟨i, hi, rfl, rfl, hb⟩ := hrel
    by_cases hlt : i < q
    · have hlt' : (i : Int) < q := by omega
      obtain ⟨j, hj⟩ : ∃ j, js[i]? = some j := ⟨_, List.getElem?_eq_getElem (by rw [HQ.out]; exact hlt)⟩
      obtain rfl := hg (by omega)
      obtain ⟨d0, d1, d2, d3, d4, d5, d6, d7⟩ := (hc i j hj).below hb
      have b1 : Below w.heap.size w (wr.alloc (.cells #[.int .i64 j.ac, .int .i64 j.nd, .int .i64 j.lm, .int .i64 j.sb, .int .i64 j.st, .int .i64 j.sr, .int .i64 j.en, .slice j.sa j.sl j.sc] 36)) := hb.alloc hb.size _
      have hct := HCT.out _ b1 j.ac
      have HJ := JbAt.new wr j
      have HB1 : Hid _ := b1
      have HJH : Hid (JbAt (wr.alloc (.cells #[.int .i64 j.ac, .int .i64 j.nd, .int .i64 j.lm, .int .i64 j.sb, .int .i64 j.st, .int .i64 j.sr, .int .i64 j.en, .slice j.sa j.sl j.sc] 36)) wr.heap.size 0 j) := HJ
      clear hc hg hb b1 HJ
      by_cases hmem : j.ac ∈ xs
      · have HS : Hid _ := raw_in (now := now) hj hmem
        rw [decide_eq_true hmem] at hct
        generalize rawV xs now (js.take i) = s at HS
        have hra := ran_any j now
        unfold jbV at hra
        generalize wrap64 (ranZ now j) = r at HS hra
        clear hj hmem
        go_wp2_with (first | (go_at_call 70; refine hct.mono ?_; rintro e w1 ⟨rfl, hw1⟩; rw [← hw1]; clear hw1))
        clear hct d0 d1 d2 d3 d4 d5 d6 d7
        obtain ⟨W0, hW0⟩ : ∃ W0, wr.alloc (.cells #[.int .i64 j.ac, .int .i64 j.nd, .int .i64 j.lm, .int .i64 j.sb, .int .i64 j.st, .int .i64 j.sr, .int .i64 j.en, .slice j.sa j.sl j.sc] 36) = W0 := ⟨_, rfl⟩
        rw [hW0] at HB1 HJH ⊢
        clear hW0
        have S0 : Hid (JbAt W0.drew wr.heap.size 0 j) := HJH.out.below (drew_below W0)
        have HB2 : Hid (Below w.heap.size w W0.drew) := HB1.out.trans ((drew_below W0).mono HB1.out.size)
        clear HJH HB1
        go_region_held3 (fun w' => w'.cell? ⟨wr.heap.size, 0, none⟩ = some (.int .i64 j.ac) ∧ w'.cell? ⟨wr.heap.size, 1, none⟩ = some (.int .i64 j.nd) ∧ w'.cell? ⟨wr.heap.size, 2, none⟩ = some (.int .i64 j.lm) ∧ w'.cell? ⟨wr.heap.size, 3, none⟩ = some (.int .i64 j.sb) ∧ w'.cell? ⟨wr.heap.size, 4, none⟩ = some (.int .i64 j.st) ∧ w'.cell? ⟨wr.heap.size, 5, none⟩ = some (.int .i64 j.sr) ∧ w'.cell? ⟨wr.heap.size, 6, none⟩ = some (.int .i64 j.en) ∧ w'.cell? ⟨wr.heap.size, 7, none⟩ = some (.slice j.sa j.sl j.sc))
          (first | exact JbAt.eight S0.out | exact JbAt.eight S1)
          (first | (go_at_call 71; refine (hra _).mono ?_; rintro e w2 ⟨rfl, b2⟩; have S1 := JbAt.below S0.out b2))
        all_goals
          go_wp2
          go_roundg (q - (i + 1))
          case measure => omega
          case rel => exact ⟨i + 1, by omega, rfl, by rw [← HS.out]; simp only [IntKind.wrap_i64, wrap64], HB2.out.trans (b2.mono HB2.out.size)⟩
      · have HS : Hid _ := raw_out (now := now) (acc := xs) hj (one_out hmem)
        rw [decide_eq_false hmem] at hct
        clear hj hmem
        go_wp2_with (first | (go_at_call 70; refine hct.mono ?_; rintro e w1 ⟨rfl, rfl⟩))
        go_roundg (q - (i + 1))
        case measure => omega
        case rel => exact ⟨i + 1, by omega, rfl, by rw [HS.out], HB1.out⟩
    · obtain rfl : i = q := by omega
      go_wp2
      go_ret
      exact ⟨rfl, hb⟩
theorem ran_end {now : Int} {j : Jb} (h : j.st = 3 ∨ j.st = 4 ∨ j.st = 5) : ranZ now j = j.en - j.sr := by unfold ranZ; rw [if_pos h]
theorem ran_run {now : Int} {j : Jb} (h : j.st = 2) : ranZ now j = now - j.sr := by unfold ranZ; rw [if_neg (by omega), if_pos h]
theorem ran_no {now : Int} {j : Jb} (h : ¬ (j.st = 3 ∨ j.st = 4 ∨ j.st = 5)) (h2 : ¬ j.st = 2) : ranZ now j = 0 := by unfold ranZ; rw [if_neg h, if_neg h2]
theorem mem_take_succ {xs : List Int} {k : Nat} {x p : Int} (h : xs[k]? = some x) : decide (p ∈ xs.take (k + 1)) = (decide (p ∈ xs.take k) || x == p) := by
  obtain ⟨hk, rfl⟩ := List.getElem?_eq_some_iff.1 h
  rw [List.take_succ_eq_append_getElem hk]
  rw [Bool.eq_iff_iff]
  simp only [decide_eq_true_eq, List.mem_append, List.mem_singleton, Bool.or_eq_true, beq_iff_eq]
  constructor
  · rintro (h | h)
    · exact .inl h
    · exact .inr h.symm
  · rintro (h | h)
    · exact .inl h
    · exact .inr h.symm
set_option maxRecDepth 20000 in
set_option maxHeartbeats 4000000 in
theorem rraw_any {w : World} {ao bo : Option Addr} {js : List Jb} {xs : List Int} {c c' : Nat} (hJ : JobsAt w ao js) (hl : js.length ≤ 140737488355328) (hA : IntsAt w bo xs) (hl' : xs.length ≤ 140737488355328) (now : Int) :
    Calls Tryz.prog 50 #[.slice ao js.length c, .slice bo xs.length c', .int .i64 now] w fun e w' => e = .returned (.int .i64 (rawV xs now js)) ∧ Below w.heap.size w w' := by
  rw [← raw_all]
  obtain ⟨q, hq⟩ : ∃ q, js.length = q := ⟨_, rfl⟩
  obtain ⟨m, hm⟩ : ∃ m, xs.length = m := ⟨_, rfl⟩
  obtain ⟨g, o, hg, hc⟩ := hJ
  obtain ⟨g', o', hg', hc'⟩ := hA
  rw [hm] at hg' hl' ⊢
  rw [hq] at hg hl ⊢
  have HM : Hid (xs.length = m) := hm
  have HQ : Hid (js.length = q) := hq
  clear hq hm
  go_enter Tryz.func50, Tryz.ntmps50
  go_wp2
  go_loopg [7, 15] q (fun gk ps pj wr => ∃ i : Nat, i + gk = q ∧ pj = .int .i64 i ∧ ps = .int .i64 (rawV xs now (js.take i)) ∧ Below w.heap.size w wr)
  case atStart => exact ⟨0, by omega, rfl, by rw [raw_zero], Below.refl _ _⟩
  case round =>
    obtain ⟨i, hi, rfl, rfl, hb⟩ := hrel
    by_cases hlt : i < q
    · have hlt' : (i : Int) < q := by omega
      obtain ⟨j, hj⟩ : ∃ j, js[i]? = some j := ⟨_, List.getElem?_eq_getElem (by rw [HQ.out]; exact hlt)⟩
      obtain rfl := hg (by omega)
      obtain ⟨d0, d1, d2, d3, d4, d5, d6, d7⟩ := (hc i j hj).below hb
      have b1 : Below w.heap.size w (wr.alloc (.cells #[.int .i64 j.ac, .int .i64 j.nd, .int .i64 j.lm, .int .i64 j.sb, .int .i64 j.st, .int .i64 j.sr, .int .i64 j.en, .slice j.sa j.sl j.sc] 36)) := hb.alloc hb.size _
      have HB1 : Hid _ := b1
      have HJ : Hid _ := JbAt.new wr j
      have HJS : Hid _ := hj
      clear b1 hb hj
      go_wp2_with fail
      obtain ⟨W0, hW0⟩ : ∃ W0, wr.alloc (.cells #[.int .i64 j.ac, .int .i64 j.nd, .int .i64 j.lm, .int .i64 j.sb, .int .i64 j.st, .int .i64 j.sr, .int .i64 j.en, .slice j.sa j.sl j.sc] 36) = W0 := ⟨_, rfl⟩
      rw [hW0] at HB1 HJ ⊢
      clear hW0 d0 d1 d2 d3 d4 d5 d6 d7
      obtain ⟨x0, x1, x2, x3, x4, x5, x6, x7⟩ := JbAt.eight HJ.out
      go_loopg [10, 21] m (fun gk pb pk wx => ∃ k : Nat, k + gk = m ∧ pk = .int .i64 k ∧ pb = .bool (decide (j.ac ∈ xs.take k)) ∧ W0 = wx)
      case atStart => exact ⟨0, by omega, rfl, by simp, rfl⟩
      case round =>
        obtain ⟨k, hk, rfl, rfl, rfl⟩ := hrel
        by_cases hkm : k < m
        · have hkm' : (k : Int) < m := by omega
          obtain ⟨x, hx⟩ : ∃ x, xs[k]? = some x := ⟨_, List.getElem?_eq_getElem (by rw [HM.out]; exact hkm)⟩
          obtain rfl := hg' (by omega)
          have y0 := cellB HB1.out (hc' k x hx)
          have HT : Hid _ := mem_take_succ (p := j.ac) hx
          clear hx
          cases hdb : decide (j.ac ∈ xs.take k) with
          | true =>
            rw [hdb] at HT
            clear hdb
            go_wp2
            go_roundg (m - (k + 1))
            case measure => omega
            case rel => exact ⟨k + 1, by omega, rfl, by rw [HT.out]; rfl, rfl⟩
          | false =>
            rw [hdb] at HT
            clear hdb
            go_wp2
            go_roundg (m - (k + 1))
            case measure => omega
            case rel => exact ⟨k + 1, by omega, rfl, by rw [HT.out]; rfl, rfl⟩
        · obtain rfl : k = m := by omega
          have hall : xs.take k = xs := List.take_of_length_le (by rw [HM.out]; omega)
          rw [hall]
          clear hall
          by_cases hmem : j.ac ∈ xs
          · rw [decide_eq_true hmem]
            by_cases h3 : j.st = 3
            · have HS : Hid _ := raw_in (now := now) HJS.out hmem
              rw [ran_end (.inl h3)] at HS
              rw [h3] at x4
              clear hmem h3
              go_wp2
              go_roundg (q - (i + 1))
              case measure => omega
              case rel => exact ⟨i + 1, by omega, rfl, by rw [← HS.out], HB1.out⟩
            by_cases h4 : j.st = 4
            · have HS : Hid _ := raw_in (now := now) HJS.out hmem
              rw [ran_end (.inr (.inl h4))] at HS
              rw [h4] at x4
              clear hmem h3 h4
              go_wp2
              go_roundg (q - (i + 1))
              case measure => omega
              case rel => exact ⟨i + 1, by omega, rfl, by rw [← HS.out], HB1.out⟩
            by_cases h5 : j.st = 5
            · have HS : Hid _ := raw_in (now := now) HJS.out hmem
              rw [ran_end (.inr (.inr h5))] at HS
              rw [h5] at x4
              clear hmem h3 h4 h5
              go_wp2
              go_roundg (q - (i + 1))
              case measure => omega
              case rel => exact ⟨i + 1, by omega, rfl, by rw [← HS.out], HB1.out⟩
            by_cases h2 : j.st = 2
            · have HS : Hid _ := raw_in (now := now) HJS.out hmem
              rw [ran_run h2] at HS
              rw [h2] at x4
              clear hmem h3 h4 h5 h2
              go_wp2
              go_roundg (q - (i + 1))
              case measure => omega
              case rel => exact ⟨i + 1, by omega, rfl, by rw [← HS.out], HB1.out⟩
            · have HS : Hid _ := raw_out (now := now) (acc := xs) HJS.out (by rw [one_in hmem, ran_no (by omega) h2, Int.mul_zero])
              clear hmem
              go_wp2
              go_roundg (q - (i + 1))
              case measure => omega
              case rel => exact ⟨i + 1, by omega, rfl, by rw [HS.out], HB1.out⟩
          · rw [decide_eq_false hmem]
            have HS : Hid _ := raw_out (now := now) (acc := xs) HJS.out (one_out hmem)
            clear hmem
            go_wp2
            go_roundg (q - (i + 1))
            case measure => omega
            case rel => exact ⟨i + 1, by omega, rfl, by rw [HS.out], HB1.out⟩
    · obtain rfl : i = q := by omega
      go_wp2
      go_ret
      exact ⟨rfl, hb⟩
end Go.Proofs.YtbcinapnnlfnbaaGreat
namespace Go.Proofs.YtbcinapnnlfnbaaGreat
open Go.RowKit Wd Tr Cg Lg

/-- A job that lies in memory: its values, where its nodes lie. -/
structure Pj where
  v : Jv
  sa : Option Addr
  sc : Nat
def Pj.jb (p : Pj) : Jb := ⟨p.v.ac, p.v.nd, p.v.lm, p.v.sb, p.v.st, p.v.sr, p.v.en, p.sa, p.v.set.length, p.sc⟩
/-- A job, by value. -/
def pjV (p : Pj) : Value := .agg #[.int .i64 p.v.ac, .int .i64 p.v.nd, .int .i64 p.v.lm, .int .i64 p.v.sb, .int .i64 p.v.st, .int .i64 p.v.sr, .int .i64 p.v.en, .slice p.sa p.v.set.length p.sc]
theorem pj_jb (p : Pj) : jbV p.jb = pjV p := rfl
set_option maxRecDepth 20000 in
theorem rset_any {w : World} (c : Cf) (p : Pj) (hS : IntsAt w p.sa p.v.set) (hl : p.v.set.length ≤ 140737488355328) :
    Calls Tryz.prog 83 #[cfV c, pjV p] w fun e w' => e = .returned (.bool (setB c.nodes p.v)) ∧ Below w.heap.size w w' := by
  obtain ⟨⟨ac, nd, lm, sb, st, sr, en, xs⟩, sa, sc⟩ := p
  unfold cfV pjV setB
  dsimp only at hS hl ⊢
  obtain ⟨q, hq⟩ : ∃ q, xs.length = q := ⟨_, rfl⟩
  obtain ⟨g, o, hg, hc⟩ := hS
  have HQ : Hid (xs.length = q) := hq
  have HALL : Hid (xs.take q = xs) := by
    have := List.take_of_length_le (l := xs) (i := q) (by omega)
    exact this
  rw [hq] at hg hl ⊢
  clear hq
  have b2 : Below w.heap.size w ((w.alloc (.cells #[.int .i64 c.nodes, .int .i64 c.queue, .int .i64 c.limit, .int .i64 c.age, .int .i64 c.fair, .int .i64 c.size, .int .i64 c.period, .int .i64 c.half] 23)).alloc (.cells #[.int .i64 ac, .int .i64 nd, .int .i64 lm, .int .i64 sb, .int .i64 st, .int .i64 sr, .int .i64 en, .slice sa q sc] 36)) := ((Below.refl _ w).alloc (Nat.le_refl _) _).alloc (by simp) _
  have HB : Hid (Below w.heap.size w ((w.alloc (.cells #[.int .i64 c.nodes, .int .i64 c.queue, .int .i64 c.limit, .int .i64 c.age, .int .i64 c.fair, .int .i64 c.size, .int .i64 c.period, .int .i64 c.half] 23)).alloc (.cells #[.int .i64 ac, .int .i64 nd, .int .i64 lm, .int .i64 sb, .int .i64 st, .int .i64 sr, .int .i64 en, .slice sa q sc] 36))) := b2
  clear b2
  go_enter Tryz.func83, Tryz.ntmps83
  go_wp2
  obtain ⟨W, hW⟩ : ∃ W, (w.alloc (.cells #[.int .i64 c.nodes, .int .i64 c.queue, .int .i64 c.limit, .int .i64 c.age, .int .i64 c.fair, .int .i64 c.size, .int .i64 c.period, .int .i64 c.half] 23)).alloc (.cells #[.int .i64 ac, .int .i64 nd, .int .i64 lm, .int .i64 sb, .int .i64 st, .int .i64 sr, .int .i64 en, .slice sa q sc] 36) = W := ⟨_, rfl⟩
  have c0 : W.cell? ⟨w.heap.size, 0, none⟩ = some (.int .i64 c.nodes) := by rw [← hW]; simp
  have c1 : W.cell? ⟨w.heap.size + 1, 1, none⟩ = some (.int .i64 nd) := by rw [← hW]; simp
  have c7 : W.cell? ⟨w.heap.size + 1, 7, none⟩ = some (.slice sa q sc) := by rw [← hW]; simp
  rw [hW] at HB ⊢
  clear hW
  go_loopg [5, 11] q (fun gk pl pk wr => ∃ k : Nat, k + gk = q ∧ pk = .int .i64 k ∧ pl = .int .i64 (lastOf (-1) (xs.take k)) ∧ W = wr ∧ riseB c.nodes (-1) (xs.take k) = true)
  case atStart => exact ⟨0, by omega, rfl, rfl, rfl, rfl⟩
  case round =>
    obtain ⟨k, hk, rfl, rfl, rfl, hr⟩ := hrel
    by_cases hlt : k < q
    · have hlt' : (k : Int) < q := by omega
      obtain ⟨x, hx⟩ : ∃ x, xs[k]? = some x := ⟨_, List.getElem?_eq_getElem (by rw [HQ.out]; exact hlt)⟩
      obtain rfl := hg (by omega)
      have d0 := cellB HB.out (hc k x hx)
      have HN := rise_take (n := c.nodes) (last := -1) hx hr
      have HL : Hid (lastOf (-1) (xs.take (k + 1)) = x) := lastOf_take hx
      have HRF : Hid (riseB c.nodes (-1) (xs.take (k + 1)) = false → riseB c.nodes (-1) xs = false) := rise_false
      generalize lastOf (-1) (xs.take k) = la at *
      clear hx hr hc hg
      by_cases h1 : x ≤ la
      · have HN2 : Hid (riseB c.nodes (-1) xs = false) := HRF.out (by rw [HN, decide_eq_false (by omega)]; rfl)
        clear HN
        go_wp2
        go_ret
        exact ⟨by rw [HN2.out]; rfl, HB.out⟩
      · by_cases h2 : c.nodes ≤ x
        · have HN2 : Hid (riseB c.nodes (-1) xs = false) := HRF.out (by rw [HN, decide_eq_false (show ¬ x < c.nodes by omega), Bool.and_false])
          clear HN
          go_wp2
          go_ret
          exact ⟨by rw [HN2.out]; rfl, HB.out⟩
        · have HN2 : Hid (riseB c.nodes (-1) (xs.take (k + 1)) = true) := by
            have : riseB c.nodes (-1) (xs.take (k + 1)) = true := by rw [HN, decide_eq_true (by omega), decide_eq_true (by omega)]; rfl
            exact this
          clear HN
          go_wp2
          go_roundg (q - (k + 1))
          case measure => omega
          case rel => exact ⟨k + 1, by omega, rfl, by rw [HL.out], rfl, HN2.out⟩
    · obtain rfl : k = q := by omega
      have HR : Hid (riseB c.nodes (-1) xs = true) := by
        rw [HALL.out] at hr
        exact hr
      clear hr hc hg
      go_wp2
      go_ret
      exact ⟨by rw [HR.out, Bool.true_and]; congr 2, HB.out⟩
end Go.Proofs.YtbcinapnnlfnbaaGreat
namespace Go.Proofs.YtbcinapnnlfnbaaGreat
open Go.RowKit Wd Tr Cg Lg

/-- A state, by value. -/
def stL (c : Cf) (now : Int) (ao : Option Addr) (na ca : Nat) (jo : Option Addr) (nj cj : Nat) (hd : Int) : Array Value := #[.int .i64 c.nodes, .int .i64 c.queue, .int .i64 c.limit, .int .i64 c.age, .int .i64 c.fair, .int .i64 c.size, .int .i64 c.period, .int .i64 c.half, .int .i64 now, .slice ao na ca, .slice jo nj cj, .int .i64 hd]
set_option maxRecDepth 20000 in
set_option maxHeartbeats 4000000 in
theorem utimes_any {w : World} (c : Cf) (now : Int) (ao : Option Addr) (na ca : Nat) (jo : Option Addr) (nj cj : Nat) (hd : Int) (p : Pj) (hS : IntsAt w p.sa p.v.set) (hl : p.v.set.length ≤ 140737488355328) (hb : 0 ≤ p.v.sb) (hnow : now ≤ 1099511627776) (hlm : 0 ≤ p.v.lm ∧ p.v.lm ≤ 1048576) :
    Calls Tryz.prog 49 #[.agg (stL c now ao na ca jo nj cj hd), pjV p] w fun e w' => e = .returned (.bool (timesB c now p.v)) ∧ Below w.heap.size w w' := by
  have b2 : ∀ x y, Below w.heap.size w ((w.alloc x).alloc y) := fun x y => ((Below.refl _ w).alloc (Nat.le_refl _) _).alloc (by simp) _
  have cS : Hid (∀ x, Below w.heap.size w x → Calls Tryz.prog 83 #[cfV c, pjV p] x fun e w' => e = .returned (.bool (setB c.nodes p.v)) ∧ Below x.heap.size x w') := fun x hx => rset_any c p (hS.below hx) hl
  have HB2 : Hid (∀ x y, Below w.heap.size w ((w.alloc x).alloc y)) := b2
  clear hS b2
  obtain ⟨⟨ac, nd, lm, sb, st, sr, en, xs⟩, sa, sc⟩ := p
  unfold cfV pjV at cS
  unfold stL pjV
  dsimp only at hl hb hlm cS ⊢
  by_cases e1 : st = 1
  · subst e1
    clear cS
    by_cases h0 : ¬ (sr = 0)
    · have HT : Hid (timesB c now ⟨ac, nd, lm, sb, 1, sr, en, xs⟩ = false) := (show timesB c now ⟨ac, nd, lm, sb, 1, sr, en, xs⟩ = false by simp [timesB, h0])
      have n0 : (sr == 0) = false := by simpa using h0
      go_enter Tryz.func49, Tryz.ntmps49
      go_wp2
      go_ret
      exact ⟨by rw [HT.out]; rfl, HB2.out _ _⟩
    replace h0 := Decidable.not_not.1 h0
    subst h0
    by_cases h1 : ¬ (en = 0)
    · have HT : Hid (timesB c now ⟨ac, nd, lm, sb, 1, 0, en, xs⟩ = false) := (show timesB c now ⟨ac, nd, lm, sb, 1, 0, en, xs⟩ = false by simp [timesB, h1])
      have n1 : (en == 0) = false := by simpa using h1
      go_enter Tryz.func49, Tryz.ntmps49
      go_wp2
      go_ret
      exact ⟨by rw [HT.out]; rfl, HB2.out _ _⟩
    replace h1 := Decidable.not_not.1 h1
    subst h1
    by_cases h2 : ¬ (xs = [])
    · have HT : Hid (timesB c now ⟨ac, nd, lm, sb, 1, 0, 0, xs⟩ = false) := (show timesB c now ⟨ac, nd, lm, sb, 1, 0, 0, xs⟩ = false by simp [timesB, h2])
      have n2 : (((xs.length : Nat) : Int) == 0) = false := by cases xs with | nil => exact absurd rfl h2 | cons a b => simp; omega
      go_enter Tryz.func49, Tryz.ntmps49
      go_wp2
      go_ret
      exact ⟨by rw [HT.out]; rfl, HB2.out _ _⟩
    replace h2 := Decidable.not_not.1 h2
    subst h2
    have HT : Hid (timesB c now ⟨ac, nd, lm, sb, 1, 0, 0, []⟩ = true) := (show timesB c now ⟨ac, nd, lm, sb, 1, 0, 0, []⟩ = true by simp [timesB])
    go_enter Tryz.func49, Tryz.ntmps49
    go_wp2
    go_ret
    exact ⟨by rw [HT.out]; rfl, HB2.out _ _⟩
  by_cases e6 : st = 6
  · subst e6
    clear cS e1
    by_cases h0 : ¬ (sr = 0)
    · have HT : Hid (timesB c now ⟨ac, nd, lm, sb, 6, sr, en, xs⟩ = false) := (show timesB c now ⟨ac, nd, lm, sb, 6, sr, en, xs⟩ = false by simp [timesB, h0])
      have n0 : (sr == 0) = false := by simpa using h0
      go_enter Tryz.func49, Tryz.ntmps49
      go_wp2
      go_ret
      exact ⟨by rw [HT.out]; rfl, HB2.out _ _⟩
    replace h0 := Decidable.not_not.1 h0
    subst h0
    by_cases h1 : ¬ (sb ≤ en)
    · have HT : Hid (timesB c now ⟨ac, nd, lm, sb, 6, 0, en, xs⟩ = false) := (show timesB c now ⟨ac, nd, lm, sb, 6, 0, en, xs⟩ = false by simp [timesB, h1])
      have n1 : decide (sb ≤ en) = false := decide_eq_false h1
      go_enter Tryz.func49, Tryz.ntmps49
      go_wp2
      go_ret
      exact ⟨by rw [HT.out]; rfl, HB2.out _ _⟩
    replace h1 := Decidable.not_not.1 h1
    by_cases h2 : ¬ (en ≤ now)
    · have HT : Hid (timesB c now ⟨ac, nd, lm, sb, 6, 0, en, xs⟩ = false) := (show timesB c now ⟨ac, nd, lm, sb, 6, 0, en, xs⟩ = false by simp [timesB, h1, h2])
      have n2 : decide (en ≤ now) = false := decide_eq_false h2
      go_enter Tryz.func49, Tryz.ntmps49
      go_wp2
      go_ret
      exact ⟨by rw [HT.out]; rfl, HB2.out _ _⟩
    replace h2 := Decidable.not_not.1 h2
    by_cases h3 : ¬ (xs = [])
    · have HT : Hid (timesB c now ⟨ac, nd, lm, sb, 6, 0, en, xs⟩ = false) := (show timesB c now ⟨ac, nd, lm, sb, 6, 0, en, xs⟩ = false by simp [timesB, h1, h2, h3])
      have n3 : (((xs.length : Nat) : Int) == 0) = false := by cases xs with | nil => exact absurd rfl h3 | cons a b => simp; omega
      go_enter Tryz.func49, Tryz.ntmps49
      go_wp2
      go_ret
      exact ⟨by rw [HT.out]; rfl, HB2.out _ _⟩
    replace h3 := Decidable.not_not.1 h3
    subst h3
    have HT : Hid (timesB c now ⟨ac, nd, lm, sb, 6, 0, en, []⟩ = true) := (show timesB c now ⟨ac, nd, lm, sb, 6, 0, en, []⟩ = true by simp [timesB, h1, h2])
    go_enter Tryz.func49, Tryz.ntmps49
    go_wp2
    go_ret
    exact ⟨by rw [HT.out]; rfl, HB2.out _ _⟩
  have cS2 := cS.out _ (HB2.out (.cells #[.int .i64 c.nodes, .int .i64 c.queue, .int .i64 c.limit, .int .i64 c.age, .int .i64 c.fair, .int .i64 c.size, .int .i64 c.period, .int .i64 c.half, .int .i64 now, .slice ao na ca, .slice jo nj cj, .int .i64 hd] 27) (.cells #[.int .i64 ac, .int .i64 nd, .int .i64 lm, .int .i64 sb, .int .i64 st, .int .i64 sr, .int .i64 en, .slice sa xs.length sc] 36))
  obtain ⟨W, hW⟩ : ∃ W, (w.alloc (.cells #[.int .i64 c.nodes, .int .i64 c.queue, .int .i64 c.limit, .int .i64 c.age, .int .i64 c.fair, .int .i64 c.size, .int .i64 c.period, .int .i64 c.half, .int .i64 now, .slice ao na ca, .slice jo nj cj, .int .i64 hd] 27)).alloc (.cells #[.int .i64 ac, .int .i64 nd, .int .i64 lm, .int .i64 sb, .int .i64 st, .int .i64 sr, .int .i64 en, .slice sa xs.length sc] 36) = W := ⟨_, rfl⟩
  have HW : Hid ((w.alloc (.cells #[.int .i64 c.nodes, .int .i64 c.queue, .int .i64 c.limit, .int .i64 c.age, .int .i64 c.fair, .int .i64 c.size, .int .i64 c.period, .int .i64 c.half, .int .i64 now, .slice ao na ca, .slice jo nj cj, .int .i64 hd] 27)).alloc (.cells #[.int .i64 ac, .int .i64 nd, .int .i64 lm, .int .i64 sb, .int .i64 st, .int .i64 sr, .int .i64 en, .slice sa xs.length sc] 36) = W) := hW
  have HBW : Hid (Below w.heap.size w W) := by rw [← hW]; exact HB2.out _ _
  rw [hW] at cS2
  have c0 : W.cell? ⟨w.heap.size, 8, none⟩ = some (.int .i64 now) := by rw [← hW]; simp
  have c1 : W.cell? ⟨w.heap.size + 1, 2, none⟩ = some (.int .i64 lm) := by rw [← hW]; simp
  have c2 : W.cell? ⟨w.heap.size + 1, 3, none⟩ = some (.int .i64 sb) := by rw [← hW]; simp
  have c3 : W.cell? ⟨w.heap.size + 1, 4, none⟩ = some (.int .i64 st) := by rw [← hW]; simp
  have c4 : W.cell? ⟨w.heap.size + 1, 5, none⟩ = some (.int .i64 sr) := by rw [← hW]; simp
  have c5 : W.cell? ⟨w.heap.size + 1, 6, none⟩ = some (.int .i64 en) := by rw [← hW]; simp
  have HC : Hid (W.cell? ⟨w.heap.size, 8, none⟩ = some (.int .i64 now) ∧ W.cell? ⟨w.heap.size + 1, 2, none⟩ = some (.int .i64 lm) ∧ W.cell? ⟨w.heap.size + 1, 3, none⟩ = some (.int .i64 sb) ∧ W.cell? ⟨w.heap.size + 1, 4, none⟩ = some (.int .i64 st) ∧ W.cell? ⟨w.heap.size + 1, 5, none⟩ = some (.int .i64 sr) ∧ W.cell? ⟨w.heap.size + 1, 6, none⟩ = some (.int .i64 en)) := ⟨c0, c1, c2, c3, c4, c5⟩
  clear hW cS c0 c1 c2 c3 c4 c5
  go_enter Tryz.func49, Tryz.ntmps49
  go_upto_region 6 with fail
  rw [HW.out]
  obtain ⟨c0, c1, c2, c3, c4, c5⟩ := HC.out
  have k0 : W.cell? ⟨w.heap.size, 0, none⟩ = some (.int .i64 c.nodes) := by rw [← HW.out]; simp
  have k1 : W.cell? ⟨w.heap.size, 1, none⟩ = some (.int .i64 c.queue) := by rw [← HW.out]; simp
  have k2 : W.cell? ⟨w.heap.size, 2, none⟩ = some (.int .i64 c.limit) := by rw [← HW.out]; simp
  have k3 : W.cell? ⟨w.heap.size, 3, none⟩ = some (.int .i64 c.age) := by rw [← HW.out]; simp
  have k4 : W.cell? ⟨w.heap.size, 4, none⟩ = some (.int .i64 c.fair) := by rw [← HW.out]; simp
  have k5 : W.cell? ⟨w.heap.size, 5, none⟩ = some (.int .i64 c.size) := by rw [← HW.out]; simp
  have k6 : W.cell? ⟨w.heap.size, 6, none⟩ = some (.int .i64 c.period) := by rw [← HW.out]; simp
  have k7 : W.cell? ⟨w.heap.size, 7, none⟩ = some (.int .i64 c.half) := by rw [← HW.out]; simp
  have k8 : W.cell? ⟨w.heap.size + 1, 0, none⟩ = some (.int .i64 ac) := by rw [← HW.out]; simp
  have k9 : W.cell? ⟨w.heap.size + 1, 1, none⟩ = some (.int .i64 nd) := by rw [← HW.out]; simp
  have k10 : W.cell? ⟨w.heap.size + 1, 7, none⟩ = some (.slice sa xs.length sc) := by rw [← HW.out]; simp
  go_wp2_with fail
  refine cS2.mono ?_
  rintro e x ⟨rfl, hx⟩
  have HBX : Hid (Below w.heap.size w x) := HBW.out.trans (hx.mono HBW.out.size)
  have d0 := cellB hx c0
  have d1 := cellB hx c1
  have d2 := cellB hx c2
  have d3 := cellB hx c3
  have d4 := cellB hx c4
  have d5 := cellB hx c5
  clear c0 c1 c2 c3 c4 c5 k0 k1 k2 k3 k4 k5 k6 k7 k8 k9 k10 hx cS2 HC HW HBW HB2
  have HSB : Hid (∀ b, setB c.nodes ⟨ac, nd, lm, sb, st, sr, en, xs⟩ = b → setB c.nodes ⟨ac, nd, lm, sb, st, sr, en, xs⟩ = b) := fun _ h => h
  cases hset : setB c.nodes ⟨ac, nd, lm, sb, st, sr, en, xs⟩ with
  | false =>
    have HT : Hid (timesB c now ⟨ac, nd, lm, sb, st, sr, en, xs⟩ = false) := (show timesB c now ⟨ac, nd, lm, sb, st, sr, en, xs⟩ = false by simp [timesB, e1, e6, hset])
    clear hset HSB
    go_wp2
    go_ret
    exact ⟨by rw [HT.out]; rfl, HBX.out⟩
  | true =>
    have HSET : Hid (setB c.nodes ⟨ac, nd, lm, sb, st, sr, en, xs⟩ = true) := hset
    clear hset HSB
    by_cases h20 : sr ≤ sb
    · have HT : Hid (timesB c now ⟨ac, nd, lm, sb, st, sr, en, xs⟩ = false) := (show timesB c now ⟨ac, nd, lm, sb, st, sr, en, xs⟩ = false by simp [timesB, e1, e6, HSET.out, h20])
      clear HSET
      go_wp2
      go_ret
      exact ⟨by rw [HT.out]; rfl, HBX.out⟩
    by_cases h21 : now < sr
    · have HT : Hid (timesB c now ⟨ac, nd, lm, sb, st, sr, en, xs⟩ = false) := (show timesB c now ⟨ac, nd, lm, sb, st, sr, en, xs⟩ = false by simp [timesB, e1, e6, HSET.out, h20, h21])
      clear HSET
      go_wp2
      go_ret
      exact ⟨by rw [HT.out]; rfl, HBX.out⟩
    have hw : IntKind.i64.wrap (sr + lm) = sr + lm := by rw [IntKind.wrap_i64]; omega
    by_cases e2 : st = 2
    · subst e2
      by_cases h0 : ¬ (now < sr + lm)
      · have HT : Hid (timesB c now ⟨ac, nd, lm, sb, 2, sr, en, xs⟩ = false) := (show timesB c now ⟨ac, nd, lm, sb, 2, sr, en, xs⟩ = false by simp [timesB, HSET.out, h20, h21, h0])
        have n0 : decide (now < sr + lm) = false := decide_eq_false h0
        clear HSET
        go_wp2
        go_ret
        exact ⟨by rw [HT.out]; rfl, HBX.out⟩
      replace h0 := Decidable.not_not.1 h0
      by_cases h1 : ¬ (en = 0)
      · have HT : Hid (timesB c now ⟨ac, nd, lm, sb, 2, sr, en, xs⟩ = false) := (show timesB c now ⟨ac, nd, lm, sb, 2, sr, en, xs⟩ = false by simp [timesB, HSET.out, h20, h21, h0, h1])
        have n1 : (en == 0) = false := by simpa using h1
        clear HSET
        go_wp2
        go_ret
        exact ⟨by rw [HT.out]; rfl, HBX.out⟩
      replace h1 := Decidable.not_not.1 h1
      subst h1
      have HT : Hid (timesB c now ⟨ac, nd, lm, sb, 2, sr, 0, xs⟩ = true) := (show timesB c now ⟨ac, nd, lm, sb, 2, sr, 0, xs⟩ = true by simp [timesB, HSET.out, h20, h21, h0])
      clear HSET
      go_wp2
      go_ret
      exact ⟨by rw [HT.out]; rfl, HBX.out⟩
    by_cases e3 : st = 3
    · subst e3
      by_cases h0 : ¬ (sr ≤ en)
      · have HT : Hid (timesB c now ⟨ac, nd, lm, sb, 3, sr, en, xs⟩ = false) := (show timesB c now ⟨ac, nd, lm, sb, 3, sr, en, xs⟩ = false by simp [timesB, HSET.out, h20, h21, h0])
        have n0 : decide (sr ≤ en) = false := decide_eq_false h0
        clear HSET
        go_wp2
        go_ret
        exact ⟨by rw [HT.out]; rfl, HBX.out⟩
      replace h0 := Decidable.not_not.1 h0
      by_cases h1 : ¬ (en < sr + lm)
      · have HT : Hid (timesB c now ⟨ac, nd, lm, sb, 3, sr, en, xs⟩ = false) := (show timesB c now ⟨ac, nd, lm, sb, 3, sr, en, xs⟩ = false by simp [timesB, HSET.out, h20, h21, h0, h1])
        have n1 : decide (en < sr + lm) = false := decide_eq_false h1
        clear HSET
        go_wp2
        go_ret
        exact ⟨by rw [HT.out]; rfl, HBX.out⟩
      replace h1 := Decidable.not_not.1 h1
      by_cases h2 : ¬ (en ≤ now)
      · have HT : Hid (timesB c now ⟨ac, nd, lm, sb, 3, sr, en, xs⟩ = false) := (show timesB c now ⟨ac, nd, lm, sb, 3, sr, en, xs⟩ = false by simp [timesB, HSET.out, h20, h21, h0, h1, h2])
        have n2 : decide (en ≤ now) = false := decide_eq_false h2
        clear HSET
        go_wp2
        go_ret
        exact ⟨by rw [HT.out]; rfl, HBX.out⟩
      replace h2 := Decidable.not_not.1 h2
      have HT : Hid (timesB c now ⟨ac, nd, lm, sb, 3, sr, en, xs⟩ = true) := (show timesB c now ⟨ac, nd, lm, sb, 3, sr, en, xs⟩ = true by simp [timesB, HSET.out, h20, h21, h0, h1, h2])
      clear HSET
      go_wp2
      go_ret
      exact ⟨by rw [HT.out]; rfl, HBX.out⟩
    by_cases e5 : st = 5
    · subst e5
      by_cases h0 : ¬ (sr ≤ en)
      · have HT : Hid (timesB c now ⟨ac, nd, lm, sb, 5, sr, en, xs⟩ = false) := (show timesB c now ⟨ac, nd, lm, sb, 5, sr, en, xs⟩ = false by simp [timesB, HSET.out, h20, h21, h0])
        have n0 : decide (sr ≤ en) = false := decide_eq_false h0
        clear HSET
        go_wp2
        go_ret
        exact ⟨by rw [HT.out]; rfl, HBX.out⟩
      replace h0 := Decidable.not_not.1 h0
      by_cases h1 : ¬ (en < sr + lm)
      · have HT : Hid (timesB c now ⟨ac, nd, lm, sb, 5, sr, en, xs⟩ = false) := (show timesB c now ⟨ac, nd, lm, sb, 5, sr, en, xs⟩ = false by simp [timesB, HSET.out, h20, h21, h0, h1])
        have n1 : decide (en < sr + lm) = false := decide_eq_false h1
        clear HSET
        go_wp2
        go_ret
        exact ⟨by rw [HT.out]; rfl, HBX.out⟩
      replace h1 := Decidable.not_not.1 h1
      by_cases h2 : ¬ (en ≤ now)
      · have HT : Hid (timesB c now ⟨ac, nd, lm, sb, 5, sr, en, xs⟩ = false) := (show timesB c now ⟨ac, nd, lm, sb, 5, sr, en, xs⟩ = false by simp [timesB, HSET.out, h20, h21, h0, h1, h2])
        have n2 : decide (en ≤ now) = false := decide_eq_false h2
        clear HSET
        go_wp2
        go_ret
        exact ⟨by rw [HT.out]; rfl, HBX.out⟩
      replace h2 := Decidable.not_not.1 h2
      have HT : Hid (timesB c now ⟨ac, nd, lm, sb, 5, sr, en, xs⟩ = true) := (show timesB c now ⟨ac, nd, lm, sb, 5, sr, en, xs⟩ = true by simp [timesB, HSET.out, h20, h21, h0, h1, h2])
      clear HSET
      go_wp2
      go_ret
      exact ⟨by rw [HT.out]; rfl, HBX.out⟩
    by_cases e4 : st = 4
    · subst e4
      by_cases h0 : ¬ (en = sr + lm)
      · have HT : Hid (timesB c now ⟨ac, nd, lm, sb, 4, sr, en, xs⟩ = false) := (show timesB c now ⟨ac, nd, lm, sb, 4, sr, en, xs⟩ = false by simp [timesB, HSET.out, h20, h21, h0])
        clear HSET
        go_wp2
        go_ret
        exact ⟨by rw [HT.out]; rfl, HBX.out⟩
      replace h0 := Decidable.not_not.1 h0
      subst h0
      by_cases h1 : ¬ (sr + lm ≤ now)
      · have HT : Hid (timesB c now ⟨ac, nd, lm, sb, 4, sr, (sr + lm), xs⟩ = false) := (show timesB c now ⟨ac, nd, lm, sb, 4, sr, (sr + lm), xs⟩ = false by simp [timesB, HSET.out, h20, h21, h1])
        have n1 : decide (sr + lm ≤ now) = false := decide_eq_false h1
        clear HSET
        go_wp2
        go_ret
        exact ⟨by rw [HT.out]; rfl, HBX.out⟩
      replace h1 := Decidable.not_not.1 h1
      have HT : Hid (timesB c now ⟨ac, nd, lm, sb, 4, sr, (sr + lm), xs⟩ = true) := (show timesB c now ⟨ac, nd, lm, sb, 4, sr, (sr + lm), xs⟩ = true by simp [timesB, HSET.out, h20, h21, h1])
      clear HSET
      go_wp2
      go_ret
      exact ⟨by rw [HT.out]; rfl, HBX.out⟩
    have HT : Hid (timesB c now ⟨ac, nd, lm, sb, st, sr, en, xs⟩ = false) := (show timesB c now ⟨ac, nd, lm, sb, st, sr, en, xs⟩ = false by simp [timesB, e1, e6, e2, e3, e4, e5])
    clear HSET
    go_wp2
    go_ret
    exact ⟨by rw [HT.out]; rfl, HBX.out⟩
end Go.Proofs.YtbcinapnnlfnbaaGreat
namespace Go.Proofs.YtbcinapnnlfnbaaGreat
open Go.RowKit Wd Tr Cg Lg

/-- Jobs in memory, each with its nodes. -/
structure PjsAt (W : World) (jo : Option Addr) (ps : List Pj) : Prop where
  jobs : JobsAt W jo (ps.map Pj.jb)
  sets : ∀ p ∈ ps, IntsAt W p.sa p.v.set
theorem PjsAt.below {W W' : World} {jo : Option Addr} {ps : List Pj} (h : PjsAt W jo ps) (b : Below W.heap.size W W') : PjsAt W' jo ps := ⟨h.jobs.below b, fun p hp => (h.sets p hp).below b⟩
theorem one_mem {a n : Int} : (a ∈ [n]) = (a = n) := by simp
theorem raw_jb (n now : Int) : ∀ ps : List Pj, rawZ [n] now (ps.map Pj.jb) = rawJ n now (ps.map Pj.v)
  | [] => rfl
  | p :: ps => by
    simp only [List.map_cons, rawZ, rawJ, raw_jb n now ps]
    congr 1
    unfold oneZ ranZ ranJ Pj.jb
    simp only [List.mem_singleton]
theorem ints_one (W : World) (n : Int) : IntsAt (W.alloc (.cells #[.int .i64 n] 3)) (some ⟨W.heap.size, 0, none⟩) [n] := by
  refine ⟨_, _, fun _ => rfl, fun k x hx => ?_⟩
  rcases k with _ | k
  · simp at hx
    subst hx
    simp
  · simp at hx
set_option maxRecDepth 20000 in
set_option maxHeartbeats 4000000 in
theorem uusage_any {w : World} (c : Cf) (now : Int) {ao : Option Addr} {la : List Ac} (ca : Nat) {jo : Option Addr} {ps : List Pj} (cj : Nat) (hd : Int) (hA : AcsAt w ao la) (hJ : PjsAt w jo ps) (hl : ps.length ≤ 140737488355328) {n : Nat} {a : Ac} (ha : la[n]? = some a) (hu : Word a.us) (hr : 0 ≤ rawJ n now (ps.map Pj.v) ∧ rawJ n now (ps.map Pj.v) ≤ 4611686018427387904) :
    Calls Tryz.prog 24 #[.agg (stL c now ao la.length ca jo ps.length cj hd), .int .i64 (n : Int)] w fun e w' => e = .returned (.bool (usageB now (ps.map Pj.v) n a)) ∧ Below w.heap.size w w' := by
  have hn := (List.getElem?_eq_some_iff.1 ha).1
  obtain ⟨W, hW⟩ : ∃ W, w.alloc (.cells (stL c now ao la.length ca jo ps.length cj hd) 27) = W := ⟨_, rfl⟩
  have b1 : Below w.heap.size w W := by rw [← hW]; exact (Below.refl _ w).alloc (Nat.le_refl _) _
  have hc : ∀ k v, (stL c now ao la.length ca jo ps.length cj hd)[k]? = some v → W.cell? ⟨w.heap.size, k, none⟩ = some v := fun k v hv => by rw [← hW]; exact cells_at (heap_alloc_new w _) hv
  have k8 : W.cell? ⟨w.heap.size, 8, none⟩ = some (.int .i64 now) := hc 8 _ rfl
  have k9 : W.cell? ⟨w.heap.size, 9, none⟩ = some (.slice ao la.length ca) := hc 9 _ rfl
  have k10 : W.cell? ⟨w.heap.size, 10, none⟩ = some (.slice jo ps.length cj) := hc 10 _ rfl
  have z8 : (W.alloc (.cells #[.int .i64 (n : Int)] 3)).cell? ⟨w.heap.size, 8, none⟩ = some (.int .i64 now) := cellB ((Below.refl _ W).alloc (Nat.le_refl _) _) k8
  clear hc
  obtain ⟨g, o, hg, hcl⟩ := hA
  obtain rfl := hg (by omega)
  have hac := (hcl n a ha).below b1
  have y4 := hac.us
  have HR : Hid (∀ x, Below w.heap.size w x → ∀ bo, IntsAt x bo [(n : Int)] → Calls Tryz.prog 50 #[.slice jo ps.length cj, .slice bo 1 1, .int .i64 now] x fun e w' => e = .returned (.int .i64 (rawJ n now (ps.map Pj.v))) ∧ Below x.heap.size x w') := fun x hx bo hbo => by
    have := rraw_any (c := cj) (c' := 1) (hJ.jobs.below hx) (by rw [List.length_map]; exact hl) hbo (by simp) now
    rw [List.length_map] at this
    unfold rawV at this
    rw [raw_jb, show wrap64 (rawJ n now (ps.map Pj.v)) = rawJ n now (ps.map Pj.v) by unfold wrap64; omega] at this
    exact this
  have cR := HR.out (W.alloc (.cells #[.int .i64 (n : Int)] 3)) (b1.alloc b1.size _) _ (ints_one W n)
  have HU : Hid (usageB now (ps.map Pj.v) n a = decide (a.us ≤ rawJ n now (ps.map Pj.v) * 4294967296)) := rfl
  have HB : Hid (Below w.heap.size w (W.alloc (.cells #[.int .i64 (n : Int)] 3))) := b1.alloc b1.size _
  generalize rawJ n now (ps.map Pj.v) = R at *
  generalize a.us = U at *
  have hlt : (n : Int) < la.length := by omega
  have hn0 : (0 : Int) ≤ n := by omega
  obtain ⟨hu0, hu1⟩ := hu
  have hdv : IntKind.i64.wrap (U / 4294967296) = U / 4294967296 := by rw [IntKind.wrap_i64]; omega
  have hs : IntKind.u64.wrap (U / 4294967296 * 4294967296) = U / 4294967296 * 4294967296 := by rw [IntKind.wrap_u64]; omega
  generalize la.length = L at *
  generalize ps.length = N at *
  clear hcl hg hac ha HR hJ b1
  unfold stL at hW ⊢
  go_enter Tryz.func24, Tryz.ntmps24
  go_wp2_with fail
  refine cR.mono ?_
  rintro e x ⟨rfl, hx⟩
  have HBX : Hid (Below w.heap.size w x) := HB.out.trans (hx.mono HB.out.size)
  clear hx cR HB k8 z8 k9 k10 y4 hW
  by_cases h1 : U / 4294967296 < R
  · have HT : Hid (decide (U ≤ R * 4294967296) = true) := decide_eq_true (by omega)
    go_wp2
    go_ret
    exact ⟨by rw [HU.out, HT.out]; rfl, HBX.out⟩
  · have h1' : decide (U / 4294967296 < R) = false := decide_eq_false h1
    by_cases h2 : U / 4294967296 = R
    · by_cases h3 : U = U / 4294967296 * 4294967296
      · have HT : Hid (decide (U ≤ R * 4294967296) = true) := decide_eq_true (by omega)
        have h2' : (U / 4294967296 == R) = true := by simpa using h2
        have h3' : (U == U / 4294967296 * 4294967296) = true := by simpa using h3
        clear h2 h3
        go_wp2
        go_ret
        exact ⟨by rw [HU.out, HT.out]; rfl, HBX.out⟩
      · have HT : Hid (decide (U ≤ R * 4294967296) = false) := decide_eq_false (by omega)
        have h2' : (U / 4294967296 == R) = true := by simpa using h2
        have h3' : (U == U / 4294967296 * 4294967296) = false := by simpa using h3
        clear h2 h3
        go_wp2
        go_ret
        exact ⟨by rw [HU.out, HT.out]; rfl, HBX.out⟩
    · have HT : Hid (decide (U ≤ R * 4294967296) = false) := decide_eq_false (by omega)
      have h2' : (U / 4294967296 == R) = false := by simpa using h2
      clear h2
      go_wp2
      go_ret
      exact ⟨by rw [HU.out, HT.out]; rfl, HBX.out⟩
end Go.Proofs.YtbcinapnnlfnbaaGreat
namespace Go.Proofs.YtbcinapnnlfnbaaGreat
open Go

section
variable {P : Program} {ops : Array Oper} {Q : Exit → Act → World → Prop} {md : Region.Mode} {S : World → Prop} {L : Nat}
def wpLast (P : Program) (md : Region.Mode) (ops : Array Oper) (Q : Exit → Act → World → Prop) (S : World → Prop) (L : Nat) : Nat → Array Bool → Act → World → Prop
  | 0, listed, a, w => Region.ready md ops listed = [] ∧ Q .normal a w
  | fuel + 1, listed, a, w => (Region.ready md ops listed = [] → Q .normal a w) ∧ ∀ i ∈ Region.ready md ops listed, wpOp P ops Q i (fun a' w' => (i ≠ L → S w') ∧ wpLast P md ops Q S L fuel (listed.setIfInBounds i true) a' w') a w
theorem any_of_last : ∀ (fuel : Nat) (listed : Array Bool) (a : Act) (w : World), wpLast P md ops Q S L fuel listed a w → wpAny P md ops Q fuel listed a w
  | 0, _, _, _, h => h
  | fuel + 1, _, _, _, h => ⟨h.1, fun i hi => wpOp_mono (fun a' w' h' => any_of_last fuel _ a' w' h'.2) (h.2 i hi)⟩
theorem last_first {i : Nat} {oi : Oper} {v : Value} (hi : ops[i]? = some oi) (hsel : ∀ (j : Nat) (o : Oper) cs b, ops[j]? = some o → o.op ≠ .select cs b) (hQ : ∀ c a w, Q (.panic c) (a.put oi.dst v) w → Q (.panic c) a w)
    (hL : Region.waitsFor md ops L i = true) :
    ∀ (fuel : Nat) (listed : Array Bool) (a : Act) (w : World),
      (∀ j oj, ops[j]? = some oj → j ≠ i → listed.getD j true = false → (∀ e ∈ oj.after, Region.binds md e = true → e.on ≠ i) → oi.apart ops oj = true) →
      i ∈ Region.ready md ops listed → YieldsIf P ops S oi v a → S w →
      wpLast P md ops Q S L fuel (listed.setIfInBounds i true) (a.put oi.dst v) w → wpLast P md ops Q S L (fuel + 1) listed a w := by
  intro fuel
  induction fuel with
  | zero =>
    intro listed a w _ hr hy hS H
    refine ⟨fun h => (by rw [h] at hr; cases hr), fun j hj => ?_⟩
    by_cases hji : j = i
    · subst hji
      exact hy.wpOp hi hS ⟨fun _ => hS, H⟩
    · have := ready_mono hj hji
      rw [H.1] at this
      cases this
  | succ fuel ih =>
    intro listed a w hfree hr hy hS H
    refine ⟨fun h => (by rw [h] at hr; cases hr), fun j hj => ?_⟩
    by_cases hji : j = i
    · subst hji
      exact hy.wpOp hi hS ⟨fun _ => hS, H⟩
    · obtain ⟨hjun, oj, hoj, hall⟩ := mem_ready.1 hj
      have hnot : ∀ e ∈ oj.after, Region.binds md e = true → e.on ≠ i := fun e he hb heq => by
        have h1 := hall e he hb
        have h0 := (mem_ready.1 hr).1
        rw [heq] at h1
        rcases Nat.lt_or_ge i listed.size with h' | h'
        · simp [h'] at h0 h1; rw [h0] at h1; cases h1
        · simp [Array.getElem?_eq_none h'] at h1
      have hjL : j ≠ L := fun e => by
        subst e
        obtain ⟨oL, h1, e, he, hb, hon⟩ := Region.waitsFor_spec hL
        rw [hoj] at h1
        cases h1
        exact hnot e he hb hon
      have h1 := H.2 j (ready_mono hj hji)
      have h2 := wpOp_putIf hoj (hfree j oj hoj hji hjun hnot) (fun cs b => hsel i oi cs b hi) (fun cs b => hsel j oj cs b hoj) hQ hy h1
      have hfree' : ∀ k ok, ops[k]? = some ok → k ≠ i → (listed.setIfInBounds j true).getD k true = false → (∀ e ∈ ok.after, Region.binds md e = true → e.on ≠ i) → oi.apart ops ok = true := fun k ok hk hki hun hno => by
        refine hfree k ok hk hki ?_ hno
        by_cases hjk : j = k
        · subst hjk; exact hjun
        · rw [getD_set_ne true hjk] at hun; exact hun
      refine wpOp_mono (fun a' w' h3 => ⟨fun _ => h3.2.1 hjL, ih (listed.setIfInBounds j true) a' w' hfree' (ready_mono hr (Ne.symm hji)) h3.1 (h3.2.1 hjL) ?_⟩) h2
      rw [Array.setIfInBounds_comm _ _ hji]
      exact h3.2.2
theorem last_take {i d : Nat} {oi : Oper} {v : Value} {fuel : Nat} {listed : Array Bool} {a : Act} {w : World} (hi : ops[i]? = some oi) (hs : Region.noSelect ops = true) (hf : Region.free md ops listed i = true) (hr : (Region.ready md ops listed).contains i = true)
    (hL : Region.waitsFor md ops L i = true) (hd : oi.dst = some d) (hQ : ∀ c a w, Q (.panic c) (a.put (some d) v) w → Q (.panic c) a w) (hw : Region.wanted oi (yielded ops a.tmps) = true) (hS : S w) (hy : ∀ w, S w → (execOp a.eval oi).run P w = .ok (.value v) w)
    (h : wpLast P md ops Q S L fuel (listed.setIfInBounds i true) (a.put (some d) v) w) : wpLast P md ops Q S L (fuel + 1) listed a w :=
  last_first hi (Region.noSelect_spec hs) (by rw [hd]; exact hQ) hL fuel listed a w (Region.free_spec hi hf) (by simpa using hr) (.inl ⟨hw, hy⟩) hS (by rw [hd]; exact h)
theorem last_one {i : Nat} {o : Oper} {fuel : Nat} {listed : Array Bool} {a : Act} {w : World} (hr : Region.ready md ops listed = [i]) (ho : ops[i]? = some o)
    (h : ∀ K' : Act → World → Prop, Shut (∀ a w, (i ≠ L → S w) → ((i ≠ L → S w) → wpLast P md ops Q S L fuel (listed.setIfInBounds i true) a w) → K' a w) → if Region.wanted o (yielded ops a.tmps) = true then Oper.wp P o a w K' Q else K' (a.put o.dst undef) w) :
    wpLast P md ops Q S L (fuel + 1) listed a w := by
  refine ⟨fun e => (by rw [hr] at e; cases e), fun j hj => ?_⟩
  rw [hr] at hj
  obtain rfl : j = i := by simpa using hj
  exact wpOp_step ho (fun K' hK => h K' (fun a w hS hW => hK a w ⟨hS, hW hS⟩))
theorem last_done {listed : Array Bool} {a : Act} {w : World} (hr : Region.ready md ops listed = []) (h : Q .normal a w) : ∀ fuel, wpLast P md ops Q S L fuel listed a w
  | 0 => ⟨hr, h⟩
  | _ + 1 => ⟨fun _ => h, by rw [hr]; simp⟩
theorem wp_region_last {id : Nat} {a : Act} {w : World} (hm : P.follows .mixedOrders = true) (h : wpLast P .any ops Q S L ops.size (Array.replicate ops.size false) a w.drew) : (Code.region id ops true).wp P Q a w :=
  wp_region_any hm (any_of_last _ _ _ _ h)
end
theorem last_few {P : Program} {ops : Array Oper} {Q : Exit → Act → World → Prop} {md : Region.Mode} {S : World → Prop} {L : Nat} {i : Nat} {l : List Nat} {fuel : Nat} {listed : Array Bool} {a : Act} {w : World} (hr : Region.ready md ops listed = i :: l)
    (h : ∀ k ∈ i :: l, ∃ o, ops[k]? = some o ∧ ∀ K' : Act → World → Prop, Shut (∀ a w, (k ≠ L → S w) → ((k ≠ L → S w) → wpLast P md ops Q S L fuel (listed.setIfInBounds k true) a w) → K' a w) → if Region.wanted o (yielded ops a.tmps) = true then Oper.wp P o a w K' Q else K' (a.put o.dst undef) w) :
    wpLast P md ops Q S L (fuel + 1) listed a w := by
  refine ⟨fun e => (by rw [hr] at e; cases e), fun k hk => ?_⟩
  rw [hr] at hk
  obtain ⟨o, ho, h'⟩ := h k hk
  exact wpOp_step ho (fun K' hK => h' K' (fun a w hS hW => hK a w ⟨hS, hW hS⟩))
theorem last_firstF {P : Program} {ops : Array Oper} {Q : Exit → Act → World → Prop} {md : Region.Mode} {S : World → Prop} {L : Nat} {i : Nat} {oi : Oper} {v : Value} (hi : ops[i]? = some oi) (hsel : ∀ (j : Nat) (o : Oper) cs b, ops[j]? = some o → o.op ≠ .select cs b) (hQ : ∀ c a w, Q (.panic c) (a.put oi.dst v) w → Q (.panic c) a w)
    (hL : ops.size ≤ L) :
    ∀ (fuel : Nat) (listed : Array Bool) (a : Act) (w : World),
      (∀ j oj, ops[j]? = some oj → j ≠ i → listed.getD j true = false → (∀ e ∈ oj.after, Region.binds md e = true → e.on ≠ i) → oi.apart ops oj = true) →
      i ∈ Region.ready md ops listed → YieldsIf P ops S oi v a → S w →
      wpLast P md ops Q S L fuel (listed.setIfInBounds i true) (a.put oi.dst v) w → wpLast P md ops Q S L (fuel + 1) listed a w := by
  intro fuel
  induction fuel with
  | zero =>
    intro listed a w _ hr hy hS H
    refine ⟨fun h => (by rw [h] at hr; cases hr), fun j hj => ?_⟩
    by_cases hji : j = i
    · subst hji
      exact hy.wpOp hi hS ⟨fun _ => hS, H⟩
    · have := ready_mono hj hji
      rw [H.1] at this
      cases this
  | succ fuel ih =>
    intro listed a w hfree hr hy hS H
    refine ⟨fun h => (by rw [h] at hr; cases hr), fun j hj => ?_⟩
    by_cases hji : j = i
    · subst hji
      exact hy.wpOp hi hS ⟨fun _ => hS, H⟩
    · obtain ⟨hjun, oj, hoj, hall⟩ := mem_ready.1 hj
      have hnot : ∀ e ∈ oj.after, Region.binds md e = true → e.on ≠ i := fun e he hb heq => by
        have h1 := hall e he hb
        have h0 := (mem_ready.1 hr).1
        rw [heq] at h1
        rcases Nat.lt_or_ge i listed.size with h' | h'
        · simp [h'] at h0 h1; rw [h0] at h1; cases h1
        · simp [Array.getElem?_eq_none h'] at h1
      have hjL : j ≠ L := fun e => by
        have := (Array.getElem?_eq_some_iff.1 hoj).1
        omega
      have h1 := H.2 j (ready_mono hj hji)
      have h2 := wpOp_putIf hoj (hfree j oj hoj hji hjun hnot) (fun cs b => hsel i oi cs b hi) (fun cs b => hsel j oj cs b hoj) hQ hy h1
      have hfree' : ∀ k ok, ops[k]? = some ok → k ≠ i → (listed.setIfInBounds j true).getD k true = false → (∀ e ∈ ok.after, Region.binds md e = true → e.on ≠ i) → oi.apart ops ok = true := fun k ok hk hki hun hno => by
        refine hfree k ok hk hki ?_ hno
        by_cases hjk : j = k
        · subst hjk; exact hjun
        · rw [getD_set_ne true hjk] at hun; exact hun
      refine wpOp_mono (fun a' w' h3 => ⟨fun _ => h3.2.1 hjL, ih (listed.setIfInBounds j true) a' w' hfree' (ready_mono hr (Ne.symm hji)) h3.1 (h3.2.1 hjL) ?_⟩) h2
      rw [Array.setIfInBounds_comm _ _ hji]
      exact h3.2.2
/-- An operation taken first where no operation is marked as the last. -/
theorem last_takeF {P : Program} {ops : Array Oper} {Q : Exit → Act → World → Prop} {md : Region.Mode} {S : World → Prop} {L : Nat} {i d : Nat} {oi : Oper} {v : Value} {fuel : Nat} {listed : Array Bool} {a : Act} {w : World} (hi : ops[i]? = some oi) (hs : Region.noSelect ops = true) (hf : Region.free md ops listed i = true) (hr : (Region.ready md ops listed).contains i = true)
    (hL : Nat.ble ops.size L = true) (hd : oi.dst = some d) (hQ : ∀ c a w, Q (.panic c) (a.put (some d) v) w → Q (.panic c) a w) (hw : Region.wanted oi (yielded ops a.tmps) = true) (hS : S w) (hy : ∀ w, S w → (execOp a.eval oi).run P w = .ok (.value v) w)
    (h : wpLast P md ops Q S L fuel (listed.setIfInBounds i true) (a.put (some d) v) w) : wpLast P md ops Q S L (fuel + 1) listed a w :=
  last_firstF hi (Region.noSelect_spec hs) (by rw [hd]; exact hQ) (Nat.le_of_ble_eq_true hL) fuel listed a w (Region.free_spec hi hf) (by simpa using hr) (.inl ⟨hw, hy⟩) hS (by rw [hd]; exact h)
/-- An operation that its guard leaves out. -/
theorem last_skipF {P : Program} {ops : Array Oper} {Q : Exit → Act → World → Prop} {md : Region.Mode} {S : World → Prop} {L : Nat} {i d : Nat} {oi : Oper} {fuel : Nat} {listed : Array Bool} {a : Act} {w : World} (hi : ops[i]? = some oi) (hs : Region.noSelect ops = true) (hf : Region.free md ops listed i = true) (hr : (Region.ready md ops listed).contains i = true)
    (hL : Nat.ble ops.size L = true) (hd : oi.dst = some d) (hQ : ∀ c a w, Q (.panic c) (a.put (some d) undef) w → Q (.panic c) a w) (hw : Region.wanted oi (yielded ops a.tmps) = false) (hS : S w)
    (h : wpLast P md ops Q S L fuel (listed.setIfInBounds i true) (a.put (some d) undef) w) : wpLast P md ops Q S L (fuel + 1) listed a w :=
  last_firstF hi (Region.noSelect_spec hs) (by rw [hd]; exact hQ) (Nat.le_of_ble_eq_true hL) fuel listed a w (Region.free_spec hi hf) (by simpa using hr) (.inr ⟨hw, rfl⟩) hS (by rw [hd]; exact h)
end Go.Proofs.YtbcinapnnlfnbaaGreat
namespace Go.Proofs.YtbcinapnnlfnbaaGreat
open Go.RowKit Wd Tr Cg Lg

def headA (c : Cf) (N : Nat) (j : Jv) : Bool := decide (1 ≤ j.ac) && (decide (j.ac < (N : Int)) && (decide (1 ≤ j.nd) && (decide (j.nd ≤ c.nodes) && (decide (1 ≤ j.lm) && decide (j.lm ≤ c.limit)))))
def headC (c : Cf) (now : Int) (p : Int) (j : Jv) : Bool := decide (0 ≤ j.sb) && (decide (j.sb ≤ now) && (decide (j.sb + boundZ c ≤ 1099511627776) && decide (p ≤ j.sb)))
theorem job_parts (c : Cf) (now : Int) (N : Nat) (p : Int) (j : Jv) : jobB c now N p j = ((headA c N j && headC c now p j) && timesB c now j) := rfl
theorem ahead_zero (js : List Jv) : aheadOf js 0 = 0 := rfl
theorem ahead_succ {js : List Jv} {i : Nat} {j : Jv} (h : js[i]? = some j) : aheadOf js (i + 1) = j.sb := by
  unfold aheadOf
  rw [if_neg (by omega), Nat.add_sub_cancel, h]
set_option maxRecDepth 20000 in
set_option maxHeartbeats 8000000 in
theorem ujob_any {w : World} (c : Cf) (hck : chkZ c = 0) (now : Int) (ao : Option Addr) (na ca : Nat) {jo : Option Addr} {ps : List Pj} (cj : Nat) (hd : Int) (hJ : PjsAt w jo ps) (hl : ps.length ≤ 140737488355328) (hsl : ∀ p ∈ ps, p.v.set.length ≤ 140737488355328) (hnow : now ≤ 1099511627776) {i : Nat} {p : Pj} (hp : ps[i]? = some p) :
    Calls Tryz.prog 22 #[.agg (stL c now ao na ca jo ps.length cj hd), .int .i64 (i : Int)] w fun e w' => e = .returned (.bool (jobB c now na (aheadOf (ps.map Pj.v) i) p.v)) ∧ Below w.heap.size w w' := by
  have hi := (List.getElem?_eq_some_iff.1 hp).1
  have hpm := List.mem_of_getElem? hp
  obtain ⟨⟨g, o, hg, hcl⟩, hsets⟩ := hJ
  obtain rfl := hg (by rw [List.length_map]; omega)
  have hrow : ∀ k q, ps[k]? = some q → JbAt w g (o + k * 8) q.jb := fun k q hq => hcl k q.jb (by rw [List.getElem?_map, hq]; rfl)
  have hpj := hrow i p hp
  have HPREV : Hid (∀ k q, ps[k]? = some q → w.cell? ⟨g, o + k * 8 + 3, none⟩ = some (.int .i64 q.v.sb)) := fun k q hq => (hrow k q hq).sb
  have HAH : Hid (∀ k q, ps[k]? = some q → aheadOf (ps.map Pj.v) (k + 1) = q.v.sb) := fun k q hq => ahead_succ (by rw [List.getElem?_map, hq]; rfl)
  have HGET : Hid (∀ k, k < ps.length → ∃ q, ps[k]? = some q) := fun k hk => ⟨_, List.getElem?_eq_getElem hk⟩
  obtain ⟨r, hm, _⟩ := chk_ok hck
  have hbb := bound_box r
  have cB := rBound_yes hck
  have HTM : Hid (∀ x, Below w.heap.size w x → 0 ≤ p.v.sb → (0 ≤ p.v.lm ∧ p.v.lm ≤ 1048576) → Calls Tryz.prog 49 #[.agg (stL c now (ao) na ca (some ⟨g, o, none⟩) ps.length cj hd), pjV p] x fun e w' => e = .returned (.bool (timesB c now p.v)) ∧ Below x.heap.size x w') := fun x hx h1 h2 => utimes_any c now ao na ca _ _ cj hd p ((hsets p hpm).below hx) (hsl p hpm) h1 hnow h2
  have hlim := r.l1
  have hJP : jobB c now na (aheadOf (ps.map Pj.v) i) p.v = ((headA c na p.v && headC c now (aheadOf (ps.map Pj.v) i) p.v) && timesB c now p.v) := rfl
  obtain ⟨⟨ac, nd, lm, sb, st, sr, en, xs⟩, sa, sc⟩ := p
  obtain ⟨y0, y1, y2, y3, y4, y5, y6, y7⟩ := hpj
  have hiI : (i : Int) < (ps.length : Int) := by omega
  have hi0 : (0 : Int) ≤ (i : Int) := by omega
  have HI : Hid (i < ps.length) := hi
  generalize ps.length = N at *
  unfold stL pjV cfV at *
  dsimp only [Pj.jb] at y0 y1 y2 y3 y4 y5 y6 y7 hJP HTM ⊢
  have HJP : Hid (jobB c now na (aheadOf (ps.map Pj.v) i) ⟨ac, nd, lm, sb, st, sr, en, xs⟩ = ((headA c na ⟨ac, nd, lm, sb, st, sr, en, xs⟩ && headC c now (aheadOf (ps.map Pj.v) i) ⟨ac, nd, lm, sb, st, sr, en, xs⟩) && timesB c now ⟨ac, nd, lm, sb, st, sr, en, xs⟩)) := hJP
  clear hJP hsets hcl hg hsl hpm hrow hp hi hm r hck
  obtain ⟨W, hW⟩ : ∃ W, w.alloc (.cells #[.int .i64 c.nodes, .int .i64 c.queue, .int .i64 c.limit, .int .i64 c.age, .int .i64 c.fair, .int .i64 c.size, .int .i64 c.period, .int .i64 c.half, .int .i64 now, .slice ao na ca, .slice (some ⟨g, o, none⟩) N cj, .int .i64 hd] 27) = W := ⟨_, rfl⟩
  have b1 : Below w.heap.size w W := by rw [← hW]; exact (Below.refl _ w).alloc (Nat.le_refl _) _
  have k0 : W.cell? ⟨w.heap.size, 0, none⟩ = some (.int .i64 c.nodes) := by rw [← hW]; exact cells_at (heap_alloc_new w _) rfl
  have k1 : W.cell? ⟨w.heap.size, 1, none⟩ = some (.int .i64 c.queue) := by rw [← hW]; exact cells_at (heap_alloc_new w _) rfl
  have k2 : W.cell? ⟨w.heap.size, 2, none⟩ = some (.int .i64 c.limit) := by rw [← hW]; exact cells_at (heap_alloc_new w _) rfl
  have k3 : W.cell? ⟨w.heap.size, 3, none⟩ = some (.int .i64 c.age) := by rw [← hW]; exact cells_at (heap_alloc_new w _) rfl
  have k4 : W.cell? ⟨w.heap.size, 4, none⟩ = some (.int .i64 c.fair) := by rw [← hW]; exact cells_at (heap_alloc_new w _) rfl
  have k5 : W.cell? ⟨w.heap.size, 5, none⟩ = some (.int .i64 c.size) := by rw [← hW]; exact cells_at (heap_alloc_new w _) rfl
  have k6 : W.cell? ⟨w.heap.size, 6, none⟩ = some (.int .i64 c.period) := by rw [← hW]; exact cells_at (heap_alloc_new w _) rfl
  have k7 : W.cell? ⟨w.heap.size, 7, none⟩ = some (.int .i64 c.half) := by rw [← hW]; exact cells_at (heap_alloc_new w _) rfl
  have k8 : W.cell? ⟨w.heap.size, 8, none⟩ = some (.int .i64 now) := by rw [← hW]; exact cells_at (heap_alloc_new w _) rfl
  have k9 : W.cell? ⟨w.heap.size, 9, none⟩ = some (.slice ao na ca) := by rw [← hW]; exact cells_at (heap_alloc_new w _) rfl
  have k10 : W.cell? ⟨w.heap.size, 10, none⟩ = some (.slice (some ⟨g, o, none⟩) N cj) := by rw [← hW]; exact cells_at (heap_alloc_new w _) rfl
  have k11 : W.cell? ⟨w.heap.size, 11, none⟩ = some (.int .i64 hd) := by rw [← hW]; exact cells_at (heap_alloc_new w _) rfl
  have hzW : W.heap.size = w.heap.size + 1 := by rw [← hW]; simp
  have x0 := cellB b1 y0
  have x1 := cellB b1 y1
  have x2 := cellB b1 y2
  have x3 := cellB b1 y3
  have x4 := cellB b1 y4
  have x5 := cellB b1 y5
  have x6 := cellB b1 y6
  have x7 := cellB b1 y7
  clear y0 y1 y2 y3 y4 y5 y6 y7
  obtain ⟨W2, hW2⟩ : ∃ W2, W.alloc (.cells #[.int .i64 ac, .int .i64 nd, .int .i64 lm, .int .i64 sb, .int .i64 st, .int .i64 sr, .int .i64 en, .slice sa xs.length sc] 36) = W2 := ⟨_, rfl⟩
  have b2 : Below W.heap.size W W2 := by rw [← hW2]; exact (Below.refl _ W).alloc (Nat.le_refl _) _
  have m0 := cellB b2 k0
  have m1 := cellB b2 k1
  have m2 := cellB b2 k2
  have m3 := cellB b2 k3
  have m4 := cellB b2 k4
  have m5 := cellB b2 k5
  have m6 := cellB b2 k6
  have m7 := cellB b2 k7
  have m8 := cellB b2 k8
  have m9 := cellB b2 k9
  have m10 := cellB b2 k10
  have m11 := cellB b2 k11
  have n0 : W2.cell? ⟨W.heap.size, 0, none⟩ = some (.int .i64 ac) := by rw [← hW2]; exact cells_at (heap_alloc_new W _) rfl
  have n1 : W2.cell? ⟨W.heap.size, 1, none⟩ = some (.int .i64 nd) := by rw [← hW2]; exact cells_at (heap_alloc_new W _) rfl
  have n2 : W2.cell? ⟨W.heap.size, 2, none⟩ = some (.int .i64 lm) := by rw [← hW2]; exact cells_at (heap_alloc_new W _) rfl
  have n3 : W2.cell? ⟨W.heap.size, 3, none⟩ = some (.int .i64 sb) := by rw [← hW2]; exact cells_at (heap_alloc_new W _) rfl
  have n4 : W2.cell? ⟨W.heap.size, 4, none⟩ = some (.int .i64 st) := by rw [← hW2]; exact cells_at (heap_alloc_new W _) rfl
  have n5 : W2.cell? ⟨W.heap.size, 5, none⟩ = some (.int .i64 sr) := by rw [← hW2]; exact cells_at (heap_alloc_new W _) rfl
  have n6 : W2.cell? ⟨W.heap.size, 6, none⟩ = some (.int .i64 en) := by rw [← hW2]; exact cells_at (heap_alloc_new W _) rfl
  have n7 : W2.cell? ⟨W.heap.size, 7, none⟩ = some (.slice sa xs.length sc) := by rw [← hW2]; exact cells_at (heap_alloc_new W _) rfl
  have HB2 : Hid (Below w.heap.size w W2) := b1.trans (b2.mono b1.size)
  clear b1 b2 hzW
  go_enter Tryz.func22, Tryz.ntmps22
  go_upto_region 2 with fail
  clear hW hW2 k0 k1 k2 k3 k4 k5 k6 k7 k8 k9 k10 k11 x0 x1 x2 x3 x4 x5 x6 x7
  by_cases q0 : ¬ (1 ≤ ac)
  · have HT : Hid (headA c na ⟨ac, nd, lm, sb, st, sr, en, xs⟩ = false) := (show headA c na ⟨ac, nd, lm, sb, st, sr, en, xs⟩ = false by simp [headA, q0])
    go_wp2
    go_ret
    exact ⟨by rw [HJP.out, HT.out]; rfl, HB2.out⟩
  replace q0 := Decidable.not_not.1 q0
  by_cases q1 : ¬ (ac < (na : Int))
  · have HT : Hid (headA c na ⟨ac, nd, lm, sb, st, sr, en, xs⟩ = false) := (show headA c na ⟨ac, nd, lm, sb, st, sr, en, xs⟩ = false by simp [headA, q0, q1])
    go_wp2
    go_ret
    exact ⟨by rw [HJP.out, HT.out]; rfl, HB2.out⟩
  replace q1 := Decidable.not_not.1 q1
  by_cases q2 : ¬ (1 ≤ nd)
  · have HT : Hid (headA c na ⟨ac, nd, lm, sb, st, sr, en, xs⟩ = false) := (show headA c na ⟨ac, nd, lm, sb, st, sr, en, xs⟩ = false by simp [headA, q0, q1, q2])
    go_wp2
    go_ret
    exact ⟨by rw [HJP.out, HT.out]; rfl, HB2.out⟩
  replace q2 := Decidable.not_not.1 q2
  by_cases q3 : ¬ (nd ≤ c.nodes)
  · have HT : Hid (headA c na ⟨ac, nd, lm, sb, st, sr, en, xs⟩ = false) := (show headA c na ⟨ac, nd, lm, sb, st, sr, en, xs⟩ = false by simp [headA, q0, q1, q2, q3])
    go_wp2
    go_ret
    exact ⟨by rw [HJP.out, HT.out]; rfl, HB2.out⟩
  replace q3 := Decidable.not_not.1 q3
  by_cases q4 : ¬ (1 ≤ lm)
  · have HT : Hid (headA c na ⟨ac, nd, lm, sb, st, sr, en, xs⟩ = false) := (show headA c na ⟨ac, nd, lm, sb, st, sr, en, xs⟩ = false by simp [headA, q0, q1, q2, q3, q4])
    go_wp2
    go_ret
    exact ⟨by rw [HJP.out, HT.out]; rfl, HB2.out⟩
  replace q4 := Decidable.not_not.1 q4
  by_cases q5 : ¬ (lm ≤ c.limit)
  · have HT : Hid (headA c na ⟨ac, nd, lm, sb, st, sr, en, xs⟩ = false) := (show headA c na ⟨ac, nd, lm, sb, st, sr, en, xs⟩ = false by simp [headA, q0, q1, q2, q3, q4, q5])
    go_wp2
    go_ret
    exact ⟨by rw [HJP.out, HT.out]; rfl, HB2.out⟩
  replace q5 := Decidable.not_not.1 q5
  have HA1 : Hid (headA c na ⟨ac, nd, lm, sb, st, sr, en, xs⟩ = true) := (show headA c na ⟨ac, nd, lm, sb, st, sr, en, xs⟩ = true by simp [headA, q0, q1, q2, q3, q4, q5])
  go_upto_region 4 with fail
  obtain ⟨B, hB⟩ : ∃ B, boundZ c = B := ⟨_, rfl⟩
  have HBd : Hid (boundZ c = B) := hB
  rw [hB] at cB hbb
  clear hB
  obtain ⟨P, hP⟩ : ∃ P, aheadOf (ps.map Pj.v) i = P := ⟨_, rfl⟩
  have HP : Hid (aheadOf (ps.map Pj.v) i = P) := hP
  rw [hP] at HJP
  clear hP
  obtain ⟨hc, hhc⟩ : ∃ hc, headC c now P ⟨ac, nd, lm, sb, st, sr, en, xs⟩ = hc := ⟨_, rfl⟩
  have HHC : Hid (headC c now P ⟨ac, nd, lm, sb, st, sr, en, xs⟩ = hc) := hhc
  rw [hhc] at HJP
  clear hhc
  go_cut [82] (fun v x => v = .bool (!hc) ∧ Below W2.heap.size W2 x)
  case first =>
    by_cases z1 : sb < 0
    · have e1 : decide (sb < 0) = true := decide_eq_true z1
      refine wp_region_last (S := (fun x' : World => Below W2.heap.size W2 x')) (L := 99) (by kernel_rfl) ?_
      have HSW0 : (fun x' : World => Below W2.heap.size W2 x') (W2.drew) := drew_below W2
      refine last_takeF (i := 0) (v := ?v0k1) rfl (by kernel_rfl) (by kernel_rfl) (by kernel_rfl) (by kernel_rfl) rfl (fun _ _ _ h => h) (by rfl) HSW0 ?hy0k1 ?rest0k1
      case hy0k1 =>
        intro xx hSx
        have f0 := cellB hSx m0
        have f1 := cellB hSx m1
        have f2 := cellB hSx m2
        have f3 := cellB hSx m3
        have f4 := cellB hSx m4
        have f5 := cellB hSx m5
        have f6 := cellB hSx m6
        have f7 := cellB hSx m7
        have f8 := cellB hSx m8
        have f10 := cellB hSx m10
        have f3j := cellB hSx n3
        go_simp
        try (with_reducible rfl)
      simp only [Act.put, List.setIfInBounds_toArray, List.set_cons_zero, List.set_cons_succ]
      refine last_takeF (i := 1) (v := ?v1k2) rfl (by kernel_rfl) (by kernel_rfl) (by kernel_rfl) (by kernel_rfl) rfl (fun _ _ _ h => h) (by rfl) HSW0 ?hy1k2 ?rest1k2
      case hy1k2 =>
        intro xx hSx
        have f0 := cellB hSx m0
        have f1 := cellB hSx m1
        have f2 := cellB hSx m2
        have f3 := cellB hSx m3
        have f4 := cellB hSx m4
        have f5 := cellB hSx m5
        have f6 := cellB hSx m6
        have f7 := cellB hSx m7
        have f8 := cellB hSx m8
        have f10 := cellB hSx m10
        have f3j := cellB hSx n3
        go_simp
        try (with_reducible rfl)
      simp only [Act.put, List.setIfInBounds_toArray, List.set_cons_zero, List.set_cons_succ]
      refine last_takeF (i := 2) (v := ?v2k3) rfl (by kernel_rfl) (by kernel_rfl) (by kernel_rfl) (by kernel_rfl) rfl (fun _ _ _ h => h) (by rfl) HSW0 ?hy2k3 ?rest2k3
      case hy2k3 =>
        intro xx hSx
        have f0 := cellB hSx m0
        have f1 := cellB hSx m1
        have f2 := cellB hSx m2
        have f3 := cellB hSx m3
        have f4 := cellB hSx m4
        have f5 := cellB hSx m5
        have f6 := cellB hSx m6
        have f7 := cellB hSx m7
        have f8 := cellB hSx m8
        have f10 := cellB hSx m10
        have f3j := cellB hSx n3
        go_simp
        try (with_reducible rfl)
      simp only [Act.put, List.setIfInBounds_toArray, List.set_cons_zero, List.set_cons_succ]
      try rw [e1]
      refine last_takeF (i := 3) (v := ?v3k4) rfl (by kernel_rfl) (by kernel_rfl) (by kernel_rfl) (by kernel_rfl) rfl (fun _ _ _ h => h) (by rfl) HSW0 ?hy3k4 ?rest3k4
      case hy3k4 =>
        intro xx hSx
        have f0 := cellB hSx m0
        have f1 := cellB hSx m1
        have f2 := cellB hSx m2
        have f3 := cellB hSx m3
        have f4 := cellB hSx m4
        have f5 := cellB hSx m5
        have f6 := cellB hSx m6
        have f7 := cellB hSx m7
        have f8 := cellB hSx m8
        have f10 := cellB hSx m10
        have f3j := cellB hSx n3
        go_simp
        try (with_reducible rfl)
      simp only [Act.put, List.setIfInBounds_toArray, List.set_cons_zero, List.set_cons_succ]
      refine last_skipF (i := 4) rfl (by kernel_rfl) (by kernel_rfl) (by kernel_rfl) (by kernel_rfl) rfl (fun _ _ _ h => h) (by rfl) HSW0 ?_
      simp only [Act.put, List.setIfInBounds_toArray, List.set_cons_zero, List.set_cons_succ]
      refine last_skipF (i := 5) rfl (by kernel_rfl) (by kernel_rfl) (by kernel_rfl) (by kernel_rfl) rfl (fun _ _ _ h => h) (by rfl) HSW0 ?_
      simp only [Act.put, List.setIfInBounds_toArray, List.set_cons_zero, List.set_cons_succ]
      refine last_skipF (i := 6) rfl (by kernel_rfl) (by kernel_rfl) (by kernel_rfl) (by kernel_rfl) rfl (fun _ _ _ h => h) (by rfl) HSW0 ?_
      simp only [Act.put, List.setIfInBounds_toArray, List.set_cons_zero, List.set_cons_succ]
      refine last_skipF (i := 7) rfl (by kernel_rfl) (by kernel_rfl) (by kernel_rfl) (by kernel_rfl) rfl (fun _ _ _ h => h) (by rfl) HSW0 ?_
      simp only [Act.put, List.setIfInBounds_toArray, List.set_cons_zero, List.set_cons_succ]
      refine last_skipF (i := 8) rfl (by kernel_rfl) (by kernel_rfl) (by kernel_rfl) (by kernel_rfl) rfl (fun _ _ _ h => h) (by rfl) HSW0 ?_
      simp only [Act.put, List.setIfInBounds_toArray, List.set_cons_zero, List.set_cons_succ]
      refine last_takeF (i := 9) (v := ?v9k10) rfl (by kernel_rfl) (by kernel_rfl) (by kernel_rfl) (by kernel_rfl) rfl (fun _ _ _ h => h) (by rfl) HSW0 ?hy9k10 ?rest9k10
      case hy9k10 =>
        intro xx hSx
        have f0 := cellB hSx m0
        have f1 := cellB hSx m1
        have f2 := cellB hSx m2
        have f3 := cellB hSx m3
        have f4 := cellB hSx m4
        have f5 := cellB hSx m5
        have f6 := cellB hSx m6
        have f7 := cellB hSx m7
        have f8 := cellB hSx m8
        have f10 := cellB hSx m10
        have f3j := cellB hSx n3
        go_simp
        try (with_reducible rfl)
      simp only [Act.put, List.setIfInBounds_toArray, List.set_cons_zero, List.set_cons_succ]
      refine last_takeF (i := 10) (v := ?v10k11) rfl (by kernel_rfl) (by kernel_rfl) (by kernel_rfl) (by kernel_rfl) rfl (fun _ _ _ h => h) (by rfl) HSW0 ?hy10k11 ?rest10k11
      case hy10k11 =>
        intro xx hSx
        have f0 := cellB hSx m0
        have f1 := cellB hSx m1
        have f2 := cellB hSx m2
        have f3 := cellB hSx m3
        have f4 := cellB hSx m4
        have f5 := cellB hSx m5
        have f6 := cellB hSx m6
        have f7 := cellB hSx m7
        have f8 := cellB hSx m8
        have f10 := cellB hSx m10
        have f3j := cellB hSx n3
        go_simp
        try (with_reducible rfl)
      simp only [Act.put, List.setIfInBounds_toArray, List.set_cons_zero, List.set_cons_succ]
      refine last_skipF (i := 11) rfl (by kernel_rfl) (by kernel_rfl) (by kernel_rfl) (by kernel_rfl) rfl (fun _ _ _ h => h) (by rfl) HSW0 ?_
      simp only [Act.put, List.setIfInBounds_toArray, List.set_cons_zero, List.set_cons_succ]
      refine last_skipF (i := 12) rfl (by kernel_rfl) (by kernel_rfl) (by kernel_rfl) (by kernel_rfl) rfl (fun _ _ _ h => h) (by rfl) HSW0 ?_
      simp only [Act.put, List.setIfInBounds_toArray, List.set_cons_zero, List.set_cons_succ]
      refine last_skipF (i := 13) rfl (by kernel_rfl) (by kernel_rfl) (by kernel_rfl) (by kernel_rfl) rfl (fun _ _ _ h => h) (by rfl) HSW0 ?_
      simp only [Act.put, List.setIfInBounds_toArray, List.set_cons_zero, List.set_cons_succ]
      refine last_skipF (i := 14) rfl (by kernel_rfl) (by kernel_rfl) (by kernel_rfl) (by kernel_rfl) rfl (fun _ _ _ h => h) (by rfl) HSW0 ?_
      simp only [Act.put, List.setIfInBounds_toArray, List.set_cons_zero, List.set_cons_succ]
      refine last_skipF (i := 15) rfl (by kernel_rfl) (by kernel_rfl) (by kernel_rfl) (by kernel_rfl) rfl (fun _ _ _ h => h) (by rfl) HSW0 ?_
      simp only [Act.put, List.setIfInBounds_toArray, List.set_cons_zero, List.set_cons_succ]
      refine last_skipF (i := 16) rfl (by kernel_rfl) (by kernel_rfl) (by kernel_rfl) (by kernel_rfl) rfl (fun _ _ _ h => h) (by rfl) HSW0 ?_
      simp only [Act.put, List.setIfInBounds_toArray, List.set_cons_zero, List.set_cons_succ]
      refine last_skipF (i := 17) rfl (by kernel_rfl) (by kernel_rfl) (by kernel_rfl) (by kernel_rfl) rfl (fun _ _ _ h => h) (by rfl) HSW0 ?_
      simp only [Act.put, List.setIfInBounds_toArray, List.set_cons_zero, List.set_cons_succ]
      refine last_takeF (i := 18) (v := ?v18k19) rfl (by kernel_rfl) (by kernel_rfl) (by kernel_rfl) (by kernel_rfl) rfl (fun _ _ _ h => h) (by rfl) HSW0 ?hy18k19 ?rest18k19
      case hy18k19 =>
        intro xx hSx
        have f0 := cellB hSx m0
        have f1 := cellB hSx m1
        have f2 := cellB hSx m2
        have f3 := cellB hSx m3
        have f4 := cellB hSx m4
        have f5 := cellB hSx m5
        have f6 := cellB hSx m6
        have f7 := cellB hSx m7
        have f8 := cellB hSx m8
        have f10 := cellB hSx m10
        have f3j := cellB hSx n3
        go_simp
        try (with_reducible rfl)
      simp only [Act.put, List.setIfInBounds_toArray, List.set_cons_zero, List.set_cons_succ]
      refine last_takeF (i := 19) (v := ?v19k20) rfl (by kernel_rfl) (by kernel_rfl) (by kernel_rfl) (by kernel_rfl) rfl (fun _ _ _ h => h) (by rfl) HSW0 ?hy19k20 ?rest19k20
      case hy19k20 =>
        intro xx hSx
        have f0 := cellB hSx m0
        have f1 := cellB hSx m1
        have f2 := cellB hSx m2
        have f3 := cellB hSx m3
        have f4 := cellB hSx m4
        have f5 := cellB hSx m5
        have f6 := cellB hSx m6
        have f7 := cellB hSx m7
        have f8 := cellB hSx m8
        have f10 := cellB hSx m10
        have f3j := cellB hSx n3
        go_simp
        try (with_reducible rfl)
      simp only [Act.put, List.setIfInBounds_toArray, List.set_cons_zero, List.set_cons_succ]
      refine last_skipF (i := 20) rfl (by kernel_rfl) (by kernel_rfl) (by kernel_rfl) (by kernel_rfl) rfl (fun _ _ _ h => h) (by rfl) HSW0 ?_
      simp only [Act.put, List.setIfInBounds_toArray, List.set_cons_zero, List.set_cons_succ]
      refine last_skipF (i := 21) rfl (by kernel_rfl) (by kernel_rfl) (by kernel_rfl) (by kernel_rfl) rfl (fun _ _ _ h => h) (by rfl) HSW0 ?_
      simp only [Act.put, List.setIfInBounds_toArray, List.set_cons_zero, List.set_cons_succ]
      refine last_skipF (i := 22) rfl (by kernel_rfl) (by kernel_rfl) (by kernel_rfl) (by kernel_rfl) rfl (fun _ _ _ h => h) (by rfl) HSW0 ?_
      simp only [Act.put, List.setIfInBounds_toArray, List.set_cons_zero, List.set_cons_succ]
      refine last_skipF (i := 23) rfl (by kernel_rfl) (by kernel_rfl) (by kernel_rfl) (by kernel_rfl) rfl (fun _ _ _ h => h) (by rfl) HSW0 ?_
      simp only [Act.put, List.setIfInBounds_toArray, List.set_cons_zero, List.set_cons_succ]
      refine last_skipF (i := 24) rfl (by kernel_rfl) (by kernel_rfl) (by kernel_rfl) (by kernel_rfl) rfl (fun _ _ _ h => h) (by rfl) HSW0 ?_
      simp only [Act.put, List.setIfInBounds_toArray, List.set_cons_zero, List.set_cons_succ]
      refine last_skipF (i := 25) rfl (by kernel_rfl) (by kernel_rfl) (by kernel_rfl) (by kernel_rfl) rfl (fun _ _ _ h => h) (by rfl) HSW0 ?_
      simp only [Act.put, List.setIfInBounds_toArray, List.set_cons_zero, List.set_cons_succ]
      refine last_skipF (i := 26) rfl (by kernel_rfl) (by kernel_rfl) (by kernel_rfl) (by kernel_rfl) rfl (fun _ _ _ h => h) (by rfl) HSW0 ?_
      simp only [Act.put, List.setIfInBounds_toArray, List.set_cons_zero, List.set_cons_succ]
      refine last_skipF (i := 27) rfl (by kernel_rfl) (by kernel_rfl) (by kernel_rfl) (by kernel_rfl) rfl (fun _ _ _ h => h) (by rfl) HSW0 ?_
      simp only [Act.put, List.setIfInBounds_toArray, List.set_cons_zero, List.set_cons_succ]
      refine last_skipF (i := 28) rfl (by kernel_rfl) (by kernel_rfl) (by kernel_rfl) (by kernel_rfl) rfl (fun _ _ _ h => h) (by rfl) HSW0 ?_
      simp only [Act.put, List.setIfInBounds_toArray, List.set_cons_zero, List.set_cons_succ]
      refine last_skipF (i := 29) rfl (by kernel_rfl) (by kernel_rfl) (by kernel_rfl) (by kernel_rfl) rfl (fun _ _ _ h => h) (by rfl) HSW0 ?_
      simp only [Act.put, List.setIfInBounds_toArray, List.set_cons_zero, List.set_cons_succ]
      refine last_skipF (i := 30) rfl (by kernel_rfl) (by kernel_rfl) (by kernel_rfl) (by kernel_rfl) rfl (fun _ _ _ h => h) (by rfl) HSW0 ?_
      simp only [Act.put, List.setIfInBounds_toArray, List.set_cons_zero, List.set_cons_succ]
      refine last_skipF (i := 31) rfl (by kernel_rfl) (by kernel_rfl) (by kernel_rfl) (by kernel_rfl) rfl (fun _ _ _ h => h) (by rfl) HSW0 ?_
      simp only [Act.put, List.setIfInBounds_toArray, List.set_cons_zero, List.set_cons_succ]
      refine last_skipF (i := 32) rfl (by kernel_rfl) (by kernel_rfl) (by kernel_rfl) (by kernel_rfl) rfl (fun _ _ _ h => h) (by rfl) HSW0 ?_
      simp only [Act.put, List.setIfInBounds_toArray, List.set_cons_zero, List.set_cons_succ]
      refine last_skipF (i := 33) rfl (by kernel_rfl) (by kernel_rfl) (by kernel_rfl) (by kernel_rfl) rfl (fun _ _ _ h => h) (by rfl) HSW0 ?_
      simp only [Act.put, List.setIfInBounds_toArray, List.set_cons_zero, List.set_cons_succ]
      refine last_takeF (i := 34) (v := ?v34k35) rfl (by kernel_rfl) (by kernel_rfl) (by kernel_rfl) (by kernel_rfl) rfl (fun _ _ _ h => h) (by rfl) HSW0 ?hy34k35 ?rest34k35
      case hy34k35 =>
        intro xx hSx
        have f0 := cellB hSx m0
        have f1 := cellB hSx m1
        have f2 := cellB hSx m2
        have f3 := cellB hSx m3
        have f4 := cellB hSx m4
        have f5 := cellB hSx m5
        have f6 := cellB hSx m6
        have f7 := cellB hSx m7
        have f8 := cellB hSx m8
        have f10 := cellB hSx m10
        have f3j := cellB hSx n3
        go_simp
        try (with_reducible rfl)
      simp only [Act.put, List.setIfInBounds_toArray, List.set_cons_zero, List.set_cons_succ]
      refine last_done (by kernel_rfl) ?_ _
      have HSX : Hid (Below W2.heap.size W2 W2.drew) := HSW0
      clear HSW0
      go_wp2
      go_meet
      exact ⟨by rw [← HHC.out]; (show (Value.bool true = Value.bool (!headC c now P ⟨ac, nd, lm, sb, st, sr, en, xs⟩)); rw [show headC c now P ⟨ac, nd, lm, sb, st, sr, en, xs⟩ = false by unfold headC; rw [decide_eq_false (show ¬ (0 : Int) ≤ sb by omega)]; rfl]; rfl), HSX.out⟩
    have e1 : decide (sb < 0) = false := decide_eq_false z1
    by_cases z2 : now < sb
    · have e2 : decide (now < sb) = true := decide_eq_true z2
      refine wp_region_last (S := (fun x' : World => Below W2.heap.size W2 x')) (L := 99) (by kernel_rfl) ?_
      have HSW0 : (fun x' : World => Below W2.heap.size W2 x') (W2.drew) := drew_below W2
      refine last_takeF (i := 0) (v := ?v0k36) rfl (by kernel_rfl) (by kernel_rfl) (by kernel_rfl) (by kernel_rfl) rfl (fun _ _ _ h => h) (by rfl) HSW0 ?hy0k36 ?rest0k36
      case hy0k36 =>
        intro xx hSx
        have f0 := cellB hSx m0
        have f1 := cellB hSx m1
        have f2 := cellB hSx m2
        have f3 := cellB hSx m3
        have f4 := cellB hSx m4
        have f5 := cellB hSx m5
        have f6 := cellB hSx m6
        have f7 := cellB hSx m7
        have f8 := cellB hSx m8
        have f10 := cellB hSx m10
        have f3j := cellB hSx n3
        go_simp
        try (with_reducible rfl)
      simp only [Act.put, List.setIfInBounds_toArray, List.set_cons_zero, List.set_cons_succ]
      refine last_takeF (i := 1) (v := ?v1k37) rfl (by kernel_rfl) (by kernel_rfl) (by kernel_rfl) (by kernel_rfl) rfl (fun _ _ _ h => h) (by rfl) HSW0 ?hy1k37 ?rest1k37
      case hy1k37 =>
        intro xx hSx
        have f0 := cellB hSx m0
        have f1 := cellB hSx m1
        have f2 := cellB hSx m2
        have f3 := cellB hSx m3
        have f4 := cellB hSx m4
        have f5 := cellB hSx m5
        have f6 := cellB hSx m6
        have f7 := cellB hSx m7
        have f8 := cellB hSx m8
        have f10 := cellB hSx m10
        have f3j := cellB hSx n3
        go_simp
        try (with_reducible rfl)
      simp only [Act.put, List.setIfInBounds_toArray, List.set_cons_zero, List.set_cons_succ]
      refine last_takeF (i := 2) (v := ?v2k38) rfl (by kernel_rfl) (by kernel_rfl) (by kernel_rfl) (by kernel_rfl) rfl (fun _ _ _ h => h) (by rfl) HSW0 ?hy2k38 ?rest2k38
      case hy2k38 =>
        intro xx hSx
        have f0 := cellB hSx m0
        have f1 := cellB hSx m1
        have f2 := cellB hSx m2
        have f3 := cellB hSx m3
        have f4 := cellB hSx m4
        have f5 := cellB hSx m5
        have f6 := cellB hSx m6
        have f7 := cellB hSx m7
        have f8 := cellB hSx m8
        have f10 := cellB hSx m10
        have f3j := cellB hSx n3
        go_simp
        try (with_reducible rfl)
      simp only [Act.put, List.setIfInBounds_toArray, List.set_cons_zero, List.set_cons_succ]
      try rw [e1]
      refine last_takeF (i := 3) (v := ?v3k39) rfl (by kernel_rfl) (by kernel_rfl) (by kernel_rfl) (by kernel_rfl) rfl (fun _ _ _ h => h) (by rfl) HSW0 ?hy3k39 ?rest3k39
      case hy3k39 =>
        intro xx hSx
        have f0 := cellB hSx m0
        have f1 := cellB hSx m1
        have f2 := cellB hSx m2
        have f3 := cellB hSx m3
        have f4 := cellB hSx m4
        have f5 := cellB hSx m5
        have f6 := cellB hSx m6
        have f7 := cellB hSx m7
        have f8 := cellB hSx m8
        have f10 := cellB hSx m10
        have f3j := cellB hSx n3
        go_simp
        try (with_reducible rfl)
      simp only [Act.put, List.setIfInBounds_toArray, List.set_cons_zero, List.set_cons_succ]
      refine last_takeF (i := 4) (v := ?v4k40) rfl (by kernel_rfl) (by kernel_rfl) (by kernel_rfl) (by kernel_rfl) rfl (fun _ _ _ h => h) (by rfl) HSW0 ?hy4k40 ?rest4k40
      case hy4k40 =>
        intro xx hSx
        have f0 := cellB hSx m0
        have f1 := cellB hSx m1
        have f2 := cellB hSx m2
        have f3 := cellB hSx m3
        have f4 := cellB hSx m4
        have f5 := cellB hSx m5
        have f6 := cellB hSx m6
        have f7 := cellB hSx m7
        have f8 := cellB hSx m8
        have f10 := cellB hSx m10
        have f3j := cellB hSx n3
        go_simp
        try (with_reducible rfl)
      simp only [Act.put, List.setIfInBounds_toArray, List.set_cons_zero, List.set_cons_succ]
      refine last_takeF (i := 5) (v := ?v5k41) rfl (by kernel_rfl) (by kernel_rfl) (by kernel_rfl) (by kernel_rfl) rfl (fun _ _ _ h => h) (by rfl) HSW0 ?hy5k41 ?rest5k41
      case hy5k41 =>
        intro xx hSx
        have f0 := cellB hSx m0
        have f1 := cellB hSx m1
        have f2 := cellB hSx m2
        have f3 := cellB hSx m3
        have f4 := cellB hSx m4
        have f5 := cellB hSx m5
        have f6 := cellB hSx m6
        have f7 := cellB hSx m7
        have f8 := cellB hSx m8
        have f10 := cellB hSx m10
        have f3j := cellB hSx n3
        go_simp
        try (with_reducible rfl)
      simp only [Act.put, List.setIfInBounds_toArray, List.set_cons_zero, List.set_cons_succ]
      refine last_takeF (i := 6) (v := ?v6k42) rfl (by kernel_rfl) (by kernel_rfl) (by kernel_rfl) (by kernel_rfl) rfl (fun _ _ _ h => h) (by rfl) HSW0 ?hy6k42 ?rest6k42
      case hy6k42 =>
        intro xx hSx
        have f0 := cellB hSx m0
        have f1 := cellB hSx m1
        have f2 := cellB hSx m2
        have f3 := cellB hSx m3
        have f4 := cellB hSx m4
        have f5 := cellB hSx m5
        have f6 := cellB hSx m6
        have f7 := cellB hSx m7
        have f8 := cellB hSx m8
        have f10 := cellB hSx m10
        have f3j := cellB hSx n3
        go_simp
        try (with_reducible rfl)
      simp only [Act.put, List.setIfInBounds_toArray, List.set_cons_zero, List.set_cons_succ]
      refine last_takeF (i := 7) (v := ?v7k43) rfl (by kernel_rfl) (by kernel_rfl) (by kernel_rfl) (by kernel_rfl) rfl (fun _ _ _ h => h) (by rfl) HSW0 ?hy7k43 ?rest7k43
      case hy7k43 =>
        intro xx hSx
        have f0 := cellB hSx m0
        have f1 := cellB hSx m1
        have f2 := cellB hSx m2
        have f3 := cellB hSx m3
        have f4 := cellB hSx m4
        have f5 := cellB hSx m5
        have f6 := cellB hSx m6
        have f7 := cellB hSx m7
        have f8 := cellB hSx m8
        have f10 := cellB hSx m10
        have f3j := cellB hSx n3
        go_simp
        try (with_reducible rfl)
      simp only [Act.put, List.setIfInBounds_toArray, List.set_cons_zero, List.set_cons_succ]
      refine last_takeF (i := 8) (v := ?v8k44) rfl (by kernel_rfl) (by kernel_rfl) (by kernel_rfl) (by kernel_rfl) rfl (fun _ _ _ h => h) (by rfl) HSW0 ?hy8k44 ?rest8k44
      case hy8k44 =>
        intro xx hSx
        have f0 := cellB hSx m0
        have f1 := cellB hSx m1
        have f2 := cellB hSx m2
        have f3 := cellB hSx m3
        have f4 := cellB hSx m4
        have f5 := cellB hSx m5
        have f6 := cellB hSx m6
        have f7 := cellB hSx m7
        have f8 := cellB hSx m8
        have f10 := cellB hSx m10
        have f3j := cellB hSx n3
        go_simp
        try (with_reducible rfl)
      simp only [Act.put, List.setIfInBounds_toArray, List.set_cons_zero, List.set_cons_succ]
      try rw [e2]
      refine last_takeF (i := 9) (v := ?v9k45) rfl (by kernel_rfl) (by kernel_rfl) (by kernel_rfl) (by kernel_rfl) rfl (fun _ _ _ h => h) (by rfl) HSW0 ?hy9k45 ?rest9k45
      case hy9k45 =>
        intro xx hSx
        have f0 := cellB hSx m0
        have f1 := cellB hSx m1
        have f2 := cellB hSx m2
        have f3 := cellB hSx m3
        have f4 := cellB hSx m4
        have f5 := cellB hSx m5
        have f6 := cellB hSx m6
        have f7 := cellB hSx m7
        have f8 := cellB hSx m8
        have f10 := cellB hSx m10
        have f3j := cellB hSx n3
        go_simp
        try (with_reducible rfl)
      simp only [Act.put, List.setIfInBounds_toArray, List.set_cons_zero, List.set_cons_succ]
      refine last_takeF (i := 10) (v := ?v10k46) rfl (by kernel_rfl) (by kernel_rfl) (by kernel_rfl) (by kernel_rfl) rfl (fun _ _ _ h => h) (by rfl) HSW0 ?hy10k46 ?rest10k46
      case hy10k46 =>
        intro xx hSx
        have f0 := cellB hSx m0
        have f1 := cellB hSx m1
        have f2 := cellB hSx m2
        have f3 := cellB hSx m3
        have f4 := cellB hSx m4
        have f5 := cellB hSx m5
        have f6 := cellB hSx m6
        have f7 := cellB hSx m7
        have f8 := cellB hSx m8
        have f10 := cellB hSx m10
        have f3j := cellB hSx n3
        go_simp
        try (with_reducible rfl)
      simp only [Act.put, List.setIfInBounds_toArray, List.set_cons_zero, List.set_cons_succ]
      refine last_skipF (i := 11) rfl (by kernel_rfl) (by kernel_rfl) (by kernel_rfl) (by kernel_rfl) rfl (fun _ _ _ h => h) (by rfl) HSW0 ?_
      simp only [Act.put, List.setIfInBounds_toArray, List.set_cons_zero, List.set_cons_succ]
      refine last_skipF (i := 12) rfl (by kernel_rfl) (by kernel_rfl) (by kernel_rfl) (by kernel_rfl) rfl (fun _ _ _ h => h) (by rfl) HSW0 ?_
      simp only [Act.put, List.setIfInBounds_toArray, List.set_cons_zero, List.set_cons_succ]
      refine last_skipF (i := 13) rfl (by kernel_rfl) (by kernel_rfl) (by kernel_rfl) (by kernel_rfl) rfl (fun _ _ _ h => h) (by rfl) HSW0 ?_
      simp only [Act.put, List.setIfInBounds_toArray, List.set_cons_zero, List.set_cons_succ]
      refine last_skipF (i := 14) rfl (by kernel_rfl) (by kernel_rfl) (by kernel_rfl) (by kernel_rfl) rfl (fun _ _ _ h => h) (by rfl) HSW0 ?_
      simp only [Act.put, List.setIfInBounds_toArray, List.set_cons_zero, List.set_cons_succ]
      refine last_skipF (i := 15) rfl (by kernel_rfl) (by kernel_rfl) (by kernel_rfl) (by kernel_rfl) rfl (fun _ _ _ h => h) (by rfl) HSW0 ?_
      simp only [Act.put, List.setIfInBounds_toArray, List.set_cons_zero, List.set_cons_succ]
      refine last_skipF (i := 16) rfl (by kernel_rfl) (by kernel_rfl) (by kernel_rfl) (by kernel_rfl) rfl (fun _ _ _ h => h) (by rfl) HSW0 ?_
      simp only [Act.put, List.setIfInBounds_toArray, List.set_cons_zero, List.set_cons_succ]
      refine last_skipF (i := 17) rfl (by kernel_rfl) (by kernel_rfl) (by kernel_rfl) (by kernel_rfl) rfl (fun _ _ _ h => h) (by rfl) HSW0 ?_
      simp only [Act.put, List.setIfInBounds_toArray, List.set_cons_zero, List.set_cons_succ]
      refine last_takeF (i := 18) (v := ?v18k54) rfl (by kernel_rfl) (by kernel_rfl) (by kernel_rfl) (by kernel_rfl) rfl (fun _ _ _ h => h) (by rfl) HSW0 ?hy18k54 ?rest18k54
      case hy18k54 =>
        intro xx hSx
        have f0 := cellB hSx m0
        have f1 := cellB hSx m1
        have f2 := cellB hSx m2
        have f3 := cellB hSx m3
        have f4 := cellB hSx m4
        have f5 := cellB hSx m5
        have f6 := cellB hSx m6
        have f7 := cellB hSx m7
        have f8 := cellB hSx m8
        have f10 := cellB hSx m10
        have f3j := cellB hSx n3
        go_simp
        try (with_reducible rfl)
      simp only [Act.put, List.setIfInBounds_toArray, List.set_cons_zero, List.set_cons_succ]
      refine last_takeF (i := 19) (v := ?v19k55) rfl (by kernel_rfl) (by kernel_rfl) (by kernel_rfl) (by kernel_rfl) rfl (fun _ _ _ h => h) (by rfl) HSW0 ?hy19k55 ?rest19k55
      case hy19k55 =>
        intro xx hSx
        have f0 := cellB hSx m0
        have f1 := cellB hSx m1
        have f2 := cellB hSx m2
        have f3 := cellB hSx m3
        have f4 := cellB hSx m4
        have f5 := cellB hSx m5
        have f6 := cellB hSx m6
        have f7 := cellB hSx m7
        have f8 := cellB hSx m8
        have f10 := cellB hSx m10
        have f3j := cellB hSx n3
        go_simp
        try (with_reducible rfl)
      simp only [Act.put, List.setIfInBounds_toArray, List.set_cons_zero, List.set_cons_succ]
      refine last_skipF (i := 20) rfl (by kernel_rfl) (by kernel_rfl) (by kernel_rfl) (by kernel_rfl) rfl (fun _ _ _ h => h) (by rfl) HSW0 ?_
      simp only [Act.put, List.setIfInBounds_toArray, List.set_cons_zero, List.set_cons_succ]
      refine last_skipF (i := 21) rfl (by kernel_rfl) (by kernel_rfl) (by kernel_rfl) (by kernel_rfl) rfl (fun _ _ _ h => h) (by rfl) HSW0 ?_
      simp only [Act.put, List.setIfInBounds_toArray, List.set_cons_zero, List.set_cons_succ]
      refine last_skipF (i := 22) rfl (by kernel_rfl) (by kernel_rfl) (by kernel_rfl) (by kernel_rfl) rfl (fun _ _ _ h => h) (by rfl) HSW0 ?_
      simp only [Act.put, List.setIfInBounds_toArray, List.set_cons_zero, List.set_cons_succ]
      refine last_skipF (i := 23) rfl (by kernel_rfl) (by kernel_rfl) (by kernel_rfl) (by kernel_rfl) rfl (fun _ _ _ h => h) (by rfl) HSW0 ?_
      simp only [Act.put, List.setIfInBounds_toArray, List.set_cons_zero, List.set_cons_succ]
      refine last_skipF (i := 24) rfl (by kernel_rfl) (by kernel_rfl) (by kernel_rfl) (by kernel_rfl) rfl (fun _ _ _ h => h) (by rfl) HSW0 ?_
      simp only [Act.put, List.setIfInBounds_toArray, List.set_cons_zero, List.set_cons_succ]
      refine last_skipF (i := 25) rfl (by kernel_rfl) (by kernel_rfl) (by kernel_rfl) (by kernel_rfl) rfl (fun _ _ _ h => h) (by rfl) HSW0 ?_
      simp only [Act.put, List.setIfInBounds_toArray, List.set_cons_zero, List.set_cons_succ]
      refine last_skipF (i := 26) rfl (by kernel_rfl) (by kernel_rfl) (by kernel_rfl) (by kernel_rfl) rfl (fun _ _ _ h => h) (by rfl) HSW0 ?_
      simp only [Act.put, List.setIfInBounds_toArray, List.set_cons_zero, List.set_cons_succ]
      refine last_skipF (i := 27) rfl (by kernel_rfl) (by kernel_rfl) (by kernel_rfl) (by kernel_rfl) rfl (fun _ _ _ h => h) (by rfl) HSW0 ?_
      simp only [Act.put, List.setIfInBounds_toArray, List.set_cons_zero, List.set_cons_succ]
      refine last_skipF (i := 28) rfl (by kernel_rfl) (by kernel_rfl) (by kernel_rfl) (by kernel_rfl) rfl (fun _ _ _ h => h) (by rfl) HSW0 ?_
      simp only [Act.put, List.setIfInBounds_toArray, List.set_cons_zero, List.set_cons_succ]
      refine last_skipF (i := 29) rfl (by kernel_rfl) (by kernel_rfl) (by kernel_rfl) (by kernel_rfl) rfl (fun _ _ _ h => h) (by rfl) HSW0 ?_
      simp only [Act.put, List.setIfInBounds_toArray, List.set_cons_zero, List.set_cons_succ]
      refine last_skipF (i := 30) rfl (by kernel_rfl) (by kernel_rfl) (by kernel_rfl) (by kernel_rfl) rfl (fun _ _ _ h => h) (by rfl) HSW0 ?_
      simp only [Act.put, List.setIfInBounds_toArray, List.set_cons_zero, List.set_cons_succ]
      refine last_skipF (i := 31) rfl (by kernel_rfl) (by kernel_rfl) (by kernel_rfl) (by kernel_rfl) rfl (fun _ _ _ h => h) (by rfl) HSW0 ?_
      simp only [Act.put, List.setIfInBounds_toArray, List.set_cons_zero, List.set_cons_succ]
      refine last_skipF (i := 32) rfl (by kernel_rfl) (by kernel_rfl) (by kernel_rfl) (by kernel_rfl) rfl (fun _ _ _ h => h) (by rfl) HSW0 ?_
      simp only [Act.put, List.setIfInBounds_toArray, List.set_cons_zero, List.set_cons_succ]
      refine last_skipF (i := 33) rfl (by kernel_rfl) (by kernel_rfl) (by kernel_rfl) (by kernel_rfl) rfl (fun _ _ _ h => h) (by rfl) HSW0 ?_
      simp only [Act.put, List.setIfInBounds_toArray, List.set_cons_zero, List.set_cons_succ]
      refine last_takeF (i := 34) (v := ?v34k70) rfl (by kernel_rfl) (by kernel_rfl) (by kernel_rfl) (by kernel_rfl) rfl (fun _ _ _ h => h) (by rfl) HSW0 ?hy34k70 ?rest34k70
      case hy34k70 =>
        intro xx hSx
        have f0 := cellB hSx m0
        have f1 := cellB hSx m1
        have f2 := cellB hSx m2
        have f3 := cellB hSx m3
        have f4 := cellB hSx m4
        have f5 := cellB hSx m5
        have f6 := cellB hSx m6
        have f7 := cellB hSx m7
        have f8 := cellB hSx m8
        have f10 := cellB hSx m10
        have f3j := cellB hSx n3
        go_simp
        try (with_reducible rfl)
      simp only [Act.put, List.setIfInBounds_toArray, List.set_cons_zero, List.set_cons_succ]
      refine last_done (by kernel_rfl) ?_ _
      have HSX : Hid (Below W2.heap.size W2 W2.drew) := HSW0
      clear HSW0
      go_wp2
      go_meet
      exact ⟨by rw [← HHC.out]; (show (Value.bool true = Value.bool (!headC c now P ⟨ac, nd, lm, sb, st, sr, en, xs⟩)); rw [show headC c now P ⟨ac, nd, lm, sb, st, sr, en, xs⟩ = false by unfold headC; rw [decide_eq_false (show ¬ sb ≤ now by omega), Bool.false_and, Bool.and_false]]; rfl), HSX.out⟩
    have e2 : decide (now < sb) = false := decide_eq_false z2
    have hw : IntKind.i64.wrap (sb + B) = sb + B := by rw [IntKind.wrap_i64]; omega
    by_cases z3 : 1099511627776 < sb + B
    · have e3 : decide (1099511627776 < sb + B) = true := decide_eq_true z3
      refine wp_region_last (S := (fun x' : World => Below W2.heap.size W2 x')) (L := 99) (by kernel_rfl) ?_
      have HSW0 : (fun x' : World => Below W2.heap.size W2 x') (W2.drew) := drew_below W2
      refine last_takeF (i := 0) (v := ?v0k71) rfl (by kernel_rfl) (by kernel_rfl) (by kernel_rfl) (by kernel_rfl) rfl (fun _ _ _ h => h) (by rfl) HSW0 ?hy0k71 ?rest0k71
      case hy0k71 =>
        intro xx hSx
        have f0 := cellB hSx m0
        have f1 := cellB hSx m1
        have f2 := cellB hSx m2
        have f3 := cellB hSx m3
        have f4 := cellB hSx m4
        have f5 := cellB hSx m5
        have f6 := cellB hSx m6
        have f7 := cellB hSx m7
        have f8 := cellB hSx m8
        have f10 := cellB hSx m10
        have f3j := cellB hSx n3
        go_simp
        try (with_reducible rfl)
      simp only [Act.put, List.setIfInBounds_toArray, List.set_cons_zero, List.set_cons_succ]
      refine last_takeF (i := 1) (v := ?v1k72) rfl (by kernel_rfl) (by kernel_rfl) (by kernel_rfl) (by kernel_rfl) rfl (fun _ _ _ h => h) (by rfl) HSW0 ?hy1k72 ?rest1k72
      case hy1k72 =>
        intro xx hSx
        have f0 := cellB hSx m0
        have f1 := cellB hSx m1
        have f2 := cellB hSx m2
        have f3 := cellB hSx m3
        have f4 := cellB hSx m4
        have f5 := cellB hSx m5
        have f6 := cellB hSx m6
        have f7 := cellB hSx m7
        have f8 := cellB hSx m8
        have f10 := cellB hSx m10
        have f3j := cellB hSx n3
        go_simp
        try (with_reducible rfl)
      simp only [Act.put, List.setIfInBounds_toArray, List.set_cons_zero, List.set_cons_succ]
      refine last_takeF (i := 2) (v := ?v2k73) rfl (by kernel_rfl) (by kernel_rfl) (by kernel_rfl) (by kernel_rfl) rfl (fun _ _ _ h => h) (by rfl) HSW0 ?hy2k73 ?rest2k73
      case hy2k73 =>
        intro xx hSx
        have f0 := cellB hSx m0
        have f1 := cellB hSx m1
        have f2 := cellB hSx m2
        have f3 := cellB hSx m3
        have f4 := cellB hSx m4
        have f5 := cellB hSx m5
        have f6 := cellB hSx m6
        have f7 := cellB hSx m7
        have f8 := cellB hSx m8
        have f10 := cellB hSx m10
        have f3j := cellB hSx n3
        go_simp
        try (with_reducible rfl)
      simp only [Act.put, List.setIfInBounds_toArray, List.set_cons_zero, List.set_cons_succ]
      try rw [e1]
      refine last_takeF (i := 3) (v := ?v3k74) rfl (by kernel_rfl) (by kernel_rfl) (by kernel_rfl) (by kernel_rfl) rfl (fun _ _ _ h => h) (by rfl) HSW0 ?hy3k74 ?rest3k74
      case hy3k74 =>
        intro xx hSx
        have f0 := cellB hSx m0
        have f1 := cellB hSx m1
        have f2 := cellB hSx m2
        have f3 := cellB hSx m3
        have f4 := cellB hSx m4
        have f5 := cellB hSx m5
        have f6 := cellB hSx m6
        have f7 := cellB hSx m7
        have f8 := cellB hSx m8
        have f10 := cellB hSx m10
        have f3j := cellB hSx n3
        go_simp
        try (with_reducible rfl)
      simp only [Act.put, List.setIfInBounds_toArray, List.set_cons_zero, List.set_cons_succ]
      refine last_takeF (i := 4) (v := ?v4k75) rfl (by kernel_rfl) (by kernel_rfl) (by kernel_rfl) (by kernel_rfl) rfl (fun _ _ _ h => h) (by rfl) HSW0 ?hy4k75 ?rest4k75
      case hy4k75 =>
        intro xx hSx
        have f0 := cellB hSx m0
        have f1 := cellB hSx m1
        have f2 := cellB hSx m2
        have f3 := cellB hSx m3
        have f4 := cellB hSx m4
        have f5 := cellB hSx m5
        have f6 := cellB hSx m6
        have f7 := cellB hSx m7
        have f8 := cellB hSx m8
        have f10 := cellB hSx m10
        have f3j := cellB hSx n3
        go_simp
        try (with_reducible rfl)
      simp only [Act.put, List.setIfInBounds_toArray, List.set_cons_zero, List.set_cons_succ]
      refine last_takeF (i := 5) (v := ?v5k76) rfl (by kernel_rfl) (by kernel_rfl) (by kernel_rfl) (by kernel_rfl) rfl (fun _ _ _ h => h) (by rfl) HSW0 ?hy5k76 ?rest5k76
      case hy5k76 =>
        intro xx hSx
        have f0 := cellB hSx m0
        have f1 := cellB hSx m1
        have f2 := cellB hSx m2
        have f3 := cellB hSx m3
        have f4 := cellB hSx m4
        have f5 := cellB hSx m5
        have f6 := cellB hSx m6
        have f7 := cellB hSx m7
        have f8 := cellB hSx m8
        have f10 := cellB hSx m10
        have f3j := cellB hSx n3
        go_simp
        try (with_reducible rfl)
      simp only [Act.put, List.setIfInBounds_toArray, List.set_cons_zero, List.set_cons_succ]
      refine last_takeF (i := 6) (v := ?v6k77) rfl (by kernel_rfl) (by kernel_rfl) (by kernel_rfl) (by kernel_rfl) rfl (fun _ _ _ h => h) (by rfl) HSW0 ?hy6k77 ?rest6k77
      case hy6k77 =>
        intro xx hSx
        have f0 := cellB hSx m0
        have f1 := cellB hSx m1
        have f2 := cellB hSx m2
        have f3 := cellB hSx m3
        have f4 := cellB hSx m4
        have f5 := cellB hSx m5
        have f6 := cellB hSx m6
        have f7 := cellB hSx m7
        have f8 := cellB hSx m8
        have f10 := cellB hSx m10
        have f3j := cellB hSx n3
        go_simp
        try (with_reducible rfl)
      simp only [Act.put, List.setIfInBounds_toArray, List.set_cons_zero, List.set_cons_succ]
      refine last_takeF (i := 7) (v := ?v7k78) rfl (by kernel_rfl) (by kernel_rfl) (by kernel_rfl) (by kernel_rfl) rfl (fun _ _ _ h => h) (by rfl) HSW0 ?hy7k78 ?rest7k78
      case hy7k78 =>
        intro xx hSx
        have f0 := cellB hSx m0
        have f1 := cellB hSx m1
        have f2 := cellB hSx m2
        have f3 := cellB hSx m3
        have f4 := cellB hSx m4
        have f5 := cellB hSx m5
        have f6 := cellB hSx m6
        have f7 := cellB hSx m7
        have f8 := cellB hSx m8
        have f10 := cellB hSx m10
        have f3j := cellB hSx n3
        go_simp
        try (with_reducible rfl)
      simp only [Act.put, List.setIfInBounds_toArray, List.set_cons_zero, List.set_cons_succ]
      refine last_takeF (i := 8) (v := ?v8k79) rfl (by kernel_rfl) (by kernel_rfl) (by kernel_rfl) (by kernel_rfl) rfl (fun _ _ _ h => h) (by rfl) HSW0 ?hy8k79 ?rest8k79
      case hy8k79 =>
        intro xx hSx
        have f0 := cellB hSx m0
        have f1 := cellB hSx m1
        have f2 := cellB hSx m2
        have f3 := cellB hSx m3
        have f4 := cellB hSx m4
        have f5 := cellB hSx m5
        have f6 := cellB hSx m6
        have f7 := cellB hSx m7
        have f8 := cellB hSx m8
        have f10 := cellB hSx m10
        have f3j := cellB hSx n3
        go_simp
        try (with_reducible rfl)
      simp only [Act.put, List.setIfInBounds_toArray, List.set_cons_zero, List.set_cons_succ]
      try rw [e2]
      refine last_takeF (i := 9) (v := ?v9k80) rfl (by kernel_rfl) (by kernel_rfl) (by kernel_rfl) (by kernel_rfl) rfl (fun _ _ _ h => h) (by rfl) HSW0 ?hy9k80 ?rest9k80
      case hy9k80 =>
        intro xx hSx
        have f0 := cellB hSx m0
        have f1 := cellB hSx m1
        have f2 := cellB hSx m2
        have f3 := cellB hSx m3
        have f4 := cellB hSx m4
        have f5 := cellB hSx m5
        have f6 := cellB hSx m6
        have f7 := cellB hSx m7
        have f8 := cellB hSx m8
        have f10 := cellB hSx m10
        have f3j := cellB hSx n3
        go_simp
        try (with_reducible rfl)
      simp only [Act.put, List.setIfInBounds_toArray, List.set_cons_zero, List.set_cons_succ]
      refine last_takeF (i := 10) (v := ?v10k81) rfl (by kernel_rfl) (by kernel_rfl) (by kernel_rfl) (by kernel_rfl) rfl (fun _ _ _ h => h) (by rfl) HSW0 ?hy10k81 ?rest10k81
      case hy10k81 =>
        intro xx hSx
        have f0 := cellB hSx m0
        have f1 := cellB hSx m1
        have f2 := cellB hSx m2
        have f3 := cellB hSx m3
        have f4 := cellB hSx m4
        have f5 := cellB hSx m5
        have f6 := cellB hSx m6
        have f7 := cellB hSx m7
        have f8 := cellB hSx m8
        have f10 := cellB hSx m10
        have f3j := cellB hSx n3
        go_simp
        try (with_reducible rfl)
      simp only [Act.put, List.setIfInBounds_toArray, List.set_cons_zero, List.set_cons_succ]
      refine last_takeF (i := 11) (v := ?v11k82) rfl (by kernel_rfl) (by kernel_rfl) (by kernel_rfl) (by kernel_rfl) rfl (fun _ _ _ h => h) (by rfl) HSW0 ?hy11k82 ?rest11k82
      case hy11k82 =>
        intro xx hSx
        have f0 := cellB hSx m0
        have f1 := cellB hSx m1
        have f2 := cellB hSx m2
        have f3 := cellB hSx m3
        have f4 := cellB hSx m4
        have f5 := cellB hSx m5
        have f6 := cellB hSx m6
        have f7 := cellB hSx m7
        have f8 := cellB hSx m8
        have f10 := cellB hSx m10
        have f3j := cellB hSx n3
        go_simp
        try (with_reducible rfl)
      simp only [Act.put, List.setIfInBounds_toArray, List.set_cons_zero, List.set_cons_succ]
      refine last_takeF (i := 12) (v := ?v12k83) rfl (by kernel_rfl) (by kernel_rfl) (by kernel_rfl) (by kernel_rfl) rfl (fun _ _ _ h => h) (by rfl) HSW0 ?hy12k83 ?rest12k83
      case hy12k83 =>
        intro xx hSx
        have f0 := cellB hSx m0
        have f1 := cellB hSx m1
        have f2 := cellB hSx m2
        have f3 := cellB hSx m3
        have f4 := cellB hSx m4
        have f5 := cellB hSx m5
        have f6 := cellB hSx m6
        have f7 := cellB hSx m7
        have f8 := cellB hSx m8
        have f10 := cellB hSx m10
        have f3j := cellB hSx n3
        go_simp
        try (with_reducible rfl)
      simp only [Act.put, List.setIfInBounds_toArray, List.set_cons_zero, List.set_cons_succ]
      refine last_takeF (i := 13) (v := ?v13k84) rfl (by kernel_rfl) (by kernel_rfl) (by kernel_rfl) (by kernel_rfl) rfl (fun _ _ _ h => h) (by rfl) HSW0 ?hy13k84 ?rest13k84
      case hy13k84 =>
        intro xx hSx
        have f0 := cellB hSx m0
        have f1 := cellB hSx m1
        have f2 := cellB hSx m2
        have f3 := cellB hSx m3
        have f4 := cellB hSx m4
        have f5 := cellB hSx m5
        have f6 := cellB hSx m6
        have f7 := cellB hSx m7
        have f8 := cellB hSx m8
        have f10 := cellB hSx m10
        have f3j := cellB hSx n3
        go_simp
        try (with_reducible rfl)
      simp only [Act.put, List.setIfInBounds_toArray, List.set_cons_zero, List.set_cons_succ]
      refine last_takeF (i := 14) (v := ?v14k85) rfl (by kernel_rfl) (by kernel_rfl) (by kernel_rfl) (by kernel_rfl) rfl (fun _ _ _ h => h) (by rfl) HSW0 ?hy14k85 ?rest14k85
      case hy14k85 =>
        intro xx hSx
        have f0 := cellB hSx m0
        have f1 := cellB hSx m1
        have f2 := cellB hSx m2
        have f3 := cellB hSx m3
        have f4 := cellB hSx m4
        have f5 := cellB hSx m5
        have f6 := cellB hSx m6
        have f7 := cellB hSx m7
        have f8 := cellB hSx m8
        have f10 := cellB hSx m10
        have f3j := cellB hSx n3
        go_simp
        try (with_reducible rfl)
      simp only [Act.put, List.setIfInBounds_toArray, List.set_cons_zero, List.set_cons_succ]
      refine last_one (i := 15) (by kernel_rfl) rfl ?_
      intro K hK
      go_simp
      go_at_call 48
      refine (cB _).mono ?_
      rintro e Z1 ⟨rfl, bz1⟩
      have HSZ1 : (fun x' : World => Below W2.heap.size W2 x') Z1 := HSW0.trans (bz1.mono HSW0.size)
      go_simp
      refine hK.out _ _ (fun _ => HSZ1) (fun _ => ?_)
      clear hK K HSW0
      refine last_takeF (i := 16) (v := ?v16k86) rfl (by kernel_rfl) (by kernel_rfl) (by kernel_rfl) (by kernel_rfl) rfl (fun _ _ _ h => h) (by rfl) HSZ1 ?hy16k86 ?rest16k86
      case hy16k86 =>
        intro xx hSx
        have f0 := cellB hSx m0
        have f1 := cellB hSx m1
        have f2 := cellB hSx m2
        have f3 := cellB hSx m3
        have f4 := cellB hSx m4
        have f5 := cellB hSx m5
        have f6 := cellB hSx m6
        have f7 := cellB hSx m7
        have f8 := cellB hSx m8
        have f10 := cellB hSx m10
        have f3j := cellB hSx n3
        go_simp
        try (with_reducible rfl)
      simp only [Act.put, List.setIfInBounds_toArray, List.set_cons_zero, List.set_cons_succ]
      try rw [hw]
      refine last_takeF (i := 17) (v := ?v17k87) rfl (by kernel_rfl) (by kernel_rfl) (by kernel_rfl) (by kernel_rfl) rfl (fun _ _ _ h => h) (by rfl) HSZ1 ?hy17k87 ?rest17k87
      case hy17k87 =>
        intro xx hSx
        have f0 := cellB hSx m0
        have f1 := cellB hSx m1
        have f2 := cellB hSx m2
        have f3 := cellB hSx m3
        have f4 := cellB hSx m4
        have f5 := cellB hSx m5
        have f6 := cellB hSx m6
        have f7 := cellB hSx m7
        have f8 := cellB hSx m8
        have f10 := cellB hSx m10
        have f3j := cellB hSx n3
        go_simp
        try (with_reducible rfl)
      simp only [Act.put, List.setIfInBounds_toArray, List.set_cons_zero, List.set_cons_succ]
      try rw [e3]
      refine last_takeF (i := 18) (v := ?v18k88) rfl (by kernel_rfl) (by kernel_rfl) (by kernel_rfl) (by kernel_rfl) rfl (fun _ _ _ h => h) (by rfl) HSZ1 ?hy18k88 ?rest18k88
      case hy18k88 =>
        intro xx hSx
        have f0 := cellB hSx m0
        have f1 := cellB hSx m1
        have f2 := cellB hSx m2
        have f3 := cellB hSx m3
        have f4 := cellB hSx m4
        have f5 := cellB hSx m5
        have f6 := cellB hSx m6
        have f7 := cellB hSx m7
        have f8 := cellB hSx m8
        have f10 := cellB hSx m10
        have f3j := cellB hSx n3
        go_simp
        try (with_reducible rfl)
      simp only [Act.put, List.setIfInBounds_toArray, List.set_cons_zero, List.set_cons_succ]
      refine last_takeF (i := 19) (v := ?v19k89) rfl (by kernel_rfl) (by kernel_rfl) (by kernel_rfl) (by kernel_rfl) rfl (fun _ _ _ h => h) (by rfl) HSZ1 ?hy19k89 ?rest19k89
      case hy19k89 =>
        intro xx hSx
        have f0 := cellB hSx m0
        have f1 := cellB hSx m1
        have f2 := cellB hSx m2
        have f3 := cellB hSx m3
        have f4 := cellB hSx m4
        have f5 := cellB hSx m5
        have f6 := cellB hSx m6
        have f7 := cellB hSx m7
        have f8 := cellB hSx m8
        have f10 := cellB hSx m10
        have f3j := cellB hSx n3
        go_simp
        try (with_reducible rfl)
      simp only [Act.put, List.setIfInBounds_toArray, List.set_cons_zero, List.set_cons_succ]
      refine last_skipF (i := 20) rfl (by kernel_rfl) (by kernel_rfl) (by kernel_rfl) (by kernel_rfl) rfl (fun _ _ _ h => h) (by rfl) HSZ1 ?_
      simp only [Act.put, List.setIfInBounds_toArray, List.set_cons_zero, List.set_cons_succ]
      refine last_skipF (i := 21) rfl (by kernel_rfl) (by kernel_rfl) (by kernel_rfl) (by kernel_rfl) rfl (fun _ _ _ h => h) (by rfl) HSZ1 ?_
      simp only [Act.put, List.setIfInBounds_toArray, List.set_cons_zero, List.set_cons_succ]
      refine last_skipF (i := 22) rfl (by kernel_rfl) (by kernel_rfl) (by kernel_rfl) (by kernel_rfl) rfl (fun _ _ _ h => h) (by rfl) HSZ1 ?_
      simp only [Act.put, List.setIfInBounds_toArray, List.set_cons_zero, List.set_cons_succ]
      refine last_skipF (i := 23) rfl (by kernel_rfl) (by kernel_rfl) (by kernel_rfl) (by kernel_rfl) rfl (fun _ _ _ h => h) (by rfl) HSZ1 ?_
      simp only [Act.put, List.setIfInBounds_toArray, List.set_cons_zero, List.set_cons_succ]
      refine last_skipF (i := 24) rfl (by kernel_rfl) (by kernel_rfl) (by kernel_rfl) (by kernel_rfl) rfl (fun _ _ _ h => h) (by rfl) HSZ1 ?_
      simp only [Act.put, List.setIfInBounds_toArray, List.set_cons_zero, List.set_cons_succ]
      refine last_skipF (i := 25) rfl (by kernel_rfl) (by kernel_rfl) (by kernel_rfl) (by kernel_rfl) rfl (fun _ _ _ h => h) (by rfl) HSZ1 ?_
      simp only [Act.put, List.setIfInBounds_toArray, List.set_cons_zero, List.set_cons_succ]
      refine last_skipF (i := 26) rfl (by kernel_rfl) (by kernel_rfl) (by kernel_rfl) (by kernel_rfl) rfl (fun _ _ _ h => h) (by rfl) HSZ1 ?_
      simp only [Act.put, List.setIfInBounds_toArray, List.set_cons_zero, List.set_cons_succ]
      refine last_skipF (i := 27) rfl (by kernel_rfl) (by kernel_rfl) (by kernel_rfl) (by kernel_rfl) rfl (fun _ _ _ h => h) (by rfl) HSZ1 ?_
      simp only [Act.put, List.setIfInBounds_toArray, List.set_cons_zero, List.set_cons_succ]
      refine last_skipF (i := 28) rfl (by kernel_rfl) (by kernel_rfl) (by kernel_rfl) (by kernel_rfl) rfl (fun _ _ _ h => h) (by rfl) HSZ1 ?_
      simp only [Act.put, List.setIfInBounds_toArray, List.set_cons_zero, List.set_cons_succ]
      refine last_skipF (i := 29) rfl (by kernel_rfl) (by kernel_rfl) (by kernel_rfl) (by kernel_rfl) rfl (fun _ _ _ h => h) (by rfl) HSZ1 ?_
      simp only [Act.put, List.setIfInBounds_toArray, List.set_cons_zero, List.set_cons_succ]
      refine last_skipF (i := 30) rfl (by kernel_rfl) (by kernel_rfl) (by kernel_rfl) (by kernel_rfl) rfl (fun _ _ _ h => h) (by rfl) HSZ1 ?_
      simp only [Act.put, List.setIfInBounds_toArray, List.set_cons_zero, List.set_cons_succ]
      refine last_skipF (i := 31) rfl (by kernel_rfl) (by kernel_rfl) (by kernel_rfl) (by kernel_rfl) rfl (fun _ _ _ h => h) (by rfl) HSZ1 ?_
      simp only [Act.put, List.setIfInBounds_toArray, List.set_cons_zero, List.set_cons_succ]
      refine last_skipF (i := 32) rfl (by kernel_rfl) (by kernel_rfl) (by kernel_rfl) (by kernel_rfl) rfl (fun _ _ _ h => h) (by rfl) HSZ1 ?_
      simp only [Act.put, List.setIfInBounds_toArray, List.set_cons_zero, List.set_cons_succ]
      refine last_skipF (i := 33) rfl (by kernel_rfl) (by kernel_rfl) (by kernel_rfl) (by kernel_rfl) rfl (fun _ _ _ h => h) (by rfl) HSZ1 ?_
      simp only [Act.put, List.setIfInBounds_toArray, List.set_cons_zero, List.set_cons_succ]
      refine last_takeF (i := 34) (v := ?v34k104) rfl (by kernel_rfl) (by kernel_rfl) (by kernel_rfl) (by kernel_rfl) rfl (fun _ _ _ h => h) (by rfl) HSZ1 ?hy34k104 ?rest34k104
      case hy34k104 =>
        intro xx hSx
        have f0 := cellB hSx m0
        have f1 := cellB hSx m1
        have f2 := cellB hSx m2
        have f3 := cellB hSx m3
        have f4 := cellB hSx m4
        have f5 := cellB hSx m5
        have f6 := cellB hSx m6
        have f7 := cellB hSx m7
        have f8 := cellB hSx m8
        have f10 := cellB hSx m10
        have f3j := cellB hSx n3
        go_simp
        try (with_reducible rfl)
      simp only [Act.put, List.setIfInBounds_toArray, List.set_cons_zero, List.set_cons_succ]
      refine last_done (by kernel_rfl) ?_ _
      have HSX : Hid (Below W2.heap.size W2 Z1) := HSZ1
      clear HSZ1 bz1
      go_wp2
      go_meet
      exact ⟨by rw [← HHC.out]; (show (Value.bool true = Value.bool (!headC c now P ⟨ac, nd, lm, sb, st, sr, en, xs⟩)); rw [show headC c now P ⟨ac, nd, lm, sb, st, sr, en, xs⟩ = false by unfold headC; rw [HBd.out, decide_eq_false (show ¬ sb + B ≤ 1099511627776 by omega), Bool.false_and, Bool.and_false, Bool.and_false]]; rfl), HSX.out⟩
    have e3 : decide (1099511627776 < sb + B) = false := decide_eq_false z3
    rcases i with _ | i
    · have hP0 : P = 0 := HP.out.symm.trans (ahead_zero _)
      have HP0 : Hid (P = 0) := hP0
      clear hP0
      have e4 : decide ((0 : Int) < ((0 : Nat) : Int)) = false := by simp
      refine wp_region_last (S := (fun x' : World => Below W2.heap.size W2 x')) (L := 99) (by kernel_rfl) ?_
      have HSW0 : (fun x' : World => Below W2.heap.size W2 x') (W2.drew) := drew_below W2
      refine last_takeF (i := 0) (v := ?v0k105) rfl (by kernel_rfl) (by kernel_rfl) (by kernel_rfl) (by kernel_rfl) rfl (fun _ _ _ h => h) (by rfl) HSW0 ?hy0k105 ?rest0k105
      case hy0k105 =>
        intro xx hSx
        have f0 := cellB hSx m0
        have f1 := cellB hSx m1
        have f2 := cellB hSx m2
        have f3 := cellB hSx m3
        have f4 := cellB hSx m4
        have f5 := cellB hSx m5
        have f6 := cellB hSx m6
        have f7 := cellB hSx m7
        have f8 := cellB hSx m8
        have f10 := cellB hSx m10
        have f3j := cellB hSx n3
        go_simp
        try (with_reducible rfl)
      simp only [Act.put, List.setIfInBounds_toArray, List.set_cons_zero, List.set_cons_succ]
      refine last_takeF (i := 1) (v := ?v1k106) rfl (by kernel_rfl) (by kernel_rfl) (by kernel_rfl) (by kernel_rfl) rfl (fun _ _ _ h => h) (by rfl) HSW0 ?hy1k106 ?rest1k106
      case hy1k106 =>
        intro xx hSx
        have f0 := cellB hSx m0
        have f1 := cellB hSx m1
        have f2 := cellB hSx m2
        have f3 := cellB hSx m3
        have f4 := cellB hSx m4
        have f5 := cellB hSx m5
        have f6 := cellB hSx m6
        have f7 := cellB hSx m7
        have f8 := cellB hSx m8
        have f10 := cellB hSx m10
        have f3j := cellB hSx n3
        go_simp
        try (with_reducible rfl)
      simp only [Act.put, List.setIfInBounds_toArray, List.set_cons_zero, List.set_cons_succ]
      refine last_takeF (i := 2) (v := ?v2k107) rfl (by kernel_rfl) (by kernel_rfl) (by kernel_rfl) (by kernel_rfl) rfl (fun _ _ _ h => h) (by rfl) HSW0 ?hy2k107 ?rest2k107
      case hy2k107 =>
        intro xx hSx
        have f0 := cellB hSx m0
        have f1 := cellB hSx m1
        have f2 := cellB hSx m2
        have f3 := cellB hSx m3
        have f4 := cellB hSx m4
        have f5 := cellB hSx m5
        have f6 := cellB hSx m6
        have f7 := cellB hSx m7
        have f8 := cellB hSx m8
        have f10 := cellB hSx m10
        have f3j := cellB hSx n3
        go_simp
        try (with_reducible rfl)
      simp only [Act.put, List.setIfInBounds_toArray, List.set_cons_zero, List.set_cons_succ]
      try rw [e1]
      refine last_takeF (i := 3) (v := ?v3k108) rfl (by kernel_rfl) (by kernel_rfl) (by kernel_rfl) (by kernel_rfl) rfl (fun _ _ _ h => h) (by rfl) HSW0 ?hy3k108 ?rest3k108
      case hy3k108 =>
        intro xx hSx
        have f0 := cellB hSx m0
        have f1 := cellB hSx m1
        have f2 := cellB hSx m2
        have f3 := cellB hSx m3
        have f4 := cellB hSx m4
        have f5 := cellB hSx m5
        have f6 := cellB hSx m6
        have f7 := cellB hSx m7
        have f8 := cellB hSx m8
        have f10 := cellB hSx m10
        have f3j := cellB hSx n3
        go_simp
        try (with_reducible rfl)
      simp only [Act.put, List.setIfInBounds_toArray, List.set_cons_zero, List.set_cons_succ]
      refine last_takeF (i := 4) (v := ?v4k109) rfl (by kernel_rfl) (by kernel_rfl) (by kernel_rfl) (by kernel_rfl) rfl (fun _ _ _ h => h) (by rfl) HSW0 ?hy4k109 ?rest4k109
      case hy4k109 =>
        intro xx hSx
        have f0 := cellB hSx m0
        have f1 := cellB hSx m1
        have f2 := cellB hSx m2
        have f3 := cellB hSx m3
        have f4 := cellB hSx m4
        have f5 := cellB hSx m5
        have f6 := cellB hSx m6
        have f7 := cellB hSx m7
        have f8 := cellB hSx m8
        have f10 := cellB hSx m10
        have f3j := cellB hSx n3
        go_simp
        try (with_reducible rfl)
      simp only [Act.put, List.setIfInBounds_toArray, List.set_cons_zero, List.set_cons_succ]
      refine last_takeF (i := 5) (v := ?v5k110) rfl (by kernel_rfl) (by kernel_rfl) (by kernel_rfl) (by kernel_rfl) rfl (fun _ _ _ h => h) (by rfl) HSW0 ?hy5k110 ?rest5k110
      case hy5k110 =>
        intro xx hSx
        have f0 := cellB hSx m0
        have f1 := cellB hSx m1
        have f2 := cellB hSx m2
        have f3 := cellB hSx m3
        have f4 := cellB hSx m4
        have f5 := cellB hSx m5
        have f6 := cellB hSx m6
        have f7 := cellB hSx m7
        have f8 := cellB hSx m8
        have f10 := cellB hSx m10
        have f3j := cellB hSx n3
        go_simp
        try (with_reducible rfl)
      simp only [Act.put, List.setIfInBounds_toArray, List.set_cons_zero, List.set_cons_succ]
      refine last_takeF (i := 6) (v := ?v6k111) rfl (by kernel_rfl) (by kernel_rfl) (by kernel_rfl) (by kernel_rfl) rfl (fun _ _ _ h => h) (by rfl) HSW0 ?hy6k111 ?rest6k111
      case hy6k111 =>
        intro xx hSx
        have f0 := cellB hSx m0
        have f1 := cellB hSx m1
        have f2 := cellB hSx m2
        have f3 := cellB hSx m3
        have f4 := cellB hSx m4
        have f5 := cellB hSx m5
        have f6 := cellB hSx m6
        have f7 := cellB hSx m7
        have f8 := cellB hSx m8
        have f10 := cellB hSx m10
        have f3j := cellB hSx n3
        go_simp
        try (with_reducible rfl)
      simp only [Act.put, List.setIfInBounds_toArray, List.set_cons_zero, List.set_cons_succ]
      refine last_takeF (i := 7) (v := ?v7k112) rfl (by kernel_rfl) (by kernel_rfl) (by kernel_rfl) (by kernel_rfl) rfl (fun _ _ _ h => h) (by rfl) HSW0 ?hy7k112 ?rest7k112
      case hy7k112 =>
        intro xx hSx
        have f0 := cellB hSx m0
        have f1 := cellB hSx m1
        have f2 := cellB hSx m2
        have f3 := cellB hSx m3
        have f4 := cellB hSx m4
        have f5 := cellB hSx m5
        have f6 := cellB hSx m6
        have f7 := cellB hSx m7
        have f8 := cellB hSx m8
        have f10 := cellB hSx m10
        have f3j := cellB hSx n3
        go_simp
        try (with_reducible rfl)
      simp only [Act.put, List.setIfInBounds_toArray, List.set_cons_zero, List.set_cons_succ]
      refine last_takeF (i := 8) (v := ?v8k113) rfl (by kernel_rfl) (by kernel_rfl) (by kernel_rfl) (by kernel_rfl) rfl (fun _ _ _ h => h) (by rfl) HSW0 ?hy8k113 ?rest8k113
      case hy8k113 =>
        intro xx hSx
        have f0 := cellB hSx m0
        have f1 := cellB hSx m1
        have f2 := cellB hSx m2
        have f3 := cellB hSx m3
        have f4 := cellB hSx m4
        have f5 := cellB hSx m5
        have f6 := cellB hSx m6
        have f7 := cellB hSx m7
        have f8 := cellB hSx m8
        have f10 := cellB hSx m10
        have f3j := cellB hSx n3
        go_simp
        try (with_reducible rfl)
      simp only [Act.put, List.setIfInBounds_toArray, List.set_cons_zero, List.set_cons_succ]
      try rw [e2]
      refine last_takeF (i := 9) (v := ?v9k114) rfl (by kernel_rfl) (by kernel_rfl) (by kernel_rfl) (by kernel_rfl) rfl (fun _ _ _ h => h) (by rfl) HSW0 ?hy9k114 ?rest9k114
      case hy9k114 =>
        intro xx hSx
        have f0 := cellB hSx m0
        have f1 := cellB hSx m1
        have f2 := cellB hSx m2
        have f3 := cellB hSx m3
        have f4 := cellB hSx m4
        have f5 := cellB hSx m5
        have f6 := cellB hSx m6
        have f7 := cellB hSx m7
        have f8 := cellB hSx m8
        have f10 := cellB hSx m10
        have f3j := cellB hSx n3
        go_simp
        try (with_reducible rfl)
      simp only [Act.put, List.setIfInBounds_toArray, List.set_cons_zero, List.set_cons_succ]
      refine last_takeF (i := 10) (v := ?v10k115) rfl (by kernel_rfl) (by kernel_rfl) (by kernel_rfl) (by kernel_rfl) rfl (fun _ _ _ h => h) (by rfl) HSW0 ?hy10k115 ?rest10k115
      case hy10k115 =>
        intro xx hSx
        have f0 := cellB hSx m0
        have f1 := cellB hSx m1
        have f2 := cellB hSx m2
        have f3 := cellB hSx m3
        have f4 := cellB hSx m4
        have f5 := cellB hSx m5
        have f6 := cellB hSx m6
        have f7 := cellB hSx m7
        have f8 := cellB hSx m8
        have f10 := cellB hSx m10
        have f3j := cellB hSx n3
        go_simp
        try (with_reducible rfl)
      simp only [Act.put, List.setIfInBounds_toArray, List.set_cons_zero, List.set_cons_succ]
      refine last_takeF (i := 11) (v := ?v11k116) rfl (by kernel_rfl) (by kernel_rfl) (by kernel_rfl) (by kernel_rfl) rfl (fun _ _ _ h => h) (by rfl) HSW0 ?hy11k116 ?rest11k116
      case hy11k116 =>
        intro xx hSx
        have f0 := cellB hSx m0
        have f1 := cellB hSx m1
        have f2 := cellB hSx m2
        have f3 := cellB hSx m3
        have f4 := cellB hSx m4
        have f5 := cellB hSx m5
        have f6 := cellB hSx m6
        have f7 := cellB hSx m7
        have f8 := cellB hSx m8
        have f10 := cellB hSx m10
        have f3j := cellB hSx n3
        go_simp
        try (with_reducible rfl)
      simp only [Act.put, List.setIfInBounds_toArray, List.set_cons_zero, List.set_cons_succ]
      refine last_takeF (i := 12) (v := ?v12k117) rfl (by kernel_rfl) (by kernel_rfl) (by kernel_rfl) (by kernel_rfl) rfl (fun _ _ _ h => h) (by rfl) HSW0 ?hy12k117 ?rest12k117
      case hy12k117 =>
        intro xx hSx
        have f0 := cellB hSx m0
        have f1 := cellB hSx m1
        have f2 := cellB hSx m2
        have f3 := cellB hSx m3
        have f4 := cellB hSx m4
        have f5 := cellB hSx m5
        have f6 := cellB hSx m6
        have f7 := cellB hSx m7
        have f8 := cellB hSx m8
        have f10 := cellB hSx m10
        have f3j := cellB hSx n3
        go_simp
        try (with_reducible rfl)
      simp only [Act.put, List.setIfInBounds_toArray, List.set_cons_zero, List.set_cons_succ]
      refine last_takeF (i := 13) (v := ?v13k118) rfl (by kernel_rfl) (by kernel_rfl) (by kernel_rfl) (by kernel_rfl) rfl (fun _ _ _ h => h) (by rfl) HSW0 ?hy13k118 ?rest13k118
      case hy13k118 =>
        intro xx hSx
        have f0 := cellB hSx m0
        have f1 := cellB hSx m1
        have f2 := cellB hSx m2
        have f3 := cellB hSx m3
        have f4 := cellB hSx m4
        have f5 := cellB hSx m5
        have f6 := cellB hSx m6
        have f7 := cellB hSx m7
        have f8 := cellB hSx m8
        have f10 := cellB hSx m10
        have f3j := cellB hSx n3
        go_simp
        try (with_reducible rfl)
      simp only [Act.put, List.setIfInBounds_toArray, List.set_cons_zero, List.set_cons_succ]
      refine last_takeF (i := 14) (v := ?v14k119) rfl (by kernel_rfl) (by kernel_rfl) (by kernel_rfl) (by kernel_rfl) rfl (fun _ _ _ h => h) (by rfl) HSW0 ?hy14k119 ?rest14k119
      case hy14k119 =>
        intro xx hSx
        have f0 := cellB hSx m0
        have f1 := cellB hSx m1
        have f2 := cellB hSx m2
        have f3 := cellB hSx m3
        have f4 := cellB hSx m4
        have f5 := cellB hSx m5
        have f6 := cellB hSx m6
        have f7 := cellB hSx m7
        have f8 := cellB hSx m8
        have f10 := cellB hSx m10
        have f3j := cellB hSx n3
        go_simp
        try (with_reducible rfl)
      simp only [Act.put, List.setIfInBounds_toArray, List.set_cons_zero, List.set_cons_succ]
      refine last_one (i := 15) (by kernel_rfl) rfl ?_
      intro K hK
      go_simp
      go_at_call 48
      refine (cB _).mono ?_
      rintro e Z1 ⟨rfl, bz1⟩
      have HSZ1 : (fun x' : World => Below W2.heap.size W2 x') Z1 := HSW0.trans (bz1.mono HSW0.size)
      go_simp
      refine hK.out _ _ (fun _ => HSZ1) (fun _ => ?_)
      clear hK K HSW0
      refine last_takeF (i := 16) (v := ?v16k120) rfl (by kernel_rfl) (by kernel_rfl) (by kernel_rfl) (by kernel_rfl) rfl (fun _ _ _ h => h) (by rfl) HSZ1 ?hy16k120 ?rest16k120
      case hy16k120 =>
        intro xx hSx
        have f0 := cellB hSx m0
        have f1 := cellB hSx m1
        have f2 := cellB hSx m2
        have f3 := cellB hSx m3
        have f4 := cellB hSx m4
        have f5 := cellB hSx m5
        have f6 := cellB hSx m6
        have f7 := cellB hSx m7
        have f8 := cellB hSx m8
        have f10 := cellB hSx m10
        have f3j := cellB hSx n3
        go_simp
        try (with_reducible rfl)
      simp only [Act.put, List.setIfInBounds_toArray, List.set_cons_zero, List.set_cons_succ]
      try rw [hw]
      refine last_takeF (i := 17) (v := ?v17k121) rfl (by kernel_rfl) (by kernel_rfl) (by kernel_rfl) (by kernel_rfl) rfl (fun _ _ _ h => h) (by rfl) HSZ1 ?hy17k121 ?rest17k121
      case hy17k121 =>
        intro xx hSx
        have f0 := cellB hSx m0
        have f1 := cellB hSx m1
        have f2 := cellB hSx m2
        have f3 := cellB hSx m3
        have f4 := cellB hSx m4
        have f5 := cellB hSx m5
        have f6 := cellB hSx m6
        have f7 := cellB hSx m7
        have f8 := cellB hSx m8
        have f10 := cellB hSx m10
        have f3j := cellB hSx n3
        go_simp
        try (with_reducible rfl)
      simp only [Act.put, List.setIfInBounds_toArray, List.set_cons_zero, List.set_cons_succ]
      try rw [e3]
      refine last_takeF (i := 18) (v := ?v18k122) rfl (by kernel_rfl) (by kernel_rfl) (by kernel_rfl) (by kernel_rfl) rfl (fun _ _ _ h => h) (by rfl) HSZ1 ?hy18k122 ?rest18k122
      case hy18k122 =>
        intro xx hSx
        have f0 := cellB hSx m0
        have f1 := cellB hSx m1
        have f2 := cellB hSx m2
        have f3 := cellB hSx m3
        have f4 := cellB hSx m4
        have f5 := cellB hSx m5
        have f6 := cellB hSx m6
        have f7 := cellB hSx m7
        have f8 := cellB hSx m8
        have f10 := cellB hSx m10
        have f3j := cellB hSx n3
        go_simp
        try (with_reducible rfl)
      simp only [Act.put, List.setIfInBounds_toArray, List.set_cons_zero, List.set_cons_succ]
      refine last_takeF (i := 19) (v := ?v19k123) rfl (by kernel_rfl) (by kernel_rfl) (by kernel_rfl) (by kernel_rfl) rfl (fun _ _ _ h => h) (by rfl) HSZ1 ?hy19k123 ?rest19k123
      case hy19k123 =>
        intro xx hSx
        have f0 := cellB hSx m0
        have f1 := cellB hSx m1
        have f2 := cellB hSx m2
        have f3 := cellB hSx m3
        have f4 := cellB hSx m4
        have f5 := cellB hSx m5
        have f6 := cellB hSx m6
        have f7 := cellB hSx m7
        have f8 := cellB hSx m8
        have f10 := cellB hSx m10
        have f3j := cellB hSx n3
        go_simp
        try (with_reducible rfl)
      simp only [Act.put, List.setIfInBounds_toArray, List.set_cons_zero, List.set_cons_succ]
      refine last_takeF (i := 20) (v := ?v20k124) rfl (by kernel_rfl) (by kernel_rfl) (by kernel_rfl) (by kernel_rfl) rfl (fun _ _ _ h => h) (by rfl) HSZ1 ?hy20k124 ?rest20k124
      case hy20k124 =>
        intro xx hSx
        have f0 := cellB hSx m0
        have f1 := cellB hSx m1
        have f2 := cellB hSx m2
        have f3 := cellB hSx m3
        have f4 := cellB hSx m4
        have f5 := cellB hSx m5
        have f6 := cellB hSx m6
        have f7 := cellB hSx m7
        have f8 := cellB hSx m8
        have f10 := cellB hSx m10
        have f3j := cellB hSx n3
        go_simp
        try (with_reducible rfl)
      simp only [Act.put, List.setIfInBounds_toArray, List.set_cons_zero, List.set_cons_succ]
      refine last_takeF (i := 21) (v := ?v21k125) rfl (by kernel_rfl) (by kernel_rfl) (by kernel_rfl) (by kernel_rfl) rfl (fun _ _ _ h => h) (by rfl) HSZ1 ?hy21k125 ?rest21k125
      case hy21k125 =>
        intro xx hSx
        have f0 := cellB hSx m0
        have f1 := cellB hSx m1
        have f2 := cellB hSx m2
        have f3 := cellB hSx m3
        have f4 := cellB hSx m4
        have f5 := cellB hSx m5
        have f6 := cellB hSx m6
        have f7 := cellB hSx m7
        have f8 := cellB hSx m8
        have f10 := cellB hSx m10
        have f3j := cellB hSx n3
        go_simp
        try (with_reducible rfl)
      simp only [Act.put, List.setIfInBounds_toArray, List.set_cons_zero, List.set_cons_succ]
      try rw [e4]
      refine last_takeF (i := 22) (v := ?v22k126) rfl (by kernel_rfl) (by kernel_rfl) (by kernel_rfl) (by kernel_rfl) rfl (fun _ _ _ h => h) (by rfl) HSZ1 ?hy22k126 ?rest22k126
      case hy22k126 =>
        intro xx hSx
        have f0 := cellB hSx m0
        have f1 := cellB hSx m1
        have f2 := cellB hSx m2
        have f3 := cellB hSx m3
        have f4 := cellB hSx m4
        have f5 := cellB hSx m5
        have f6 := cellB hSx m6
        have f7 := cellB hSx m7
        have f8 := cellB hSx m8
        have f10 := cellB hSx m10
        have f3j := cellB hSx n3
        go_simp
        try (with_reducible rfl)
      simp only [Act.put, List.setIfInBounds_toArray, List.set_cons_zero, List.set_cons_succ]
      refine last_skipF (i := 23) rfl (by kernel_rfl) (by kernel_rfl) (by kernel_rfl) (by kernel_rfl) rfl (fun _ _ _ h => h) (by rfl) HSZ1 ?_
      simp only [Act.put, List.setIfInBounds_toArray, List.set_cons_zero, List.set_cons_succ]
      refine last_skipF (i := 24) rfl (by kernel_rfl) (by kernel_rfl) (by kernel_rfl) (by kernel_rfl) rfl (fun _ _ _ h => h) (by rfl) HSZ1 ?_
      simp only [Act.put, List.setIfInBounds_toArray, List.set_cons_zero, List.set_cons_succ]
      refine last_skipF (i := 25) rfl (by kernel_rfl) (by kernel_rfl) (by kernel_rfl) (by kernel_rfl) rfl (fun _ _ _ h => h) (by rfl) HSZ1 ?_
      simp only [Act.put, List.setIfInBounds_toArray, List.set_cons_zero, List.set_cons_succ]
      refine last_skipF (i := 26) rfl (by kernel_rfl) (by kernel_rfl) (by kernel_rfl) (by kernel_rfl) rfl (fun _ _ _ h => h) (by rfl) HSZ1 ?_
      simp only [Act.put, List.setIfInBounds_toArray, List.set_cons_zero, List.set_cons_succ]
      refine last_skipF (i := 27) rfl (by kernel_rfl) (by kernel_rfl) (by kernel_rfl) (by kernel_rfl) rfl (fun _ _ _ h => h) (by rfl) HSZ1 ?_
      simp only [Act.put, List.setIfInBounds_toArray, List.set_cons_zero, List.set_cons_succ]
      refine last_skipF (i := 28) rfl (by kernel_rfl) (by kernel_rfl) (by kernel_rfl) (by kernel_rfl) rfl (fun _ _ _ h => h) (by rfl) HSZ1 ?_
      simp only [Act.put, List.setIfInBounds_toArray, List.set_cons_zero, List.set_cons_succ]
      refine last_skipF (i := 29) rfl (by kernel_rfl) (by kernel_rfl) (by kernel_rfl) (by kernel_rfl) rfl (fun _ _ _ h => h) (by rfl) HSZ1 ?_
      simp only [Act.put, List.setIfInBounds_toArray, List.set_cons_zero, List.set_cons_succ]
      refine last_skipF (i := 30) rfl (by kernel_rfl) (by kernel_rfl) (by kernel_rfl) (by kernel_rfl) rfl (fun _ _ _ h => h) (by rfl) HSZ1 ?_
      simp only [Act.put, List.setIfInBounds_toArray, List.set_cons_zero, List.set_cons_succ]
      refine last_skipF (i := 31) rfl (by kernel_rfl) (by kernel_rfl) (by kernel_rfl) (by kernel_rfl) rfl (fun _ _ _ h => h) (by rfl) HSZ1 ?_
      simp only [Act.put, List.setIfInBounds_toArray, List.set_cons_zero, List.set_cons_succ]
      refine last_skipF (i := 32) rfl (by kernel_rfl) (by kernel_rfl) (by kernel_rfl) (by kernel_rfl) rfl (fun _ _ _ h => h) (by rfl) HSZ1 ?_
      simp only [Act.put, List.setIfInBounds_toArray, List.set_cons_zero, List.set_cons_succ]
      refine last_takeF (i := 33) (v := ?v33k137) rfl (by kernel_rfl) (by kernel_rfl) (by kernel_rfl) (by kernel_rfl) rfl (fun _ _ _ h => h) (by rfl) HSZ1 ?hy33k137 ?rest33k137
      case hy33k137 =>
        intro xx hSx
        have f0 := cellB hSx m0
        have f1 := cellB hSx m1
        have f2 := cellB hSx m2
        have f3 := cellB hSx m3
        have f4 := cellB hSx m4
        have f5 := cellB hSx m5
        have f6 := cellB hSx m6
        have f7 := cellB hSx m7
        have f8 := cellB hSx m8
        have f10 := cellB hSx m10
        have f3j := cellB hSx n3
        go_simp
        try (with_reducible rfl)
      simp only [Act.put, List.setIfInBounds_toArray, List.set_cons_zero, List.set_cons_succ]
      refine last_takeF (i := 34) (v := ?v34k138) rfl (by kernel_rfl) (by kernel_rfl) (by kernel_rfl) (by kernel_rfl) rfl (fun _ _ _ h => h) (by rfl) HSZ1 ?hy34k138 ?rest34k138
      case hy34k138 =>
        intro xx hSx
        have f0 := cellB hSx m0
        have f1 := cellB hSx m1
        have f2 := cellB hSx m2
        have f3 := cellB hSx m3
        have f4 := cellB hSx m4
        have f5 := cellB hSx m5
        have f6 := cellB hSx m6
        have f7 := cellB hSx m7
        have f8 := cellB hSx m8
        have f10 := cellB hSx m10
        have f3j := cellB hSx n3
        go_simp
        try (with_reducible rfl)
      simp only [Act.put, List.setIfInBounds_toArray, List.set_cons_zero, List.set_cons_succ]
      refine last_done (by kernel_rfl) ?_ _
      have HSX : Hid (Below W2.heap.size W2 Z1) := HSZ1
      clear HSZ1 bz1
      go_wp2
      go_meet
      exact ⟨by rw [← HHC.out]; (show (Value.bool false = Value.bool (!headC c now P ⟨ac, nd, lm, sb, st, sr, en, xs⟩)); rw [show headC c now P ⟨ac, nd, lm, sb, st, sr, en, xs⟩ = true by unfold headC; have := HP0.out; rw [HBd.out, decide_eq_true (show (0 : Int) ≤ sb by omega), decide_eq_true (show sb ≤ now by omega), decide_eq_true (show sb + B ≤ 1099511627776 by omega), decide_eq_true (show P ≤ sb by omega)]; rfl]; rfl), HSX.out⟩
    · obtain ⟨q, hq⟩ := HGET.out i (by have := HI.out; omega)
      have hPq : q.v.sb = P := (HAH.out i q hq).symm.trans HP.out
      have xq := cellB HB2.out (HPREV.out i q hq)
      rw [hPq] at xq
      clear hPq hq
      have e4 : decide ((0 : Int) < ((i + 1 : Nat) : Int)) = true := decide_eq_true (by omega)
      have e5 : IntKind.i64.wrap (((i + 1 : Nat) : Int) - 1) = (i : Int) := by rw [IntKind.wrap_i64]; have := HI.out; omega
      have e5' : IntKind.i64.wrap (i : Int) = (i : Int) := by rw [IntKind.wrap_i64]; have := HI.out; omega
      have hil : (i : Int) < (N : Int) := by have := HI.out; omega
      have hil0 : (0 : Int) ≤ (i : Int) := by omega
      by_cases z6 : sb < P
      · have e6 : decide (sb < P) = true := decide_eq_true z6
        refine wp_region_last (S := (fun x' : World => Below W2.heap.size W2 x')) (L := 99) (by kernel_rfl) ?_
        have HSW0 : (fun x' : World => Below W2.heap.size W2 x') (W2.drew) := drew_below W2
        refine last_takeF (i := 0) (v := ?v0k139) rfl (by kernel_rfl) (by kernel_rfl) (by kernel_rfl) (by kernel_rfl) rfl (fun _ _ _ h => h) (by rfl) HSW0 ?hy0k139 ?rest0k139
        case hy0k139 =>
          intro xx hSx
          have f0 := cellB hSx m0
          have f1 := cellB hSx m1
          have f2 := cellB hSx m2
          have f3 := cellB hSx m3
          have f4 := cellB hSx m4
          have f5 := cellB hSx m5
          have f6 := cellB hSx m6
          have f7 := cellB hSx m7
          have f8 := cellB hSx m8
          have f10 := cellB hSx m10
          have f3j := cellB hSx n3
          have fxq := cellB hSx xq
          go_simp
          try (with_reducible rfl)
        simp only [Act.put, List.setIfInBounds_toArray, List.set_cons_zero, List.set_cons_succ]
        refine last_takeF (i := 1) (v := ?v1k140) rfl (by kernel_rfl) (by kernel_rfl) (by kernel_rfl) (by kernel_rfl) rfl (fun _ _ _ h => h) (by rfl) HSW0 ?hy1k140 ?rest1k140
        case hy1k140 =>
          intro xx hSx
          have f0 := cellB hSx m0
          have f1 := cellB hSx m1
          have f2 := cellB hSx m2
          have f3 := cellB hSx m3
          have f4 := cellB hSx m4
          have f5 := cellB hSx m5
          have f6 := cellB hSx m6
          have f7 := cellB hSx m7
          have f8 := cellB hSx m8
          have f10 := cellB hSx m10
          have f3j := cellB hSx n3
          have fxq := cellB hSx xq
          go_simp
          try (with_reducible rfl)
        simp only [Act.put, List.setIfInBounds_toArray, List.set_cons_zero, List.set_cons_succ]
        refine last_takeF (i := 2) (v := ?v2k141) rfl (by kernel_rfl) (by kernel_rfl) (by kernel_rfl) (by kernel_rfl) rfl (fun _ _ _ h => h) (by rfl) HSW0 ?hy2k141 ?rest2k141
        case hy2k141 =>
          intro xx hSx
          have f0 := cellB hSx m0
          have f1 := cellB hSx m1
          have f2 := cellB hSx m2
          have f3 := cellB hSx m3
          have f4 := cellB hSx m4
          have f5 := cellB hSx m5
          have f6 := cellB hSx m6
          have f7 := cellB hSx m7
          have f8 := cellB hSx m8
          have f10 := cellB hSx m10
          have f3j := cellB hSx n3
          have fxq := cellB hSx xq
          go_simp
          try (with_reducible rfl)
        simp only [Act.put, List.setIfInBounds_toArray, List.set_cons_zero, List.set_cons_succ]
        try rw [e1]
        refine last_takeF (i := 3) (v := ?v3k142) rfl (by kernel_rfl) (by kernel_rfl) (by kernel_rfl) (by kernel_rfl) rfl (fun _ _ _ h => h) (by rfl) HSW0 ?hy3k142 ?rest3k142
        case hy3k142 =>
          intro xx hSx
          have f0 := cellB hSx m0
          have f1 := cellB hSx m1
          have f2 := cellB hSx m2
          have f3 := cellB hSx m3
          have f4 := cellB hSx m4
          have f5 := cellB hSx m5
          have f6 := cellB hSx m6
          have f7 := cellB hSx m7
          have f8 := cellB hSx m8
          have f10 := cellB hSx m10
          have f3j := cellB hSx n3
          have fxq := cellB hSx xq
          go_simp
          try (with_reducible rfl)
        simp only [Act.put, List.setIfInBounds_toArray, List.set_cons_zero, List.set_cons_succ]
        refine last_takeF (i := 4) (v := ?v4k143) rfl (by kernel_rfl) (by kernel_rfl) (by kernel_rfl) (by kernel_rfl) rfl (fun _ _ _ h => h) (by rfl) HSW0 ?hy4k143 ?rest4k143
        case hy4k143 =>
          intro xx hSx
          have f0 := cellB hSx m0
          have f1 := cellB hSx m1
          have f2 := cellB hSx m2
          have f3 := cellB hSx m3
          have f4 := cellB hSx m4
          have f5 := cellB hSx m5
          have f6 := cellB hSx m6
          have f7 := cellB hSx m7
          have f8 := cellB hSx m8
          have f10 := cellB hSx m10
          have f3j := cellB hSx n3
          have fxq := cellB hSx xq
          go_simp
          try (with_reducible rfl)
        simp only [Act.put, List.setIfInBounds_toArray, List.set_cons_zero, List.set_cons_succ]
        refine last_takeF (i := 5) (v := ?v5k144) rfl (by kernel_rfl) (by kernel_rfl) (by kernel_rfl) (by kernel_rfl) rfl (fun _ _ _ h => h) (by rfl) HSW0 ?hy5k144 ?rest5k144
        case hy5k144 =>
          intro xx hSx
          have f0 := cellB hSx m0
          have f1 := cellB hSx m1
          have f2 := cellB hSx m2
          have f3 := cellB hSx m3
          have f4 := cellB hSx m4
          have f5 := cellB hSx m5
          have f6 := cellB hSx m6
          have f7 := cellB hSx m7
          have f8 := cellB hSx m8
          have f10 := cellB hSx m10
          have f3j := cellB hSx n3
          have fxq := cellB hSx xq
          go_simp
          try (with_reducible rfl)
        simp only [Act.put, List.setIfInBounds_toArray, List.set_cons_zero, List.set_cons_succ]
        refine last_takeF (i := 6) (v := ?v6k145) rfl (by kernel_rfl) (by kernel_rfl) (by kernel_rfl) (by kernel_rfl) rfl (fun _ _ _ h => h) (by rfl) HSW0 ?hy6k145 ?rest6k145
        case hy6k145 =>
          intro xx hSx
          have f0 := cellB hSx m0
          have f1 := cellB hSx m1
          have f2 := cellB hSx m2
          have f3 := cellB hSx m3
          have f4 := cellB hSx m4
          have f5 := cellB hSx m5
          have f6 := cellB hSx m6
          have f7 := cellB hSx m7
          have f8 := cellB hSx m8
          have f10 := cellB hSx m10
          have f3j := cellB hSx n3
          have fxq := cellB hSx xq
          go_simp
          try (with_reducible rfl)
        simp only [Act.put, List.setIfInBounds_toArray, List.set_cons_zero, List.set_cons_succ]
        refine last_takeF (i := 7) (v := ?v7k146) rfl (by kernel_rfl) (by kernel_rfl) (by kernel_rfl) (by kernel_rfl) rfl (fun _ _ _ h => h) (by rfl) HSW0 ?hy7k146 ?rest7k146
        case hy7k146 =>
          intro xx hSx
          have f0 := cellB hSx m0
          have f1 := cellB hSx m1
          have f2 := cellB hSx m2
          have f3 := cellB hSx m3
          have f4 := cellB hSx m4
          have f5 := cellB hSx m5
          have f6 := cellB hSx m6
          have f7 := cellB hSx m7
          have f8 := cellB hSx m8
          have f10 := cellB hSx m10
          have f3j := cellB hSx n3
          have fxq := cellB hSx xq
          go_simp
          try (with_reducible rfl)
        simp only [Act.put, List.setIfInBounds_toArray, List.set_cons_zero, List.set_cons_succ]
        refine last_takeF (i := 8) (v := ?v8k147) rfl (by kernel_rfl) (by kernel_rfl) (by kernel_rfl) (by kernel_rfl) rfl (fun _ _ _ h => h) (by rfl) HSW0 ?hy8k147 ?rest8k147
        case hy8k147 =>
          intro xx hSx
          have f0 := cellB hSx m0
          have f1 := cellB hSx m1
          have f2 := cellB hSx m2
          have f3 := cellB hSx m3
          have f4 := cellB hSx m4
          have f5 := cellB hSx m5
          have f6 := cellB hSx m6
          have f7 := cellB hSx m7
          have f8 := cellB hSx m8
          have f10 := cellB hSx m10
          have f3j := cellB hSx n3
          have fxq := cellB hSx xq
          go_simp
          try (with_reducible rfl)
        simp only [Act.put, List.setIfInBounds_toArray, List.set_cons_zero, List.set_cons_succ]
        try rw [e2]
        refine last_takeF (i := 9) (v := ?v9k148) rfl (by kernel_rfl) (by kernel_rfl) (by kernel_rfl) (by kernel_rfl) rfl (fun _ _ _ h => h) (by rfl) HSW0 ?hy9k148 ?rest9k148
        case hy9k148 =>
          intro xx hSx
          have f0 := cellB hSx m0
          have f1 := cellB hSx m1
          have f2 := cellB hSx m2
          have f3 := cellB hSx m3
          have f4 := cellB hSx m4
          have f5 := cellB hSx m5
          have f6 := cellB hSx m6
          have f7 := cellB hSx m7
          have f8 := cellB hSx m8
          have f10 := cellB hSx m10
          have f3j := cellB hSx n3
          have fxq := cellB hSx xq
          go_simp
          try (with_reducible rfl)
        simp only [Act.put, List.setIfInBounds_toArray, List.set_cons_zero, List.set_cons_succ]
        refine last_takeF (i := 10) (v := ?v10k149) rfl (by kernel_rfl) (by kernel_rfl) (by kernel_rfl) (by kernel_rfl) rfl (fun _ _ _ h => h) (by rfl) HSW0 ?hy10k149 ?rest10k149
        case hy10k149 =>
          intro xx hSx
          have f0 := cellB hSx m0
          have f1 := cellB hSx m1
          have f2 := cellB hSx m2
          have f3 := cellB hSx m3
          have f4 := cellB hSx m4
          have f5 := cellB hSx m5
          have f6 := cellB hSx m6
          have f7 := cellB hSx m7
          have f8 := cellB hSx m8
          have f10 := cellB hSx m10
          have f3j := cellB hSx n3
          have fxq := cellB hSx xq
          go_simp
          try (with_reducible rfl)
        simp only [Act.put, List.setIfInBounds_toArray, List.set_cons_zero, List.set_cons_succ]
        refine last_takeF (i := 11) (v := ?v11k150) rfl (by kernel_rfl) (by kernel_rfl) (by kernel_rfl) (by kernel_rfl) rfl (fun _ _ _ h => h) (by rfl) HSW0 ?hy11k150 ?rest11k150
        case hy11k150 =>
          intro xx hSx
          have f0 := cellB hSx m0
          have f1 := cellB hSx m1
          have f2 := cellB hSx m2
          have f3 := cellB hSx m3
          have f4 := cellB hSx m4
          have f5 := cellB hSx m5
          have f6 := cellB hSx m6
          have f7 := cellB hSx m7
          have f8 := cellB hSx m8
          have f10 := cellB hSx m10
          have f3j := cellB hSx n3
          have fxq := cellB hSx xq
          go_simp
          try (with_reducible rfl)
        simp only [Act.put, List.setIfInBounds_toArray, List.set_cons_zero, List.set_cons_succ]
        refine last_takeF (i := 12) (v := ?v12k151) rfl (by kernel_rfl) (by kernel_rfl) (by kernel_rfl) (by kernel_rfl) rfl (fun _ _ _ h => h) (by rfl) HSW0 ?hy12k151 ?rest12k151
        case hy12k151 =>
          intro xx hSx
          have f0 := cellB hSx m0
          have f1 := cellB hSx m1
          have f2 := cellB hSx m2
          have f3 := cellB hSx m3
          have f4 := cellB hSx m4
          have f5 := cellB hSx m5
          have f6 := cellB hSx m6
          have f7 := cellB hSx m7
          have f8 := cellB hSx m8
          have f10 := cellB hSx m10
          have f3j := cellB hSx n3
          have fxq := cellB hSx xq
          go_simp
          try (with_reducible rfl)
        simp only [Act.put, List.setIfInBounds_toArray, List.set_cons_zero, List.set_cons_succ]
        refine last_takeF (i := 13) (v := ?v13k152) rfl (by kernel_rfl) (by kernel_rfl) (by kernel_rfl) (by kernel_rfl) rfl (fun _ _ _ h => h) (by rfl) HSW0 ?hy13k152 ?rest13k152
        case hy13k152 =>
          intro xx hSx
          have f0 := cellB hSx m0
          have f1 := cellB hSx m1
          have f2 := cellB hSx m2
          have f3 := cellB hSx m3
          have f4 := cellB hSx m4
          have f5 := cellB hSx m5
          have f6 := cellB hSx m6
          have f7 := cellB hSx m7
          have f8 := cellB hSx m8
          have f10 := cellB hSx m10
          have f3j := cellB hSx n3
          have fxq := cellB hSx xq
          go_simp
          try (with_reducible rfl)
        simp only [Act.put, List.setIfInBounds_toArray, List.set_cons_zero, List.set_cons_succ]
        refine last_takeF (i := 14) (v := ?v14k153) rfl (by kernel_rfl) (by kernel_rfl) (by kernel_rfl) (by kernel_rfl) rfl (fun _ _ _ h => h) (by rfl) HSW0 ?hy14k153 ?rest14k153
        case hy14k153 =>
          intro xx hSx
          have f0 := cellB hSx m0
          have f1 := cellB hSx m1
          have f2 := cellB hSx m2
          have f3 := cellB hSx m3
          have f4 := cellB hSx m4
          have f5 := cellB hSx m5
          have f6 := cellB hSx m6
          have f7 := cellB hSx m7
          have f8 := cellB hSx m8
          have f10 := cellB hSx m10
          have f3j := cellB hSx n3
          have fxq := cellB hSx xq
          go_simp
          try (with_reducible rfl)
        simp only [Act.put, List.setIfInBounds_toArray, List.set_cons_zero, List.set_cons_succ]
        refine last_one (i := 15) (by kernel_rfl) rfl ?_
        intro K hK
        go_simp
        go_at_call 48
        refine (cB _).mono ?_
        rintro e Z1 ⟨rfl, bz1⟩
        have HSZ1 : (fun x' : World => Below W2.heap.size W2 x') Z1 := HSW0.trans (bz1.mono HSW0.size)
        go_simp
        refine hK.out _ _ (fun _ => HSZ1) (fun _ => ?_)
        clear hK K HSW0
        refine last_takeF (i := 16) (v := ?v16k154) rfl (by kernel_rfl) (by kernel_rfl) (by kernel_rfl) (by kernel_rfl) rfl (fun _ _ _ h => h) (by rfl) HSZ1 ?hy16k154 ?rest16k154
        case hy16k154 =>
          intro xx hSx
          have f0 := cellB hSx m0
          have f1 := cellB hSx m1
          have f2 := cellB hSx m2
          have f3 := cellB hSx m3
          have f4 := cellB hSx m4
          have f5 := cellB hSx m5
          have f6 := cellB hSx m6
          have f7 := cellB hSx m7
          have f8 := cellB hSx m8
          have f10 := cellB hSx m10
          have f3j := cellB hSx n3
          have fxq := cellB hSx xq
          go_simp
          try (with_reducible rfl)
        simp only [Act.put, List.setIfInBounds_toArray, List.set_cons_zero, List.set_cons_succ]
        try rw [hw]
        refine last_takeF (i := 17) (v := ?v17k155) rfl (by kernel_rfl) (by kernel_rfl) (by kernel_rfl) (by kernel_rfl) rfl (fun _ _ _ h => h) (by rfl) HSZ1 ?hy17k155 ?rest17k155
        case hy17k155 =>
          intro xx hSx
          have f0 := cellB hSx m0
          have f1 := cellB hSx m1
          have f2 := cellB hSx m2
          have f3 := cellB hSx m3
          have f4 := cellB hSx m4
          have f5 := cellB hSx m5
          have f6 := cellB hSx m6
          have f7 := cellB hSx m7
          have f8 := cellB hSx m8
          have f10 := cellB hSx m10
          have f3j := cellB hSx n3
          have fxq := cellB hSx xq
          go_simp
          try (with_reducible rfl)
        simp only [Act.put, List.setIfInBounds_toArray, List.set_cons_zero, List.set_cons_succ]
        try rw [e3]
        refine last_takeF (i := 18) (v := ?v18k156) rfl (by kernel_rfl) (by kernel_rfl) (by kernel_rfl) (by kernel_rfl) rfl (fun _ _ _ h => h) (by rfl) HSZ1 ?hy18k156 ?rest18k156
        case hy18k156 =>
          intro xx hSx
          have f0 := cellB hSx m0
          have f1 := cellB hSx m1
          have f2 := cellB hSx m2
          have f3 := cellB hSx m3
          have f4 := cellB hSx m4
          have f5 := cellB hSx m5
          have f6 := cellB hSx m6
          have f7 := cellB hSx m7
          have f8 := cellB hSx m8
          have f10 := cellB hSx m10
          have f3j := cellB hSx n3
          have fxq := cellB hSx xq
          go_simp
          try (with_reducible rfl)
        simp only [Act.put, List.setIfInBounds_toArray, List.set_cons_zero, List.set_cons_succ]
        refine last_takeF (i := 19) (v := ?v19k157) rfl (by kernel_rfl) (by kernel_rfl) (by kernel_rfl) (by kernel_rfl) rfl (fun _ _ _ h => h) (by rfl) HSZ1 ?hy19k157 ?rest19k157
        case hy19k157 =>
          intro xx hSx
          have f0 := cellB hSx m0
          have f1 := cellB hSx m1
          have f2 := cellB hSx m2
          have f3 := cellB hSx m3
          have f4 := cellB hSx m4
          have f5 := cellB hSx m5
          have f6 := cellB hSx m6
          have f7 := cellB hSx m7
          have f8 := cellB hSx m8
          have f10 := cellB hSx m10
          have f3j := cellB hSx n3
          have fxq := cellB hSx xq
          go_simp
          try (with_reducible rfl)
        simp only [Act.put, List.setIfInBounds_toArray, List.set_cons_zero, List.set_cons_succ]
        refine last_takeF (i := 20) (v := ?v20k158) rfl (by kernel_rfl) (by kernel_rfl) (by kernel_rfl) (by kernel_rfl) rfl (fun _ _ _ h => h) (by rfl) HSZ1 ?hy20k158 ?rest20k158
        case hy20k158 =>
          intro xx hSx
          have f0 := cellB hSx m0
          have f1 := cellB hSx m1
          have f2 := cellB hSx m2
          have f3 := cellB hSx m3
          have f4 := cellB hSx m4
          have f5 := cellB hSx m5
          have f6 := cellB hSx m6
          have f7 := cellB hSx m7
          have f8 := cellB hSx m8
          have f10 := cellB hSx m10
          have f3j := cellB hSx n3
          have fxq := cellB hSx xq
          go_simp
          try (with_reducible rfl)
        simp only [Act.put, List.setIfInBounds_toArray, List.set_cons_zero, List.set_cons_succ]
        refine last_takeF (i := 21) (v := ?v21k159) rfl (by kernel_rfl) (by kernel_rfl) (by kernel_rfl) (by kernel_rfl) rfl (fun _ _ _ h => h) (by rfl) HSZ1 ?hy21k159 ?rest21k159
        case hy21k159 =>
          intro xx hSx
          have f0 := cellB hSx m0
          have f1 := cellB hSx m1
          have f2 := cellB hSx m2
          have f3 := cellB hSx m3
          have f4 := cellB hSx m4
          have f5 := cellB hSx m5
          have f6 := cellB hSx m6
          have f7 := cellB hSx m7
          have f8 := cellB hSx m8
          have f10 := cellB hSx m10
          have f3j := cellB hSx n3
          have fxq := cellB hSx xq
          go_simp
          try (with_reducible rfl)
        simp only [Act.put, List.setIfInBounds_toArray, List.set_cons_zero, List.set_cons_succ]
        try rw [e4]
        refine last_takeF (i := 22) (v := ?v22k160) rfl (by kernel_rfl) (by kernel_rfl) (by kernel_rfl) (by kernel_rfl) rfl (fun _ _ _ h => h) (by rfl) HSZ1 ?hy22k160 ?rest22k160
        case hy22k160 =>
          intro xx hSx
          have f0 := cellB hSx m0
          have f1 := cellB hSx m1
          have f2 := cellB hSx m2
          have f3 := cellB hSx m3
          have f4 := cellB hSx m4
          have f5 := cellB hSx m5
          have f6 := cellB hSx m6
          have f7 := cellB hSx m7
          have f8 := cellB hSx m8
          have f10 := cellB hSx m10
          have f3j := cellB hSx n3
          have fxq := cellB hSx xq
          go_simp
          try (with_reducible rfl)
        simp only [Act.put, List.setIfInBounds_toArray, List.set_cons_zero, List.set_cons_succ]
        refine last_takeF (i := 23) (v := ?v23k161) rfl (by kernel_rfl) (by kernel_rfl) (by kernel_rfl) (by kernel_rfl) rfl (fun _ _ _ h => h) (by rfl) HSZ1 ?hy23k161 ?rest23k161
        case hy23k161 =>
          intro xx hSx
          have f0 := cellB hSx m0
          have f1 := cellB hSx m1
          have f2 := cellB hSx m2
          have f3 := cellB hSx m3
          have f4 := cellB hSx m4
          have f5 := cellB hSx m5
          have f6 := cellB hSx m6
          have f7 := cellB hSx m7
          have f8 := cellB hSx m8
          have f10 := cellB hSx m10
          have f3j := cellB hSx n3
          have fxq := cellB hSx xq
          go_simp
          try (with_reducible rfl)
        simp only [Act.put, List.setIfInBounds_toArray, List.set_cons_zero, List.set_cons_succ]
        refine last_takeF (i := 24) (v := ?v24k162) rfl (by kernel_rfl) (by kernel_rfl) (by kernel_rfl) (by kernel_rfl) rfl (fun _ _ _ h => h) (by rfl) HSZ1 ?hy24k162 ?rest24k162
        case hy24k162 =>
          intro xx hSx
          have f0 := cellB hSx m0
          have f1 := cellB hSx m1
          have f2 := cellB hSx m2
          have f3 := cellB hSx m3
          have f4 := cellB hSx m4
          have f5 := cellB hSx m5
          have f6 := cellB hSx m6
          have f7 := cellB hSx m7
          have f8 := cellB hSx m8
          have f10 := cellB hSx m10
          have f3j := cellB hSx n3
          have fxq := cellB hSx xq
          go_simp
          try (with_reducible rfl)
        simp only [Act.put, List.setIfInBounds_toArray, List.set_cons_zero, List.set_cons_succ]
        refine last_takeF (i := 25) (v := ?v25k163) rfl (by kernel_rfl) (by kernel_rfl) (by kernel_rfl) (by kernel_rfl) rfl (fun _ _ _ h => h) (by rfl) HSZ1 ?hy25k163 ?rest25k163
        case hy25k163 =>
          intro xx hSx
          have f0 := cellB hSx m0
          have f1 := cellB hSx m1
          have f2 := cellB hSx m2
          have f3 := cellB hSx m3
          have f4 := cellB hSx m4
          have f5 := cellB hSx m5
          have f6 := cellB hSx m6
          have f7 := cellB hSx m7
          have f8 := cellB hSx m8
          have f10 := cellB hSx m10
          have f3j := cellB hSx n3
          have fxq := cellB hSx xq
          go_simp
          try (with_reducible rfl)
        simp only [Act.put, List.setIfInBounds_toArray, List.set_cons_zero, List.set_cons_succ]
        refine last_takeF (i := 26) (v := ?v26k164) rfl (by kernel_rfl) (by kernel_rfl) (by kernel_rfl) (by kernel_rfl) rfl (fun _ _ _ h => h) (by rfl) HSZ1 ?hy26k164 ?rest26k164
        case hy26k164 =>
          intro xx hSx
          have f0 := cellB hSx m0
          have f1 := cellB hSx m1
          have f2 := cellB hSx m2
          have f3 := cellB hSx m3
          have f4 := cellB hSx m4
          have f5 := cellB hSx m5
          have f6 := cellB hSx m6
          have f7 := cellB hSx m7
          have f8 := cellB hSx m8
          have f10 := cellB hSx m10
          have f3j := cellB hSx n3
          have fxq := cellB hSx xq
          go_simp
          try (with_reducible rfl)
        simp only [Act.put, List.setIfInBounds_toArray, List.set_cons_zero, List.set_cons_succ]
        refine last_takeF (i := 27) (v := ?v27k165) rfl (by kernel_rfl) (by kernel_rfl) (by kernel_rfl) (by kernel_rfl) rfl (fun _ _ _ h => h) (by rfl) HSZ1 ?hy27k165 ?rest27k165
        case hy27k165 =>
          intro xx hSx
          have f0 := cellB hSx m0
          have f1 := cellB hSx m1
          have f2 := cellB hSx m2
          have f3 := cellB hSx m3
          have f4 := cellB hSx m4
          have f5 := cellB hSx m5
          have f6 := cellB hSx m6
          have f7 := cellB hSx m7
          have f8 := cellB hSx m8
          have f10 := cellB hSx m10
          have f3j := cellB hSx n3
          have fxq := cellB hSx xq
          go_simp
          try (with_reducible rfl)
        simp only [Act.put, List.setIfInBounds_toArray, List.set_cons_zero, List.set_cons_succ]
        refine last_takeF (i := 28) (v := ?v28k166) rfl (by kernel_rfl) (by kernel_rfl) (by kernel_rfl) (by kernel_rfl) rfl (fun _ _ _ h => h) (by rfl) HSZ1 ?hy28k166 ?rest28k166
        case hy28k166 =>
          intro xx hSx
          have f0 := cellB hSx m0
          have f1 := cellB hSx m1
          have f2 := cellB hSx m2
          have f3 := cellB hSx m3
          have f4 := cellB hSx m4
          have f5 := cellB hSx m5
          have f6 := cellB hSx m6
          have f7 := cellB hSx m7
          have f8 := cellB hSx m8
          have f10 := cellB hSx m10
          have f3j := cellB hSx n3
          have fxq := cellB hSx xq
          go_simp
          try (with_reducible rfl)
        simp only [Act.put, List.setIfInBounds_toArray, List.set_cons_zero, List.set_cons_succ]
        try rw [e5]
        refine last_takeF (i := 29) (v := ?v29k167) rfl (by kernel_rfl) (by kernel_rfl) (by kernel_rfl) (by kernel_rfl) rfl (fun _ _ _ h => h) (by rfl) HSZ1 ?hy29k167 ?rest29k167
        case hy29k167 =>
          intro xx hSx
          have f0 := cellB hSx m0
          have f1 := cellB hSx m1
          have f2 := cellB hSx m2
          have f3 := cellB hSx m3
          have f4 := cellB hSx m4
          have f5 := cellB hSx m5
          have f6 := cellB hSx m6
          have f7 := cellB hSx m7
          have f8 := cellB hSx m8
          have f10 := cellB hSx m10
          have f3j := cellB hSx n3
          have fxq := cellB hSx xq
          go_simp
          try (with_reducible rfl)
        simp only [Act.put, List.setIfInBounds_toArray, List.set_cons_zero, List.set_cons_succ]
        refine last_takeF (i := 30) (v := ?v30k168) rfl (by kernel_rfl) (by kernel_rfl) (by kernel_rfl) (by kernel_rfl) rfl (fun _ _ _ h => h) (by rfl) HSZ1 ?hy30k168 ?rest30k168
        case hy30k168 =>
          intro xx hSx
          have f0 := cellB hSx m0
          have f1 := cellB hSx m1
          have f2 := cellB hSx m2
          have f3 := cellB hSx m3
          have f4 := cellB hSx m4
          have f5 := cellB hSx m5
          have f6 := cellB hSx m6
          have f7 := cellB hSx m7
          have f8 := cellB hSx m8
          have f10 := cellB hSx m10
          have f3j := cellB hSx n3
          have fxq := cellB hSx xq
          go_simp
          try (with_reducible rfl)
        simp only [Act.put, List.setIfInBounds_toArray, List.set_cons_zero, List.set_cons_succ]
        refine last_takeF (i := 31) (v := ?v31k169) rfl (by kernel_rfl) (by kernel_rfl) (by kernel_rfl) (by kernel_rfl) rfl (fun _ _ _ h => h) (by rfl) HSZ1 ?hy31k169 ?rest31k169
        case hy31k169 =>
          intro xx hSx
          have f0 := cellB hSx m0
          have f1 := cellB hSx m1
          have f2 := cellB hSx m2
          have f3 := cellB hSx m3
          have f4 := cellB hSx m4
          have f5 := cellB hSx m5
          have f6 := cellB hSx m6
          have f7 := cellB hSx m7
          have f8 := cellB hSx m8
          have f10 := cellB hSx m10
          have f3j := cellB hSx n3
          have fxq := cellB hSx xq
          go_simp
          try (with_reducible rfl)
        simp only [Act.put, List.setIfInBounds_toArray, List.set_cons_zero, List.set_cons_succ]
        refine last_takeF (i := 32) (v := ?v32k170) rfl (by kernel_rfl) (by kernel_rfl) (by kernel_rfl) (by kernel_rfl) rfl (fun _ _ _ h => h) (by rfl) HSZ1 ?hy32k170 ?rest32k170
        case hy32k170 =>
          intro xx hSx
          have f0 := cellB hSx m0
          have f1 := cellB hSx m1
          have f2 := cellB hSx m2
          have f3 := cellB hSx m3
          have f4 := cellB hSx m4
          have f5 := cellB hSx m5
          have f6 := cellB hSx m6
          have f7 := cellB hSx m7
          have f8 := cellB hSx m8
          have f10 := cellB hSx m10
          have f3j := cellB hSx n3
          have fxq := cellB hSx xq
          go_simp
          try (with_reducible rfl)
        simp only [Act.put, List.setIfInBounds_toArray, List.set_cons_zero, List.set_cons_succ]
        try rw [e6]
        refine last_takeF (i := 33) (v := ?v33k171) rfl (by kernel_rfl) (by kernel_rfl) (by kernel_rfl) (by kernel_rfl) rfl (fun _ _ _ h => h) (by rfl) HSZ1 ?hy33k171 ?rest33k171
        case hy33k171 =>
          intro xx hSx
          have f0 := cellB hSx m0
          have f1 := cellB hSx m1
          have f2 := cellB hSx m2
          have f3 := cellB hSx m3
          have f4 := cellB hSx m4
          have f5 := cellB hSx m5
          have f6 := cellB hSx m6
          have f7 := cellB hSx m7
          have f8 := cellB hSx m8
          have f10 := cellB hSx m10
          have f3j := cellB hSx n3
          have fxq := cellB hSx xq
          go_simp
          try (with_reducible rfl)
        simp only [Act.put, List.setIfInBounds_toArray, List.set_cons_zero, List.set_cons_succ]
        refine last_takeF (i := 34) (v := ?v34k172) rfl (by kernel_rfl) (by kernel_rfl) (by kernel_rfl) (by kernel_rfl) rfl (fun _ _ _ h => h) (by rfl) HSZ1 ?hy34k172 ?rest34k172
        case hy34k172 =>
          intro xx hSx
          have f0 := cellB hSx m0
          have f1 := cellB hSx m1
          have f2 := cellB hSx m2
          have f3 := cellB hSx m3
          have f4 := cellB hSx m4
          have f5 := cellB hSx m5
          have f6 := cellB hSx m6
          have f7 := cellB hSx m7
          have f8 := cellB hSx m8
          have f10 := cellB hSx m10
          have f3j := cellB hSx n3
          have fxq := cellB hSx xq
          go_simp
          try (with_reducible rfl)
        simp only [Act.put, List.setIfInBounds_toArray, List.set_cons_zero, List.set_cons_succ]
        refine last_done (by kernel_rfl) ?_ _
        have HSX : Hid (Below W2.heap.size W2 Z1) := HSZ1
        clear HSZ1 bz1
        go_wp2
        go_meet
        exact ⟨by rw [← HHC.out]; (show (Value.bool true = Value.bool (!headC c now P ⟨ac, nd, lm, sb, st, sr, en, xs⟩)); rw [show headC c now P ⟨ac, nd, lm, sb, st, sr, en, xs⟩ = false by unfold headC; rw [HBd.out, decide_eq_true (show (0 : Int) ≤ sb by omega), decide_eq_true (show sb ≤ now by omega), decide_eq_true (show sb + B ≤ 1099511627776 by omega), decide_eq_false (show ¬ P ≤ sb by omega)]; rfl]; rfl), HSX.out⟩
      · have e6 : decide (sb < P) = false := decide_eq_false z6
        refine wp_region_last (S := (fun x' : World => Below W2.heap.size W2 x')) (L := 99) (by kernel_rfl) ?_
        have HSW0 : (fun x' : World => Below W2.heap.size W2 x') (W2.drew) := drew_below W2
        refine last_takeF (i := 0) (v := ?v0k173) rfl (by kernel_rfl) (by kernel_rfl) (by kernel_rfl) (by kernel_rfl) rfl (fun _ _ _ h => h) (by rfl) HSW0 ?hy0k173 ?rest0k173
        case hy0k173 =>
          intro xx hSx
          have f0 := cellB hSx m0
          have f1 := cellB hSx m1
          have f2 := cellB hSx m2
          have f3 := cellB hSx m3
          have f4 := cellB hSx m4
          have f5 := cellB hSx m5
          have f6 := cellB hSx m6
          have f7 := cellB hSx m7
          have f8 := cellB hSx m8
          have f10 := cellB hSx m10
          have f3j := cellB hSx n3
          have fxq := cellB hSx xq
          go_simp
          try (with_reducible rfl)
        simp only [Act.put, List.setIfInBounds_toArray, List.set_cons_zero, List.set_cons_succ]
        refine last_takeF (i := 1) (v := ?v1k174) rfl (by kernel_rfl) (by kernel_rfl) (by kernel_rfl) (by kernel_rfl) rfl (fun _ _ _ h => h) (by rfl) HSW0 ?hy1k174 ?rest1k174
        case hy1k174 =>
          intro xx hSx
          have f0 := cellB hSx m0
          have f1 := cellB hSx m1
          have f2 := cellB hSx m2
          have f3 := cellB hSx m3
          have f4 := cellB hSx m4
          have f5 := cellB hSx m5
          have f6 := cellB hSx m6
          have f7 := cellB hSx m7
          have f8 := cellB hSx m8
          have f10 := cellB hSx m10
          have f3j := cellB hSx n3
          have fxq := cellB hSx xq
          go_simp
          try (with_reducible rfl)
        simp only [Act.put, List.setIfInBounds_toArray, List.set_cons_zero, List.set_cons_succ]
        refine last_takeF (i := 2) (v := ?v2k175) rfl (by kernel_rfl) (by kernel_rfl) (by kernel_rfl) (by kernel_rfl) rfl (fun _ _ _ h => h) (by rfl) HSW0 ?hy2k175 ?rest2k175
        case hy2k175 =>
          intro xx hSx
          have f0 := cellB hSx m0
          have f1 := cellB hSx m1
          have f2 := cellB hSx m2
          have f3 := cellB hSx m3
          have f4 := cellB hSx m4
          have f5 := cellB hSx m5
          have f6 := cellB hSx m6
          have f7 := cellB hSx m7
          have f8 := cellB hSx m8
          have f10 := cellB hSx m10
          have f3j := cellB hSx n3
          have fxq := cellB hSx xq
          go_simp
          try (with_reducible rfl)
        simp only [Act.put, List.setIfInBounds_toArray, List.set_cons_zero, List.set_cons_succ]
        try rw [e1]
        refine last_takeF (i := 3) (v := ?v3k176) rfl (by kernel_rfl) (by kernel_rfl) (by kernel_rfl) (by kernel_rfl) rfl (fun _ _ _ h => h) (by rfl) HSW0 ?hy3k176 ?rest3k176
        case hy3k176 =>
          intro xx hSx
          have f0 := cellB hSx m0
          have f1 := cellB hSx m1
          have f2 := cellB hSx m2
          have f3 := cellB hSx m3
          have f4 := cellB hSx m4
          have f5 := cellB hSx m5
          have f6 := cellB hSx m6
          have f7 := cellB hSx m7
          have f8 := cellB hSx m8
          have f10 := cellB hSx m10
          have f3j := cellB hSx n3
          have fxq := cellB hSx xq
          go_simp
          try (with_reducible rfl)
        simp only [Act.put, List.setIfInBounds_toArray, List.set_cons_zero, List.set_cons_succ]
        refine last_takeF (i := 4) (v := ?v4k177) rfl (by kernel_rfl) (by kernel_rfl) (by kernel_rfl) (by kernel_rfl) rfl (fun _ _ _ h => h) (by rfl) HSW0 ?hy4k177 ?rest4k177
        case hy4k177 =>
          intro xx hSx
          have f0 := cellB hSx m0
          have f1 := cellB hSx m1
          have f2 := cellB hSx m2
          have f3 := cellB hSx m3
          have f4 := cellB hSx m4
          have f5 := cellB hSx m5
          have f6 := cellB hSx m6
          have f7 := cellB hSx m7
          have f8 := cellB hSx m8
          have f10 := cellB hSx m10
          have f3j := cellB hSx n3
          have fxq := cellB hSx xq
          go_simp
          try (with_reducible rfl)
        simp only [Act.put, List.setIfInBounds_toArray, List.set_cons_zero, List.set_cons_succ]
        refine last_takeF (i := 5) (v := ?v5k178) rfl (by kernel_rfl) (by kernel_rfl) (by kernel_rfl) (by kernel_rfl) rfl (fun _ _ _ h => h) (by rfl) HSW0 ?hy5k178 ?rest5k178
        case hy5k178 =>
          intro xx hSx
          have f0 := cellB hSx m0
          have f1 := cellB hSx m1
          have f2 := cellB hSx m2
          have f3 := cellB hSx m3
          have f4 := cellB hSx m4
          have f5 := cellB hSx m5
          have f6 := cellB hSx m6
          have f7 := cellB hSx m7
          have f8 := cellB hSx m8
          have f10 := cellB hSx m10
          have f3j := cellB hSx n3
          have fxq := cellB hSx xq
          go_simp
          try (with_reducible rfl)
        simp only [Act.put, List.setIfInBounds_toArray, List.set_cons_zero, List.set_cons_succ]
        refine last_takeF (i := 6) (v := ?v6k179) rfl (by kernel_rfl) (by kernel_rfl) (by kernel_rfl) (by kernel_rfl) rfl (fun _ _ _ h => h) (by rfl) HSW0 ?hy6k179 ?rest6k179
        case hy6k179 =>
          intro xx hSx
          have f0 := cellB hSx m0
          have f1 := cellB hSx m1
          have f2 := cellB hSx m2
          have f3 := cellB hSx m3
          have f4 := cellB hSx m4
          have f5 := cellB hSx m5
          have f6 := cellB hSx m6
          have f7 := cellB hSx m7
          have f8 := cellB hSx m8
          have f10 := cellB hSx m10
          have f3j := cellB hSx n3
          have fxq := cellB hSx xq
          go_simp
          try (with_reducible rfl)
        simp only [Act.put, List.setIfInBounds_toArray, List.set_cons_zero, List.set_cons_succ]
        refine last_takeF (i := 7) (v := ?v7k180) rfl (by kernel_rfl) (by kernel_rfl) (by kernel_rfl) (by kernel_rfl) rfl (fun _ _ _ h => h) (by rfl) HSW0 ?hy7k180 ?rest7k180
        case hy7k180 =>
          intro xx hSx
          have f0 := cellB hSx m0
          have f1 := cellB hSx m1
          have f2 := cellB hSx m2
          have f3 := cellB hSx m3
          have f4 := cellB hSx m4
          have f5 := cellB hSx m5
          have f6 := cellB hSx m6
          have f7 := cellB hSx m7
          have f8 := cellB hSx m8
          have f10 := cellB hSx m10
          have f3j := cellB hSx n3
          have fxq := cellB hSx xq
          go_simp
          try (with_reducible rfl)
        simp only [Act.put, List.setIfInBounds_toArray, List.set_cons_zero, List.set_cons_succ]
        refine last_takeF (i := 8) (v := ?v8k181) rfl (by kernel_rfl) (by kernel_rfl) (by kernel_rfl) (by kernel_rfl) rfl (fun _ _ _ h => h) (by rfl) HSW0 ?hy8k181 ?rest8k181
        case hy8k181 =>
          intro xx hSx
          have f0 := cellB hSx m0
          have f1 := cellB hSx m1
          have f2 := cellB hSx m2
          have f3 := cellB hSx m3
          have f4 := cellB hSx m4
          have f5 := cellB hSx m5
          have f6 := cellB hSx m6
          have f7 := cellB hSx m7
          have f8 := cellB hSx m8
          have f10 := cellB hSx m10
          have f3j := cellB hSx n3
          have fxq := cellB hSx xq
          go_simp
          try (with_reducible rfl)
        simp only [Act.put, List.setIfInBounds_toArray, List.set_cons_zero, List.set_cons_succ]
        try rw [e2]
        refine last_takeF (i := 9) (v := ?v9k182) rfl (by kernel_rfl) (by kernel_rfl) (by kernel_rfl) (by kernel_rfl) rfl (fun _ _ _ h => h) (by rfl) HSW0 ?hy9k182 ?rest9k182
        case hy9k182 =>
          intro xx hSx
          have f0 := cellB hSx m0
          have f1 := cellB hSx m1
          have f2 := cellB hSx m2
          have f3 := cellB hSx m3
          have f4 := cellB hSx m4
          have f5 := cellB hSx m5
          have f6 := cellB hSx m6
          have f7 := cellB hSx m7
          have f8 := cellB hSx m8
          have f10 := cellB hSx m10
          have f3j := cellB hSx n3
          have fxq := cellB hSx xq
          go_simp
          try (with_reducible rfl)
        simp only [Act.put, List.setIfInBounds_toArray, List.set_cons_zero, List.set_cons_succ]
        refine last_takeF (i := 10) (v := ?v10k183) rfl (by kernel_rfl) (by kernel_rfl) (by kernel_rfl) (by kernel_rfl) rfl (fun _ _ _ h => h) (by rfl) HSW0 ?hy10k183 ?rest10k183
        case hy10k183 =>
          intro xx hSx
          have f0 := cellB hSx m0
          have f1 := cellB hSx m1
          have f2 := cellB hSx m2
          have f3 := cellB hSx m3
          have f4 := cellB hSx m4
          have f5 := cellB hSx m5
          have f6 := cellB hSx m6
          have f7 := cellB hSx m7
          have f8 := cellB hSx m8
          have f10 := cellB hSx m10
          have f3j := cellB hSx n3
          have fxq := cellB hSx xq
          go_simp
          try (with_reducible rfl)
        simp only [Act.put, List.setIfInBounds_toArray, List.set_cons_zero, List.set_cons_succ]
        refine last_takeF (i := 11) (v := ?v11k184) rfl (by kernel_rfl) (by kernel_rfl) (by kernel_rfl) (by kernel_rfl) rfl (fun _ _ _ h => h) (by rfl) HSW0 ?hy11k184 ?rest11k184
        case hy11k184 =>
          intro xx hSx
          have f0 := cellB hSx m0
          have f1 := cellB hSx m1
          have f2 := cellB hSx m2
          have f3 := cellB hSx m3
          have f4 := cellB hSx m4
          have f5 := cellB hSx m5
          have f6 := cellB hSx m6
          have f7 := cellB hSx m7
          have f8 := cellB hSx m8
          have f10 := cellB hSx m10
          have f3j := cellB hSx n3
          have fxq := cellB hSx xq
          go_simp
          try (with_reducible rfl)
        simp only [Act.put, List.setIfInBounds_toArray, List.set_cons_zero, List.set_cons_succ]
        refine last_takeF (i := 12) (v := ?v12k185) rfl (by kernel_rfl) (by kernel_rfl) (by kernel_rfl) (by kernel_rfl) rfl (fun _ _ _ h => h) (by rfl) HSW0 ?hy12k185 ?rest12k185
        case hy12k185 =>
          intro xx hSx
          have f0 := cellB hSx m0
          have f1 := cellB hSx m1
          have f2 := cellB hSx m2
          have f3 := cellB hSx m3
          have f4 := cellB hSx m4
          have f5 := cellB hSx m5
          have f6 := cellB hSx m6
          have f7 := cellB hSx m7
          have f8 := cellB hSx m8
          have f10 := cellB hSx m10
          have f3j := cellB hSx n3
          have fxq := cellB hSx xq
          go_simp
          try (with_reducible rfl)
        simp only [Act.put, List.setIfInBounds_toArray, List.set_cons_zero, List.set_cons_succ]
        refine last_takeF (i := 13) (v := ?v13k186) rfl (by kernel_rfl) (by kernel_rfl) (by kernel_rfl) (by kernel_rfl) rfl (fun _ _ _ h => h) (by rfl) HSW0 ?hy13k186 ?rest13k186
        case hy13k186 =>
          intro xx hSx
          have f0 := cellB hSx m0
          have f1 := cellB hSx m1
          have f2 := cellB hSx m2
          have f3 := cellB hSx m3
          have f4 := cellB hSx m4
          have f5 := cellB hSx m5
          have f6 := cellB hSx m6
          have f7 := cellB hSx m7
          have f8 := cellB hSx m8
          have f10 := cellB hSx m10
          have f3j := cellB hSx n3
          have fxq := cellB hSx xq
          go_simp
          try (with_reducible rfl)
        simp only [Act.put, List.setIfInBounds_toArray, List.set_cons_zero, List.set_cons_succ]
        refine last_takeF (i := 14) (v := ?v14k187) rfl (by kernel_rfl) (by kernel_rfl) (by kernel_rfl) (by kernel_rfl) rfl (fun _ _ _ h => h) (by rfl) HSW0 ?hy14k187 ?rest14k187
        case hy14k187 =>
          intro xx hSx
          have f0 := cellB hSx m0
          have f1 := cellB hSx m1
          have f2 := cellB hSx m2
          have f3 := cellB hSx m3
          have f4 := cellB hSx m4
          have f5 := cellB hSx m5
          have f6 := cellB hSx m6
          have f7 := cellB hSx m7
          have f8 := cellB hSx m8
          have f10 := cellB hSx m10
          have f3j := cellB hSx n3
          have fxq := cellB hSx xq
          go_simp
          try (with_reducible rfl)
        simp only [Act.put, List.setIfInBounds_toArray, List.set_cons_zero, List.set_cons_succ]
        refine last_one (i := 15) (by kernel_rfl) rfl ?_
        intro K hK
        go_simp
        go_at_call 48
        refine (cB _).mono ?_
        rintro e Z1 ⟨rfl, bz1⟩
        have HSZ1 : (fun x' : World => Below W2.heap.size W2 x') Z1 := HSW0.trans (bz1.mono HSW0.size)
        go_simp
        refine hK.out _ _ (fun _ => HSZ1) (fun _ => ?_)
        clear hK K HSW0
        refine last_takeF (i := 16) (v := ?v16k188) rfl (by kernel_rfl) (by kernel_rfl) (by kernel_rfl) (by kernel_rfl) rfl (fun _ _ _ h => h) (by rfl) HSZ1 ?hy16k188 ?rest16k188
        case hy16k188 =>
          intro xx hSx
          have f0 := cellB hSx m0
          have f1 := cellB hSx m1
          have f2 := cellB hSx m2
          have f3 := cellB hSx m3
          have f4 := cellB hSx m4
          have f5 := cellB hSx m5
          have f6 := cellB hSx m6
          have f7 := cellB hSx m7
          have f8 := cellB hSx m8
          have f10 := cellB hSx m10
          have f3j := cellB hSx n3
          have fxq := cellB hSx xq
          go_simp
          try (with_reducible rfl)
        simp only [Act.put, List.setIfInBounds_toArray, List.set_cons_zero, List.set_cons_succ]
        try rw [hw]
        refine last_takeF (i := 17) (v := ?v17k189) rfl (by kernel_rfl) (by kernel_rfl) (by kernel_rfl) (by kernel_rfl) rfl (fun _ _ _ h => h) (by rfl) HSZ1 ?hy17k189 ?rest17k189
        case hy17k189 =>
          intro xx hSx
          have f0 := cellB hSx m0
          have f1 := cellB hSx m1
          have f2 := cellB hSx m2
          have f3 := cellB hSx m3
          have f4 := cellB hSx m4
          have f5 := cellB hSx m5
          have f6 := cellB hSx m6
          have f7 := cellB hSx m7
          have f8 := cellB hSx m8
          have f10 := cellB hSx m10
          have f3j := cellB hSx n3
          have fxq := cellB hSx xq
          go_simp
          try (with_reducible rfl)
        simp only [Act.put, List.setIfInBounds_toArray, List.set_cons_zero, List.set_cons_succ]
        try rw [e3]
        refine last_takeF (i := 18) (v := ?v18k190) rfl (by kernel_rfl) (by kernel_rfl) (by kernel_rfl) (by kernel_rfl) rfl (fun _ _ _ h => h) (by rfl) HSZ1 ?hy18k190 ?rest18k190
        case hy18k190 =>
          intro xx hSx
          have f0 := cellB hSx m0
          have f1 := cellB hSx m1
          have f2 := cellB hSx m2
          have f3 := cellB hSx m3
          have f4 := cellB hSx m4
          have f5 := cellB hSx m5
          have f6 := cellB hSx m6
          have f7 := cellB hSx m7
          have f8 := cellB hSx m8
          have f10 := cellB hSx m10
          have f3j := cellB hSx n3
          have fxq := cellB hSx xq
          go_simp
          try (with_reducible rfl)
        simp only [Act.put, List.setIfInBounds_toArray, List.set_cons_zero, List.set_cons_succ]
        refine last_takeF (i := 19) (v := ?v19k191) rfl (by kernel_rfl) (by kernel_rfl) (by kernel_rfl) (by kernel_rfl) rfl (fun _ _ _ h => h) (by rfl) HSZ1 ?hy19k191 ?rest19k191
        case hy19k191 =>
          intro xx hSx
          have f0 := cellB hSx m0
          have f1 := cellB hSx m1
          have f2 := cellB hSx m2
          have f3 := cellB hSx m3
          have f4 := cellB hSx m4
          have f5 := cellB hSx m5
          have f6 := cellB hSx m6
          have f7 := cellB hSx m7
          have f8 := cellB hSx m8
          have f10 := cellB hSx m10
          have f3j := cellB hSx n3
          have fxq := cellB hSx xq
          go_simp
          try (with_reducible rfl)
        simp only [Act.put, List.setIfInBounds_toArray, List.set_cons_zero, List.set_cons_succ]
        refine last_takeF (i := 20) (v := ?v20k192) rfl (by kernel_rfl) (by kernel_rfl) (by kernel_rfl) (by kernel_rfl) rfl (fun _ _ _ h => h) (by rfl) HSZ1 ?hy20k192 ?rest20k192
        case hy20k192 =>
          intro xx hSx
          have f0 := cellB hSx m0
          have f1 := cellB hSx m1
          have f2 := cellB hSx m2
          have f3 := cellB hSx m3
          have f4 := cellB hSx m4
          have f5 := cellB hSx m5
          have f6 := cellB hSx m6
          have f7 := cellB hSx m7
          have f8 := cellB hSx m8
          have f10 := cellB hSx m10
          have f3j := cellB hSx n3
          have fxq := cellB hSx xq
          go_simp
          try (with_reducible rfl)
        simp only [Act.put, List.setIfInBounds_toArray, List.set_cons_zero, List.set_cons_succ]
        refine last_takeF (i := 21) (v := ?v21k193) rfl (by kernel_rfl) (by kernel_rfl) (by kernel_rfl) (by kernel_rfl) rfl (fun _ _ _ h => h) (by rfl) HSZ1 ?hy21k193 ?rest21k193
        case hy21k193 =>
          intro xx hSx
          have f0 := cellB hSx m0
          have f1 := cellB hSx m1
          have f2 := cellB hSx m2
          have f3 := cellB hSx m3
          have f4 := cellB hSx m4
          have f5 := cellB hSx m5
          have f6 := cellB hSx m6
          have f7 := cellB hSx m7
          have f8 := cellB hSx m8
          have f10 := cellB hSx m10
          have f3j := cellB hSx n3
          have fxq := cellB hSx xq
          go_simp
          try (with_reducible rfl)
        simp only [Act.put, List.setIfInBounds_toArray, List.set_cons_zero, List.set_cons_succ]
        try rw [e4]
        refine last_takeF (i := 22) (v := ?v22k194) rfl (by kernel_rfl) (by kernel_rfl) (by kernel_rfl) (by kernel_rfl) rfl (fun _ _ _ h => h) (by rfl) HSZ1 ?hy22k194 ?rest22k194
        case hy22k194 =>
          intro xx hSx
          have f0 := cellB hSx m0
          have f1 := cellB hSx m1
          have f2 := cellB hSx m2
          have f3 := cellB hSx m3
          have f4 := cellB hSx m4
          have f5 := cellB hSx m5
          have f6 := cellB hSx m6
          have f7 := cellB hSx m7
          have f8 := cellB hSx m8
          have f10 := cellB hSx m10
          have f3j := cellB hSx n3
          have fxq := cellB hSx xq
          go_simp
          try (with_reducible rfl)
        simp only [Act.put, List.setIfInBounds_toArray, List.set_cons_zero, List.set_cons_succ]
        refine last_takeF (i := 23) (v := ?v23k195) rfl (by kernel_rfl) (by kernel_rfl) (by kernel_rfl) (by kernel_rfl) rfl (fun _ _ _ h => h) (by rfl) HSZ1 ?hy23k195 ?rest23k195
        case hy23k195 =>
          intro xx hSx
          have f0 := cellB hSx m0
          have f1 := cellB hSx m1
          have f2 := cellB hSx m2
          have f3 := cellB hSx m3
          have f4 := cellB hSx m4
          have f5 := cellB hSx m5
          have f6 := cellB hSx m6
          have f7 := cellB hSx m7
          have f8 := cellB hSx m8
          have f10 := cellB hSx m10
          have f3j := cellB hSx n3
          have fxq := cellB hSx xq
          go_simp
          try (with_reducible rfl)
        simp only [Act.put, List.setIfInBounds_toArray, List.set_cons_zero, List.set_cons_succ]
        refine last_takeF (i := 24) (v := ?v24k196) rfl (by kernel_rfl) (by kernel_rfl) (by kernel_rfl) (by kernel_rfl) rfl (fun _ _ _ h => h) (by rfl) HSZ1 ?hy24k196 ?rest24k196
        case hy24k196 =>
          intro xx hSx
          have f0 := cellB hSx m0
          have f1 := cellB hSx m1
          have f2 := cellB hSx m2
          have f3 := cellB hSx m3
          have f4 := cellB hSx m4
          have f5 := cellB hSx m5
          have f6 := cellB hSx m6
          have f7 := cellB hSx m7
          have f8 := cellB hSx m8
          have f10 := cellB hSx m10
          have f3j := cellB hSx n3
          have fxq := cellB hSx xq
          go_simp
          try (with_reducible rfl)
        simp only [Act.put, List.setIfInBounds_toArray, List.set_cons_zero, List.set_cons_succ]
        refine last_takeF (i := 25) (v := ?v25k197) rfl (by kernel_rfl) (by kernel_rfl) (by kernel_rfl) (by kernel_rfl) rfl (fun _ _ _ h => h) (by rfl) HSZ1 ?hy25k197 ?rest25k197
        case hy25k197 =>
          intro xx hSx
          have f0 := cellB hSx m0
          have f1 := cellB hSx m1
          have f2 := cellB hSx m2
          have f3 := cellB hSx m3
          have f4 := cellB hSx m4
          have f5 := cellB hSx m5
          have f6 := cellB hSx m6
          have f7 := cellB hSx m7
          have f8 := cellB hSx m8
          have f10 := cellB hSx m10
          have f3j := cellB hSx n3
          have fxq := cellB hSx xq
          go_simp
          try (with_reducible rfl)
        simp only [Act.put, List.setIfInBounds_toArray, List.set_cons_zero, List.set_cons_succ]
        refine last_takeF (i := 26) (v := ?v26k198) rfl (by kernel_rfl) (by kernel_rfl) (by kernel_rfl) (by kernel_rfl) rfl (fun _ _ _ h => h) (by rfl) HSZ1 ?hy26k198 ?rest26k198
        case hy26k198 =>
          intro xx hSx
          have f0 := cellB hSx m0
          have f1 := cellB hSx m1
          have f2 := cellB hSx m2
          have f3 := cellB hSx m3
          have f4 := cellB hSx m4
          have f5 := cellB hSx m5
          have f6 := cellB hSx m6
          have f7 := cellB hSx m7
          have f8 := cellB hSx m8
          have f10 := cellB hSx m10
          have f3j := cellB hSx n3
          have fxq := cellB hSx xq
          go_simp
          try (with_reducible rfl)
        simp only [Act.put, List.setIfInBounds_toArray, List.set_cons_zero, List.set_cons_succ]
        refine last_takeF (i := 27) (v := ?v27k199) rfl (by kernel_rfl) (by kernel_rfl) (by kernel_rfl) (by kernel_rfl) rfl (fun _ _ _ h => h) (by rfl) HSZ1 ?hy27k199 ?rest27k199
        case hy27k199 =>
          intro xx hSx
          have f0 := cellB hSx m0
          have f1 := cellB hSx m1
          have f2 := cellB hSx m2
          have f3 := cellB hSx m3
          have f4 := cellB hSx m4
          have f5 := cellB hSx m5
          have f6 := cellB hSx m6
          have f7 := cellB hSx m7
          have f8 := cellB hSx m8
          have f10 := cellB hSx m10
          have f3j := cellB hSx n3
          have fxq := cellB hSx xq
          go_simp
          try (with_reducible rfl)
        simp only [Act.put, List.setIfInBounds_toArray, List.set_cons_zero, List.set_cons_succ]
        refine last_takeF (i := 28) (v := ?v28k200) rfl (by kernel_rfl) (by kernel_rfl) (by kernel_rfl) (by kernel_rfl) rfl (fun _ _ _ h => h) (by rfl) HSZ1 ?hy28k200 ?rest28k200
        case hy28k200 =>
          intro xx hSx
          have f0 := cellB hSx m0
          have f1 := cellB hSx m1
          have f2 := cellB hSx m2
          have f3 := cellB hSx m3
          have f4 := cellB hSx m4
          have f5 := cellB hSx m5
          have f6 := cellB hSx m6
          have f7 := cellB hSx m7
          have f8 := cellB hSx m8
          have f10 := cellB hSx m10
          have f3j := cellB hSx n3
          have fxq := cellB hSx xq
          go_simp
          try (with_reducible rfl)
        simp only [Act.put, List.setIfInBounds_toArray, List.set_cons_zero, List.set_cons_succ]
        try rw [e5]
        refine last_takeF (i := 29) (v := ?v29k201) rfl (by kernel_rfl) (by kernel_rfl) (by kernel_rfl) (by kernel_rfl) rfl (fun _ _ _ h => h) (by rfl) HSZ1 ?hy29k201 ?rest29k201
        case hy29k201 =>
          intro xx hSx
          have f0 := cellB hSx m0
          have f1 := cellB hSx m1
          have f2 := cellB hSx m2
          have f3 := cellB hSx m3
          have f4 := cellB hSx m4
          have f5 := cellB hSx m5
          have f6 := cellB hSx m6
          have f7 := cellB hSx m7
          have f8 := cellB hSx m8
          have f10 := cellB hSx m10
          have f3j := cellB hSx n3
          have fxq := cellB hSx xq
          go_simp
          try (with_reducible rfl)
        simp only [Act.put, List.setIfInBounds_toArray, List.set_cons_zero, List.set_cons_succ]
        refine last_takeF (i := 30) (v := ?v30k202) rfl (by kernel_rfl) (by kernel_rfl) (by kernel_rfl) (by kernel_rfl) rfl (fun _ _ _ h => h) (by rfl) HSZ1 ?hy30k202 ?rest30k202
        case hy30k202 =>
          intro xx hSx
          have f0 := cellB hSx m0
          have f1 := cellB hSx m1
          have f2 := cellB hSx m2
          have f3 := cellB hSx m3
          have f4 := cellB hSx m4
          have f5 := cellB hSx m5
          have f6 := cellB hSx m6
          have f7 := cellB hSx m7
          have f8 := cellB hSx m8
          have f10 := cellB hSx m10
          have f3j := cellB hSx n3
          have fxq := cellB hSx xq
          go_simp
          try (with_reducible rfl)
        simp only [Act.put, List.setIfInBounds_toArray, List.set_cons_zero, List.set_cons_succ]
        refine last_takeF (i := 31) (v := ?v31k203) rfl (by kernel_rfl) (by kernel_rfl) (by kernel_rfl) (by kernel_rfl) rfl (fun _ _ _ h => h) (by rfl) HSZ1 ?hy31k203 ?rest31k203
        case hy31k203 =>
          intro xx hSx
          have f0 := cellB hSx m0
          have f1 := cellB hSx m1
          have f2 := cellB hSx m2
          have f3 := cellB hSx m3
          have f4 := cellB hSx m4
          have f5 := cellB hSx m5
          have f6 := cellB hSx m6
          have f7 := cellB hSx m7
          have f8 := cellB hSx m8
          have f10 := cellB hSx m10
          have f3j := cellB hSx n3
          have fxq := cellB hSx xq
          go_simp
          try (with_reducible rfl)
        simp only [Act.put, List.setIfInBounds_toArray, List.set_cons_zero, List.set_cons_succ]
        refine last_takeF (i := 32) (v := ?v32k204) rfl (by kernel_rfl) (by kernel_rfl) (by kernel_rfl) (by kernel_rfl) rfl (fun _ _ _ h => h) (by rfl) HSZ1 ?hy32k204 ?rest32k204
        case hy32k204 =>
          intro xx hSx
          have f0 := cellB hSx m0
          have f1 := cellB hSx m1
          have f2 := cellB hSx m2
          have f3 := cellB hSx m3
          have f4 := cellB hSx m4
          have f5 := cellB hSx m5
          have f6 := cellB hSx m6
          have f7 := cellB hSx m7
          have f8 := cellB hSx m8
          have f10 := cellB hSx m10
          have f3j := cellB hSx n3
          have fxq := cellB hSx xq
          go_simp
          try (with_reducible rfl)
        simp only [Act.put, List.setIfInBounds_toArray, List.set_cons_zero, List.set_cons_succ]
        try rw [e6]
        refine last_takeF (i := 33) (v := ?v33k205) rfl (by kernel_rfl) (by kernel_rfl) (by kernel_rfl) (by kernel_rfl) rfl (fun _ _ _ h => h) (by rfl) HSZ1 ?hy33k205 ?rest33k205
        case hy33k205 =>
          intro xx hSx
          have f0 := cellB hSx m0
          have f1 := cellB hSx m1
          have f2 := cellB hSx m2
          have f3 := cellB hSx m3
          have f4 := cellB hSx m4
          have f5 := cellB hSx m5
          have f6 := cellB hSx m6
          have f7 := cellB hSx m7
          have f8 := cellB hSx m8
          have f10 := cellB hSx m10
          have f3j := cellB hSx n3
          have fxq := cellB hSx xq
          go_simp
          try (with_reducible rfl)
        simp only [Act.put, List.setIfInBounds_toArray, List.set_cons_zero, List.set_cons_succ]
        refine last_takeF (i := 34) (v := ?v34k206) rfl (by kernel_rfl) (by kernel_rfl) (by kernel_rfl) (by kernel_rfl) rfl (fun _ _ _ h => h) (by rfl) HSZ1 ?hy34k206 ?rest34k206
        case hy34k206 =>
          intro xx hSx
          have f0 := cellB hSx m0
          have f1 := cellB hSx m1
          have f2 := cellB hSx m2
          have f3 := cellB hSx m3
          have f4 := cellB hSx m4
          have f5 := cellB hSx m5
          have f6 := cellB hSx m6
          have f7 := cellB hSx m7
          have f8 := cellB hSx m8
          have f10 := cellB hSx m10
          have f3j := cellB hSx n3
          have fxq := cellB hSx xq
          go_simp
          try (with_reducible rfl)
        simp only [Act.put, List.setIfInBounds_toArray, List.set_cons_zero, List.set_cons_succ]
        refine last_done (by kernel_rfl) ?_ _
        have HSX : Hid (Below W2.heap.size W2 Z1) := HSZ1
        clear HSZ1 bz1
        go_wp2
        go_meet
        exact ⟨by rw [← HHC.out]; (show (Value.bool false = Value.bool (!headC c now P ⟨ac, nd, lm, sb, st, sr, en, xs⟩)); rw [show headC c now P ⟨ac, nd, lm, sb, st, sr, en, xs⟩ = true by unfold headC; rw [HBd.out, decide_eq_true (show (0 : Int) ≤ sb by omega), decide_eq_true (show sb ≤ now by omega), decide_eq_true (show sb + B ≤ 1099511627776 by omega), decide_eq_true (show P ≤ sb by omega)]; rfl]; rfl), HSX.out⟩
  case rest =>
  obtain ⟨rfl, hbx⟩ := hcut
  obtain ⟨X, hX⟩ : ∃ X, wc = X := ⟨_, rfl⟩
  rw [hX] at hbx ⊢
  clear hX
  have m0 := cellB hbx m0
  have m1 := cellB hbx m1
  have m2 := cellB hbx m2
  have m3 := cellB hbx m3
  have m4 := cellB hbx m4
  have m5 := cellB hbx m5
  have m6 := cellB hbx m6
  have m7 := cellB hbx m7
  have m8 := cellB hbx m8
  have m9 := cellB hbx m9
  have m10 := cellB hbx m10
  have m11 := cellB hbx m11
  have n0 := cellB hbx n0
  have n1 := cellB hbx n1
  have n2 := cellB hbx n2
  have n3 := cellB hbx n3
  have n4 := cellB hbx n4
  have n5 := cellB hbx n5
  have n6 := cellB hbx n6
  have n7 := cellB hbx n7
  have HBX : Hid (Below w.heap.size w X) := HB2.out.trans (hbx.mono HB2.out.size)
  cases hc with
  | false =>
    clear HHC
    go_wp2
    go_ret
    exact ⟨by rw [HP.out, HJP.out, HA1.out]; rfl, HBX.out⟩
  | true =>
  have hsb : 0 ≤ sb := by have := HHC.out; simp only [headC, Bool.and_eq_true, decide_eq_true_eq] at this; exact this.1
  have cT := HTM.out X HBX.out hsb ⟨by omega, by omega⟩
  clear hbx HTM HHC
  go_wp2_with fail
  refine cT.mono ?_
  rintro e Y ⟨rfl, hy⟩
  have HBY : Hid (Below w.heap.size w Y) := HBX.out.trans (hy.mono HBX.out.size)
  clear hy
  go_wp2
  go_ret
  exact ⟨by rw [HP.out, HJP.out, HA1.out]; rfl, HBY.out⟩
end Go.Proofs.YtbcinapnnlfnbaaGreat
namespace Go.Proofs.YtbcinapnnlfnbaaGreat
open Go.RowKit Wd Tr Cg Lg

def oneB (a b : Jv) : Bool := (decide (a.st ≠ 2) && decide (a.en ≤ b.sr)) || (decide (b.st ≠ 2) && decide (b.en ≤ a.sr))
def twoB (a b : Jv) : Bool := (decide (a.st ≠ 2) && decide (a.en ≤ a.sr)) || (decide (b.st ≠ 2) && decide (b.en ≤ b.sr))
theorem over_parts (a b : Jv) : overB a b = (!oneB a b && !twoB a b) := by
  rw [Bool.eq_iff_iff]
  simp only [overB, oneB, twoB, Bool.and_eq_true, Bool.or_eq_true, Bool.not_eq_true', Bool.or_eq_false_iff, Bool.and_eq_false_iff, decide_eq_true_eq, decide_eq_false_iff_not]
  omega
theorem meet_no {a b : List Int} (h : ∀ x ∈ a, x ∉ b) : meetB a b = false := by
  cases hm : meetB a b with
  | false => rfl
  | true =>
    obtain ⟨n, h1, h2⟩ := meet_iff.1 hm
    exact absurd h2 (h n h1)
set_option maxRecDepth 20000 in
set_option maxHeartbeats 4000000 in
theorem ucommon_any {w : World} (p q : Pj) (hP : IntsAt w p.sa p.v.set) (hQ : IntsAt w q.sa q.v.set) (hlp : p.v.set.length ≤ 140737488355328) (hlq : q.v.set.length ≤ 140737488355328) :
    Calls Tryz.prog 23 #[pjV p, pjV q] w fun e w' => e = .returned (.bool (commonB p.v q.v)) ∧ Below w.heap.size w w' := by
  have HCM : Hid (commonB p.v q.v = ((!oneB p.v q.v && !twoB p.v q.v) && meetB p.v.set q.v.set)) := (show commonB p.v q.v = _ by unfold commonB; rw [over_parts])
  obtain ⟨⟨ac, nd, lm, sb, st, sr, en, xs⟩, sa, sc⟩ := p
  obtain ⟨⟨ac', nd', lm', sb', st', sr', en', ys⟩, sa', sc'⟩ := q
  unfold pjV
  dsimp only at hP hQ hlp hlq HCM ⊢
  obtain ⟨one, hone⟩ : ∃ one, oneB ⟨ac, nd, lm, sb, st, sr, en, xs⟩ ⟨ac', nd', lm', sb', st', sr', en', ys⟩ = one := ⟨_, rfl⟩
  obtain ⟨two, htwo⟩ : ∃ two, twoB ⟨ac, nd, lm, sb, st, sr, en, xs⟩ ⟨ac', nd', lm', sb', st', sr', en', ys⟩ = two := ⟨_, rfl⟩
  rw [hone, htwo] at HCM
  have HONE : Hid (((decide (st ≠ 2) && decide (en ≤ sr')) || (decide (st' ≠ 2) && decide (en' ≤ sr))) = one) := hone
  have HTWO : Hid (((decide (st ≠ 2) && decide (en ≤ sr)) || (decide (st' ≠ 2) && decide (en' ≤ sr'))) = two) := htwo
  clear hone htwo
  obtain ⟨n, hn⟩ : ∃ n, xs.length = n := ⟨_, rfl⟩
  obtain ⟨m, hm⟩ : ∃ m, ys.length = m := ⟨_, rfl⟩
  have HN : Hid (xs.length = n) := hn
  have HM : Hid (ys.length = m) := hm
  obtain ⟨g, o, hg, hc⟩ := hP
  obtain ⟨g', o', hg', hc'⟩ := hQ
  rw [hn] at hg hlp ⊢
  rw [hm] at hg' hlq ⊢
  clear hn hm
  obtain ⟨W, hW⟩ : ∃ W, (w.alloc (.cells #[.int .i64 ac, .int .i64 nd, .int .i64 lm, .int .i64 sb, .int .i64 st, .int .i64 sr, .int .i64 en, .slice sa n sc] 36)).alloc (.cells #[.int .i64 ac', .int .i64 nd', .int .i64 lm', .int .i64 sb', .int .i64 st', .int .i64 sr', .int .i64 en', .slice sa' m sc'] 36) = W := ⟨_, rfl⟩
  have HB : Hid (Below w.heap.size w W) := by rw [← hW]; exact ((Below.refl _ w).alloc (Nat.le_refl _) _).alloc (by simp) _
  have a4 : W.cell? ⟨w.heap.size, 4, none⟩ = some (.int .i64 st) := by rw [← hW]; simp
  have a5 : W.cell? ⟨w.heap.size, 5, none⟩ = some (.int .i64 sr) := by rw [← hW]; simp
  have a6 : W.cell? ⟨w.heap.size, 6, none⟩ = some (.int .i64 en) := by rw [← hW]; simp
  have a7 : W.cell? ⟨w.heap.size, 7, none⟩ = some (.slice sa n sc) := by rw [← hW]; simp
  have b4 : W.cell? ⟨w.heap.size + 1, 4, none⟩ = some (.int .i64 st') := by rw [← hW]; simp
  have b5 : W.cell? ⟨w.heap.size + 1, 5, none⟩ = some (.int .i64 sr') := by rw [← hW]; simp
  have b6 : W.cell? ⟨w.heap.size + 1, 6, none⟩ = some (.int .i64 en') := by rw [← hW]; simp
  have b7 : W.cell? ⟨w.heap.size + 1, 7, none⟩ = some (.slice sa' m sc') := by rw [← hW]; simp
  go_enter Tryz.func23, Tryz.ntmps23
  go_upto_region 1 with fail
  clear hW
  go_cut [30] (fun v x => v = .bool one ∧ W = x)
  case first =>
    clear hg hc hg' hc' HCM HTWO a7 b7
    by_cases h1 : st = 2
    · subst h1
      by_cases h2 : st' = 2
      · subst h2
        go_wp2
        go_meet
        exact ⟨by rw [← HONE.out]; simp, rfl⟩
      · by_cases h3 : en' ≤ sr
        · go_wp2
          go_meet
          exact ⟨by rw [← HONE.out]; simp [h2, h3], rfl⟩
        · go_wp2
          go_meet
          exact ⟨by rw [← HONE.out]; simp [h2, h3], rfl⟩
    · by_cases h4 : en ≤ sr'
      · go_wp2
        go_meet
        exact ⟨by rw [← HONE.out]; simp [h1, h4], rfl⟩
      · by_cases h2 : st' = 2
        · subst h2
          go_wp2
          go_meet
          exact ⟨by rw [← HONE.out]; simp [h1, h4], rfl⟩
        · by_cases h3 : en' ≤ sr
          · go_wp2
            go_meet
            exact ⟨by rw [← HONE.out]; simp [h1, h2, h3], rfl⟩
          · go_wp2
            go_meet
            exact ⟨by rw [← HONE.out]; simp [h1, h2, h3, h4], rfl⟩
  case rest =>
  obtain ⟨rfl, hx⟩ := hcut
  rw [← hx]
  clear hx
  cases one with
  | true =>
    clear hg hc hg' hc' HTWO HONE
    go_wp2
    go_ret
    exact ⟨by rw [HCM.out]; rfl, HB.out⟩
  | false =>
  clear HONE
  go_upto_region 3 with fail
  go_cut [52] (fun v x => v = .bool two ∧ W = x)
  case first =>
    clear hg hc hg' hc' HCM a7 b7
    by_cases h1 : st = 2
    · subst h1
      by_cases h2 : st' = 2
      · subst h2
        go_wp2
        go_meet
        exact ⟨by rw [← HTWO.out]; simp, rfl⟩
      · by_cases h3 : en' ≤ sr'
        · go_wp2
          go_meet
          exact ⟨by rw [← HTWO.out]; simp [h2, h3], rfl⟩
        · go_wp2
          go_meet
          exact ⟨by rw [← HTWO.out]; simp [h2, h3], rfl⟩
    · by_cases h4 : en ≤ sr
      · go_wp2
        go_meet
        exact ⟨by rw [← HTWO.out]; simp [h1, h4], rfl⟩
      · by_cases h2 : st' = 2
        · subst h2
          go_wp2
          go_meet
          exact ⟨by rw [← HTWO.out]; simp [h1, h4], rfl⟩
        · by_cases h3 : en' ≤ sr'
          · go_wp2
            go_meet
            exact ⟨by rw [← HTWO.out]; simp [h1, h2, h3], rfl⟩
          · go_wp2
            go_meet
            exact ⟨by rw [← HTWO.out]; simp [h1, h2, h3, h4], rfl⟩
  case rest =>
  obtain ⟨rfl, hx⟩ := hcut
  rw [← hx]
  clear hx
  cases two with
  | true =>
    clear hg hc hg' hc' HTWO
    go_wp2
    go_ret
    exact ⟨by rw [HCM.out]; rfl, HB.out⟩
  | false =>
  clear HTWO a4 a5 a6 b4 b5 b6
  go_wp2
  go_loopg [56] n (fun gk pk wr => ∃ k : Nat, k + gk = n ∧ pk = .int .i64 k ∧ W = wr ∧ ∀ x ∈ xs.take k, x ∉ ys)
  case atStart => exact ⟨0, by omega, rfl, rfl, fun x hx => by simp at hx⟩
  case round =>
    obtain ⟨k, hk, rfl, rfl, hno⟩ := hrel
    by_cases hlt : k < n
    · have hlt' : (k : Int) < n := by omega
      obtain ⟨x, hx⟩ : ∃ x, xs[k]? = some x := ⟨_, List.getElem?_eq_getElem (by rw [HN.out]; exact hlt)⟩
      obtain rfl := hg (by omega)
      have d0 := cellB HB.out (hc k x hx)
      have HX : Hid (xs[k]? = some x) := hx
      have HNO : Hid (∀ x ∈ xs.take k, x ∉ ys) := hno
      clear hx hno
      go_wp2
      go_loopg [63] m (fun gk pl wr => ∃ i : Nat, i + gk = m ∧ pl = .int .i64 i ∧ W = wr ∧ x ∉ ys.take i)
      case atStart => exact ⟨0, by omega, rfl, rfl, by simp⟩
      case round =>
        obtain ⟨i, hi, rfl, rfl, hni⟩ := hrel
        by_cases hli : i < m
        · have hli' : (i : Int) < m := by omega
          obtain ⟨y, hy⟩ : ∃ y, ys[i]? = some y := ⟨_, List.getElem?_eq_getElem (by rw [HM.out]; exact hli)⟩
          obtain rfl := hg' (by omega)
          have d1 := cellB HB.out (hc' i y hy)
          have HY : Hid (ys[i]? = some y) := hy
          have HNI : Hid (x ∉ ys.take i) := hni
          clear hy hni
          by_cases e : x = y
          · have HME : Hid (meetB xs ys = true) := meet_iff.2 ⟨x, List.mem_of_getElem? HX.out, by rw [e]; exact List.mem_of_getElem? HY.out⟩
            subst e
            go_wp2
            go_ret
            exact ⟨by rw [HCM.out, HME.out]; rfl, HB.out⟩
          · have e' : (x == y) = false := by simpa using e
            go_wp2
            go_roundg (m - (i + 1))
            case measure => omega
            case rel =>
              refine ⟨i + 1, by omega, rfl, rfl, fun hx => ?_⟩
              obtain ⟨hi', rfl⟩ := List.getElem?_eq_some_iff.1 HY.out
              rw [List.take_succ_eq_append_getElem hi'] at hx
              rcases List.mem_append.1 hx with h | h
              · exact HNI.out h
              · exact e (by simpa using h)
        · obtain rfl : i = m := by omega
          have HNI : Hid (x ∉ ys) := by
            have := hni
            rw [List.take_of_length_le (by rw [HM.out]; omega)] at this
            exact this
          clear hni
          go_wp2
          go_roundg (n - (k + 1))
          case measure => omega
          case rel =>
            refine ⟨k + 1, by omega, rfl, rfl, fun y hy => ?_⟩
            obtain ⟨hk', rfl⟩ := List.getElem?_eq_some_iff.1 HX.out
            rw [List.take_succ_eq_append_getElem hk'] at hy
            rcases List.mem_append.1 hy with h | h
            · exact HNO.out y h
            · have : y = xs[k] := by simpa using h
              rw [this]
              exact HNI.out
    · obtain rfl : k = n := by omega
      have HME : Hid (meetB xs ys = false) := meet_no (by rw [List.take_of_length_le (by rw [HN.out]; omega)] at hno; exact hno)
      clear hno
      go_wp2
      go_ret
      exact ⟨by rw [HCM.out, HME.out]; rfl, HB.out⟩
end Go.Proofs.YtbcinapnnlfnbaaGreat
