/-
  LAYER 12: raw node-ticks (from stage 12).
  LAYER 17: jobs in memory with their nodes; the reference's set, times.
  LAYER 17: the reference's times (made by gen17a.py).
  LAYER 17: jobs in a row with their nodes; the reference's usage.
  A region that draws, whose last operation turns a cell that the others read: what is to stand behind each operation is not asked behind the last one (number L), for which every operation that is taken first must be waited for.
  LAYER 17: the reference's job (made by gen17b.py).
  LAYER 17: the reference's common.
-/
import Derived.Test.YtbcinapnnlfnbaaRwM
import Derived.Test.YtbcinapnnlfnbaaRfX
import Derived.Test.YtbcinapnnlfnbaaXcf
import Derived.Deep.LoopGhost
import Derived.Deep.RegionHeld3
import Derived.Deep.QuietTactic
import Derived.Test.YtbcinapnnlfnbaaAuM
import Derived.StillTail
import Derived.Test.YtbcinapnnlfnbaaProg
import Derived.Deep.CutBlock
import Derived.Deep.DeepCutAuto
namespace Go.Proofs.Ytbcinapnnlfnbaa
open Go.RowKit Wd Ld Cg Lg

theorem drew_below (w : World) : Below w.heap.size w w.drew := ⟨rfl, rfl, rfl, Nat.le_refl _, fun _ _ => rfl⟩
def IntsAt (W : World) (ao : Option Addr) (l : List Int) : Prop := ∃ g o, (0 < l.length → ao = some ⟨g, o, none⟩) ∧ ∀ k n, l[k]? = some n → W.cell? ⟨g, o + k, none⟩ = some (.int .i64 n)
theorem IntsAt.below {W W' : World} {ao : Option Addr} {l : List Int} (h : IntsAt W ao l) (b : Below W.heap.size W W') : IntsAt W' ao l := by
  obtain ⟨g, o, h1, h2⟩ := h
  exact ⟨g, o, h1, fun k n hn => cellB b (h2 k n hn)⟩
theorem index_any {w : World} {ao : Option Addr} {xs : List Int} {c : Nat} (hA : IntsAt w ao xs) (hl : xs.length ≤ 140737488355328) (p : Int) :
    Calls Try.prog 57 #[.slice ao xs.length c, .int .i64 p] w fun e w' => (∃ i : Int, e = .returned (.int .i64 i) ∧ decide (0 ≤ i) = decide (p ∈ xs)) ∧ w = w' := by
  obtain ⟨q, hq⟩ : ∃ q, xs.length = q := ⟨_, rfl⟩
  obtain ⟨g, o, hg, hc⟩ := hA
  rw [hq] at hg hl ⊢
  go_enter Try.func57, Try.ntmps57
  go_wp2
  go_loopg [8] q (fun gk pv wr => ∃ j : Nat, j + gk = q ∧ pv = .int .i64 j ∧ w = wr ∧ ∀ i x, i < j → xs[i]? = some x → x ≠ p)
  case atStart => exact ⟨0, by omega, rfl, rfl, fun i x hi => by omega⟩
  case round =>
    obtain ⟨j, hj, rfl, rfl, hinv⟩ := hrel
    by_cases hlt : j < q
    · have hlt' : (j : Int) < q := by omega
      obtain ⟨x, hx⟩ : ∃ x, xs[j]? = some x := ⟨_, List.getElem?_eq_getElem (by omega)⟩
      obtain rfl := hg (by omega)
      have d0 := hc j x hx
      have HINV : Hid _ := hinv
      clear hc hg hinv
      by_cases e : x = p
      · subst e
        have hmem := List.mem_of_getElem? hx
        have HM : Hid _ := hmem
        clear hmem hx
        go_wp2
        go_ret
        exact ⟨⟨j, rfl, by simp [HM.out]⟩, rfl⟩
      · have e' : (p == x) = false := by simpa using fun h : p = x => e h.symm
        have HX : Hid _ := hx
        clear hx
        go_wp2
        go_roundg (q - (j + 1))
        case measure => omega
        case rel =>
          refine ⟨j + 1, by omega, rfl, rfl, fun i y hi hy => ?_⟩
          by_cases hij : i = j
          · subst hij
            rw [HX.out] at hy
            cases hy
            exact e
          · exact HINV.out i y (by omega) hy
    · obtain rfl : j = q := by omega
      have hno : p ∉ xs := fun hm => by
        obtain ⟨i, hi⟩ := List.getElem?_of_mem hm
        exact hinv i p (by have := (List.getElem?_eq_some_iff.1 hi).1; omega) hi rfl
      clear hinv
      go_wp2
      go_ret
      exact ⟨⟨-1, rfl, by simp [hno]⟩, rfl⟩
theorem contains_any {w : World} {ao : Option Addr} {xs : List Int} {c : Nat} (hA : IntsAt w ao xs) (hl : xs.length ≤ 140737488355328) (p : Int) :
    Calls Try.prog 34 #[.slice ao xs.length c, .int .i64 p] w fun e w' => e = .returned (.bool (decide (p ∈ xs))) ∧ w = w' := by
  have hi := index_any (c := c) hA hl p
  clear hA
  go_enter Try.func34, Try.ntmps34
  go_wp2_with fail
  refine hi.mono ?_
  rintro e w1 ⟨⟨i, rfl, hd⟩, rfl⟩
  have HD : Hid _ := hd
  clear hd
  go_wp2
  go_ret
  exact ⟨by rw [← HD.out]; rfl, rfl⟩
/-- A job as a value. -/
def jbV (j : Jb) : Value := .agg #[.int .i64 j.ac, .int .i64 j.nd, .int .i64 j.lm, .int .i64 j.sb, .int .i64 j.st, .int .i64 j.sr, .int .i64 j.en, .slice j.sa j.sl j.sc]
theorem ran_any (j : Jb) (now : Int) (w : World) :
    Calls Try.prog 35 #[jbV j, .int .i64 now] w fun e w' => e = .returned (.int .i64 (wrap64 (ranZ now j))) ∧ Below w.heap.size w w' := by
  unfold jbV ranZ
  have b0 : ∀ o, Below w.heap.size w (w.alloc o) := fun o => (Below.refl _ w).alloc (Nat.le_refl _) o
  by_cases h3 : j.st = 3
  · rw [if_pos (.inl h3), h3]
    go_enter Try.func35, Try.ntmps35
    go_wp2
    go_ret
    exact ⟨rfl, b0 _⟩
  by_cases h4 : j.st = 4
  · rw [if_pos (.inr (.inl h4)), h4]
    go_enter Try.func35, Try.ntmps35
    go_wp2
    go_ret
    exact ⟨rfl, b0 _⟩
  by_cases h5 : j.st = 5
  · rw [if_pos (.inr (.inr h5)), h5]
    go_enter Try.func35, Try.ntmps35
    go_wp2
    go_ret
    exact ⟨rfl, b0 _⟩
  rw [if_neg (by omega)]
  by_cases h2 : j.st = 2
  · rw [if_pos h2, h2]
    go_enter Try.func35, Try.ntmps35
    go_wp2
    go_ret
    exact ⟨rfl, b0 _⟩
  · rw [if_neg h2, show wrap64 0 = 0 by unfold wrap64; omega]
    go_enter Try.func35, Try.ntmps35
    go_wp2
    go_ret
    exact ⟨rfl, b0 _⟩
/-- The cells of a job, at an offset. -/
structure JbAt (W : World) (g o : Nat) (j : Jb) : Prop where
  ac : W.cell? ⟨g, o, none⟩ = some (.int .i64 j.ac)
  nd : W.cell? ⟨g, o + 1, none⟩ = some (.int .i64 j.nd)
  lm : W.cell? ⟨g, o + 2, none⟩ = some (.int .i64 j.lm)
  sb : W.cell? ⟨g, o + 3, none⟩ = some (.int .i64 j.sb)
  st : W.cell? ⟨g, o + 4, none⟩ = some (.int .i64 j.st)
  sr : W.cell? ⟨g, o + 5, none⟩ = some (.int .i64 j.sr)
  en : W.cell? ⟨g, o + 6, none⟩ = some (.int .i64 j.en)
  se : W.cell? ⟨g, o + 7, none⟩ = some (.slice j.sa j.sl j.sc)
theorem JbAt.below {W W' : World} {g o : Nat} {j : Jb} (h : JbAt W g o j) (b : Below W.heap.size W W') : JbAt W' g o j := ⟨cellB b h.ac, cellB b h.nd, cellB b h.lm, cellB b h.sb, cellB b h.st, cellB b h.sr, cellB b h.en, cellB b h.se⟩
def JobsAt (W : World) (ao : Option Addr) (l : List Jb) : Prop := ∃ g o, (0 < l.length → ao = some ⟨g, o, none⟩) ∧ ∀ k j, l[k]? = some j → JbAt W g (o + k * 8) j
theorem JobsAt.below {W W' : World} {ao : Option Addr} {l : List Jb} (h : JobsAt W ao l) (b : Below W.heap.size W W') : JobsAt W' ao l := by
  obtain ⟨g, o, h1, h2⟩ := h
  exact ⟨g, o, h1, fun k j hj => (h2 k j hj).below b⟩
def rawV (acc : List Int) (now : Int) (js : List Jb) : Int := wrap64 (rawZ acc now js)
theorem one_in {acc : List Int} {now : Int} {j : Jb} (h : j.ac ∈ acc) : oneZ acc now j = j.nd * ranZ now j := by unfold oneZ; rw [if_pos h]
theorem one_out {acc : List Int} {now : Int} {j : Jb} (h : j.ac ∉ acc) : oneZ acc now j = 0 := by unfold oneZ; rw [if_neg h]
/-- One job more. -/
theorem raw_in {acc : List Int} {now : Int} {js : List Jb} {i : Nat} {j : Jb} (h : js[i]? = some j) (hm : j.ac ∈ acc) : wrap64 (rawV acc now (js.take i) + wrap64 (j.nd * wrap64 (ranZ now j))) = rawV acc now (js.take (i + 1)) := by
  unfold rawV
  rw [wrap_one, raw_take h, one_in hm]
theorem raw_out {acc : List Int} {now : Int} {js : List Jb} {i : Nat} {j : Jb} (h : js[i]? = some j) (hm : oneZ acc now j = 0) : rawV acc now (js.take i) = rawV acc now (js.take (i + 1)) := by
  unfold rawV
  rw [raw_take h, hm, Int.add_zero]
theorem raw_zero {acc : List Int} {now : Int} {js : List Jb} : rawV acc now (js.take 0) = 0 := by simp [rawV, rawZ, wrap64]
theorem raw_all {acc : List Int} {now : Int} {js : List Jb} : rawV acc now (js.take js.length) = rawV acc now js := by simp
/-- A job's own copy. -/
theorem JbAt.new (w : World) (j : Jb) : JbAt (w.alloc (.cells #[.int .i64 j.ac, .int .i64 j.nd, .int .i64 j.lm, .int .i64 j.sb, .int .i64 j.st, .int .i64 j.sr, .int .i64 j.en, .slice j.sa j.sl j.sc] 38)) w.heap.size 0 j :=
  ⟨cells_at (heap_alloc_new _ _) rfl, cells_at (heap_alloc_new _ _) rfl, cells_at (heap_alloc_new _ _) rfl, cells_at (heap_alloc_new _ _) rfl, cells_at (heap_alloc_new _ _) rfl, cells_at (heap_alloc_new _ _) rfl, cells_at (heap_alloc_new _ _) rfl, cells_at (heap_alloc_new _ _) rfl⟩
theorem JbAt.eight {w : World} {g : Nat} {j : Jb} (h : JbAt w g 0 j) : w.cell? ⟨g, 0, none⟩ = some (.int .i64 j.ac) ∧ w.cell? ⟨g, 1, none⟩ = some (.int .i64 j.nd) ∧ w.cell? ⟨g, 2, none⟩ = some (.int .i64 j.lm) ∧ w.cell? ⟨g, 3, none⟩ = some (.int .i64 j.sb) ∧ w.cell? ⟨g, 4, none⟩ = some (.int .i64 j.st) ∧ w.cell? ⟨g, 5, none⟩ = some (.int .i64 j.sr) ∧ w.cell? ⟨g, 6, none⟩ = some (.int .i64 j.en) ∧ w.cell? ⟨g, 7, none⟩ = some (.slice j.sa j.sl j.sc) := by
  obtain ⟨h0, h1, h2, h3, h4, h5, h6, h7⟩ := h
  simp only [Nat.zero_add] at *
  exact ⟨h0, h1, h2, h3, h4, h5, h6, h7⟩
set_option maxRecDepth 20000 in
set_option maxHeartbeats 2000000 in
theorem raw_any {w : World} {ao bo : Option Addr} {js : List Jb} {xs : List Int} {c c' : Nat} (hJ : JobsAt w ao js) (hl : js.length ≤ 140737488355328) (hA : IntsAt w bo xs) (hl' : xs.length ≤ 140737488355328) (now : Int) :
    Calls Try.prog 11 #[.slice ao js.length c, .slice bo xs.length c', .int .i64 now] w fun e w' => e = .returned (.int .i64 (rawV xs now js)) ∧ Below w.heap.size w w' := by
  have HCT : Hid (∀ W, Below w.heap.size w W → ∀ p, Calls Try.prog 34 #[.slice bo xs.length c', .int .i64 p] W fun e w' => e = .returned (.bool (decide (p ∈ xs))) ∧ W = w') := fun W hb p => contains_any (hA.below hb) hl' p
  clear hA
  rw [← raw_all]
  obtain ⟨q, hq⟩ : ∃ q, js.length = q := ⟨_, rfl⟩
  obtain ⟨m, hm⟩ : ∃ m, xs.length = m := ⟨_, rfl⟩
  obtain ⟨g, o, hg, hc⟩ := hJ
  rw [hm] at HCT hl' ⊢
  rw [hq] at hg hl ⊢
  clear hm
  have HQ : Hid (js.length = q) := hq
  clear hq
  go_enter Try.func11, Try.ntmps11
  go_wp2
  go_loopg [7, 12] q (fun gk ps pj wr => ∃ i : Nat, i + gk = q ∧ pj = .int .i64 i ∧ ps = .int .i64 (rawV xs now (js.take i)) ∧ Below w.heap.size w wr)
  case atStart => exact ⟨0, by omega, rfl, by rw [raw_zero], Below.refl _ _⟩
  case round =>
    obtain ⟨i, hi, rfl, rfl, hb⟩ := hrel
    by_cases hlt : i < q
    · have hlt' : (i : Int) < q := by omega
      obtain ⟨j, hj⟩ : ∃ j, js[i]? = some j := ⟨_, List.getElem?_eq_getElem (by rw [HQ.out]; exact hlt)⟩
      obtain rfl := hg (by omega)
      obtain ⟨d0, d1, d2, d3, d4, d5, d6, d7⟩ := (hc i j hj).below hb
      have b1 : Below w.heap.size w (wr.alloc (.cells #[.int .i64 j.ac, .int .i64 j.nd, .int .i64 j.lm, .int .i64 j.sb, .int .i64 j.st, .int .i64 j.sr, .int .i64 j.en, .slice j.sa j.sl j.sc] 38)) := hb.alloc hb.size _
      have hct := HCT.out _ b1 j.ac
      have HJ := JbAt.new wr j
      have HB1 : Hid _ := b1
      have HJH : Hid (JbAt (wr.alloc (.cells #[.int .i64 j.ac, .int .i64 j.nd, .int .i64 j.lm, .int .i64 j.sb, .int .i64 j.st, .int .i64 j.sr, .int .i64 j.en, .slice j.sa j.sl j.sc] 38)) wr.heap.size 0 j) := HJ
      clear hc hg hb b1 HJ
      by_cases hmem : j.ac ∈ xs
      · have HS : Hid _ := raw_in (now := now) hj hmem
        rw [decide_eq_true hmem] at hct
        generalize rawV xs now (js.take i) = s at HS
        have hra := ran_any j now
        unfold jbV at hra
        generalize wrap64 (ranZ now j) = r at HS hra
        clear hj hmem
        go_wp2_with (first | (go_at_call 34; refine hct.mono ?_; rintro e w1 ⟨rfl, hw1⟩; rw [← hw1]; clear hw1))
        clear hct d0 d1 d2 d3 d4 d5 d6 d7
        obtain ⟨W0, hW0⟩ : ∃ W0, wr.alloc (.cells #[.int .i64 j.ac, .int .i64 j.nd, .int .i64 j.lm, .int .i64 j.sb, .int .i64 j.st, .int .i64 j.sr, .int .i64 j.en, .slice j.sa j.sl j.sc] 38) = W0 := ⟨_, rfl⟩
        rw [hW0] at HB1 HJH ⊢
        clear hW0
        have S0 : Hid (JbAt W0.drew wr.heap.size 0 j) := HJH.out.below (drew_below W0)
        have HB2 : Hid (Below w.heap.size w W0.drew) := HB1.out.trans ((drew_below W0).mono HB1.out.size)
        clear HJH HB1
        go_region_held3 (fun w' => w'.cell? ⟨wr.heap.size, 0, none⟩ = some (.int .i64 j.ac) ∧ w'.cell? ⟨wr.heap.size, 1, none⟩ = some (.int .i64 j.nd) ∧ w'.cell? ⟨wr.heap.size, 2, none⟩ = some (.int .i64 j.lm) ∧ w'.cell? ⟨wr.heap.size, 3, none⟩ = some (.int .i64 j.sb) ∧ w'.cell? ⟨wr.heap.size, 4, none⟩ = some (.int .i64 j.st) ∧ w'.cell? ⟨wr.heap.size, 5, none⟩ = some (.int .i64 j.sr) ∧ w'.cell? ⟨wr.heap.size, 6, none⟩ = some (.int .i64 j.en) ∧ w'.cell? ⟨wr.heap.size, 7, none⟩ = some (.slice j.sa j.sl j.sc))
          (first | exact JbAt.eight S0.out | exact JbAt.eight S1)
          (first | (go_at_call 35; refine (hra _).mono ?_; rintro e w2 ⟨rfl, b2⟩; have S1 := JbAt.below S0.out b2))
        all_goals
          go_wp2
          go_roundg (q - (i + 1))
          case measure => omega
          case rel => exact ⟨i + 1, by omega, rfl, by rw [← HS.out]; simp only [IntKind.wrap_i64, wrap64], HB2.out.trans (b2.mono HB2.out.size)⟩
      · have HS : Hid _ := raw_out (now := now) (acc := xs) hj (one_out hmem)
        rw [decide_eq_false hmem] at hct
        clear hj hmem
        go_wp2_with (first | (go_at_call 34; refine hct.mono ?_; rintro e w1 ⟨rfl, rfl⟩))
        go_roundg (q - (i + 1))
        case measure => omega
        case rel => exact ⟨i + 1, by omega, rfl, by rw [HS.out], HB1.out⟩
    · obtain rfl : i = q := by omega
      go_wp2
      go_ret
      exact ⟨rfl, hb⟩
theorem ran_end {now : Int} {j : Jb} (h : j.st = 3 ∨ j.st = 4 ∨ j.st = 5) : ranZ now j = j.en - j.sr := by unfold ranZ; rw [if_pos h]
theorem ran_run {now : Int} {j : Jb} (h : j.st = 2) : ranZ now j = now - j.sr := by unfold ranZ; rw [if_neg (by omega), if_pos h]
theorem ran_no {now : Int} {j : Jb} (h : ¬ (j.st = 3 ∨ j.st = 4 ∨ j.st = 5)) (h2 : ¬ j.st = 2) : ranZ now j = 0 := by unfold ranZ; rw [if_neg h, if_neg h2]
theorem mem_take_succ {xs : List Int} {k : Nat} {x p : Int} (h : xs[k]? = some x) : decide (p ∈ xs.take (k + 1)) = (decide (p ∈ xs.take k) || x == p) := by
  obtain ⟨hk, rfl⟩ := List.getElem?_eq_some_iff.1 h
  rw [List.take_succ_eq_append_getElem hk]
  rw [Bool.eq_iff_iff]
  simp only [decide_eq_true_eq, List.mem_append, List.mem_singleton, Bool.or_eq_true, beq_iff_eq]
  constructor
  · rintro (h | h)
    · exact .inl h
    · exact .inr h.symm
  · rintro (h | h)
    · exact .inl h
    · exact .inr h.symm
end Go.Proofs.Ytbcinapnnlfnbaa
namespace Go.Proofs.Ytbcinapnnlfnbaa
open Go.RowKit Wd Tr Cg Lg

/-- A job that lies in memory: its values, where its nodes lie. -/
structure Pj where
  v : Jv
  sa : Option Addr
  sc : Nat
def Pj.jb (p : Pj) : Jb := ⟨p.v.ac, p.v.nd, p.v.lm, p.v.sb, p.v.st, p.v.sr, p.v.en, p.sa, p.v.set.length, p.sc⟩
/-- A job, by value. -/
def pjV (p : Pj) : Value := .agg #[.int .i64 p.v.ac, .int .i64 p.v.nd, .int .i64 p.v.lm, .int .i64 p.v.sb, .int .i64 p.v.st, .int .i64 p.v.sr, .int .i64 p.v.en, .slice p.sa p.v.set.length p.sc]
theorem pj_jb (p : Pj) : jbV p.jb = pjV p := rfl
end Go.Proofs.Ytbcinapnnlfnbaa
namespace Go.Proofs.Ytbcinapnnlfnbaa
open Go.RowKit Wd Tr Cg Lg

/-- A state, by value. -/
def stL (c : Cf) (now : Int) (ao : Option Addr) (na ca : Nat) (jo : Option Addr) (nj cj : Nat) (hd : Int) : Array Value := #[.int .i64 c.nodes, .int .i64 c.queue, .int .i64 c.limit, .int .i64 c.age, .int .i64 c.fair, .int .i64 c.size, .int .i64 c.period, .int .i64 c.half, .int .i64 now, .slice ao na ca, .slice jo nj cj, .int .i64 hd]
end Go.Proofs.Ytbcinapnnlfnbaa
namespace Go.Proofs.Ytbcinapnnlfnbaa
open Go.RowKit Wd Tr Cg Lg

/-- Jobs in memory, each with its nodes. -/
structure PjsAt (W : World) (jo : Option Addr) (ps : List Pj) : Prop where
  jobs : JobsAt W jo (ps.map Pj.jb)
  sets : ∀ p ∈ ps, IntsAt W p.sa p.v.set
theorem PjsAt.below {W W' : World} {jo : Option Addr} {ps : List Pj} (h : PjsAt W jo ps) (b : Below W.heap.size W W') : PjsAt W' jo ps := ⟨h.jobs.below b, fun p hp => (h.sets p hp).below b⟩
theorem one_mem {a n : Int} : (a ∈ [n]) = (a = n) := by simp
theorem raw_jb (n now : Int) : ∀ ps : List Pj, rawZ [n] now (ps.map Pj.jb) = rawJ n now (ps.map Pj.v)
  | [] => rfl
  | p :: ps => by
    simp only [List.map_cons, rawZ, rawJ, raw_jb n now ps]
    congr 1
    unfold oneZ ranZ ranJ Pj.jb
    simp only [List.mem_singleton]
theorem ints_one (W : World) (n : Int) : IntsAt (W.alloc (.cells #[.int .i64 n] 3)) (some ⟨W.heap.size, 0, none⟩) [n] := by
  refine ⟨_, _, fun _ => rfl, fun k x hx => ?_⟩
  rcases k with _ | k
  · simp at hx
    subst hx
    simp
  · simp at hx
end Go.Proofs.Ytbcinapnnlfnbaa
namespace Go.Proofs.Ytbcinapnnlfnbaa
open Go

section
variable {P : Program} {ops : Array Oper} {Q : Exit → Act → World → Prop} {md : Region.Mode} {S : World → Prop} {L : Nat}
def wpLast (P : Program) (md : Region.Mode) (ops : Array Oper) (Q : Exit → Act → World → Prop) (S : World → Prop) (L : Nat) : Nat → Array Bool → Act → World → Prop
  | 0, listed, a, w => Region.ready md ops listed = [] ∧ Q .normal a w
  | fuel + 1, listed, a, w => (Region.ready md ops listed = [] → Q .normal a w) ∧ ∀ i ∈ Region.ready md ops listed, wpOp P ops Q i (fun a' w' => (i ≠ L → S w') ∧ wpLast P md ops Q S L fuel (listed.setIfInBounds i true) a' w') a w
theorem any_of_last : ∀ (fuel : Nat) (listed : Array Bool) (a : Act) (w : World), wpLast P md ops Q S L fuel listed a w → wpAny P md ops Q fuel listed a w
  | 0, _, _, _, h => h
  | fuel + 1, _, _, _, h => ⟨h.1, fun i hi => wpOp_mono (fun a' w' h' => any_of_last fuel _ a' w' h'.2) (h.2 i hi)⟩
theorem last_first {i : Nat} {oi : Oper} {v : Value} (hi : ops[i]? = some oi) (hsel : ∀ (j : Nat) (o : Oper) cs b, ops[j]? = some o → o.op ≠ .select cs b) (hQ : ∀ c a w, Q (.panic c) (a.put oi.dst v) w → Q (.panic c) a w)
    (hL : Region.waitsFor md ops L i = true) :
    ∀ (fuel : Nat) (listed : Array Bool) (a : Act) (w : World),
      (∀ j oj, ops[j]? = some oj → j ≠ i → listed.getD j true = false → (∀ e ∈ oj.after, Region.binds md e = true → e.on ≠ i) → oi.apart ops oj = true) →
      i ∈ Region.ready md ops listed → YieldsIf P ops S oi v a → S w →
      wpLast P md ops Q S L fuel (listed.setIfInBounds i true) (a.put oi.dst v) w → wpLast P md ops Q S L (fuel + 1) listed a w := by
  intro fuel
  induction fuel with
  | zero =>
    intro listed a w _ hr hy hS H
    refine ⟨fun h => (by rw [h] at hr; cases hr), fun j hj => ?_⟩
    by_cases hji : j = i
    · subst hji
      exact hy.wpOp hi hS ⟨fun _ => hS, H⟩
    · have := ready_mono hj hji
      rw [H.1] at this
      cases this
  | succ fuel ih =>
    intro listed a w hfree hr hy hS H
    refine ⟨fun h => (by rw [h] at hr; cases hr), fun j hj => ?_⟩
    by_cases hji : j = i
    · subst hji
      exact hy.wpOp hi hS ⟨fun _ => hS, H⟩
    · obtain ⟨hjun, oj, hoj, hall⟩ := mem_ready.1 hj
      have hnot : ∀ e ∈ oj.after, Region.binds md e = true → e.on ≠ i := fun e he hb heq => by
        have h1 := hall e he hb
        have h0 := (mem_ready.1 hr).1
        rw [heq] at h1
        rcases Nat.lt_or_ge i listed.size with h' | h'
        · simp [h'] at h0 h1; rw [h0] at h1; cases h1
        · simp [Array.getElem?_eq_none h'] at h1
      have hjL : j ≠ L := fun e => by
        subst e
        obtain ⟨oL, h1, e, he, hb, hon⟩ := Region.waitsFor_spec hL
        rw [hoj] at h1
        cases h1
        exact hnot e he hb hon
      have h1 := H.2 j (ready_mono hj hji)
      have h2 := wpOp_putIf hoj (hfree j oj hoj hji hjun hnot) (fun cs b => hsel i oi cs b hi) (fun cs b => hsel j oj cs b hoj) hQ hy h1
      have hfree' : ∀ k ok, ops[k]? = some ok → k ≠ i → (listed.setIfInBounds j true).getD k true = false → (∀ e ∈ ok.after, Region.binds md e = true → e.on ≠ i) → oi.apart ops ok = true := fun k ok hk hki hun hno => by
        refine hfree k ok hk hki ?_ hno
        by_cases hjk : j = k
        · subst hjk; exact hjun
        · rw [getD_set_ne true hjk] at hun; exact hun
      refine wpOp_mono (fun a' w' h3 => ⟨fun _ => h3.2.1 hjL, ih (listed.setIfInBounds j true) a' w' hfree' (ready_mono hr (Ne.symm hji)) h3.1 (h3.2.1 hjL) ?_⟩) h2
      rw [Array.setIfInBounds_comm _ _ hji]
      exact h3.2.2
theorem last_take {i d : Nat} {oi : Oper} {v : Value} {fuel : Nat} {listed : Array Bool} {a : Act} {w : World} (hi : ops[i]? = some oi) (hs : Region.noSelect ops = true) (hf : Region.free md ops listed i = true) (hr : (Region.ready md ops listed).contains i = true)
    (hL : Region.waitsFor md ops L i = true) (hd : oi.dst = some d) (hQ : ∀ c a w, Q (.panic c) (a.put (some d) v) w → Q (.panic c) a w) (hw : Region.wanted oi (yielded ops a.tmps) = true) (hS : S w) (hy : ∀ w, S w → (execOp a.eval oi).run P w = .ok (.value v) w)
    (h : wpLast P md ops Q S L fuel (listed.setIfInBounds i true) (a.put (some d) v) w) : wpLast P md ops Q S L (fuel + 1) listed a w :=
  last_first hi (Region.noSelect_spec hs) (by rw [hd]; exact hQ) hL fuel listed a w (Region.free_spec hi hf) (by simpa using hr) (.inl ⟨hw, hy⟩) hS (by rw [hd]; exact h)
theorem last_one {i : Nat} {o : Oper} {fuel : Nat} {listed : Array Bool} {a : Act} {w : World} (hr : Region.ready md ops listed = [i]) (ho : ops[i]? = some o)
    (h : ∀ K' : Act → World → Prop, Shut (∀ a w, (i ≠ L → S w) → ((i ≠ L → S w) → wpLast P md ops Q S L fuel (listed.setIfInBounds i true) a w) → K' a w) → if Region.wanted o (yielded ops a.tmps) = true then Oper.wp P o a w K' Q else K' (a.put o.dst undef) w) :
    wpLast P md ops Q S L (fuel + 1) listed a w := by
  refine ⟨fun e => (by rw [hr] at e; cases e), fun j hj => ?_⟩
  rw [hr] at hj
  obtain rfl : j = i := by simpa using hj
  exact wpOp_step ho (fun K' hK => h K' (fun a w hS hW => hK a w ⟨hS, hW hS⟩))
theorem last_done {listed : Array Bool} {a : Act} {w : World} (hr : Region.ready md ops listed = []) (h : Q .normal a w) : ∀ fuel, wpLast P md ops Q S L fuel listed a w
  | 0 => ⟨hr, h⟩
  | _ + 1 => ⟨fun _ => h, by rw [hr]; simp⟩
theorem wp_region_last {id : Nat} {a : Act} {w : World} (hm : P.follows .mixedOrders = true) (h : wpLast P .any ops Q S L ops.size (Array.replicate ops.size false) a w.drew) : (Code.region id ops true).wp P Q a w :=
  wp_region_any hm (any_of_last _ _ _ _ h)
end
theorem last_few {P : Program} {ops : Array Oper} {Q : Exit → Act → World → Prop} {md : Region.Mode} {S : World → Prop} {L : Nat} {i : Nat} {l : List Nat} {fuel : Nat} {listed : Array Bool} {a : Act} {w : World} (hr : Region.ready md ops listed = i :: l)
    (h : ∀ k ∈ i :: l, ∃ o, ops[k]? = some o ∧ ∀ K' : Act → World → Prop, Shut (∀ a w, (k ≠ L → S w) → ((k ≠ L → S w) → wpLast P md ops Q S L fuel (listed.setIfInBounds k true) a w) → K' a w) → if Region.wanted o (yielded ops a.tmps) = true then Oper.wp P o a w K' Q else K' (a.put o.dst undef) w) :
    wpLast P md ops Q S L (fuel + 1) listed a w := by
  refine ⟨fun e => (by rw [hr] at e; cases e), fun k hk => ?_⟩
  rw [hr] at hk
  obtain ⟨o, ho, h'⟩ := h k hk
  exact wpOp_step ho (fun K' hK => h' K' (fun a w hS hW => hK a w ⟨hS, hW hS⟩))
theorem last_firstF {P : Program} {ops : Array Oper} {Q : Exit → Act → World → Prop} {md : Region.Mode} {S : World → Prop} {L : Nat} {i : Nat} {oi : Oper} {v : Value} (hi : ops[i]? = some oi) (hsel : ∀ (j : Nat) (o : Oper) cs b, ops[j]? = some o → o.op ≠ .select cs b) (hQ : ∀ c a w, Q (.panic c) (a.put oi.dst v) w → Q (.panic c) a w)
    (hL : ops.size ≤ L) :
    ∀ (fuel : Nat) (listed : Array Bool) (a : Act) (w : World),
      (∀ j oj, ops[j]? = some oj → j ≠ i → listed.getD j true = false → (∀ e ∈ oj.after, Region.binds md e = true → e.on ≠ i) → oi.apart ops oj = true) →
      i ∈ Region.ready md ops listed → YieldsIf P ops S oi v a → S w →
      wpLast P md ops Q S L fuel (listed.setIfInBounds i true) (a.put oi.dst v) w → wpLast P md ops Q S L (fuel + 1) listed a w := by
  intro fuel
  induction fuel with
  | zero =>
    intro listed a w _ hr hy hS H
    refine ⟨fun h => (by rw [h] at hr; cases hr), fun j hj => ?_⟩
    by_cases hji : j = i
    · subst hji
      exact hy.wpOp hi hS ⟨fun _ => hS, H⟩
    · have := ready_mono hj hji
      rw [H.1] at this
      cases this
  | succ fuel ih =>
    intro listed a w hfree hr hy hS H
    refine ⟨fun h => (by rw [h] at hr; cases hr), fun j hj => ?_⟩
    by_cases hji : j = i
    · subst hji
      exact hy.wpOp hi hS ⟨fun _ => hS, H⟩
    · obtain ⟨hjun, oj, hoj, hall⟩ := mem_ready.1 hj
      have hnot : ∀ e ∈ oj.after, Region.binds md e = true → e.on ≠ i := fun e he hb heq => by
        have h1 := hall e he hb
        have h0 := (mem_ready.1 hr).1
        rw [heq] at h1
        rcases Nat.lt_or_ge i listed.size with h' | h'
        · simp [h'] at h0 h1; rw [h0] at h1; cases h1
        · simp [Array.getElem?_eq_none h'] at h1
      have hjL : j ≠ L := fun e => by
        have := (Array.getElem?_eq_some_iff.1 hoj).1
        omega
      have h1 := H.2 j (ready_mono hj hji)
      have h2 := wpOp_putIf hoj (hfree j oj hoj hji hjun hnot) (fun cs b => hsel i oi cs b hi) (fun cs b => hsel j oj cs b hoj) hQ hy h1
      have hfree' : ∀ k ok, ops[k]? = some ok → k ≠ i → (listed.setIfInBounds j true).getD k true = false → (∀ e ∈ ok.after, Region.binds md e = true → e.on ≠ i) → oi.apart ops ok = true := fun k ok hk hki hun hno => by
        refine hfree k ok hk hki ?_ hno
        by_cases hjk : j = k
        · subst hjk; exact hjun
        · rw [getD_set_ne true hjk] at hun; exact hun
      refine wpOp_mono (fun a' w' h3 => ⟨fun _ => h3.2.1 hjL, ih (listed.setIfInBounds j true) a' w' hfree' (ready_mono hr (Ne.symm hji)) h3.1 (h3.2.1 hjL) ?_⟩) h2
      rw [Array.setIfInBounds_comm _ _ hji]
      exact h3.2.2
/-- An operation taken first where no operation is marked as the last. -/
theorem last_takeF {P : Program} {ops : Array Oper} {Q : Exit → Act → World → Prop} {md : Region.Mode} {S : World → Prop} {L : Nat} {i d : Nat} {oi : Oper} {v : Value} {fuel : Nat} {listed : Array Bool} {a : Act} {w : World} (hi : ops[i]? = some oi) (hs : Region.noSelect ops = true) (hf : Region.free md ops listed i = true) (hr : (Region.ready md ops listed).contains i = true)
    (hL : Nat.ble ops.size L = true) (hd : oi.dst = some d) (hQ : ∀ c a w, Q (.panic c) (a.put (some d) v) w → Q (.panic c) a w) (hw : Region.wanted oi (yielded ops a.tmps) = true) (hS : S w) (hy : ∀ w, S w → (execOp a.eval oi).run P w = .ok (.value v) w)
    (h : wpLast P md ops Q S L fuel (listed.setIfInBounds i true) (a.put (some d) v) w) : wpLast P md ops Q S L (fuel + 1) listed a w :=
  last_firstF hi (Region.noSelect_spec hs) (by rw [hd]; exact hQ) (Nat.le_of_ble_eq_true hL) fuel listed a w (Region.free_spec hi hf) (by simpa using hr) (.inl ⟨hw, hy⟩) hS (by rw [hd]; exact h)
/-- An operation that its guard leaves out. -/
theorem last_skipF {P : Program} {ops : Array Oper} {Q : Exit → Act → World → Prop} {md : Region.Mode} {S : World → Prop} {L : Nat} {i d : Nat} {oi : Oper} {fuel : Nat} {listed : Array Bool} {a : Act} {w : World} (hi : ops[i]? = some oi) (hs : Region.noSelect ops = true) (hf : Region.free md ops listed i = true) (hr : (Region.ready md ops listed).contains i = true)
    (hL : Nat.ble ops.size L = true) (hd : oi.dst = some d) (hQ : ∀ c a w, Q (.panic c) (a.put (some d) undef) w → Q (.panic c) a w) (hw : Region.wanted oi (yielded ops a.tmps) = false) (hS : S w)
    (h : wpLast P md ops Q S L fuel (listed.setIfInBounds i true) (a.put (some d) undef) w) : wpLast P md ops Q S L (fuel + 1) listed a w :=
  last_firstF hi (Region.noSelect_spec hs) (by rw [hd]; exact hQ) (Nat.le_of_ble_eq_true hL) fuel listed a w (Region.free_spec hi hf) (by simpa using hr) (.inr ⟨hw, rfl⟩) hS (by rw [hd]; exact h)
end Go.Proofs.Ytbcinapnnlfnbaa
namespace Go.Proofs.Ytbcinapnnlfnbaa
open Go.RowKit Wd Tr Cg Lg

def headA (c : Cf) (N : Nat) (j : Jv) : Bool := decide (1 ≤ j.ac) && (decide (j.ac < (N : Int)) && (decide (1 ≤ j.nd) && (decide (j.nd ≤ c.nodes) && (decide (1 ≤ j.lm) && decide (j.lm ≤ c.limit)))))
def headC (c : Cf) (now : Int) (p : Int) (j : Jv) : Bool := decide (0 ≤ j.sb) && (decide (j.sb ≤ now) && (decide (j.sb + boundZ c ≤ 1099511627776) && decide (p ≤ j.sb)))
theorem job_parts (c : Cf) (now : Int) (N : Nat) (p : Int) (j : Jv) : jobB c now N p j = ((headA c N j && headC c now p j) && timesB c now j) := rfl
theorem ahead_zero (js : List Jv) : aheadOf js 0 = 0 := rfl
theorem ahead_succ {js : List Jv} {i : Nat} {j : Jv} (h : js[i]? = some j) : aheadOf js (i + 1) = j.sb := by
  unfold aheadOf
  rw [if_neg (by omega), Nat.add_sub_cancel, h]
end Go.Proofs.Ytbcinapnnlfnbaa
namespace Go.Proofs.Ytbcinapnnlfnbaa
open Go.RowKit Wd Tr Cg Lg

def oneB (a b : Jv) : Bool := (decide (a.st ≠ 2) && decide (a.en ≤ b.sr)) || (decide (b.st ≠ 2) && decide (b.en ≤ a.sr))
def twoB (a b : Jv) : Bool := (decide (a.st ≠ 2) && decide (a.en ≤ a.sr)) || (decide (b.st ≠ 2) && decide (b.en ≤ b.sr))
theorem over_parts (a b : Jv) : overB a b = (!oneB a b && !twoB a b) := by
  rw [Bool.eq_iff_iff]
  simp only [overB, oneB, twoB, Bool.and_eq_true, Bool.or_eq_true, Bool.not_eq_true', Bool.or_eq_false_iff, Bool.and_eq_false_iff, decide_eq_true_eq, decide_eq_false_iff_not]
  omega
theorem meet_no {a b : List Int} (h : ∀ x ∈ a, x ∉ b) : meetB a b = false := by
  cases hm : meetB a b with
  | false => rfl
  | true =>
    obtain ⟨n, h1, h2⟩ := meet_iff.1 hm
    exact absurd h2 (h n h1)
end Go.Proofs.Ytbcinapnnlfnbaa
