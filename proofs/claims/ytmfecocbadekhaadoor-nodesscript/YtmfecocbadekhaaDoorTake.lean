/-
  New, Take, and the statements' sameInts.
-/
import Derived.Test.YtmfecocbadekhaaDoorTurn
import Derived.Deep.QuietTactic
import Derived.BigQuiet
namespace Go.Proofs.YtmfecocbadekhaaDoor
open Go.RowKit Nd

namespace Nd
/-- A list of nodes by its places. -/
def nth (l : List Nat) (j : Nat) : Int := (l.getD j 0 : Nat)
theorem nth_at (l : List Nat) (j : Nat) (h : j < l.length) : nth l j = (l[j] : Int) := by simp [nth, List.getD, h]
/-- The set behind Take. -/
def takeF (F many : Nat) : Nat := flipF F (nth ((lst F).take many)) many
theorem full_bit (n k : Nat) : (2 ^ n - 1).testBit k = decide (k < n) := Nat.testBit_two_pow_sub_one n k
theorem full_succ (k : Nat) : (2 ^ k - 1) ^^^ 2 ^ k = 2 ^ (k + 1) - 1 := by
  apply Nat.eq_of_testBit_eq
  intro j
  rw [Nat.testBit_xor, full_bit, full_bit, Nat.testBit_two_pow]
  by_cases h : j < k
  · simp [h, show ¬ k = j by omega, show j < k + 1 by omega]
  · by_cases e : k = j
    · subst e; simp
    · simp [h, e, show ¬ j < k + 1 by omega]
/-- Whether two lists are alike in their first m places. -/
def eqB (f f' : Nat → Int) : Nat → Bool
  | 0 => true
  | m + 1 => eqB f f' m && (f m == f' m)
theorem eqB_no (f f' : Nat → Int) (k d : Nat) (h : eqB f f' k = false) : eqB f f' (k + d) = false := by
  induction d with
  | zero => exact h
  | succ d ih => rw [← Nat.add_assoc, eqB, ih]; rfl
def sameB (m m' : Nat) (f f' : Nat → Int) : Bool := decide (m = m') && eqB f f' m
end Nd

theorem own_cells {w : World} {base g n cap : Nat} {l : List Nat} (h : w.ownsRow base 3 1 (.slice (some ⟨g, 0, none⟩) n cap) n (vals l)) (j : Nat) (hj : j < l.length) : w.cell? ⟨g, 0 + j, none⟩ = some (.int .i64 (nth l j)) := by
  have := h.cells (g := g) rfl j (.int .i64 (nth l j)) (by simp [vals, nth_at l j hj, hj])
  have ha : (⟨g, 0, none⟩ : Addr).add j = ⟨g, 0 + j, none⟩ := by unfold Addr.add; split <;> simp_all
  rw [ha] at this
  exact this

theorem new_no (n : Int) (w : World) (h : n < 1 ∨ 256 < n) : Calls Tryd.prog 7 #[.int .i64 n] w fun e w' => e = .returned (.tuple #[.pointer none, .int .i64 20]) ∧ w' = w := by
  by_cases h1 : n < 1
  · go_enter Tryd.func7, Tryd.ntmps7
    go_wp2
    go_ret2
    exact ⟨rfl, rfl⟩
  · have h2 : 256 < n := by omega
    go_enter Tryd.func7, Tryd.ntmps7
    go_wp2
    go_ret2
    exact ⟨rfl, rfl⟩

theorem new_set (n : Nat) (w : World) (h1 : 1 ≤ n) (h2 : n ≤ 256) (hT : Tab w) : SetIn (w.alloc (.cells #[.int .i64 n, .int .u64 0, .int .u64 0, .int .u64 0, .int .u64 0] 54)) w.heap.size n 0 := by
  have hz : 0 < w.heap.size := World.block_lt_of_cell? w ⟨0, 0, none⟩ (hT 0 (by decide))
  exact ⟨below_tab ((Below.refl _ _).alloc (Nat.le_refl _) _) hT, by omega, by rw [heap_alloc_new]; simp [setCells, wd], h1, h2, Nat.two_pow_pos n⟩
theorem new_yes (n : Nat) (w : World) (h1 : 1 ≤ n) (h2 : n ≤ 256) (hT : Tab w) : Calls Tryd.prog 7 #[.int .i64 n] w fun e w' => e = .returned (.tuple #[.pointer (some ⟨w.heap.size, 0, none⟩), .int .i64 0]) ∧ SetIn w' w.heap.size n (2 ^ n - 1) ∧ Below w.heap.size w w' := by
  have HS : Hid (SetIn (w.alloc (.cells #[.int .i64 n, .int .u64 0, .int .u64 0, .int .u64 0, .int .u64 0] 54)) w.heap.size n 0) := new_set n w h1 h2 hT
  go_enter Tryd.func7, Tryd.ntmps7
  go_wp2
  go_loopg [16] n (fun gk c wr => ∃ k : Nat, k + gk = n ∧ c = .int .i64 k ∧ SetIn wr w.heap.size n (2 ^ k - 1) ∧ Below w.heap.size w wr)
  case atStart => exact ⟨0, by omega, rfl, HS.out, (Below.refl _ _).alloc (Nat.le_refl _) _⟩
  case round =>
    obtain ⟨k, hk, rfl, hs, hb⟩ := hrel
    by_cases hlt : k < n
    · go_wp2_with (go_at_call 20; refine (flip_any w.heap.size n _ k _ hs hlt).mono ?_; rintro e w' ⟨rfl, hs', hg'⟩; rw [full_succ] at hs')
      go_roundg (n - (k + 1))
      case measure => omega
      case rel => exact ⟨k + 1, by omega, by go_num, hs', hb.grown hg' hb.size (fun j hj => by simp at hj; omega)⟩
    · have e : k = n := by omega
      subst e
      go_wp2
      go_ret2
      exact ⟨rfl, hs, hb⟩

theorem take_many (b n F : Nat) (many : Int) (w : World) (_h : SetIn w b n F) (h1 : many < 1) : Calls Tryd.prog 16 #[.pointer (some ⟨b, 0, none⟩), .int .i64 many] w fun e w' => e = .returned (.tuple #[.slice none 0 0, .int .i64 20]) ∧ w' = w := by
  go_enter Tryd.func16, Tryd.ntmps16
  go_wp2
  go_ret2
  exact ⟨rfl, rfl⟩
theorem take_free (b n F : Nat) (many : Int) (w : World) (h : SetIn w b n F) (h1 : 1 ≤ many) (h2 : (lst F).length < many) : Calls Tryd.prog 16 #[.pointer (some ⟨b, 0, none⟩), .int .i64 many] w fun e w' => e = .returned (.tuple #[.slice none 0 0, .int .i64 21]) ∧ w' = w := by
  go_enter Tryd.func16, Tryd.ntmps16
  go_wp2_with (go_at_call 17; refine (free_any b n F _ h).mono ?_; rintro e w' ⟨rfl, rfl⟩)
  go_ret2
  exact ⟨rfl, rfl⟩
theorem take_ok (b n F many : Nat) (w : World) (h : SetIn w b n F) (h1 : 1 ≤ many) (h2 : many ≤ (lst F).length) : Calls Tryd.prog 16 #[.pointer (some ⟨b, 0, none⟩), .int .i64 many] w fun e w' =>
    e = .returned (.tuple #[.slice (some ⟨w.heap.size, 0, none⟩) many many, .int .i64 0]) ∧ w'.ownsRow w.heap.size 3 1 (.slice (some ⟨w.heap.size, 0, none⟩) many many) many (vals ((lst F).take many)) ∧ SetIn w' b n (takeF F many) ∧ w.grownBy w' (some b) := by
  have hl := low_any b n F many w h (Nat.le_trans h2 (lst_len F))
  have hlen : ((lst F).take many).length = many := by simp; omega
  rw [hlen] at hl
  have HL : Hid (((lst F).take many).length = many) := hlen
  clear hlen
  have hbz := h.lt
  go_enter Tryd.func16, Tryd.ntmps16
  go_wp2_with (first | (go_at_call 17; refine (free_any b n F _ h).mono ?_; rintro e w' ⟨rfl, rfl⟩) | (go_at_call 31; refine hl.mono ?_; rintro e w1 ⟨rfl, ho, hb⟩) | fail)
  have hs1 := h.below hb
  have hf : ∀ j, j < many → 0 ≤ nth ((lst F).take many) j ∧ nth ((lst F).take many) j < n := by
    intro j hj
    have hj' : j < ((lst F).take many).length := by rw [HL.out]; exact hj
    rw [nth_at _ j hj']
    have hmem : ((lst F).take many)[j] ∈ lst F := List.mem_of_mem_take (List.getElem_mem hj')
    have hb2 := ((mem_frees F 256 _).1 hmem).2
    refine ⟨by omega, ?_⟩
    by_cases hlt : ((lst F).take many)[j] < n
    · omega
    · rw [h.bit _ (by omega)] at hb2; exact absurd hb2 (by simp)
  have h256 := lst_len F
  refine (flipAll_any b n F _ 0 many many _ (nth ((lst F).take many)) _ hs1 (fun _ => rfl) (by omega) (by omega) (fun j hj => own_cells ho j (by rw [HL.out]; exact hj)) hf).mono ?_
  rintro e w2 ⟨rfl, hs2, hg2⟩
  clear hf
  go_wp2
  go_ret2
  exact ⟨rfl, ho.kept hg2 (by simp [Value.ownBlock]; omega), hs2, gr_trans (gr_below hb _) hg2⟩

set_option maxHeartbeats 1000000 in
theorem same_any (g o m cap g' o' m' cap' : Nat) (ao ao' : Option Addr) (f f' : Nat → Int) (w : World) (hao : 0 < m → ao = some ⟨g, o, none⟩) (hao' : 0 < m' → ao' = some ⟨g', o', none⟩) (hm : m ≤ 140737488355328) (hm' : m' ≤ 140737488355328)
    (hc : ∀ j, j < m → w.cell? ⟨g, o + j, none⟩ = some (.int .i64 (f j))) (hc' : ∀ j, j < m' → w.cell? ⟨g', o' + j, none⟩ = some (.int .i64 (f' j))) :
    Calls Tryd.prog 13 #[.slice ao m cap, .slice ao' m' cap'] w fun e w' => e = .returned (.bool (sameB m m' f f')) ∧ ∃ q, w' = w.drewN q := by
  by_cases hmm : m = m'
  · subst hmm
    have hd : ((m : Int) != (m : Int)) = false := by simp
    have HB : Hid (sameB m m f f' = eqB f f' m) := by simp [Hid, sameB]
    go_enter Tryd.func13, Tryd.ntmps13
    go_wp2
    go_loopg [5] m (fun gk c wr => ∃ k : Nat, k + gk = m ∧ c = .int .i64 k ∧ eqB f f' k = true ∧ ∃ q, wr = w.drewN q)
    case atStart => exact ⟨0, by omega, rfl, rfl, 0, rfl⟩
    case round =>
      obtain ⟨k, hk, rfl, hs, q, rfl⟩ := hrel
      by_cases hlt : k < m
      · have ha := hao (by omega)
        have ha' := hao' (by omega)
        subst ha
        subst ha'
        have hck := hc k hlt
        have hck' := hc' k hlt
        by_cases hB : f k = f' k
        · have HY : Hid (eqB f f' (k + 1) = true) := by
            show eqB f f' (k + 1) = true
            rw [eqB, hs, hB]; simp
          have hn : (f k != f' k) = false := by simp [hB]
          have HB2 : Hid (f k = f' k) := hB
          clear hB
          go_wp2
          go_quiet (fail)
          go_wp2
          go_roundg (m - (k + 1))
          case measure => omega
          case rel => exact ⟨k + 1, by omega, by go_num, HY.out, _, rfl⟩
        · have HN : Hid (eqB f f' m = false) := by
            rw [show m = k + 1 + (m - (k + 1)) by omega]
            apply eqB_no
            rw [eqB]; simp [hB]
          have hn : (f k != f' k) = true := by simp [hB]
          go_wp2
          go_quiet (fail)
          go_wp2
          go_ret
          exact ⟨ret_b (by rw [HB.out, HN.out]), q + nq, by simp⟩
      · have e : k = m := by omega
        subst e
        go_wp2
        go_ret
        exact ⟨ret_b (by rw [HB.out, hs]), q, rfl⟩
  · have HB : Hid (sameB m m' f f' = false) := by simp [Hid, sameB, hmm]
    have hd : ((m : Int) != (m' : Int)) = true := by simp; omega
    go_enter Tryd.func13, Tryd.ntmps13
    go_wp2
    go_ret
    exact ⟨ret_b HB.out.symm, 0, rfl⟩

/-- A list that the program's text builds. -/
def nthI (xs : List Int) (j : Nat) : Int := xs.getD j 0
theorem lit_cells (w : World) (xs : List Int) (j : Nat) (hj : j < xs.length) : (w.alloc (.cells (xs.map (Value.int .i64)).toArray 3)).cell? ⟨w.heap.size, 0 + j, none⟩ = some (.int .i64 (nthI xs j)) := by
  rw [cell_of_row _ _ _ _ _ _ (heap_alloc_new w _)]
  simp [nthI, hj]
theorem own_below {w w' : World} {base n : Nat} {v : Value} {xs : List Value} (h : w.ownsRow base 3 1 v n xs) (hb : Below w.heap.size w w') : w'.ownsRow base 3 1 v n xs :=
  h.kept (gr_below hb none) (by cases hv : v.ownBlock <;> simp)
theorem own_gr {w w' : World} {base n g cap b : Nat} {xs : List Value} (h : w.ownsRow base 3 1 (.slice (some ⟨g, 0, none⟩) n cap) n xs) (hb : w.grownBy w' (some b)) (hne : g ≠ b) : w'.ownsRow base 3 1 (.slice (some ⟨g, 0, none⟩) n cap) n xs :=
  h.kept hb (by simp [Value.ownBlock, hne])
theorem drew_below (w : World) (q : Nat) : Below w.heap.size w (w.drewN q) := ⟨rfl, rfl, rfl, Nat.le_refl _, fun _ _ => rfl⟩
theorem drew_gr (w : World) (q : Nat) (r : Option Nat) : w.grownBy (w.drewN q) r := ⟨rfl, rfl, rfl, Nat.le_refl _, fun _ _ _ => rfl⟩
theorem same_b (g o m cap g' o' m' cap' : Nat) (ao ao' : Option Addr) (f f' : Nat → Int) (w : World) (hao : 0 < m → ao = some ⟨g, o, none⟩) (hao' : 0 < m' → ao' = some ⟨g', o', none⟩) (hm : m ≤ 140737488355328) (hm' : m' ≤ 140737488355328)
    (hc : ∀ j, j < m → w.cell? ⟨g, o + j, none⟩ = some (.int .i64 (f j))) (hc' : ∀ j, j < m' → w.cell? ⟨g', o' + j, none⟩ = some (.int .i64 (f' j))) :
    Calls Tryd.prog 13 #[.slice ao m cap, .slice ao' m' cap'] w fun e w' => e = .returned (.bool (sameB m m' f f')) ∧ Below w.heap.size w w' :=
  (same_any g o m cap g' o' m' cap' ao ao' f f' w hao hao' hm hm' hc hc').mono fun _ _ ⟨he, q, hq⟩ => ⟨he, by rw [hq]; exact drew_below w q⟩
theorem Below.alloc1 (w : World) (o : Obj) : Below w.heap.size w (w.alloc o) := (Below.refl _ _).alloc (Nat.le_refl _) _
theorem keepB {B : Nat} {w w1 : World} (h : Below B w w1) {g o : Nat} {v : Value} (hg : g < B) (hc : w.cell? ⟨g, o, none⟩ = some v) : w1.cell? ⟨g, o, none⟩ = some v := (h.cell (p := ⟨g, o, none⟩) hg).trans hc
theorem below_on {B : Nat} {w w1 w2 : World} (h : Below B w w1) (k : Below w1.heap.size w1 w2) (hB : B ≤ w1.heap.size) : Below B w w2 := h.trans (k.mono hB)
end Go.Proofs.YtmfecocbadekhaaDoor
