/-
  LAYER 15: package pass: which passes may be asked (2): who holds, who waits.
-/
import Derived.Test.YtdkibcagbidelaaPaA
import Derived.Maps.Own
import Derived.Carry
import Derived.WalkArith
namespace Go.Proofs.Ytdkibcagbidelaa
open Go.RowKit Pr Go.Maps

theorem ret_int {k : IntKind} {a b : Int} (h : a = b) : Ending.returned (.int k a) = .returned (.int k b) := by rw [h]
set_option maxHeartbeats 400000 in
theorem nodes_any {w : World} {ao : Option Addr} {l : List Rn} {c : Nat} (hA : RunsAt w ao l) (hn : l.length * 16 ≤ 140737488355328) (hok : l.all okR = true) :
    Calls Try.prog 27 #[.slice ao l.length c] w fun e w' => e = .returned (.int .i64 (sumN l)) ∧ Below w.heap.size w w' := by
  obtain ⟨q, hq⟩ : ∃ q, l.length = q := ⟨_, rfl⟩
  obtain ⟨g, o, hg, hc⟩ := hA
  rw [hq]
  rw [hq] at hg hn
  go_enter Try.func27, Try.ntmps27
  go_wp2
  go_loopg [3, 8] q (fun gk s p wr => ∃ j : Nat, j + gk = q ∧ p = .int .i64 j ∧ s = .int .i64 (sumN (l.take j)) ∧ Below w.heap.size w wr)
  case atStart => exact ⟨0, by omega, rfl, rfl, Below.refl _ _⟩
  case round =>
    obtain ⟨j, hj, rfl, rfl, hb⟩ := hrel
    by_cases hlt : j < q
    · obtain ⟨r, hr⟩ : ∃ r, l[j]? = some r := ⟨_, List.getElem?_eq_getElem (by omega)⟩
      obtain rfl := hg (by omega)
      obtain ⟨c1, c2⟩ := hc j r hr
      replace c1 := (hb.cell (World.block_lt_of_cell? w _ c1)).trans c1
      replace c2 := (hb.cell (World.block_lt_of_cell? w _ c2)).trans c2
      have hs := sumN_bound (take_all hok j)
      have hle : (l.take j).length ≤ j := List.length_take_le _ _
      have hr1 := okR_le (List.all_eq_true.1 hok r (List.mem_of_getElem? hr))
      have HS : Hid (sumN (l.take (j + 1)) = sumN (l.take j) + r.nd) := sumN_take hr
      clear hc hg hr hok
      generalize hS : sumN (l.take j) = S at *
      clear hS
      have s1 : 0 ≤ S := hs.1
      have s2 : S ≤ 256 * j := by omega
      clear hs hle
      go_wp2
      go_roundg (q - (j + 1))
      case measure => omega
      case rel => exact ⟨j + 1, by omega, rfl, by rw [HS.out], hb.trans (((Below.refl _ _).alloc (Nat.le_refl _) _).mono hb.size)⟩
    · obtain rfl : j = q := by omega
      have e : Hid (sumN l = sumN (l.take j)) := by rw [List.take_of_length_le (by omega)]; exact rfl
      go_wp2
      go_ret
      exact ⟨ret_int (by rw [e.out]), hb⟩

theorem ret_bool {a b : Bool} (h : a = b) : Ending.returned (.bool a) = .returned (.bool b) := by rw [h]
theorem its_any (r : Wt) {b : Nat} {ho : Int} {w : World} (hb : w.cell? ⟨b, 0, none⟩ = some (.int .i64 ho)) :
    Calls Try.prog 38 #[.agg #[.int .i64 r.job, .int .i64 r.nd, .int .i64 r.lm], .pointer (some ⟨b, 0, none⟩)] w fun e w' => e = .returned (.bool (decide (r.job = ho))) ∧ Below w.heap.size w w' := by
  have hbl : Below w.heap.size w (w.alloc (.cells #[.int .i64 r.job, .int .i64 r.nd, .int .i64 r.lm] 40)) := (Below.refl _ w).alloc (Nat.le_refl _) _
  have hlt := World.block_lt_of_cell? w _ hb
  have hb' : (w.alloc (.cells #[.int .i64 r.job, .int .i64 r.nd, .int .i64 r.lm] 40)).cell? ⟨b, 0, none⟩ = some (.int .i64 ho) := (hbl.cell hlt).trans hb
  clear hb
  by_cases h : r.job = ho
  · rw [show decide (r.job = ho) = true by simp [h]]
    obtain ⟨x, hx⟩ : ∃ x, r.job = x := ⟨_, rfl⟩
    rw [hx] at h hb' hbl ⊢
    subst h
    go_enter Try.func38, Try.ntmps38
    go_wp2
    go_ret
    exact ⟨by first | rfl | simp [h] | simp, hbl⟩
  · rw [show decide (r.job = ho) = false by simp [h]]
    go_enter Try.func38, Try.ntmps38
    go_wp2
    go_ret
    exact ⟨by first | rfl | simp [h] | simp, hbl⟩

set_option maxHeartbeats 400000 in
theorem indexW_any {w : World} {ao : Option Addr} {l : List Wt} {c b : Nat} {ho : Int} (hA : WantsAt w ao l) (hn : l.length * 24 ≤ 140737490000000) (hb0 : w.cell? ⟨b, 0, none⟩ = some (.int .i64 ho)) :
    Calls Try.prog 47 #[.slice ao l.length c, .func (.func 38) #[] #[.pointer (some ⟨b, 0, none⟩)]] w fun e w' => ∃ k : Int, e = .returned (.int .i64 k) ∧ (k = -1 ∧ (l.any fun x => decide (x.job = ho)) = false ∨ 0 ≤ k ∧ (l.any fun x => decide (x.job = ho)) = true) ∧ Below w.heap.size w w' := by
  obtain ⟨q, hq⟩ : ∃ q, l.length = q := ⟨_, rfl⟩
  obtain ⟨g, o, hg, hc⟩ := hA
  rw [hq]
  rw [hq] at hg hn
  go_enter Try.func47, Try.ntmps47
  go_wp2
  go_loopg [8] q (fun gk p wr => ∃ j : Nat, j + gk = q ∧ p = .int .i64 j ∧ Below w.heap.size w wr ∧ (l.any fun x => decide (x.job = ho)) = (l.drop j).any fun x => decide (x.job = ho))
  case atStart => exact ⟨0, by omega, rfl, Below.refl _ _, by simp⟩
  case round =>
    obtain ⟨j, hj, rfl, hb, hinv⟩ := hrel
    by_cases hlt : j < q
    · obtain ⟨r, hr⟩ : ∃ r, l[j]? = some r := ⟨_, List.getElem?_eq_getElem (by omega)⟩
      obtain rfl := hg (by omega)
      obtain ⟨c1, c2, c3⟩ := hc j r hr
      replace c1 := (hb.cell (World.block_lt_of_cell? w _ c1)).trans c1
      replace c2 := (hb.cell (World.block_lt_of_cell? w _ c2)).trans c2
      replace c3 := (hb.cell (World.block_lt_of_cell? w _ c3)).trans c3
      have cb := (hb.cell (World.block_lt_of_cell? w _ hb0)).trans hb0
      rw [anyW_drop hr] at hinv
      have HI : Hid _ := hinv
      clear hc hg hr hinv
      go_wp2_with fail
      refine (its_any r cb).mono ?_
      rintro e w1 ⟨rfl, b1⟩
      have b2 := hb.trans (b1.mono hb.size)
      have hinv := HI.out
      clear HI
      cases hh : decide (r.job = ho) with
      | true =>
        rw [hh, Bool.true_or] at hinv
        have HI : Hid _ := hinv
        clear hinv hh
        go_wp2
        go_ret
        exact ⟨_, rfl, .inr ⟨by omega, HI.out⟩, b2⟩
      | false =>
        rw [hh, Bool.false_or] at hinv
        have HI : Hid _ := hinv
        clear hinv hh
        go_wp2
        go_roundg (q - (j + 1))
        case measure => omega
        case rel => exact ⟨j + 1, by omega, rfl, b2, HI.out⟩
    · obtain rfl : j = q := by omega
      have e : Hid ((l.any fun x => decide (x.job = ho)) = false) := by rw [hinv, List.drop_of_length_le (by omega)]; exact rfl
      clear hinv
      go_wp2
      go_ret
      exact ⟨_, rfl, .inl ⟨rfl, e.out⟩, hb⟩

theorem containsW_any {w : World} {ao : Option Addr} {l : List Wt} {c b : Nat} {ho : Int} (hA : WantsAt w ao l) (hn : l.length * 24 ≤ 140737490000000) (hb0 : w.cell? ⟨b, 0, none⟩ = some (.int .i64 ho)) :
    Calls Try.prog 39 #[.slice ao l.length c, .func (.func 38) #[] #[.pointer (some ⟨b, 0, none⟩)]] w fun e w' => e = .returned (.bool (l.any fun x => decide (x.job = ho))) ∧ Below w.heap.size w w' := by
  go_enter Try.func39, Try.ntmps39
  go_wp2_with fail
  refine (indexW_any hA hn hb0).mono ?_
  rintro e w1 ⟨k, rfl, (⟨rfl, h⟩ | ⟨hk, h⟩), b1⟩
  · have H : Hid _ := h
    clear h
    go_wp2
    go_ret
    exact ⟨by rw [H.out]; rfl, b1⟩
  · have H : Hid _ := h
    clear h
    go_wp2
    go_ret
    exact ⟨by rw [H.out]; rfl, b1⟩

theorem mayHold_any {w : World} {ao : Option Addr} {l : List Wt} {c : Nat} (hA : WantsAt w ao l) (hn : l.length * 24 ≤ 140737490000000) (ho : Int) :
    Calls Try.prog 28 #[.int .i64 ho, .slice ao l.length c] w fun e w' => e = .returned (.bool (mayHoldB ho l)) ∧ Below w.heap.size w w' := by
  have hbl : Below w.heap.size w (w.alloc (.cells #[.int .i64 ho] 3)) := (Below.refl _ w).alloc (Nat.le_refl _) _
  by_cases h : ho = -1
  · subst h
    rw [show mayHoldB (-1) l = true from rfl]
    go_enter Try.func28, Try.ntmps28
    go_wp2
    go_ret
    exact ⟨by first | rfl | simp [h] | simp, hbl⟩
  · have e : mayHoldB ho l = l.any fun x => decide (x.job = ho) := by simp [mayHoldB, h]
    rw [e]
    have hcon := containsW_any (c := c) (hA.below hbl) hn (b := w.heap.size) (ho := ho) (cell_nw w rfl)
    go_enter Try.func28, Try.ntmps28
    go_wp2_with (go_at_call 39; refine hcon.mono ?_; rintro e w1 ⟨rfl, b1⟩)
    go_ret
    exact ⟨by first | rfl | simp [h] | simp, hbl.trans (b1.mono hbl.size)⟩
end Go.Proofs.Ytdkibcagbidelaa
