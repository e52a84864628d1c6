/-
  LAYER 15: package pass: which passes may be asked (1): numbers, runs, who holds.
-/
import Derived.Test.YtdkibcagbidelaaPfR
import Derived.Test.YtdkibcagbidelaaVal
import Derived.Test.YtdkibcagbidelaaPsN
namespace Go.Proofs.Ytdkibcagbidelaa
open Go.RowKit Pr

namespace Pr
def frB (a b n : Int) : Bool := decide (a ≤ n) && decide (n ≤ b)
/-- A run that may be. -/
def runB (now : Int) (r : Rn) : Bool := okR r && (decide (now + 1 ≤ r.en) && decide (r.en ≤ 4398046511104))
def nowB (now : Int) : Bool := decide (0 ≤ now) && decide (now ≤ 2199023255552)
def mayRunB (now free : Int) (l : List Rn) : Bool := (nowB now && okF free) && l.all (runB now)
def mayHoldB (ho : Int) (l : List Wt) : Bool := decide (ho = -1) || l.any fun w => decide (w.job = ho)
theorem allB_drop {p : Rn → Bool} {l : List Rn} {k : Nat} {r : Rn} (h : l[k]? = some r) : (l.drop k).all p = (p r && (l.drop (k + 1)).all p) := by
  obtain ⟨hk, rfl⟩ := List.getElem?_eq_some_iff.1 h
  rw [List.drop_eq_getElem_cons hk]
  rfl
theorem anyW_drop {p : Wt → Bool} {l : List Wt} {k : Nat} {r : Wt} (h : l[k]? = some r) : (l.drop k).any p = (p r || (l.drop (k + 1)).any p) := by
  obtain ⟨hk, rfl⟩ := List.getElem?_eq_some_iff.1 h
  rw [List.drop_eq_getElem_cons hk]
  rfl
end Pr
/-- Wants that lie in memory. -/
def WantsAt (W : World) (ao : Option Addr) (l : List Wt) : Prop := ∃ g o, (0 < l.length → ao = some ⟨g, o, none⟩) ∧ ∀ k r, l[k]? = some r → W.cell? ⟨g, o + k * 3, none⟩ = some (.int .i64 r.job) ∧ W.cell? ⟨g, o + k * 3 + 1, none⟩ = some (.int .i64 r.nd) ∧ W.cell? ⟨g, o + k * 3 + 2, none⟩ = some (.int .i64 r.lm)
theorem WantsAt.below {W W' : World} {ao : Option Addr} {l : List Wt} (h : WantsAt W ao l) (b : Below W.heap.size W W') : WantsAt W' ao l := by
  obtain ⟨g, o, h1, h2⟩ := h
  exact ⟨g, o, h1, fun k r hr => ⟨(b.cell (World.block_lt_of_cell? W _ (h2 k r hr).1)).trans (h2 k r hr).1, (b.cell (World.block_lt_of_cell? W _ (h2 k r hr).2.1)).trans (h2 k r hr).2.1, (b.cell (World.block_lt_of_cell? W _ (h2 k r hr).2.2)).trans (h2 k r hr).2.2⟩⟩

theorem frm_any (a b n : Int) (w : World) : Calls Try.prog 36 #[.int .i64 a, .int .i64 b, .int .i64 n] w fun e w' => e = .returned (.bool (frB a b n)) ∧ w' = w := by
  by_cases h1 : a ≤ n
  · by_cases h2 : n ≤ b
    · have e : frB a b n = true := by simp [frB, h1, h2]
      rw [e]
      go_enter Try.func36, Try.ntmps36
      go_wp2
      go_ret
      exact ⟨rfl, rfl⟩
    · have e : frB a b n = false := by simp [frB, h2]
      rw [e]
      go_enter Try.func36, Try.ntmps36
      go_wp2
      go_ret
      exact ⟨rfl, rfl⟩
  · have e : frB a b n = false := by simp [frB, h1]
    rw [e]
    go_enter Try.func36, Try.ntmps36
    go_wp2
    go_ret
    exact ⟨rfl, rfl⟩

set_option maxHeartbeats 400000 in
theorem wrongR_any (r : Rn) {b : Nat} {now : Int} {w : World} (hb : w.cell? ⟨b, 0, none⟩ = some (.int .i64 now)) (h0 : 0 ≤ now) (h1 : now ≤ 2199023255552) :
    Calls Try.prog 35 #[.agg #[.int .i64 r.nd, .int .i64 r.en], .pointer (some ⟨b, 0, none⟩)] w fun e w' => e = .returned (.bool (!runB now r)) ∧ Below w.heap.size w w' := by
  have hbl : Below w.heap.size w (w.alloc (.cells #[.int .i64 r.nd, .int .i64 r.en] 45)) := (Below.refl _ w).alloc (Nat.le_refl _) _
  have hlt := World.block_lt_of_cell? w _ hb
  have hb' : (w.alloc (.cells #[.int .i64 r.nd, .int .i64 r.en] 45)).cell? ⟨b, 0, none⟩ = some (.int .i64 now) := (hbl.cell hlt).trans hb
  rw [show runB now r = (frB 1 256 r.nd && frB (now + 1) 4398046511104 r.en) from rfl]
  clear hb
  cases c1 : frB 1 256 r.nd with
  | true =>
    cases c2 : frB (now + 1) 4398046511104 r.en with
    | true =>
      go_enter Try.func35, Try.ntmps35
      go_wp2_with (go_at_call 36; refine (frm_any _ _ _ _).mono ?_; rintro e w' ⟨rfl, rfl⟩)
      go_ret
      exact ⟨rfl, hbl⟩
    | false =>
      go_enter Try.func35, Try.ntmps35
      go_wp2_with (go_at_call 36; refine (frm_any _ _ _ _).mono ?_; rintro e w' ⟨rfl, rfl⟩)
      go_ret
      exact ⟨rfl, hbl⟩
  | false =>
    go_enter Try.func35, Try.ntmps35
    go_wp2_with (go_at_call 36; refine (frm_any _ _ _ _).mono ?_; rintro e w' ⟨rfl, rfl⟩)
    go_ret
    exact ⟨rfl, hbl⟩

set_option maxHeartbeats 1000000 in
theorem indexR_any {w : World} {ao : Option Addr} {l : List Rn} {c b : Nat} {now : Int} (hA : RunsAt w ao l) (hn : l.length * 16 ≤ 140737488355328) (hb0 : w.cell? ⟨b, 0, none⟩ = some (.int .i64 now)) (h0 : 0 ≤ now) (h1 : now ≤ 2199023255552) :
    Calls Try.prog 46 #[.slice ao l.length c, .func (.func 35) #[] #[.pointer (some ⟨b, 0, none⟩)]] w fun e w' => ∃ k : Int, e = .returned (.int .i64 k) ∧ (k = -1 ∧ l.all (runB now) = true ∨ 0 ≤ k ∧ l.all (runB now) = false) ∧ Below w.heap.size w w' := by
  obtain ⟨q, hq⟩ : ∃ q, l.length = q := ⟨_, rfl⟩
  obtain ⟨g, o, hg, hc⟩ := hA
  rw [hq]
  rw [hq] at hg hn
  go_enter Try.func46, Try.ntmps46
  go_wp2
  go_loopg [8] q (fun gk p wr => ∃ j : Nat, j + gk = q ∧ p = .int .i64 j ∧ Below w.heap.size w wr ∧ l.all (runB now) = (l.drop j).all (runB now))
  case atStart => exact ⟨0, by omega, rfl, Below.refl _ _, by simp⟩
  case round =>
    obtain ⟨j, hj, rfl, hb, hinv⟩ := hrel
    by_cases hlt : j < q
    · obtain ⟨r, hr⟩ : ∃ r, l[j]? = some r := ⟨_, List.getElem?_eq_getElem (by omega)⟩
      obtain rfl := hg (by omega)
      obtain ⟨c1, c2⟩ := hc j r hr
      replace c1 := (hb.cell (World.block_lt_of_cell? w _ c1)).trans c1
      replace c2 := (hb.cell (World.block_lt_of_cell? w _ c2)).trans c2
      have cb := (hb.cell (World.block_lt_of_cell? w _ hb0)).trans hb0
      rw [allB_drop hr] at hinv
      clear hc hg hr
      go_wp2_with fail
      refine (wrongR_any r cb h0 h1).mono ?_
      rintro e w1 ⟨rfl, b1⟩
      have b2 := hb.trans (b1.mono hb.size)
      cases ho : runB now r with
      | false =>
        rw [ho, Bool.false_and] at hinv
        have HI : Hid _ := hinv
        clear hinv
        go_wp2
        go_ret
        exact ⟨_, rfl, .inr ⟨by omega, HI.out⟩, b2⟩
      | true =>
        rw [ho, Bool.true_and] at hinv
        have HI : Hid _ := hinv
        clear hinv
        go_wp2
        go_roundg (q - (j + 1))
        case measure => omega
        case rel => exact ⟨j + 1, by omega, rfl, b2, HI.out⟩
    · obtain rfl : j = q := by omega
      have e : Hid (l.all (runB now) = true) := by rw [hinv, List.drop_of_length_le (by omega)]; exact rfl
      clear hinv
      go_wp2
      go_ret
      exact ⟨_, rfl, .inl ⟨rfl, e.out⟩, hb⟩

theorem containsR_any {w : World} {ao : Option Addr} {l : List Rn} {c b : Nat} {now : Int} (hA : RunsAt w ao l) (hn : l.length * 16 ≤ 140737488355328) (hb0 : w.cell? ⟨b, 0, none⟩ = some (.int .i64 now)) (h0 : 0 ≤ now) (h1 : now ≤ 2199023255552) :
    Calls Try.prog 37 #[.slice ao l.length c, .func (.func 35) #[] #[.pointer (some ⟨b, 0, none⟩)]] w fun e w' => e = .returned (.bool (!l.all (runB now))) ∧ Below w.heap.size w w' := by
  go_enter Try.func37, Try.ntmps37
  go_wp2_with fail
  refine (indexR_any hA hn hb0 h0 h1).mono ?_
  rintro e w1 ⟨k, rfl, (⟨rfl, h⟩ | ⟨hk, h⟩), b1⟩
  · have H : Hid _ := h
    clear h
    go_wp2
    go_ret
    exact ⟨by rw [H.out]; rfl, b1⟩
  · have H : Hid _ := h
    clear h
    go_wp2
    go_ret
    exact ⟨by rw [H.out]; rfl, b1⟩

set_option maxHeartbeats 400000 in
theorem mayRun_any {w : World} {ao : Option Addr} {l : List Rn} {c : Nat} (hA : RunsAt w ao l) (hn : l.length * 16 ≤ 140737488355328) (now free : Int) :
    Calls Try.prog 25 #[.int .i64 now, .int .i64 free, .slice ao l.length c] w fun e w' => e = .returned (.bool (mayRunB now free l)) ∧ Below w.heap.size w w' := by
  have hbl : Below w.heap.size w (w.alloc (.cells #[.int .i64 now] 3)) := (Below.refl _ w).alloc (Nat.le_refl _) _
  rw [show mayRunB now free l = ((frB 0 2199023255552 now && frB 0 256 free) && l.all (runB now)) from rfl]
  cases c1 : frB 0 2199023255552 now with
  | true =>
    cases c2 : frB 0 256 free with
    | true =>
      have n1 : 0 ≤ now ∧ now ≤ 2199023255552 := by simpa [frB] using c1
      have hcon := containsR_any (c := c) (hA.below hbl) hn (b := w.heap.size) (now := now) (cell_nw w rfl) n1.1 n1.2
      go_enter Try.func25, Try.ntmps25
      go_wp2_with (first | (go_at_call 36; refine (frm_any _ _ _ _).mono ?_; rintro e w' ⟨rfl, rfl⟩) | (go_at_call 37; refine hcon.mono ?_; rintro e w1 ⟨rfl, b1⟩))
      go_ret
      exact ⟨by simp, hbl.trans (b1.mono hbl.size)⟩
    | false =>
      go_enter Try.func25, Try.ntmps25
      go_wp2_with (go_at_call 36; refine (frm_any _ _ _ _).mono ?_; rintro e w' ⟨rfl, rfl⟩)
      go_ret
      exact ⟨rfl, hbl⟩
  | false =>
    go_enter Try.func25, Try.ntmps25
    go_wp2_with (go_at_call 36; refine (frm_any _ _ _ _).mono ?_; rintro e w' ⟨rfl, rfl⟩)
    go_ret
    exact ⟨rfl, hbl⟩
end Go.Proofs.Ytdkibcagbidelaa
