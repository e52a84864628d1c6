/-
  LAYER 15: package pass: which passes may be asked (3): wants.
-/
import Derived.Test.YtdkibcagbidelaaPaB
namespace Go.Proofs.Ytdkibcagbidelaa
open Go.RowKit Pr Go.Maps

namespace Pr
def okW (all : Int) (w : Wt) : Bool := decide (0 ≤ w.job) && (frB 1 (min all 256) w.nd && frB 1 1048576 w.lm)
def waitB (all : Int) : List Int → List Wt → Bool
  | _, [] => true
  | S, w :: l => (okW all w && !S.contains w.job) && waitB all (w.job :: S) l
theorem wait_drop {all : Int} {S : List Int} {l : List Wt} {k : Nat} {r : Wt} (h : l[k]? = some r) : waitB all S (l.drop k) = ((okW all r && !S.contains r.job) && waitB all (r.job :: S) (l.drop (k + 1))) := by
  obtain ⟨hk, rfl⟩ := List.getElem?_eq_some_iff.1 h
  rw [List.drop_eq_getElem_cons hk]
  rfl
end Pr
/-- How a count reads: as it is. -/
def heldV (v : Value) : Option (DataW Value × List MemPlace) := some (.held v, [])
theorem Try.keyT : Keyed Try.prog 3 := int_keyed Try.underlying3
theorem Try.zeroT (w : World) : (zeroValue 3).run Try.prog w = .ok (.int .i64 0) w := by kernel_rfl
theorem keyI {p : Int} (h : -9223372036854775808 ≤ p ∧ p ≤ 9223372036854775807) : keyOf Try.prog 3 (.int .i64 p) = some (.int .i64 p) := keyOf_int_mk Try.underlying3 (WalkArith.wf_i64 (by omega))
def cntV (S : List Int) (j : Int) : Int := if S.contains j then 1 else 0
/-- How often each number was met: those of S once. -/
def Tms (W : World) (m k : Nat) (S : List Int) : Prop := ∃ D, W.ownsMap Try.prog 3 heldV m k D ∧ ∀ j : Int, D.atKey (.int .i64 j) (.held (.int .i64 0)) = .held (.int .i64 (cntV S j))
theorem Tms.made (w : World) : Tms (w.alloc (.map #[] 0)) w.heap.size 0 [] := ⟨.map [], World.ownsMap_made w Try.prog 3 heldV, fun _ => rfl⟩
theorem Tms.lt {W : World} {m k : Nat} {S : List Int} (h : Tms W m k S) : m < W.heap.size := by
  obtain ⟨D, h1, _⟩ := h
  exact h1.lt
theorem Tms.below {W W' : World} {m k : Nat} {S : List Int} (h : Tms W m k S) (b : Below W.heap.size W W') : Tms W' m k S := by
  have hl := h.lt
  obtain ⟨D, ⟨es, clock, hb, r⟩, h2⟩ := h
  exact ⟨D, ⟨es, clock, (b.block m hl).trans hb, r⟩, h2⟩
theorem look_of {W : World} {m k : Nat} {D : DataW Value} {v : Value} {j : Int} (h : W.ownsMap Try.prog 3 heldV m k D) (hj : -9223372036854775808 ≤ j ∧ j ≤ 9223372036854775807) (hv : D.atKey (.int .i64 j) (.held (.int .i64 0)) = .held v) :
    (Instr.lookup 86 (.map (some m)) (.int .i64 j) false).run Try.prog W = .ok v W := by
  obtain ⟨x, ps, hr, hx⟩ := h.lookup Try.keyT Try.underlying86 (Try.zeroT W) (zd := .held (.int .i64 0)) (zp := []) rfl (keyI hj)
  rw [hv] at hx
  unfold heldV at hx
  have hx := DataW.held.inj (Prod.mk.inj (Option.some.inj hx)).1
  rw [hr, hx]
/-- One met more. -/
theorem Tms.step {W : World} {m k : Nat} {S : List Int} {j : Int} (h : Tms W m k S) (hk : k < maxLen) (hj : -9223372036854775808 ≤ j ∧ j ≤ 9223372036854775807) :
    (Instr.lookup 86 (.map (some m)) (.int .i64 j) false).run Try.prog W = .ok (.int .i64 (cntV S j)) W ∧
    ∃ W', (Instr.mapUpdate 86 (.map (some m)) (.int .i64 j) (.int .i64 (cntV S j + 1))).run Try.prog W = .ok () W' ∧ (Instr.lookup 86 (.map (some m)) (.int .i64 j) false).run Try.prog W' = .ok (.int .i64 (cntV S j + 1)) W' ∧
      W.grownBy W' (some m) ∧ (S.contains j = false → Tms W' m (k + 1) (j :: S)) := by
  obtain ⟨D, h1, h2⟩ := h
  refine ⟨look_of h1 hj (h2 j), ?_⟩
  obtain ⟨W', hrun, hD, hg⟩ := h1.update Try.keyT Try.underlying86 hk (keyI hj) (val := .int .i64 (cntV S j + 1)) (d := .held (.int .i64 (cntV S j + 1))) (ps := []) rfl
  have hism : Maps.IsMap D := h1.isMap
  refine ⟨W', hrun, look_of hD hj (Maps.atKey_put_same (k := .int .i64 j) hism (by exact trivial) _ _), hg, fun hS => ⟨_, hD, fun i => ?_⟩⟩
  by_cases e : i = j
  · subst e
    rw [Maps.atKey_put_same hism (by exact trivial)]
    simp only [cntV, hS]
    simp
  · rw [Maps.atKey_put_other (fun x => e (Lit.int.inj x).2), h2 i]
    simp [cntV, e]
theorem makeT (n : Int) (w : World) : (Instr.makeMap 86 (some (.int .i64 n))).run Try.prog w = .ok (.map (some w.heap.size)) (w.alloc (.map #[] 0)) := by
  simp [Instr.makeMap, run_underlying Try.underlying86]
  rfl

set_option maxRecDepth 20000 in
set_option maxHeartbeats 1000000 in
theorem mayWait_small {w : World} {ao : Option Addr} {l : List Wt} {c : Nat} (hA : WantsAt w ao l) (hn : l.length * 24 ≤ 140737490000000) (hwf : ∀ x ∈ l, -9223372036854775808 ≤ x.job ∧ x.job ≤ 9223372036854775807) (all : Int) (hm : all ≤ 256) :
    Calls Try.prog 26 #[.slice ao l.length c, .int .i64 all] w fun e w' => e = .returned (.bool (waitB all [] l)) ∧ Below w.heap.size w w' := by
  obtain ⟨q, hq⟩ : ∃ q, l.length = q := ⟨_, rfl⟩
  obtain ⟨g, o, hg, hc⟩ := hA
  rw [hq]
  rw [hq] at hg hn
  have HT0 : Hid (Tms (w.alloc (.map #[] 0)) w.heap.size 0 []) := Tms.made w
  have hb0 : Below w.heap.size w (w.alloc (.map #[] 0)) := (Below.refl _ w).alloc (Nat.le_refl _) _
  have hmk := makeT
  have hok : Hid (∀ r : Wt, okW all r = (decide (0 ≤ r.job) && (frB 1 all r.nd && frB 1 1048576 r.lm))) := fun r => by unfold okW; rw [show min all 256 = all by omega]
  go_enter Try.func26, Try.ntmps26
  go_wp2
  go_loopg [16] q (fun gk p wr => ∃ j : Nat, j + gk = q ∧ p = .int .i64 j ∧ Tms wr w.heap.size j ((l.take j).reverse.map Wt.job) ∧ Below w.heap.size w wr ∧ waitB all [] l = waitB all ((l.take j).reverse.map Wt.job) (l.drop j))
  case atStart => exact ⟨0, by omega, rfl, HT0.out, hb0, by simp⟩
  case round =>
    obtain ⟨j, hj, rfl, hT, hb, hinv⟩ := hrel
    by_cases hlt : j < q
    · obtain ⟨r, hr⟩ : ∃ r, l[j]? = some r := ⟨_, List.getElem?_eq_getElem (by omega)⟩
      obtain rfl := hg (by omega)
      obtain ⟨c1, c2, c3⟩ := hc j r hr
      replace c1 := (hb.cell (World.block_lt_of_cell? w _ c1)).trans c1
      replace c2 := (hb.cell (World.block_lt_of_cell? w _ c2)).trans c2
      replace c3 := (hb.cell (World.block_lt_of_cell? w _ c3)).trans c3
      have hrw := hwf r (List.mem_of_getElem? hr)
      rw [wait_drop hr, hok.out r] at hinv
      obtain ⟨W1, hW1⟩ : ∃ W1, wr.alloc (.cells #[.int .i64 r.job, .int .i64 r.nd, .int .i64 r.lm] 40) = W1 := ⟨_, rfl⟩
      have b1 : Below wr.heap.size wr W1 := by rw [← hW1]; exact (Below.refl _ _).alloc (Nat.le_refl _) _
      have hT1 := hT.below b1
      have hml := hT.lt
      have hml1 := hT1.lt
      obtain ⟨lk, W2, up, lk2, hg2, hT2⟩ := hT1.step (j := r.job) (by unfold maxLen; omega) hrw
      have hz1 : W1.heap.size = wr.heap.size + 1 := by rw [← hW1]; simp
      have hne : w.heap.size ≠ wr.heap.size := by omega
      have bl1 : W1.heap[wr.heap.size]? = some (.cells #[.int .i64 r.job, .int .i64 r.nd, .int .i64 r.lm] 40 (0, 0)) := by rw [← hW1]; exact heap_alloc_new wr _
      have bl2 : W2.heap[wr.heap.size]? = some (.cells #[.int .i64 r.job, .int .i64 r.nd, .int .i64 r.lm] 40 (0, 0)) := (hg2.block _ (by omega) (fun e => hne (Option.some.inj e).symm)).trans bl1
      have x0 : W1.cell? ⟨wr.heap.size, 0, none⟩ = some (.int .i64 r.job) := cells_at bl1 rfl
      have y0 : W2.cell? ⟨wr.heap.size, 0, none⟩ = some (.int .i64 r.job) := cells_at bl2 rfl
      have y1 : W2.cell? ⟨wr.heap.size, 1, none⟩ = some (.int .i64 r.nd) := cells_at bl2 rfl
      have y2 : W2.cell? ⟨wr.heap.size, 2, none⟩ = some (.int .i64 r.lm) := cells_at bl2 rfl
      have b2 : Below w.heap.size w W2 := (hb.trans (b1.mono hb.size)).grown hg2 (by omega) (fun k e => by cases e; omega)
      have hsn : (l.take (j + 1)).reverse.map Wt.job = r.job :: (l.take j).reverse.map Wt.job := by rw [List.take_add_one, hr]; simp

      have HT2 : Hid _ := hT2
      have HSN : Hid _ := hsn
      generalize (l.take j).reverse.map Wt.job = S at *
      clear hT hT1 hc hg hr hwf hT2 hsn b1 bl1 bl2 hg2 hmk HT0 hb0 hok hne hrw
      have cb : cntV S r.job = 0 ∨ cntV S r.job = 1 := by unfold cntV; split <;> simp
      cases hS : S.contains r.job with
      | true =>
        have e1 : cntV S r.job = 1 := by unfold cntV; rw [if_pos hS]
        rw [e1] at lk up lk2
        rw [show (1 : Int) + 1 = 2 from rfl] at up lk2
        rw [hS, Bool.not_true, Bool.and_false, Bool.false_and] at hinv
        have HI : Hid _ := hinv
        clear hinv cb e1 hS
        by_cases h0 : r.job < 0
        · go_wp2
          go_ret
          exact ⟨by rw [HI.out]; rfl, b2⟩
        · go_wp2
          go_ret
          exact ⟨by rw [HI.out]; rfl, b2⟩
      | false =>
        have e1 : cntV S r.job = 0 := by unfold cntV; rw [if_neg (by rw [hS]; decide)]
        rw [e1] at lk up lk2
        rw [show (0 : Int) + 1 = 1 from rfl] at up lk2
        have HT3 : Hid _ := HT2.out hS
        rw [hS, Bool.not_false, Bool.and_true] at hinv
        clear cb e1 hS HT2
        by_cases h0 : r.job < 0
        · rw [show decide (0 ≤ r.job) = false by simp; omega, Bool.false_and, Bool.false_and] at hinv
          have HI : Hid _ := hinv
          clear hinv
          go_wp2
          go_ret
          exact ⟨by rw [HI.out]; rfl, b2⟩
        · rw [show decide (0 ≤ r.job) = true by simp; omega, Bool.true_and] at hinv
          cases f1 : frB 1 all r.nd with
          | false =>
            rw [f1, Bool.false_and, Bool.false_and] at hinv
            have HI : Hid _ := hinv
            clear hinv
            go_wp2_with (first | (go_at_call 36; refine (frm_any _ _ _ _).mono ?_; rintro e w' ⟨rfl, rfl⟩))
            go_ret
            exact ⟨by rw [HI.out]; rfl, b2⟩
          | true =>
            rw [f1, Bool.true_and] at hinv
            cases f2 : frB 1 1048576 r.lm with
            | false =>
              rw [f2, Bool.false_and] at hinv
              have HI : Hid _ := hinv
              clear hinv
              go_wp2_with (first | (go_at_call 36; refine (frm_any _ _ _ _).mono ?_; rintro e w' ⟨rfl, rfl⟩))
              go_ret
              exact ⟨by rw [HI.out]; rfl, b2⟩
            | true =>
              rw [f2, Bool.true_and] at hinv
              have HI : Hid _ := hinv
              clear hinv
              go_wp2_with (first | (go_at_call 36; refine (frm_any _ _ _ _).mono ?_; rintro e w' ⟨rfl, rfl⟩))
              go_roundg (q - (j + 1))
              case measure => omega
              case rel => exact ⟨j + 1, by omega, rfl, by rw [HSN.out]; exact HT3.out, b2, by rw [HSN.out]; exact HI.out⟩
    · obtain rfl : j = q := by omega
      have e : Hid (waitB all [] l = true) := by rw [hinv, List.drop_of_length_le (by omega)]; exact rfl
      clear hinv
      go_wp2
      go_ret
      exact ⟨by rw [e.out]; rfl, hb⟩

set_option maxRecDepth 20000 in
set_option maxHeartbeats 1000000 in
theorem mayWait_great {w : World} {ao : Option Addr} {l : List Wt} {c : Nat} (hA : WantsAt w ao l) (hn : l.length * 24 ≤ 140737490000000) (hwf : ∀ x ∈ l, -9223372036854775808 ≤ x.job ∧ x.job ≤ 9223372036854775807) (all : Int) (hm : 256 < all) :
    Calls Try.prog 26 #[.slice ao l.length c, .int .i64 all] w fun e w' => e = .returned (.bool (waitB all [] l)) ∧ Below w.heap.size w w' := by
  obtain ⟨q, hq⟩ : ∃ q, l.length = q := ⟨_, rfl⟩
  obtain ⟨g, o, hg, hc⟩ := hA
  rw [hq]
  rw [hq] at hg hn
  have HT0 : Hid (Tms (w.alloc (.map #[] 0)) w.heap.size 0 []) := Tms.made w
  have hb0 : Below w.heap.size w (w.alloc (.map #[] 0)) := (Below.refl _ w).alloc (Nat.le_refl _) _
  have hmk := makeT
  have hok : Hid (∀ r : Wt, okW all r = (decide (0 ≤ r.job) && (frB 1 256 r.nd && frB 1 1048576 r.lm))) := fun r => by unfold okW; rw [show min all 256 = 256 by omega]
  go_enter Try.func26, Try.ntmps26
  go_wp2
  go_loopg [16] q (fun gk p wr => ∃ j : Nat, j + gk = q ∧ p = .int .i64 j ∧ Tms wr w.heap.size j ((l.take j).reverse.map Wt.job) ∧ Below w.heap.size w wr ∧ waitB all [] l = waitB all ((l.take j).reverse.map Wt.job) (l.drop j))
  case atStart => exact ⟨0, by omega, rfl, HT0.out, hb0, by simp⟩
  case round =>
    obtain ⟨j, hj, rfl, hT, hb, hinv⟩ := hrel
    by_cases hlt : j < q
    · obtain ⟨r, hr⟩ : ∃ r, l[j]? = some r := ⟨_, List.getElem?_eq_getElem (by omega)⟩
      obtain rfl := hg (by omega)
      obtain ⟨c1, c2, c3⟩ := hc j r hr
      replace c1 := (hb.cell (World.block_lt_of_cell? w _ c1)).trans c1
      replace c2 := (hb.cell (World.block_lt_of_cell? w _ c2)).trans c2
      replace c3 := (hb.cell (World.block_lt_of_cell? w _ c3)).trans c3
      have hrw := hwf r (List.mem_of_getElem? hr)
      rw [wait_drop hr, hok.out r] at hinv
      obtain ⟨W1, hW1⟩ : ∃ W1, wr.alloc (.cells #[.int .i64 r.job, .int .i64 r.nd, .int .i64 r.lm] 40) = W1 := ⟨_, rfl⟩
      have b1 : Below wr.heap.size wr W1 := by rw [← hW1]; exact (Below.refl _ _).alloc (Nat.le_refl _) _
      have hT1 := hT.below b1
      have hml := hT.lt
      have hml1 := hT1.lt
      obtain ⟨lk, W2, up, lk2, hg2, hT2⟩ := hT1.step (j := r.job) (by unfold maxLen; omega) hrw
      have hz1 : W1.heap.size = wr.heap.size + 1 := by rw [← hW1]; simp
      have hne : w.heap.size ≠ wr.heap.size := by omega
      have bl1 : W1.heap[wr.heap.size]? = some (.cells #[.int .i64 r.job, .int .i64 r.nd, .int .i64 r.lm] 40 (0, 0)) := by rw [← hW1]; exact heap_alloc_new wr _
      have bl2 : W2.heap[wr.heap.size]? = some (.cells #[.int .i64 r.job, .int .i64 r.nd, .int .i64 r.lm] 40 (0, 0)) := (hg2.block _ (by omega) (fun e => hne (Option.some.inj e).symm)).trans bl1
      have x0 : W1.cell? ⟨wr.heap.size, 0, none⟩ = some (.int .i64 r.job) := cells_at bl1 rfl
      have y0 : W2.cell? ⟨wr.heap.size, 0, none⟩ = some (.int .i64 r.job) := cells_at bl2 rfl
      have y1 : W2.cell? ⟨wr.heap.size, 1, none⟩ = some (.int .i64 r.nd) := cells_at bl2 rfl
      have y2 : W2.cell? ⟨wr.heap.size, 2, none⟩ = some (.int .i64 r.lm) := cells_at bl2 rfl
      have b2 : Below w.heap.size w W2 := (hb.trans (b1.mono hb.size)).grown hg2 (by omega) (fun k e => by cases e; omega)
      have hsn : (l.take (j + 1)).reverse.map Wt.job = r.job :: (l.take j).reverse.map Wt.job := by rw [List.take_add_one, hr]; simp

      have HT2 : Hid _ := hT2
      have HSN : Hid _ := hsn
      generalize (l.take j).reverse.map Wt.job = S at *
      clear hT hT1 hc hg hr hwf hT2 hsn b1 bl1 bl2 hg2 hmk HT0 hb0 hok hne hrw
      have cb : cntV S r.job = 0 ∨ cntV S r.job = 1 := by unfold cntV; split <;> simp
      cases hS : S.contains r.job with
      | true =>
        have e1 : cntV S r.job = 1 := by unfold cntV; rw [if_pos hS]
        rw [e1] at lk up lk2
        rw [show (1 : Int) + 1 = 2 from rfl] at up lk2
        rw [hS, Bool.not_true, Bool.and_false, Bool.false_and] at hinv
        have HI : Hid _ := hinv
        clear hinv cb e1 hS
        by_cases h0 : r.job < 0
        · go_wp2
          go_ret
          exact ⟨by rw [HI.out]; rfl, b2⟩
        · go_wp2
          go_ret
          exact ⟨by rw [HI.out]; rfl, b2⟩
      | false =>
        have e1 : cntV S r.job = 0 := by unfold cntV; rw [if_neg (by rw [hS]; decide)]
        rw [e1] at lk up lk2
        rw [show (0 : Int) + 1 = 1 from rfl] at up lk2
        have HT3 : Hid _ := HT2.out hS
        rw [hS, Bool.not_false, Bool.and_true] at hinv
        clear cb e1 hS HT2
        by_cases h0 : r.job < 0
        · rw [show decide (0 ≤ r.job) = false by simp; omega, Bool.false_and, Bool.false_and] at hinv
          have HI : Hid _ := hinv
          clear hinv
          go_wp2
          go_ret
          exact ⟨by rw [HI.out]; rfl, b2⟩
        · rw [show decide (0 ≤ r.job) = true by simp; omega, Bool.true_and] at hinv
          cases f1 : frB 1 256 r.nd with
          | false =>
            rw [f1, Bool.false_and, Bool.false_and] at hinv
            have HI : Hid _ := hinv
            clear hinv
            go_wp2_with (first | (go_at_call 36; refine (frm_any _ _ _ _).mono ?_; rintro e w' ⟨rfl, rfl⟩))
            go_ret
            exact ⟨by rw [HI.out]; rfl, b2⟩
          | true =>
            rw [f1, Bool.true_and] at hinv
            cases f2 : frB 1 1048576 r.lm with
            | false =>
              rw [f2, Bool.false_and] at hinv
              have HI : Hid _ := hinv
              clear hinv
              go_wp2_with (first | (go_at_call 36; refine (frm_any _ _ _ _).mono ?_; rintro e w' ⟨rfl, rfl⟩))
              go_ret
              exact ⟨by rw [HI.out]; rfl, b2⟩
            | true =>
              rw [f2, Bool.true_and] at hinv
              have HI : Hid _ := hinv
              clear hinv
              go_wp2_with (first | (go_at_call 36; refine (frm_any _ _ _ _).mono ?_; rintro e w' ⟨rfl, rfl⟩))
              go_roundg (q - (j + 1))
              case measure => omega
              case rel => exact ⟨j + 1, by omega, rfl, by rw [HSN.out]; exact HT3.out, b2, by rw [HSN.out]; exact HI.out⟩
    · obtain rfl : j = q := by omega
      have e : Hid (waitB all [] l = true) := by rw [hinv, List.drop_of_length_le (by omega)]; exact rfl
      clear hinv
      go_wp2
      go_ret
      exact ⟨by rw [e.out]; rfl, hb⟩
end Go.Proofs.Ytdkibcagbidelaa
