/-
  THE REFERENCE's New, List, Free.
-/
import Derived.Test.YtmfecocbadekhaaDoorRefA
import Derived.Test.YtmfecocbadekhaaDoorApp
namespace Go.Proofs.YtmfecocbadekhaaDoor
open Go.RowKit Nd

theorem RefIn.below {w w' : World} {d g cap n F : Nat} (h : RefIn w d g cap n F) (hb : Below w.heap.size w w') : RefIn w' d g cap n F :=
  ⟨h.dg, by rw [hb.block d h.dlt]; exact h.blk, h.row.kept (gr_below hb none) (by cases hv : (Value.slice (some ⟨g, 0, none⟩) n cap).ownBlock <;> simp), h.hi, h.top⟩
theorem RefIn.glt {w : World} {d g cap n F : Nat} (h : RefIn w d g cap n F) : g < w.heap.size := by
  rcases h.row.2 with ⟨hv, _⟩ | ⟨g', cap', cur, hv, _, hg, _⟩
  · simp at hv
  · simp at hv
    obtain ⟨rfl, _⟩ := hv
    exact (Array.getElem?_eq_some_iff.1 hg).1
theorem RefIn.grown {w w' : World} {d g cap n F b : Nat} (h : RefIn w d g cap n F) (hg : w.grownBy w' (some b)) (h1 : d ≠ b) (h2 : g ≠ b) : RefIn w' d g cap n F :=
  ⟨h.dg, by rw [hg.block d h.dlt (fun e => h1 (Option.some.inj e))]; exact h.blk, h.row.kept hg (by simp [Value.ownBlock, h2]), h.hi, h.top⟩

namespace Nd
theorem lst_n (F n : Nat) (hn : n ≤ 256) (htop : ∀ k, n ≤ k → F.testBit k = false) : lst F = frees F n := by
  rw [lst, show 256 = n + (256 - n) by omega]
  exact frees_skip F n _ (fun j h _ => htop j h)
end Nd
theorem empty_row (w : World) (base : Nat) (hb : base ≤ w.heap.size) : (w.alloc (.cells #[] 3)).ownsRow base 3 1 (.slice (some ⟨w.heap.size, 0, none⟩) 0 0) 0 [] :=
  World.ownsRow_made w #[] 0 hb (by decide) rfl

/-- A list of the reference's, so far. -/
def RowRel (w : World) (l : List Nat) (v : Value) (wr : World) : Prop :=
  ∃ g cap, v = .slice (some ⟨g, 0, none⟩) l.length cap ∧ w.heap.size ≤ g ∧ wr.ownsRow 0 3 1 (.slice (some ⟨g, 0, none⟩) l.length cap) l.length (vals l) ∧ Below w.heap.size w wr

theorem row_app {w wr w1 : World} {l : List Nat} {k g cap1 : Nat} {ao' : Option Addr} {y : Int} (hy : y = (k : Int)) (hb : Below w.heap.size w wr) (hg : w.heap.size ≤ g)
    (ho : w1.ownsRow 0 3 1 (.slice ao' (l.length + 1) cap1) (l.length + 1) (vals l ++ [.int .i64 y])) (hgr : (wr.alloc (.cells #[.int .i64 y] 3)).grownBy w1 (some g)) (hm : Moved (wr.alloc (.cells #[.int .i64 y] 3)) (some ⟨g, 0, none⟩) ao') :
    RowRel w (l ++ [k]) (.slice ao' (l.length + 1) cap1) w1 := by
  subst hy
  have ev : vals l ++ [.int .i64 (k : Int)] = vals (l ++ [k]) := by simp [vals]
  rw [ev] at ho
  have hb1 : Below w.heap.size w w1 := (hb.alloc hb.size _).grown hgr (by have := hb.size; simp; omega) (fun j hj => by simp at hj; omega)
  rcases hm with rfl | ⟨g', hg', rfl⟩
  · exact ⟨g, cap1, by simp, hg, by simpa using ho, hb1⟩
  · refine ⟨g', cap1, by simp, ?_, by simpa using ho, hb1⟩
    have := hb.size
    simp at hg'
    omega

set_option maxHeartbeats 1000000 in
theorem rlist_any (d g0 cap0 n F : Nat) (w : World) (h : RefIn w d g0 cap0 n F) :
    Calls Tryd.prog 14 #[.pointer (some ⟨d, 0, none⟩)] w fun e w' => ∃ g cap, e = .returned (.slice (some ⟨g, 0, none⟩) (lst F).length cap) ∧ w.heap.size ≤ g ∧ w'.ownsRow 0 3 1 (.slice (some ⟨g, 0, none⟩) (lst F).length cap) (lst F).length (vals (lst F)) ∧ Below w.heap.size w w' := by
  obtain ⟨i0, hi, hz0, hz1, hz2⟩ := info_parts Tryd.info3
  have hn := h.hi
  have hL := lst_n F n hn h.bit
  have HL : Hid (lst F = frees F n) := hL
  clear hL
  have R0 : Hid (RowRel w (frees F 0) (.slice (some ⟨w.heap.size, 0, none⟩) 0 0) (w.alloc (.cells #[] 3))) := ⟨w.heap.size, 0, rfl, Nat.le_refl _, empty_row w 0 (Nat.zero_le _), (Below.refl _ _).alloc (Nat.le_refl _) _⟩
  go_enter Tryd.func14, Tryd.ntmps14
  go_wp2
  go_loopg [3, 4] n (fun gk v c wr => ∃ k : Nat, k + gk = n ∧ c = .int .i64 k ∧ RowRel w (frees F k) v wr)
  case atStart => exact ⟨0, by omega, rfl, R0.out⟩
  case round =>
    obtain ⟨k, hk, rfl, g, cap, rfl, hg, hown, hb⟩ := hrel
    have hr := h.below hb
    have hc := hr.cell
    obtain ⟨L, hLd⟩ : ∃ L, frees F k = L := ⟨_, rfl⟩
    have HLd : Hid (frees F k = L) := hLd
    rw [hLd] at hown ⊢
    clear hLd
    by_cases hlt : k < n
    · have hck := hr.at k hlt
      have hll : L.length ≤ 256 := by have := frees_len F k; rw [HLd.out] at this; omega
      cases hB : F.testBit k with
      | true =>
        rw [hB] at hck
        have HS : Hid (frees F (k + 1) = L ++ [k]) := by
          show frees F (k + 1) = L ++ [k]
          rw [frees_succ, HLd.out, hB]; simp
        go_wp2_with (at_builtin; refine wpList_app _ rfl (.tmp 23) (.tmp 25) 37 rfl 3 i0 (.int .i64 0) 8 Tryd.underlying37 hi hz0 hz1 hz2 rfl (some ⟨g, 0, none⟩) L.length cap _ rfl (hown.alloc _) ⟨_, 0, none⟩ 1 1 [.int .i64 (k : Int)] rfl rfl (cell_one_new _ _ _) (by intro u hu; simp at hu; subst hu; rfl) (by unfold maxLen; omega) (by omega) ?_; intro ao1 cap1 w1 hown1 hgr1 hmv1)
        have R1 := row_app rfl hb hg hown1 hgr1 hmv1
        go_roundg (n - (k + 1))
        case measure => omega
        case rel => exact ⟨k + 1, by omega, by go_num, by rw [HS.out]; exact R1⟩
      | false =>
        rw [hB] at hck
        have R1 : Hid (RowRel w (frees F (k + 1)) (.slice (some ⟨g, 0, none⟩) L.length cap) wr) := by
          show RowRel _ _ _ _
          rw [frees_succ, HLd.out, hB]
          exact ⟨g, cap, by simp, hg, by simpa using hown, hb⟩
        go_wp2
        go_roundg (n - (k + 1))
        case measure => omega
        case rel => exact ⟨k + 1, by omega, by go_num, R1.out⟩
    · have e : k = n := by omega
      subst e
      have HE : Hid (lst F = L) := HL.out.trans HLd.out
      go_wp2
      go_ret
      rw [HE.out]
      exact ⟨g, cap, rfl, hg, hown, hb⟩
theorem rfree_any (d g0 cap0 n F : Nat) (w : World) (h : RefIn w d g0 cap0 n F) :
    Calls Tryd.prog 28 #[.pointer (some ⟨d, 0, none⟩)] w fun e w' => e = .returned (.int .i64 (lst F).length) ∧ Below w.heap.size w w' := by
  go_enter Tryd.func28, Tryd.ntmps28
  go_wp2_with (go_at_call 14; refine (rlist_any d g0 cap0 n F _ h).mono ?_; rintro e w1 ⟨g, cap, rfl, hg, ho, hb⟩)
  go_ret
  exact ⟨rfl, hb⟩
end Go.Proofs.YtmfecocbadekhaaDoor
