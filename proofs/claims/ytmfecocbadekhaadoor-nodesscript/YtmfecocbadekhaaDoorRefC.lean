/-
  THE REFERENCE's New, Take.
-/
import Derived.Test.YtmfecocbadekhaaDoorRefB
namespace Go.Proofs.YtmfecocbadekhaaDoor
open Go.RowKit Nd

theorem own_cells0' {w : World} {base g n cap : Nat} {l : List Nat} (h : w.ownsRow base 3 1 (.slice (some ⟨g, 0, none⟩) n cap) n (vals l)) (j : Nat) (hj : j < l.length) : w.cell? ⟨g, j, none⟩ = some (.int .i64 (nth l j)) := by
  have := own_cells h j hj
  rwa [Nat.zero_add] at this
theorem RefIn.of_heap {w w' : World} {d g cap n F : Nat} (h : RefIn w d g cap n F) (e : w'.heap = w.heap) : RefIn w' d g cap n F :=
  ⟨h.dg, by rw [e]; exact h.blk, by have := h.row; unfold World.ownsRow at this ⊢; rw [e]; exact this, h.hi, h.top⟩
theorem RefIn.rowfree {w : World} {d g cap n F : Nat} (h : RefIn w d g cap n F) (o : Nat) : w.frozen? ⟨g, o, none⟩ = false := by
  rcases h.row.2 with ⟨hv, _⟩ | ⟨g', cap', cur, hv, _, hg, _⟩
  · simp at hv
  · simp at hv
    obtain ⟨rfl, _⟩ := hv
    simp [World.frozen?, hg]
theorem rnew_no (n : Int) (w : World) (h : n < 1 ∨ 256 < n) : Calls Tryd.prog 8 #[.int .i64 n] w fun e w' => e = .returned (.tuple #[.pointer none, .int .i64 20]) ∧ w' = w := by
  by_cases h1 : n < 1
  · go_enter Tryd.func8, Tryd.ntmps8
    go_wp2
    go_ret2
    exact ⟨rfl, rfl⟩
  · have h2 : 256 < n := by omega
    go_enter Tryd.func8, Tryd.ntmps8
    go_wp2
    go_ret2
    exact ⟨rfl, rfl⟩

/-- The set in the making: its cell, its row of k bools. -/
structure Making (w : World) (k : Nat) (ao : Option Addr) (cap : Nat) (wr : World) : Prop where
  blk : wr.heap[w.heap.size]? = some (.cells #[.slice ao k cap] 58 (0, 0))
  row : wr.ownsRow 0 4 1 (.slice ao k cap) k (List.replicate k (.bool false))
  own : ∀ a, ao = some a → ∃ g, a = ⟨g, 0, none⟩ ∧ w.heap.size < g
  below : Below w.heap.size w wr
theorem Making.start (w : World) : Making w 0 none 0 (w.alloc (.cells #[.slice none 0 0] 58)) :=
  ⟨by rw [heap_alloc_new], World.ownsRow_nil _ _ _ _, (fun a h => by cases h), (Below.refl _ _).alloc (Nat.le_refl _) _⟩
theorem Making.next {w wr w1 : World} {k cap cap' : Nat} {ao ao' : Option Addr} (h : Making w k ao cap wr)
    (ho : w1.ownsRow 0 4 1 (.slice ao' (k + 1) cap') (k + 1) (List.replicate k (.bool false) ++ [.bool false])) (hgr : (wr.alloc (.cells #[.bool false] 4)).grownBy w1 (ao.map (·.block))) (hm : Moved (wr.alloc (.cells #[.bool false] 4)) ao ao') :
    Making w (k + 1) ao' cap' (w1.setCell ⟨w.heap.size, 0, none⟩ (.slice ao' (k + 1) cap')) ∧ w1.cell? ⟨w.heap.size, 0, none⟩ = some (.slice ao k cap) ∧ w1.frozen? ⟨w.heap.size, 0, none⟩ = false := by
  have hlt : w.heap.size < wr.heap.size := (Array.getElem?_eq_some_iff.1 h.blk).1
  have hown : ∀ a, ao' = some a → ∃ g, a = ⟨g, 0, none⟩ ∧ w.heap.size < g := by
    intro a ha
    rcases hm with rfl | ⟨g, hg, rfl⟩
    · exact h.own a ha
    · cases ha
      exact ⟨g, rfl, by simp at hg; omega⟩
  have hrow : ∀ j, ao.map (·.block) = some j → w.heap.size < j := by
    intro j hj
    cases hao : ao with
    | none => rw [hao] at hj; cases hj
    | some a =>
      obtain ⟨g, rfl, hg⟩ := h.own a hao
      rw [hao] at hj
      simp at hj
      omega
  have hblk : w1.heap[w.heap.size]? = some (.cells #[.slice ao k cap] 58 (0, 0)) := by
    rw [hgr.block _ (by simp; omega) (fun e => by have := hrow _ e.symm; omega), Below.heap_alloc _ _ _ hlt]
    exact h.blk
  refine ⟨⟨one_setCell hblk, ?_, hown, ?_⟩, by simp [World.cell?, hblk], by simp [World.frozen?, hblk]⟩
  · have e : List.replicate (k + 1) (Value.bool false) = List.replicate k (.bool false) ++ [.bool false] := List.replicate_succ'
    rw [e]
    refine ho.kept (gr_set w1 ⟨w.heap.size, 0, none⟩ _) ?_
    cases hao : ao' with
    | none => exact .inl rfl
    | some a =>
      obtain ⟨g, rfl, hg⟩ := hown a hao
      right
      simp [Value.ownBlock]
      omega
  · have hb1 : Below w.heap.size w w1 := (h.below.alloc h.below.size _).grown hgr (by simp; omega) (fun j hj => by have := hrow j hj; omega)
    exact hb1.setCell (Nat.le_refl _) _
theorem full_bools (n : Nat) : List.replicate n (Value.bool false) = bvals (2 ^ n - 1) n := by
  apply List.ext_getElem
  · simp [bvals]
  · intro i h1 h2
    have : i < n := by simpa using h1
    simp [bvals, this]

theorem rnew_yes (n : Nat) (w : World) (h1 : 1 ≤ n) (h2 : n ≤ 256) : Calls Tryd.prog 8 #[.int .i64 n] w fun e w' => ∃ g cap, e = .returned (.tuple #[.pointer (some ⟨w.heap.size, 0, none⟩), .int .i64 0]) ∧ w.heap.size < g ∧ RefIn w' w.heap.size g cap n (2 ^ n - 1) ∧ Below w.heap.size w w' := by
  obtain ⟨i0, hi, hz0, hz1, hz2⟩ := info_parts Tryd.info4
  have M0 : Hid (Making w 0 none 0 (w.alloc (.cells #[.slice none 0 0] 58))) := Making.start w
  go_enter Tryd.func8, Tryd.ntmps8
  go_wp2
  go_loopg [5] n (fun gk c wr => ∃ k ao cap, k + gk = n ∧ c = .int .i64 (k : Nat) ∧ Making w k ao cap wr)
  case atStart => exact ⟨0, none, 0, by omega, rfl, M0.out⟩
  case round =>
    obtain ⟨k, ao, cap, hk, rfl, hM⟩ := hrel
    have hc : wr.cell? ⟨w.heap.size, 0, none⟩ = some (.slice ao k cap) := by simp [World.cell?, hM.blk]
    by_cases hlt : k < n
    · have hrow := hM.row
      go_wp2_with (at_builtin; refine wpList_app _ rfl (.tmp 23) (.tmp 24) 56 rfl 4 i0 (.bool false) 1 Tryd.underlying56 hi hz0 hz1 hz2 rfl ao k cap _ rfl (hrow.alloc _) ⟨_, 0, none⟩ 1 1 [.bool false] rfl rfl (cell_one_new _ _ _) (by intro u hu; simp at hu; subst hu; rfl) (by unfold maxLen; omega) (by omega) ?_; intro ao1 cap1 w1 hown1 hgr1 hmv1; obtain ⟨hM1, hc1, hf1⟩ := hM.next hown1 hgr1 hmv1)
      go_roundg (n - (k + 1))
      case measure => omega
      case rel => exact ⟨k + 1, ao1, cap1, by omega, by go_num, hM1⟩
    · have e : k = n := by omega
      subst e
      go_wp2
      go_ret2
      rcases owns_shape hM.row with ⟨_, h0⟩ | ⟨g, cap', hv, _, _⟩
      · omega
      · simp at hv
        obtain ⟨rfl, rfl⟩ := hv
        obtain ⟨g', hg', hlt'⟩ := hM.own _ rfl
        cases hg'
        refine ⟨g, cap, rfl, hlt', ⟨by omega, hM.blk, ?_, h2, by have := Nat.two_pow_pos k; omega⟩, hM.below⟩
        rw [← full_bools]
        exact hM.row

/-- A row of bools behind a store. -/
theorem bvals_set (F n k : Nat) (b : Bool) (hk : k < n) (hF : F.testBit k = b) : (bvals F n).set k (.bool b) = bvals (F ^^^ 2 ^ k) n := by
  apply List.ext_getElem
  · simp [bvals]
  · intro i h1 h2
    have hin : i < n := by simpa [bvals] using h2
    by_cases e : i = k
    · subst e
      simp [bvals, hF]
    · have e' : ¬ k = i := fun h => e h.symm
      simp [bvals, e', Nat.testBit_xor, Nat.testBit_two_pow]
theorem RefIn.store {w : World} {d g cap n F k : Nat} {b : Bool} (h : RefIn w d g cap n F) (hk : k < n) (hF : F.testBit k = b) : RefIn (w.setCell ⟨g, k, none⟩ (.bool b)) d g cap n (F ^^^ 2 ^ k) := by
  have hg := gr_set w ⟨g, k, none⟩ (.bool b)
  refine ⟨h.dg, ?_, ?_, h.hi, Nat.xor_lt_two_pow h.top (Nat.pow_lt_pow_right (by decide) hk)⟩
  · rw [hg.block d h.dlt (fun e => h.dg (Option.some.inj e))]; exact h.blk
  · have := (h.row.stored k (.bool b)).1
    rw [bvals_set F n k b hk hF] at this
    exact this

theorem rtake_many (d g cap n F : Nat) (many : Int) (w : World) (_h : RefIn w d g cap n F) (h1 : many < 1) : Calls Tryd.prog 21 #[.pointer (some ⟨d, 0, none⟩), .int .i64 many] w fun e w' => e = .returned (.tuple #[.slice none 0 0, .int .i64 20]) ∧ w' = w := by
  go_enter Tryd.func21, Tryd.ntmps21
  go_wp2
  go_ret2
  exact ⟨rfl, rfl⟩
theorem rtake_free (d g cap n F : Nat) (many : Int) (w : World) (h : RefIn w d g cap n F) (h1 : 1 ≤ many) (h2 : (lst F).length < many) : Calls Tryd.prog 21 #[.pointer (some ⟨d, 0, none⟩), .int .i64 many] w fun e w' => e = .returned (.tuple #[.slice none 0 0, .int .i64 21]) ∧ Below w.heap.size w w' := by
  go_enter Tryd.func21, Tryd.ntmps21
  go_wp2_with (go_at_call 14; refine (rlist_any d g cap n F _ h).mono ?_; rintro e w1 ⟨g1, cap1, rfl, hg, ho, hb⟩)
  go_ret2
  exact ⟨rfl, hb⟩

set_option maxHeartbeats 1000000 in
theorem rtake_ok (d g cap n F many : Nat) (w : World) (h : RefIn w d g cap n F) (h1 : 1 ≤ many) (h2 : many ≤ (lst F).length) : Calls Tryd.prog 21 #[.pointer (some ⟨d, 0, none⟩), .int .i64 many] w fun e w' =>
    ∃ g1, e = .returned (.tuple #[.slice (some ⟨g1, 0, none⟩) many many, .int .i64 0]) ∧ w.heap.size ≤ g1 ∧ (∀ j, j < many → w'.cell? ⟨g1, j, none⟩ = some (.int .i64 (nth ((lst F).take many) j))) ∧ RefIn w' d g cap n (takeF F many) ∧ w.grownBy w' (some g) := by
  have h256 := lst_len F
  have hlen : ((lst F).take many).length = many := by simp; omega
  have HL : Hid (((lst F).take many).length = many) := hlen
  clear hlen
  have hglt := h.glt
  have hd2 : decide ((lst F).length < many) = false := by simp; omega
  go_enter Tryd.func21, Tryd.ntmps21
  go_wp2_with (go_at_call 14; refine (rlist_any d g cap n F _ h).mono ?_; rintro e w1 ⟨g1, cap1, rfl, hg1, ho1, hb1⟩)
  have hr1 := h.below hb1
  go_loopg [7] many (fun gk c wr => ∃ k : Nat, k + gk = many ∧ c = .int .i64 k ∧ RefIn wr d g cap n (flipF F (nth ((lst F).take many)) k) ∧ w1.grownBy wr (some g))
  case atStart => exact ⟨0, by omega, rfl, hr1, gr_refl _ _⟩
  case round =>
    obtain ⟨k, hk, rfl, hr, hgr⟩ := hrel
    by_cases hlt : k < many
    · have hk' : k < ((lst F).take many).length := by rw [HL.out]; exact hlt
      have hmem := List.getElem_mem hk'
      have hF := ((mem_frees F 256 _).1 (List.mem_of_mem_take hmem)).2
      obtain ⟨q, hq⟩ : ∃ q : Nat, ((lst F).take many)[k] = q := ⟨_, rfl⟩
      have hnq : nth ((lst F).take many) k = (q : Int) := by rw [nth_at _ k hk', hq]
      have hqn : q < n := by
        rw [hq] at hF
        by_cases hh : q < n
        · exact hh
        · rw [h.bit q (by omega)] at hF; exact absurd hF (by simp)
      have hbit : (flipF F (nth ((lst F).take many)) k).testBit q = true := by
        rw [flipF_bit F _ ((lst_nodup F).sublist (List.take_sublist ..)) k (by omega)]
        rw [hq] at hF
        have hnot : q ∉ ((lst F).take many).take k := by
          intro hm
          obtain ⟨i, hi, hx⟩ := List.mem_take_iff_getElem.1 hm
          exact (List.pairwise_iff_getElem.1 ((lst_nodup F).sublist (List.take_sublist many _))) i k (by omega) hk' (by omega) (hx.trans hq.symm)
        simp [hF, hnot]
      have hck := hgr.cell (own_cells0' ho1 k (by omega)) (fun e => by have := Option.some.inj e; simp at this; omega)
      have hnk : nth (lst F) k = (q : Int) := by rw [← hnq]; exact (nth_take _ _ _ hlt).symm
      rw [hnk] at hck
      have hcd := hr.cell
      have hcq := hr.at q hqn
      have hfq : wr.frozen? ⟨g, q, none⟩ = false := hr.rowfree q
      have HS : Hid (RefIn (wr.setCell ⟨g, q, none⟩ (.bool true)) d g cap n (flipF F (nth ((lst F).take many)) (k + 1))) := by
        have := hr.store (k := q) hqn hbit
        rw [flipF, hnq]
        exact this
      have HG := gr_set wr ⟨g, q, none⟩ (.bool true)
      rw [hbit] at hcq
      clear hnq hnk hbit hq hF hmem
      go_wp2
      go_region
      go_wp2
      go_roundg (many - (k + 1))
      case measure => omega
      case rel => exact ⟨k + 1, by omega, by go_num, HS.out.of_heap rfl, gr_trans hgr (gr_drew HG)⟩
    · have e : k = many := by omega
      subst e
      have hcells : ∀ j, j < k → wr.cell? ⟨g1, j, none⟩ = some (.int .i64 (nth ((lst F).take k) j)) := fun j hj => by
        rw [nth_take _ _ _ hj]
        exact hgr.cell (own_cells0' ho1 j (by omega)) (fun e => by have := Option.some.inj e; simp at this; omega)
      have hk1 : k ≤ cap1 := by
        rcases owns_shape ho1 with ⟨hv, _⟩ | ⟨_, _, hv, _, hn⟩
        · simp at hv
        · simp at hv
          omega
      go_wp2
      go_ret2
      exact ⟨g1, rfl, hg1, hcells, hr, gr_trans (gr_below hb1 _) hgr⟩
end Go.Proofs.YtmfecocbadekhaaDoor
