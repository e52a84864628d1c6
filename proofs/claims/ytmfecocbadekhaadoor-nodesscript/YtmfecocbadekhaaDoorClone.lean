/-
  Clone.
-/
import Derived.Test.YtmfecocbadekhaaDoorTake
import Derived.Laws.CopyRow
namespace Go.Proofs.YtmfecocbadekhaaDoor
open Go.RowKit Nd

theorem clone_any (b n F : Nat) (w : World) (h : SetIn w b n F) :
    Calls Tryd.prog 29 #[.pointer (some ⟨b, 0, none⟩)] w fun e w' => e = .returned (.pointer (some ⟨w.heap.size, 0, none⟩)) ∧ SetIn w' w.heap.size n F ∧ Below w.heap.size w w' := by
  have hs := h.size
  have hlt := h.lt
  obtain ⟨W, hW⟩ : ∃ W, w.alloc (.cells #[.int .i64 n, .int .u64 0, .int .u64 0, .int .u64 0, .int .u64 0] 54) = W := ⟨_, rfl⟩
  have h1 : SetIn W b n F := by rw [← hW]; exact h.below (Below.alloc1 _ _)
  have hblk : W.heap[w.heap.size]? = some (.cells #[.int .i64 n, .int .u64 0, .int .u64 0, .int .u64 0, .int .u64 0] 54 (0, 0)) := by rw [← hW, heap_alloc_new]
  have hb : Below w.heap.size w W := by rw [← hW]; exact Below.alloc1 _ _
  have hcp := run_copy_row (P := Tryd.prog) W.drew 66 66 3 51 w.heap.size 1 4 4 ⟨b, 1, none⟩ 4 4 #[.int .i64 n, .int .u64 0, .int .u64 0, .int .u64 0, .int .u64 0] 54 [.int .u64 (wd F 0), .int .u64 (wd F 1), .int .u64 (wd F 2), .int .u64 (wd F 3)]
    Tryd.underlying66 (by kernel_rfl) hblk rfl (by
      intro j v hj
      have hj4 : j < 4 := by
        by_cases hh : j < 4
        · exact hh
        · rw [List.getElem?_eq_none (by simp; omega)] at hj; cases hj
      have hadd : (⟨b, 1, none⟩ : Addr).add j = ⟨b, 1 + j, none⟩ := by unfold Addr.add; split <;> simp_all
      rw [hadd]
      show W.cell? _ = _
      rw [h1.word j hj4]
      obtain rfl | rfl | rfl | rfl : j = 0 ∨ j = 1 ∨ j = 2 ∨ j = 3 := by omega
      all_goals (simp at hj; rw [hj])) (by simp) (by simp; exact ⟨rfl, rfl, rfl, rfl⟩)
  have HS : Hid (SetIn (W.drew.setRow w.heap.size (setCells n F)) w.heap.size n F ∧ Below w.heap.size w (W.drew.setRow w.heap.size (setCells n F))) := by
    have hg : W.drew.grownBy (W.drew.setRow w.heap.size (setCells n F)) (some w.heap.size) := ⟨rfl, rfl, rfl, by simp [World.setRow], fun k _ hk => by
      simp only [World.setRow, Array.getElem?_modify]
      rw [if_neg (fun e => hk (by rw [e]))]⟩
    have hz : w.heap.size ≠ 0 := by have := h.nz; omega
    exact ⟨⟨gr_tab hg hz h1.tab, hz, setRow_heap W.drew w.heap.size _ _ 54 (0, 0) hblk, h.lo, h.hi, h.top⟩, hb.drew.grown hg hb.size (fun k hk => by simp at hk; omega)⟩
  simp only [List.length_cons, List.length_nil, List.take_succ_cons, List.take_zero, List.cons_append, List.nil_append, List.drop_succ_cons, List.drop_nil, List.append_nil, Nat.reduceAdd] at hcp
  go_enter Tryd.func29, Tryd.ntmps29
  go_wp2
  go_region
  go_wp2
  go_ret
  exact ⟨rfl, HS.out.1, HS.out.2⟩
end Go.Proofs.YtmfecocbadekhaaDoor
