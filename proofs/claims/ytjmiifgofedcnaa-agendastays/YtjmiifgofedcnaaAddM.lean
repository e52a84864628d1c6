/-
  In the midst of Add.
-/
import Derived.Test.YtjmiifgofedcnaaList
namespace Go.Proofs.Ytjmiifgofedcnaa
open Go.RowKit Ag

theorem new_cells (w : World) (l : List Value) (t : TypeId) : ∀ j u, l[j]? = some u → (w.alloc (.cells l.toArray t)).cell? ((⟨w.heap.size, 0, none⟩ : Addr).add j) = some u := by
  intro j u hu
  have ha : (⟨w.heap.size, 0, none⟩ : Addr).add j = ⟨w.heap.size, j, none⟩ := by unfold Addr.add; split <;> simp_all
  rw [ha]
  exact cell_nw w (by simpa using hu)

theorem kag_moved {w : World} {a m : Nat} {ao ao' : Option Addr} (h : Moved w ao ao') {k : Nat} (hk : k < w.heap.size) (hK : Kag a m ao' k) : Kag a m ao k := by
  rcases hK with h1 | h1 | ⟨g, h1, h2⟩
  · exact .inl h1
  · exact .inr (.inl h1)
  · rcases h with h3 | ⟨g', hg', h3⟩
    · exact .inr (.inr ⟨g, h3 ▸ h1, h2⟩)
    · rw [h3] at h1
      injection h1 with h1
      injection h1 with h1
      omega

theorem add_mid {ts te : Nat} {w : World} {a m : Nat} {ao : Option Addr} {cap n : Nat} {h : Nat → En} (r : Raw ts te w a m ao cap n h) {e : En} (he : wfI e.id ∧ wfI e.tm ∧ e.x.oneCell' = true) (hne : ∀ k, k < n → (h k).id ≠ e.id) (hn : n + 1 ≤ 35184372088832)
    {o : Obj} {w1 : World} {ao' : Option Addr} {cap' : Nat} (hrow : w1.ownsRow 0 te 3 (.slice ao' (n + 1) cap') (n + 1) (flat h n ++ e.cells)) (hgr : (w.alloc o).grownBy w1 (ao.map (·.block))) (hmv : Moved (w.alloc o) ao ao') :
    w1.cell? ⟨a, 0, none⟩ = some (.slice ao n cap) ∧ w1.frozen? ⟨a, 0, none⟩ = false ∧ (w1.setCell ⟨a, 0, none⟩ (.slice ao' (n + 1) cap')).cell? ⟨a, 1, none⟩ = some (.map (some m)) ∧
    ∃ w3, (Instr.mapUpdate 65 (.map (some m)) (.int .i64 e.id) (.int .i64 n)).run Try.prog (w1.setCell ⟨a, 0, none⟩ (.slice ao' (n + 1) cap')) = .ok () w3 ∧ Raw ts te w3 a m ao' cap' (n + 1) (upd h n e) ∧ Chg (Kag a m ao) w w3 ∧ Moved w ao ao' := by
  have hsz : (w.alloc o).heap.size = w.heap.size + 1 := World.size_alloc _ _
  have halt := r.alt
  have hmlt := r.mlt
  have hrow0 := r.row
  have haob : ∀ k, ao.map (·.block) = some k → ∃ g, ao = some ⟨g, 0, none⟩ ∧ k = g := by
    intro k hk
    rcases hrow0 with ⟨rfl, _⟩ | ⟨g, cur, rfl, _⟩
    · simp at hk
    · simp at hk
      exact ⟨g, rfl, hk.symm⟩
  have hna : some a ≠ ao.map (·.block) := fun e => by obtain ⟨g, hg, rfl⟩ := haob a e.symm; exact (r.ag _ hg).1 rfl
  have hnm : some m ≠ ao.map (·.block) := fun e => by obtain ⟨g, hg, rfl⟩ := haob m e.symm; exact (r.ag _ hg).2 rfl
  have ba : w1.heap[a]? = some (.cells #[.slice ao n cap, .map (some m)] ts (0, 0)) := (hgr.block a (by omega) hna).trans ((Below.heap_alloc _ _ _ halt).trans r.blk)
  have hmv' : Moved w ao ao' := by
    rcases hmv with h1 | ⟨g, hg, h1⟩
    · exact .inl h1
    · exact .inr ⟨g, by omega, h1⟩
  have hag' : ∀ g, ao' = some ⟨g, 0, none⟩ → g ≠ a ∧ g ≠ m := by
    intro g hg
    rcases hmv with h1 | ⟨g', hg', h1⟩
    · exact r.ag g (h1 ▸ hg)
    · rw [h1] at hg
      injection hg with hg
      injection hg with hg
      subst hg
      omega
  obtain ⟨D, ho, hd⟩ := r.pm
  have b2 := heap_setCell_same w1 a 0 _ ts (.slice ao' (n + 1) cap') ba
  have ho2 : (w1.setCell ⟨a, 0, none⟩ (.slice ao' (n + 1) cap')).ownsMap Try.prog 3 (plainElem Try.prog 3) m n D := ((ho.alloc o).kept hgr hnm).setCell (Ne.symm r.am) _
  obtain ⟨w3, hrun, ho3, ht3⟩ := ho2.store (Maps.int_keyed Try.underlying3) Try.underlying65 (Nat.lt_of_lt_of_le (Nat.lt_succ_self n) (Nat.le_trans hn (by decide))) (Maps.keyOf_int_mk Try.underlying3 he.1) (plainElem_int Try.underlying3 (wfN (k := n) (by omega)))
  refine ⟨cells_at ba rfl, frozen_at ba, cells_at b2 rfl, w3, hrun, ?_, ?_, hmv'⟩
  · have g3 := ht3.grown
    have row1 : RowIn w1 te ao' cap' (n + 1) (upd h n e) := RowIn.app hrow
    refine ⟨(g3.block a (by rw [World.size_setCell]; exact (Array.getElem?_eq_some_iff.1 ba).1) (fun e => r.am (Option.some.inj e))).trans b2, ?_, ⟨_, ho3, hd.add hne⟩, r.am, hag', ?_, hn⟩
    · rcases row1 with h0 | ⟨g, cur, hao, hr⟩
      · exact .inl h0
      · refine .inr ⟨g, cur, hao, hr.of_heap ?_⟩
        exact (g3.block g (by rw [World.size_setCell]; exact hr.lt) (fun e => (hag' g hao).2 (Option.some.inj e))).trans (Below.heap_setCell _ _ _ _ (hag' g hao).1)
    · intro k hk
      unfold upd
      split
      · exact he
      · exact r.ok k (by omega)
  · have c1 : Chg (Kag a m ao) w w1 := ((Chg.refl _ w).alloc o).trans (K' := fun k => ao.map (·.block) = some k) (Chg.of_gr hgr (fun k e => .inl e)) (fun k _ e => by obtain ⟨g, hg, rfl⟩ := haob k e; exact .inr (.inr ⟨_, hg, rfl⟩))
    exact (c1.setCell _ _ (.inl (.inl rfl))).turned ht3 (.inr (.inl rfl))
end Go.Proofs.Ytjmiifgofedcnaa
