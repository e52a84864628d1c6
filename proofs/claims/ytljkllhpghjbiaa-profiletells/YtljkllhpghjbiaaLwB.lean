/-
  Layer 5's statements: lend, still.
-/
import Derived.Test.YtljkllhpghjbiaaLwA
namespace Go.Proofs.Ytljkllhpghjbiaa
open Go.RowKit Pr

theorem own_empty (w : World) : (w.alloc (.cells #[] 42)).ownsRow w.heap.size 42 2 (.slice (some ⟨w.heap.size, 0, none⟩) 0 0) 0 [] :=
  ⟨rfl, .inr ⟨w.heap.size, 0, #[], rfl, Nat.le_refl _, heap_alloc_new w _, Nat.le_refl _, by decide, rfl, rfl⟩⟩
theorem rowR_kept {w w1 : World} {B n : Nat} {v : Value} {vs : List Value} (h : w.ownsRow B 42 2 v n vs) (b : Below w.heap.size w w1) : w1.ownsRow B 42 2 v n vs := by
  refine ⟨h.1, ?_⟩
  rcases h.2 with h0 | ⟨g, cap, cur, rfl, hb, hg, r⟩
  · exact .inl h0
  · exact .inr ⟨g, cap, cur, rfl, hb, (b.block g (Array.getElem?_eq_some_iff.1 hg).1).trans hg, r⟩
theorem belowR_gr {w w1 w2 : World} {v : Value} {vs : List Value} {n B : Nat} (h : Below w.heap.size w w1) (hr : w1.ownsRow B 42 2 v n vs) (hB : w.heap.size ≤ B) (hg : w1.grownBy w2 v.ownBlock) : Below w.heap.size w w2 :=
  h.grown hg h.size (fun k e => by have := (hr.lt k e).1; omega)

set_option maxHeartbeats 2000000 in
theorem lend_any {w : World} {ao : Option Addr} {l : List Rn} {c : Nat} (hA : RunsAt w ao l) (hnil : ao = none → l = [] ∧ c = 0) (hn : l.length * 16 + 16 ≤ 140737488355328) :
    Calls Try.prog 8 #[.slice ao l.length c] w fun e w' => ∃ v, e = .returned v ∧ w'.ownsRow w.heap.size 42 2 v (l.length + 1) (flatR (l ++ [⟨-77, 0⟩])) ∧ Below w.heap.size w w' := by
  obtain ⟨i0, hi0, hz0, hz1, hz2⟩ := info_parts Try.inf42
  have own0 := own_empty w
  have b0 : Below w.heap.size w (w.alloc (.cells #[] 42)) := (Below.refl _ w).alloc (Nat.le_refl _) _
  have hz0' : w.heap.size < (w.alloc (.cells #[] 42)).heap.size := by simp
  cases ao with
  | none =>
    obtain ⟨rfl, rfl⟩ := hnil rfl
    clear hnil hA
    simp only [List.length_nil]
    have hnc : ∀ j u, [Value.int .i64 (-77), .int .i64 0][j]? = some u → ((w.alloc (.cells #[] 42)).alloc (.cells #[.int .i64 (-77), .int .i64 0] 42)).cell? ((⟨w.heap.size + 1, 0, none⟩ : Addr).add j) = some u := by
      have := new_cells (w.alloc (.cells #[] 42)) [.int .i64 (-77), .int .i64 0] 42
      rwa [World.size_alloc] at this
    go_enter Try.func8, Try.ntmps8
    go_wp2_with (first
      | (at_builtin; refine wpList_append_own_none rfl (.tmp 5) (.tmp 6) 22 rfl w.heap.size 42 i0 2 Try.underlying22 hi0 _ 0 [] rfl own0 rfl ?_)
      | (at_builtin; refine wpList_append_own_at _ rfl (.tmp 8) (.tmp 10) 22 rfl w.heap.size 42 i0 _ 2 16 Try.underlying22 hi0 hz0 hz1 hz2 rfl (by decide) _ 0 [] rfl (own0.alloc _) ⟨w.heap.size + 1, 0, none⟩ 1 1 [.int .i64 (-77), .int .i64 0] rfl rfl hnc (fun u hu => by simp at hu; rcases hu with rfl | rfl <;> rfl) (Nat.le_trans (m := 35184372088832) (by omega) (by decide)) (by omega) (by first | (simp; done) | (simp; omega)) ?_; intro v' w5 hown hgr _ _))
    go_ret
    refine ⟨_, rfl, by simpa [flatR] using hown, belowR_gr (b0.alloc (by simp) _) (own0.alloc _) (Nat.le_refl _) hgr⟩
  | some ad =>
    obtain ⟨g, o, h1, h2⟩ := hA
    obtain ⟨q, hq⟩ : ∃ q, l.length = q := ⟨_, rfl⟩
    have hcell : ∀ j u, (flatR l)[j]? = some u → (w.alloc (.cells #[] 42)).cell? (ad.add j) = some u := fun j u hu => by
      have hj : 0 < l.length := by
        have := (List.getElem?_eq_some_iff.1 hu).1
        rw [flatR_len] at this
        omega
      obtain rfl : ad = ⟨g, o, none⟩ := Option.some.inj (h1 hj)
      have := flatR_cell h2 j u hu
      exact (b0.cell (World.block_lt_of_cell? w _ this)).trans this
    have hfl := flatR_len l
    rw [hq] at hfl hn ⊢
    clear h1 h2 hnil
    go_enter Try.func8, Try.ntmps8
    go_wp2_with (first
      | (at_builtin; refine wpList_append_own_at _ rfl (.tmp 5) (.tmp 6) 22 rfl w.heap.size 42 i0 _ 2 16 Try.underlying22 hi0 hz0 hz1 hz2 rfl (by decide) _ 0 [] rfl own0 ad q c (flatR l) rfl hfl hcell (flatR_one l) (Nat.le_trans (m := 35184372088832) (by omega) (by decide)) (by omega) (by simp) ?_; intro v' w5 hown hgr _ _; have hown' : w5.ownsRow w.heap.size 42 2 v' q (flatR l) := by simpa using hown)
      | (at_builtin; refine wpList_append_own_at _ rfl (.tmp 8) (.tmp 10) 22 rfl w.heap.size 42 i0 _ 2 16 Try.underlying22 hi0 hz0 hz1 hz2 rfl (by decide) _ q (flatR l) rfl (hown'.alloc _) ⟨_, 0, none⟩ 1 1 [.int .i64 (-77), .int .i64 0] rfl rfl (new_cells _ _ _) (fun u hu => by simp at hu; rcases hu with rfl | rfl <;> rfl) (Nat.le_trans (m := 35184372088832) (by omega) (by decide)) (by omega) (by have := hgr.size; simp at this ⊢; omega) ?_; intro v6 w6 hown6 hgr6 _ _))
    go_ret
    have b5 := belowR_gr b0 own0 (Nat.le_refl _) hgr
    refine ⟨_, rfl, by rw [flatR_app]; exact hown6, belowR_gr (b5.alloc b5.size _) (hown'.alloc _) (Nat.le_refl _) hgr6⟩
end Go.Proofs.Ytljkllhpghjbiaa
