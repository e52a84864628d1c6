/-
  AgendaDue: what is needed of lists; two agendas beside each other.
-/
import Derived.Test.YtjmiifgofedcnaaFil
namespace Go.Proofs.Ytjmiifgofedcnaa
open Go.RowKit Ag

namespace Ag
theorem due_two {now thn : Int} (h : now ≤ thn) (L : List En) : dueL thn L = dueL now L ++ dueL thn (restL now L) ∧ restL thn (restL now L) = restL thn L := by
  induction L with
  | nil => exact ⟨rfl, rfl⟩
  | cons e l ih =>
    by_cases h1 : e.tm ≤ now
    · have h2 : e.tm ≤ thn := by omega
      simp only [dueL, restL] at ih
      simp only [dueL, restL, List.takeWhile_cons, List.dropWhile_cons, h1, h2, decide_true, if_true, List.cons_append]
      exact ⟨by rw [ih.1], ih.2⟩
    · have e1 : dueL now (e :: l) = [] := by simp [dueL, h1]
      have e2 : restL now (e :: l) = e :: l := by simp [restL, h1]
      rw [e1, e2]
      exact ⟨rfl, rfl⟩
theorem due_rest (now : Int) (L : List En) : dueL now L ++ restL now L = L := List.takeWhile_append_dropWhile
theorem rest_head {now : Int} {L r : List En} {f : En} (h : restL now L = f :: r) : now < f.tm := by
  induction L with
  | nil => simp [restL] at h
  | cons e l ih =>
    by_cases h1 : e.tm ≤ now
    · simp only [restL, List.dropWhile_cons, h1, decide_true, if_true] at h
      exact ih h
    · have e2 : restL now (e :: l) = e :: l := by simp [restL, h1]
      rw [e2] at h
      injection h with h3
      subst h3
      omega
theorem due_len (now : Int) (L : List En) : (dueL now L).length + (restL now L).length = L.length := by
  have := congrArg List.length (due_rest now L)
  rwa [List.length_append] at this
theorem ids_len (L : List En) : (ids L).length = L.length := by simp [ids]
theorem ids_app (L M : List En) : ids (L ++ M) = ids L ++ ids M := by simp [ids]
end Ag
/-- Two agendas beside each other, made from w on, ahead of S. -/
structure St2 (w : World) (S a m : Nat) (aoa : Option Addr) (LA : List En) (b mb : Nat) (aob : Option Addr) (LB : List En) (W : World) : Prop where
  na : Agn 68 76 W a m aoa LA
  nb : Agn 68 76 W b mb aob LB
  bel : Below w.heap.size w W
  ka : ∀ k, Kag a m aoa k → w.heap.size ≤ k ∧ k < S
  kb : ∀ k, Kag b mb aob k → w.heap.size ≤ k ∧ k < S
  dis : ∀ k, Kag a m aoa k → ¬ Kag b mb aob k
  sz : S ≤ W.heap.size
section
variable {w : World} {S a m : Nat} {aoa : Option Addr} {LA LA' : List En} {b mb : Nat} {aob : Option Addr} {LB LB' : List En} {W W' : World}
theorem St2.grown (h : St2 w S a m aoa LA b mb aob LB W) (g : Below W.heap.size W W') : St2 w S a m aoa LA b mb aob LB W' := ⟨h.na.below g, h.nb.below g, h.bel.trans (g.mono h.bel.size), h.ka, h.kb, h.dis, Nat.le_trans h.sz g.size⟩
theorem below_chg {K : Nat → Prop} {w0 w w1 : World} {B : Nat} (h : Chg K w w1) (hb : Below B w0 w) (hB : B ≤ w.heap.size) (hK : ∀ i, K i → B ≤ i) : Below B w0 w1 :=
  hb.trans ⟨h.os, h.tape, h.output, h.size, fun k hk => h.block k (by omega) (fun e => by have := hK k e; omega)⟩
theorem St2.turnA (h : St2 w S a m aoa LA b mb aob LB W) (r : Agn 68 76 W' a m aoa LA') (c : Chg (Kag a m aoa) W W') : St2 w S a m aoa LA' b mb aob LB W' := ⟨r, h.nb.kept c (fun k hb ha => h.dis k ha hb), below_chg c h.bel h.bel.size (fun k hk => (h.ka k hk).1), h.ka, h.kb, h.dis, Nat.le_trans h.sz c.size⟩
theorem St2.turnB (h : St2 w S a m aoa LA b mb aob LB W) (r : Agn 68 76 W' b mb aob LB') (c : Chg (Kag b mb aob) W W') : St2 w S a m aoa LA b mb aob LB' W' := ⟨h.na.kept c (fun k ha hb => h.dis k ha hb), r, below_chg c h.bel h.bel.size (fun k hk => (h.kb k hk).1), h.ka, h.kb, h.dis, Nat.le_trans h.sz c.size⟩
end
/-- A list of numbers laid behind S. -/
structure Rw (S : Nat) (v : Value) (xs : List Int) (W : World) : Prop where
  row : W.ownsRow S 3 1 v xs.length (ints xs)
section
variable {S : Nat} {v : Value} {xs : List Int} {W W' : World} {K : Nat → Prop}
theorem Rw.chg (h : Rw S v xs W) (c : Chg K W W') (hK : ∀ k, K k → k < S) : Rw S v xs W' := ⟨row_kept h.row (fun k hk => c.block k (h.row.lt k hk).2 (fun e => by have := hK k e; have := (h.row.lt k hk).1; omega))⟩
theorem Rw.grown (h : Rw S v xs W) (g : Below W.heap.size W W') : Rw S v xs W' := h.chg (Chg.of_below g (fun _ => False)) (fun _ h => h.elim)
theorem Rw.of (h : W.ownsRow S 3 1 v xs.length (ints xs)) : Rw S v xs W := ⟨h⟩
theorem Rw.rd (h : Rw S v xs W) : RdI W v xs := rd_own h.row
/-- v, for an append: where it lies, and what it holds. -/
theorem Rw.src (h : Rw S v xs W) : ∃ sa c, v = .slice sa xs.length c ∧ (sa = none → xs.length = 0 ∧ c = 0) ∧ ∀ ad, sa = some ad → ∀ j u, (ints xs)[j]? = some u → W.cell? (ad.add j) = some u := by
  rcases h.row.2 with ⟨rfl, h0⟩ | ⟨g, cap, cur, rfl, _, hg, _⟩
  · exact ⟨none, 0, by rw [h0], fun _ => ⟨h0, rfl⟩, fun ad h => (by cases h)⟩
  · exact ⟨_, cap, rfl, fun h => (by cases h), fun ad had j u hu => by cases had; exact h.row.cells (g := g) rfl j u hu⟩
end
theorem ints_len' (xs : List Int) : (ints xs).length = xs.length := by simp [ints]
theorem ints_one' (xs : List Int) : ∀ u ∈ ints xs, u.oneCell' = true := by
  intro u hu
  obtain ⟨x, _, rfl⟩ := List.mem_map.1 hu
  rfl
theorem ints_app (xs ys : List Int) : ints (xs ++ ys) = ints xs ++ ints ys := by simp [ints]

/-- Behind an append: the list and what was appended, still behind S. -/
theorem Rw.app {S n m : Nat} {w w' : World} {ao ao' : Option Addr} {cap cap' : Nat} {xs ys : List Int} (h : Rw S (.slice ao n cap) xs w) (hrow : w'.ownsRow 0 3 1 (.slice ao' (n + m) cap') (n + m) (ints xs ++ ints ys)) (hm : Moved w ao ao') (hS : S ≤ w.heap.size) (hx : xs.length = n) (hy : ys.length = m) : Rw S (.slice ao' (n + m) cap') (xs ++ ys) w' := by
  have e1 : (xs ++ ys).length = n + m := by rw [List.length_append, hx, hy]
  refine ⟨?_⟩
  rw [e1, ints_app]
  refine ⟨hrow.1, ?_⟩
  rcases hrow.2 with h0 | ⟨g, cp, cur, hv, _, rest⟩
  · exact .inl h0
  · refine .inr ⟨g, cp, cur, hv, ?_, rest⟩
    have hg : ao' = some ⟨g, 0, none⟩ := by injection hv
    rcases hm with h1 | ⟨g', h2, h1⟩
    · rw [h1] at hg
      exact (h.row.lt g (by rw [hg]; rfl)).1
    · rw [h1] at hg
      injection hg with hg
      injection hg with hg
      omega

theorem St2.other {w : World} {S a m : Nat} {aoa : Option Addr} {LA : List En} {b mb : Nat} {aob : Option Addr} {LB : List En} {W W' : World} {K : Nat → Prop} (h : St2 w S a m aoa LA b mb aob LB W) (c : Chg K W W') (hK : ∀ k, K k → S ≤ k) : St2 w S a m aoa LA b mb aob LB W' := by
  refine ⟨h.na.kept c (fun k hk e => by have := hK k e; have := (h.ka k hk).2; omega), h.nb.kept c (fun k hk e => by have := hK k e; have := (h.kb k hk).2; omega), below_chg c h.bel h.bel.size (fun k e => ?_), h.ka, h.kb, h.dis, Nat.le_trans h.sz c.size⟩
  have h1 := hK k e
  have h2 := (h.ka a (.inl rfl))
  omega
/-- The block that an append may turn: none that lay ahead of M. -/
def App (M : Nat) (ao : Option Addr) (k : Nat) : Prop := ao.map (·.block) = some k ∧ M ≤ k
theorem app_chg {w w' : World} {M : Nat} {ao : Option Addr} (hg : w.grownBy w' (ao.map (·.block))) (hM : ∀ g, ao = some g → M ≤ g.block) : Chg (App M ao) w w' := Chg.of_gr hg (fun k e => .inl ⟨e, by
  cases ao with
  | none => cases e
  | some g => simp at e; have := hM g rfl; omega⟩)
theorem moved_lo {w : World} {M : Nat} {ao ao' : Option Addr} (h : Moved w ao ao') (hM : ∀ g, ao = some g → M ≤ g.block) (hw : M ≤ w.heap.size) : ∀ g, ao' = some g → M ≤ g.block := by
  intro g hg
  rcases h with h1 | ⟨g', h2, h1⟩
  · exact hM g (h1 ▸ hg)
  · rw [h1] at hg
    injection hg with hg
    subst hg
    show M ≤ g'
    omega
theorem Rw.app_kept {S M : Nat} {v : Value} {xs : List Int} {W W' : World} {ao : Option Addr} (h : Rw S v xs W) (c : Chg (App M ao) W W') (hv : ∀ k, v.ownBlock = some k → k < M) : Rw S v xs W' := ⟨row_kept h.row (fun k hk => c.block k (h.row.lt k hk).2 (fun e => by have := hv k hk; have := e.2; omega))⟩
end Go.Proofs.Ytjmiifgofedcnaa
