/-
  The map of places, as data; an agenda in memory.
-/
import Derived.Test.YtjmiifgofedcnaaBase
namespace Go.Proofs.Ytjmiifgofedcnaa
open Go.RowKit Ag

abbrev K0 (i : Int) : Lit := .int .i64 i
abbrev V0 (k : Nat) : DataW Unit := .lit (.int .i64 k)
abbrev Z0 : DataW Unit := .lit (.int .i64 0)
namespace Ag
def swp (h : Nat → En) (i j k : Nat) : En := if k = i then h j else if k = j then h i else h k
def upd (h : Nat → En) (n : Nat) (e : En) (k : Nat) : En := if k = n then e else h k
end Ag
structure PD (D : DataW Unit) (n : Nat) (h : Nat → En) : Prop where
  isM : Maps.IsMap D
  tidy : Maps.Tidy D
  size : Maps.size D = n
  yes : ∀ k, k < n → Maps.has D (K0 (h k).id) = true ∧ D.atKey (K0 (h k).id) Z0 = V0 k
  no : ∀ i, (∀ k, k < n → (h k).id ≠ i) → Maps.has D (K0 i) = false ∧ D.atKey (K0 i) Z0 = Z0

section
variable {D : DataW Unit} {n : Nat} {h : Nat → En}
theorem PD.inj (p : PD D n h) {k k' : Nat} (hk : k < n) (hk' : k' < n) (e : (h k).id = (h k').id) : k = k' := by
  have h1 := (p.yes k hk).2
  have h2 := (p.yes k' hk').2
  rw [e, h2] at h1
  simp at h1
  omega
theorem isK (i : Int) : WideAt.IsKeyLit (K0 i) := trivial
theorem key_ne {i j : Int} (h : i ≠ j) : K0 i ≠ K0 j := fun e => h (by injection e)
theorem PD.tput (p : PD D n h) (i : Int) (d : DataW Unit) : Maps.Tidy (D.put (K0 i) d) := Maps.Tidy.put p.tidy (isK _) _
theorem PD.swap (p : PD D n h) {i j : Nat} (hi : i < n) (hj : j < n) : PD ((D.put (K0 (h j).id) (V0 i)).put (K0 (h i).id) (V0 j)) n (swp h i j) := by
  have hi' := (p.yes i hi).1
  have hj' := (p.yes j hj).1
  have m1 : Maps.IsMap (D.put (K0 (h j).id) (V0 i)) := p.isM.put _ _
  have s1 : Maps.has (D.put (K0 (h j).id) (V0 i)) (K0 (h i).id) = true := by
    by_cases e : (h i).id = (h j).id
    · rw [e]; exact Maps.has_put_same p.isM (isK _) _
    · rw [Maps.has_put_other (key_ne e)]; exact hi'
  refine ⟨m1.put _ _, Maps.Tidy.put (p.tput _ _) (isK _) _, ?_, fun k hk => ?_, fun x hx => ?_⟩
  · rw [Maps.size_put (p.tput _ _), s1, if_pos rfl, Maps.size_put p.tidy, hj', if_pos rfl]
    exact p.size
  · by_cases e1 : (swp h i j k).id = (h i).id
    · have ek : k = j := by
        unfold swp at e1
        split at e1
        · rename_i e; subst e; exact (p.inj hj hi e1).symm
        · split at e1
          · assumption
          · exact absurd (p.inj hk hi e1) (by assumption)
      rw [e1, Maps.has_put_same m1 (isK _), Maps.atKey_put_same m1 (isK _), ek]
      exact ⟨rfl, rfl⟩
    · rw [Maps.has_put_other (key_ne e1), Maps.atKey_put_other (key_ne e1)]
      by_cases e2 : (swp h i j k).id = (h j).id
      · have ek : k = i := by
          unfold swp at e1 e2
          split at e2
          · assumption
          · split at e2
            · rename_i e e'; subst e'; simp [e] at e1
            · exact absurd (p.inj hk hj e2) (by assumption)
        rw [e2, Maps.has_put_same p.isM (isK _), Maps.atKey_put_same p.isM (isK _), ek]
        exact ⟨rfl, rfl⟩
      · rw [Maps.has_put_other (key_ne e2), Maps.atKey_put_other (key_ne e2)]
        unfold swp at e1 e2 ⊢
        split at e1
        · rename_i q1; rw [if_pos q1] at e2; exact absurd rfl e2
        · split at e1
          · exact absurd rfl e1
          · rename_i q1 q2
            rw [if_neg q1, if_neg q2]
            exact p.yes k hk
  · have a1 : (h i).id ≠ x := by
      have := hx j hj
      unfold swp at this
      split at this
      · rename_i e; rw [e] at this; exact this
      · simpa using this
    have a2 : (h j).id ≠ x := by
      have := hx i hi
      simpa [swp] using this
    rw [Maps.has_put_other (key_ne a1.symm), Maps.atKey_put_other (key_ne a1.symm), Maps.has_put_other (key_ne a2.symm), Maps.atKey_put_other (key_ne a2.symm)]
    refine p.no x (fun k hk e => ?_)
    by_cases e1 : k = i
    · subst e1; exact a1 e
    · by_cases e2 : k = j
      · subst e2; exact a2 e
      · exact hx k hk (by simp [swp, e1, e2, e])
theorem PD.add (p : PD D n h) {e : En} (hne : ∀ k, k < n → (h k).id ≠ e.id) : PD (D.put (K0 e.id) (V0 n)) (n + 1) (upd h n e) := by
  refine ⟨p.isM.put _ _, p.tput _ _, ?_, fun k hk => ?_, fun x hx => ?_⟩
  · rw [Maps.size_put p.tidy, (p.no e.id hne).1, p.size]; rfl
  · by_cases e1 : k = n
    · subst e1
      simp only [upd, if_true]
      exact ⟨Maps.has_put_same p.isM (isK _) _, Maps.atKey_put_same p.isM (isK _) _ _⟩
    · simp only [upd, if_neg e1]
      have := hne k (by omega)
      rw [Maps.has_put_other (key_ne this), Maps.atKey_put_other (key_ne this)]
      exact p.yes k (by omega)
  · have a1 : e.id ≠ x := by have := hx n (by omega); simpa [upd] using this
    rw [Maps.has_put_other (key_ne a1.symm), Maps.atKey_put_other (key_ne a1.symm)]
    refine p.no x (fun k hk => ?_)
    have := hx k (by omega)
    simpa [upd, show k ≠ n by omega] using this
theorem PD.pop (p : PD D (n + 1) h) : PD (D.del (K0 (h n).id)) n h := by
  refine ⟨p.isM.del _, Maps.Tidy.del p.tidy _, ?_, fun k hk => ?_, fun x hx => ?_⟩
  · have := Maps.size_del (k := K0 (h n).id) p.tidy
    rw [(p.yes n (by omega)).1, p.size] at this
    simpa using this
  · have : (h k).id ≠ (h n).id := fun e => by have := p.inj (by omega) (by omega) e; omega
    rw [Maps.has_del_other (key_ne this), Maps.atKey_del_other (key_ne this)]
    exact p.yes k (by omega)
  · by_cases e1 : x = (h n).id
    · subst e1
      exact ⟨Maps.has_del_same, Maps.atKey_del_same _⟩
    · rw [Maps.has_del_other (key_ne e1), Maps.atKey_del_other (key_ne e1)]
      refine p.no x (fun k hk e => ?_)
      by_cases e2 : k = n
      · subst e2; exact e1 e.symm
      · exact hx k (by omega) e
end

/-- An agenda in memory: its struct at a, its map at m, its row at ao. -/
structure Raw (ts te : Nat) (w : World) (a m : Nat) (ao : Option Addr) (cap n : Nat) (h : Nat → En) : Prop where
  blk : w.heap[a]? = some (.cells #[.slice ao n cap, .map (some m)] ts (0, 0))
  row : RowIn w te ao cap n h
  pm : ∃ D : DataW Unit, w.ownsMap Try.prog 3 (plainElem Try.prog 3) m n D ∧ PD D n h
  am : a ≠ m
  ag : ∀ g, ao = some ⟨g, 0, none⟩ → g ≠ a ∧ g ≠ m
  ok : ∀ k, k < n → wfI (h k).id ∧ wfI (h k).tm ∧ (h k).x.oneCell' = true
  top : n ≤ 35184372088832

theorem cells_at {w : World} {b e k : Nat} {cs : Array Value} {v : Value} (hb : w.heap[b]? = some (.cells cs e (0, 0))) (hv : cs[k]? = some v) : w.cell? ⟨b, k, none⟩ = some v := by
  unfold World.cell?
  rw [hb]
  exact hv
theorem frozen_at {w : World} {b e k : Nat} {cs : Array Value} (hb : w.heap[b]? = some (.cells cs e (0, 0))) : w.frozen? ⟨b, k, none⟩ = false := by
  unfold World.frozen?
  rw [hb]
  simp
section
variable {ts te : Nat} {w : World} {a m : Nat} {ao : Option Addr} {cap n : Nat} {h : Nat → En}
theorem Raw.c0 (r : Raw ts te w a m ao cap n h) : w.cell? ⟨a, 0, none⟩ = some (.slice ao n cap) := cells_at r.blk rfl
theorem Raw.c1 (r : Raw ts te w a m ao cap n h) : w.cell? ⟨a, 1, none⟩ = some (.map (some m)) := cells_at r.blk rfl
theorem Raw.has (r : Raw ts te w a m ao cap n h) (hn : 0 < n) : ∃ g cur, ao = some ⟨g, 0, none⟩ ∧ RowAt w te g cap n h cur ∧ g ≠ a ∧ g ≠ m := by
  rcases r.row with ⟨_, h0, _⟩ | ⟨g, cur, rfl, hr⟩
  · omega
  · exact ⟨g, cur, rfl, hr, r.ag g rfl⟩
theorem RowAt.cell {g : Nat} {cur : Array Value} (r : RowAt w te g cap n h cur) {k : Nat} (hk : k < n) : w.cell? ⟨g, k * 3, none⟩ = some (.int .i64 (h k).id) ∧ w.cell? ⟨g, k * 3 + 1, none⟩ = some (.int .i64 (h k).tm) ∧ w.cell? ⟨g, k * 3 + 2, none⟩ = some (h k).x :=
  ⟨cells_at r.blk (by have := r.at_ k hk 0 (by omega); simpa [En.cells] using this), cells_at r.blk (by have := r.at_ k hk 1 (by omega); simpa [En.cells] using this), cells_at r.blk (by have := r.at_ k hk 2 (by omega); simpa [En.cells] using this)⟩
theorem Raw.alt (r : Raw ts te w a m ao cap n h) : a < w.heap.size := (Array.getElem?_eq_some_iff.1 r.blk).1
theorem Raw.mlt (r : Raw ts te w a m ao cap n h) : m < w.heap.size := by obtain ⟨_, ho, _⟩ := r.pm; exact ho.lt
theorem RowAt.lt {g : Nat} {cur : Array Value} (r : RowAt w te g cap n h cur) : g < w.heap.size := (Array.getElem?_eq_some_iff.1 r.blk).1
/-- The blocks of an agenda. -/
def Kag (a m : Nat) (ao : Option Addr) (k : Nat) : Prop := k = a ∨ k = m ∨ ∃ g, ao = some ⟨g, 0, none⟩ ∧ k = g
/-- An agenda stands while none of its blocks turns. -/
theorem Raw.kept (r : Raw ts te w a m ao cap n h) {w' : World} {K : Nat → Prop} (c : Chg K w w') (hK : ∀ k, Kag a m ao k → ¬ K k) : Raw ts te w' a m ao cap n h := by
  refine ⟨(c.block a r.alt (hK a (.inl rfl))).trans r.blk, ?_, ?_, r.am, r.ag, r.ok, r.top⟩
  · rcases r.row with h0 | ⟨g, cur, rfl, hr⟩
    · exact .inl h0
    · exact .inr ⟨g, cur, rfl, (c.block g hr.lt (hK g (.inr (.inr ⟨g, rfl, rfl⟩)))).trans hr.blk, hr.sz, hr.le, hr.max, hr.at_⟩
  · obtain ⟨D, ho, hp⟩ := r.pm
    obtain ⟨es, clock, hb, F⟩ := ho
    exact ⟨D, ⟨es, clock, (c.block m (Array.getElem?_eq_some_iff.1 hb).1 (hK m (.inr (.inl rfl)))).trans hb, F⟩, hp⟩
theorem Raw.below (r : Raw ts te w a m ao cap n h) {w' : World} (b : Below w.heap.size w w') : Raw ts te w' a m ao cap n h := r.kept (K := fun _ => False) (Chg.of_below b _) (fun _ _ h => h)
end
end Go.Proofs.Ytjmiifgofedcnaa
