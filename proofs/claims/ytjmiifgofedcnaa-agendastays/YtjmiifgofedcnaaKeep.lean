/-
  Small laws for the walks.
-/
import Derived.Test.YtjmiifgofedcnaaPlace
import Derived.BigQuiet
import Derived.BigRegion
import Derived.Deep.QuietTactic
import Derived.Deep.DeepCutAuto
namespace Go.Proofs.Ytjmiifgofedcnaa
open Go.RowKit Ag

namespace Ag
def bef (e f : En) : Bool := decide (ordV e.id e.tm f.id f.tm < 0)
end Ag
theorem Grew.cell {w1 w2 : World} (hg : Grew w1 w2) {p : Addr} {v : Value} (h : w1.cell? p = some v) : w2.cell? p = some v := (Chg.of_below hg.below (fun _ => False)).cell h (fun h => h)
theorem Grew.of_drew {w w' : World} (h : Grew w.drew w') : Grew w w' := by
  obtain ⟨q, os, rfl⟩ := h
  refine ⟨q + 1, os, ?_⟩
  simp only [Sort.grow, World.drewN, World.drew]
  congr 1
  omega
theorem Grew.refl (w : World) : Grew w w := ⟨0, #[], by simp [Sort.grow, World.drewN]⟩
theorem keep5 {w1 w2 : World} (hg : Grew w1 w2) {p1 p2 p3 p4 p5 : Addr} {v1 v2 v3 v4 v5 : Value} (h : w1.cell? p1 = some v1 ∧ w1.cell? p2 = some v2 ∧ w1.cell? p3 = some v3 ∧ w1.cell? p4 = some v4 ∧ w1.cell? p5 = some v5) :
    w2.cell? p1 = some v1 ∧ w2.cell? p2 = some v2 ∧ w2.cell? p3 = some v3 ∧ w2.cell? p4 = some v4 ∧ w2.cell? p5 = some v5 :=
  ⟨hg.cell h.1, hg.cell h.2.1, hg.cell h.2.2.1, hg.cell h.2.2.2.1, hg.cell h.2.2.2.2⟩

section
variable {ts te : Nat} {w : World} {a m g : Nat} {cap n : Nat} {h : Nat → En} {cur : Array Value}
theorem RowAt.of_heap (r : RowAt w te g cap n h cur) {w' : World} (e : w'.heap[g]? = w.heap[g]?) : RowAt w' te g cap n h cur := ⟨e.trans r.blk, r.sz, r.le, r.max, r.at_⟩
theorem RowAt.ext (r : RowAt w te g cap n h cur) {h' : Nat → En} (e : ∀ k, k < n → h' k = h k) : RowAt w te g cap n h' cur := ⟨r.blk, r.sz, r.le, r.max, fun k hk d hd => by rw [e k hk]; exact r.at_ k hk d hd⟩
/-- One of a row is laid anew. -/
theorem RowAt.set3 (r : RowAt w te g cap n h cur) {i : Nat} (hi : i < n) (e : En) :
    ∃ cur', RowAt (((w.setCell ⟨g, i * 3, none⟩ (.int .i64 e.id)).setCell ⟨g, i * 3 + 1, none⟩ (.int .i64 e.tm)).setCell ⟨g, i * 3 + 2, none⟩ e.x) te g cap n (upd h i e) cur' := by
  have h1 := Go.heap_setCell_same w g (i * 3) cur te (.int .i64 e.id) r.blk
  have h2 := Go.heap_setCell_same _ g (i * 3 + 1) _ te (.int .i64 e.tm) h1
  have h3 := Go.heap_setCell_same _ g (i * 3 + 2) _ te e.x h2
  have hz := r.sz
  have hl := r.le
  refine ⟨_, h3, by simp [hz], hl, r.max, fun k hk d hd => ?_⟩
  by_cases ek : k = i
  · subst ek
    simp only [upd, if_true]
    have : d = 0 ∨ d = 1 ∨ d = 2 := by omega
    rcases this with rfl | rfl | rfl
    · have e0 : (cur.setIfInBounds (k * 3) (.int .i64 e.id))[k * 3]? = some (.int .i64 e.id) := Array.getElem?_setIfInBounds_self_of_lt (by omega)
      rw [Array.getElem?_setIfInBounds_ne (by omega), Array.getElem?_setIfInBounds_ne (by omega)]
      exact e0
    · rw [Array.getElem?_setIfInBounds_ne (by omega), Array.getElem?_setIfInBounds_self_of_lt (by simp; omega)]; rfl
    · rw [Array.getElem?_setIfInBounds_self_of_lt (by simp; omega)]; rfl
  · rw [Array.getElem?_setIfInBounds_ne (by omega), Array.getElem?_setIfInBounds_ne (by omega), Array.getElem?_setIfInBounds_ne (by omega)]
    simp only [upd, if_neg ek]
    exact r.at_ k hk d hd
theorem swp_upd (h : Nat → En) (i j : Nat) : swp h i j = upd (upd h i (h j)) j (h i) := by
  funext k
  unfold swp upd
  by_cases e1 : k = i
  · by_cases e2 : k = j
    · subst e1; subst e2; simp
    · simp [e1]; intro e; exact absurd (e1.trans e) e2
  · simp [e1]
theorem swp_at1 (h : Nat → En) (i j : Nat) : swp h i j i = h j := by simp [swp]
theorem swp_at2 (h : Nat → En) (i j : Nat) : swp h i j j = h i := by unfold swp; split <;> simp_all
end

/-- In the midst of a swap: the row is swapped, the map is not. -/
structure Mid (ts te : Nat) (w0 : World) (a m g cap n : Nat) (h : Nat → En) (D : DataW Unit) (w : World) : Prop where
  blk : w.heap[a]? = some (.cells #[.slice (some ⟨g, 0, none⟩) n cap, .map (some m)] ts (0, 0))
  row : ∃ cur, RowAt w te g cap n h cur
  own : w.ownsMap Try.prog 3 (plainElem Try.prog 3) m n D
  chg : Chg (Kag a m (some ⟨g, 0, none⟩)) w0 w
section
variable {ts te : Nat} {w0 w : World} {a m g cap n : Nat} {h : Nat → En} {D : DataW Unit}
theorem Mid.drew (r : Mid ts te w0 a m g cap n h D w) : Mid ts te w0 a m g cap n h D w.drew := ⟨r.blk, r.row.elim fun c hc => ⟨c, hc.of_heap rfl⟩, r.own.drew, r.chg.drew⟩
theorem Mid.c0 (r : Mid ts te w0 a m g cap n h D w) : w.cell? ⟨a, 0, none⟩ = some (.slice (some ⟨g, 0, none⟩) n cap) := cells_at r.blk rfl
theorem Mid.c1 (r : Mid ts te w0 a m g cap n h D w) : w.cell? ⟨a, 1, none⟩ = some (.map (some m)) := cells_at r.blk rfl
theorem Mid.cell (r : Mid ts te w0 a m g cap n h D w) {k : Nat} (hk : k < n) : w.cell? ⟨g, k * 3, none⟩ = some (.int .i64 (h k).id) := r.row.elim fun _ hc => (hc.cell hk).1
theorem tight {w : World} {m n : Nat} {D : DataW Unit} (h : w.ownsMap Try.prog 3 (plainElem Try.prog 3) m n D) : w.ownsMap Try.prog 3 (plainElem Try.prog 3) m (Maps.size D) D := by
  obtain ⟨es, clock, hb, F, _, rfl⟩ := h
  exact ⟨es, clock, hb, F, by simp [Maps.size, length_sorted], rfl⟩
/-- A map's entry is laid anew. -/
theorem Mid.put (r : Mid ts te w0 a m g cap n h D w) (hn : n < maxLen) (hgm : g ≠ m) (ham : a ≠ m) {i : Int} {k : Nat} (hi : wfI i) (hk : wfI k) (ht : Maps.size (D.put (K0 i) (V0 k)) = n) :
    ∃ w', (Instr.mapUpdate 65 (.map (some m)) (.int .i64 i) (.int .i64 k)).run Try.prog w = .ok () w' ∧ Mid ts te w0 a m g cap n h (D.put (K0 i) (V0 k)) w' := by
  obtain ⟨w', hrun, ho, hturn⟩ := r.own.store (Maps.int_keyed Try.underlying3) Try.underlying65 hn (Maps.keyOf_int_mk Try.underlying3 hi) (plainElem_int Try.underlying3 hk)
  have hg := hturn.grown
  refine ⟨w', hrun, (hg.block a (Array.getElem?_eq_some_iff.1 r.blk).1 (fun e => ham (Option.some.inj e))).trans r.blk, ?_, ?_, r.chg.turned hturn (.inr (.inl rfl))⟩
  · obtain ⟨cur, hc⟩ := r.row
    exact ⟨cur, hc.of_heap (hg.block g hc.lt (fun e => hgm (Option.some.inj e)))⟩
  · have := tight ho
    rwa [ht] at this
end
theorem wfN {k : Nat} (h : k ≤ 35184372088832) : wfI k := by
  have h1 : IntKind.i64.min = -9223372036854775808 := rfl
  have h2 : IntKind.i64.max = 9223372036854775807 := rfl
  simp only [wfI, Lit.wf, h1, h2, Bool.and_eq_true, decide_eq_true_eq]
  omega
theorem PD.swap1 {D : DataW Unit} {n : Nat} {h : Nat → En} (p : PD D n h) {j : Nat} (hj : j < n) (v : DataW Unit) : Maps.size (D.put (K0 (h j).id) v) = n := by
  rw [Maps.size_put p.tidy, (p.yes j hj).1, if_pos rfl]
  exact p.size
theorem swp_ok {h : Nat → En} {n : Nat} {p : En → Prop} (ok : ∀ k, k < n → p (h k)) {i j : Nat} (hi : i < n) (hj : j < n) : ∀ k, k < n → p (swp h i j k) := by
  intro k hk
  unfold swp
  split
  · exact ok j hj
  · split
    · exact ok i hi
    · exact ok k hk
end Go.Proofs.Ytjmiifgofedcnaa
