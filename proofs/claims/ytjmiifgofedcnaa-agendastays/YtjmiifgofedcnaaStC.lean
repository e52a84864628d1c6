/-
  What stands between two rounds of AgendaStays.
-/
import Derived.Test.YtjmiifgofedcnaaOrder
import Derived.Test.YtjmiifgofedcnaaStA
import Derived.Test.YtjmiifgofedcnaaStB
namespace Go.Proofs.Ytjmiifgofedcnaa
open Go.RowKit Ag

namespace Ag
theorem del_not {i : Int} {L : List En} : ∀ f ∈ delL i L, f.id ≠ i := fun f hf => by
  have := (List.mem_filter.1 hf).2
  simpa using this
theorem del_len (i : Int) (L : List En) : (delL i L).length ≤ L.length := List.length_filter_le _ _
theorem del_all {i : Int} {L : List En} (h : ∀ f ∈ L, f.id ≠ i) : delL i L = L := by
  unfold delL
  rw [List.filter_eq_self]
  intro f hf
  simp [h f hf]
end Ag
/-- Drop, whatever the number. -/
theorem drop_I {w : World} {a m : Nat} {ao : Option Addr} {L : List En} (r : Agn 68 76 w a m ao L) (i : Int) (hi : wfI i) :
    Calls Try.prog 25 #[.pointer (some ⟨a, 0, none⟩), .int .i64 i] w fun e w' => ∃ b, e = .returned (.bool b) ∧ Agn 68 76 w' a m ao (delL i L) ∧ Chg (Kag a m ao) w w' := by
  by_cases h : ∃ f ∈ L, f.id = i
  · obtain ⟨f, hf, rfl⟩ := h
    exact (drop_yes_I r f hf).mono fun e w' ⟨h1, h2, h3⟩ => ⟨_, h1, h2, h3⟩
  · have hn : ∀ f ∈ L, f.id ≠ i := fun f hf e => h ⟨f, hf, e⟩
    refine (drop_no_I r i hi hn).mono fun e w' ⟨h1, h2⟩ => ?_
    subst h2
    rw [del_all hn]
    exact ⟨_, h1, r, Chg.refl _ _⟩
theorem Agn.rowc {ts te : Nat} {w : World} {a m : Nat} {ao : Option Addr} {L : List En} (r : Agn ts te w a m ao L) {g : Nat} (h : ao = some ⟨g, 0, none⟩) : ∃ cur, w.heap[g]? = some (.cells cur te (0, 0)) := by
  obtain ⟨cap, n, f, r⟩ := r
  rcases r.raw.row with ⟨h0, _⟩ | ⟨g', cur, h0, hr⟩
  · rw [h0] at h; cases h
  · rw [h0] at h
    injection h with h
    injection h with h
    subst h
    exact ⟨cur, hr.blk⟩

/-- The agenda, as some rounds have turned it, and the count of rounds in its box kb. V: the world ahead of the loop. -/
structure StT (V : World) (a m : Nat) (ao0 : Option Addr) (kb B k len : Nat) (W : World) : Prop where
  chg : Chg (fun j => Kag a m ao0 j ∨ j = kb) V W
  kbx : W.heap[kb]? = some (.cells #[.int .i64 k] 3 (0, 0))
  ag : ∃ ao L, Agn 68 76 W a m ao L ∧ L.length ≤ len ∧ ∀ g, ao = some ⟨g, 0, none⟩ → Kag a m ao0 g ∨ B ≤ g
  lo : V.heap.size ≤ B
  hi : B ≤ W.heap.size
  in0 : ∀ j, Kag a m ao0 j ∨ j = kb → j < V.heap.size
  kbn : ¬ Kag a m ao0 kb
section
variable {V W W' : World} {a m kb B k len : Nat} {ao0 ao : Option Addr} {L : List En}
theorem StT.below (h : StT V a m ao0 kb B k len W) (b : Below W.heap.size W W') : StT V a m ao0 kb B k len W' := by
  obtain ⟨ao, L, r, hl, hg⟩ := h.ag
  exact ⟨h.chg.trans (Chg.of_below b (fun _ => False)) (fun _ _ h => h.elim), (b.block _ (Nat.lt_of_lt_of_le (h.in0 _ (.inr rfl)) h.chg.size)).trans h.kbx, ⟨ao, L, r.below b, hl, hg⟩, h.lo, Nat.le_trans h.hi b.size, h.in0, h.kbn⟩
theorem StT.kag (h : StT V a m ao0 kb B k len W) (hg : ∀ g, ao = some ⟨g, 0, none⟩ → Kag a m ao0 g ∨ B ≤ g) : ∀ j, Kag a m ao j → Kag a m ao0 j ∨ B ≤ j := by
  rintro j (rfl | rfl | ⟨g, hg', rfl⟩)
  · exact .inl (.inl rfl)
  · exact .inl (.inr (.inl rfl))
  · exact hg _ hg'
theorem StT.kbno (h : StT V a m ao0 kb B k len W) (hg : ∀ g, ao = some ⟨g, 0, none⟩ → Kag a m ao0 g ∨ B ≤ g) : ¬ Kag a m ao kb := fun hk => by
  rcases h.kag hg _ hk with h1 | h1
  · exact h.kbn h1
  · have := h.in0 kb (.inr rfl)
    have := h.lo
    omega
theorem StT.putRec (h : StT V a m ao0 kb B k len W) {l : Nat} (hl : V.heap.size ≤ l) {r : Loop} (hr : W.heap[l]? = some (.loop r)) (o' : Obj) : StT V a m ao0 kb B k len (W.putObj l o') := by
  obtain ⟨ao, L, q, hle, hg⟩ := h.ag
  have hkb := h.in0 kb (.inr rfl)
  have c : Chg (fun j => j = l) W (W.putObj l o') := (Chg.refl _ W).putRec o' (.inl rfl)
  have ho : ∀ j, Kag a m ao j → j ≠ l := by
    rintro j (rfl | rfl | ⟨g, hg', rfl⟩) e
    · have := h.in0 j (.inl (.inl rfl)); omega
    · have := h.in0 j (.inl (.inr (.inl rfl))); omega
    · subst e
      obtain ⟨cur, hc⟩ := q.rowc hg'
      rw [hr] at hc
      cases hc
  exact ⟨h.chg.putRec o' (.inr hl), (World.putObj_heap_other (by omega)).trans h.kbx, ⟨ao, L, q.kept c ho, hle, hg⟩, h.lo, by rw [World.putObj_size]; exact h.hi, h.in0, h.kbn⟩
/-- The agenda is turned. -/
theorem StT.turn (h : StT V a m ao0 kb B k len W) (hg : ∀ g, ao = some ⟨g, 0, none⟩ → Kag a m ao0 g ∨ B ≤ g) (r : Agn 68 76 W a m ao L) {ao2 : Option Addr} {L2 : List En} {len2 : Nat} (r2 : Agn 68 76 W' a m ao2 L2) (mv : ∀ g, ao2 = some ⟨g, 0, none⟩ → ao = some ⟨g, 0, none⟩ ∨ W.heap.size ≤ g) (c : Chg (Kag a m ao) W W') (hl : L2.length ≤ len2) :
    StT V a m ao0 kb B k len2 W' ∧ KeepsFrom V.heap.size W W' ∧ Chg (fun j => (Kag a m ao0 j ∨ j = kb) ∨ B ≤ j) W W' := by
  have hkb := h.in0 kb (.inr rfl)
  refine ⟨⟨h.chg.trans c (fun j hj hk => ?_), (c.block kb (Nat.lt_of_lt_of_le hkb h.chg.size) (h.kbno hg)).trans h.kbx, ⟨ao2, L2, r2, hl, fun g e => ?_⟩, h.lo, Nat.le_trans h.hi c.size, h.in0, h.kbn⟩, ⟨c.size, fun j o hj ho hc => ?_⟩, c.mono (fun j _ hk => ?_)⟩
  · rcases h.kag hg j hk with h1 | h1
    · exact .inl h1
    · have := h.lo; omega
  · rcases mv g e with h1 | h1
    · exact hg g h1
    · exact .inr (Nat.le_trans h.hi h1)
  · refine (c.block j (Array.getElem?_eq_some_iff.1 ho).1 (fun hk => ?_)).trans ho
    rcases hk with rfl | rfl | ⟨g, hg', rfl⟩
    · have := h.in0 j (.inl (.inl rfl)); omega
    · have := h.in0 j (.inl (.inr (.inl rfl))); omega
    · obtain ⟨cur, hcu⟩ := r.rowc hg'
      rw [hcu] at ho
      injection ho with ho
      subst ho
      cases hc
  · rcases h.kag hg j hk with h1 | h1
    · exact .inl (.inl h1)
    · exact .inr h1
theorem StT.more (h : StT V a m ao0 kb B k len W) {len' : Nat} (hl : len ≤ len') : StT V a m ao0 kb B k len' W :=
  ⟨h.chg, h.kbx, h.ag.elim fun ao h => ⟨ao, h.elim fun L h => ⟨L, h.1, Nat.le_trans h.2.1 hl, h.2.2⟩⟩, h.lo, h.hi, h.in0, h.kbn⟩
/-- One round more. -/
theorem StT.inc (h : StT V a m ao0 kb B k len W) : StT V a m ao0 kb B (k + 1) len (W.setCell ⟨kb, 0, none⟩ (.int .i64 ((k : Int) + 1))) ∧ KeepsFrom V.heap.size W (W.setCell ⟨kb, 0, none⟩ (.int .i64 ((k : Int) + 1))) ∧ Chg (fun j => (Kag a m ao0 j ∨ j = kb) ∨ B ≤ j) W (W.setCell ⟨kb, 0, none⟩ (.int .i64 ((k : Int) + 1))) := by
  obtain ⟨ao, L, q, hle, hg⟩ := h.ag
  have hkb := h.in0 kb (.inr rfl)
  have c : Chg (fun j => j = kb) W (W.setCell ⟨kb, 0, none⟩ (.int .i64 ((k : Int) + 1))) := (Chg.refl _ W).setCell _ _ (.inl rfl)
  refine ⟨⟨h.chg.setCell _ _ (.inl (.inr rfl)), ?_, ⟨ao, L, q.kept c (fun j hj e => h.kbno hg (e ▸ hj)), hle, hg⟩, h.lo, by rw [World.size_setCell]; exact h.hi, h.in0, h.kbn⟩, KeepsFrom.of_chg c (fun j e => e ▸ hkb), c.mono (fun j _ e => .inl (.inr e))⟩
  have := heap_setCell_same W kb 0 _ 3 (.int .i64 ((k : Int) + 1)) h.kbx
  simpa using this
end
end Go.Proofs.Ytjmiifgofedcnaa
