/-
  The agendas of a script: the first pair, and a clone more.
-/
import Derived.Test.YtjmiifgofedcnaaScrA
namespace Go.Proofs.Ytjmiifgofedcnaa
open Go.RowKit Ag

def ptrA (f : Nat → Pt) (N : Nat) : List Value := (List.range N).map (fun i => .pointer (some ⟨(f i).a, 0, none⟩))
def ptrB (f : Nat → Pt) (N : Nat) : List Value := (List.range N).map (fun i => .pointer (some ⟨(f i).d, 0, none⟩))
theorem own_new {W : World} {B g e : Nat} {u : Value} (hb : B ≤ g) (h : W.heap[g]? = some (.cells #[u] e (0, 0))) : W.ownsRow B e 1 (.slice (some ⟨g, 0, none⟩) 1 1) 1 [u] :=
  ⟨rfl, .inr ⟨g, 1, #[u], rfl, hb, h, Nat.le_refl _, by decide, rfl, rfl⟩⟩
theorem fam_start {B a m d : Nat} {w2 w3 : World} (r2 : Agn 68 76 w2 a m none []) (hlo : ∀ k, Kag a m none k → B ≤ k) (hB : B ≤ w2.heap.size) (b3 : Below (w2.alloc (.cells #[.pointer (some ⟨a, 0, none⟩)] 24)).heap.size (w2.alloc (.cells #[.pointer (some ⟨a, 0, none⟩)] 24)) w3) (q3 : Rf w3 d []) (hd : B ≤ d) :
    Fam B 0 1 (fun _ => ⟨a, m, none, d, []⟩) (.slice (some ⟨w2.heap.size, 0, none⟩) 1 1) (.slice (some ⟨w3.heap.size, 0, none⟩) 1 1) (w3.alloc (.cells #[.pointer (some ⟨d, 0, none⟩)] 27)) := by
  have s3 := b3.size
  rw [World.size_alloc] at s3
  have b4 : Below w3.heap.size w3 (w3.alloc (.cells #[.pointer (some ⟨d, 0, none⟩)] 27)) := (Below.refl _ w3).alloc (Nat.le_refl _) _
  refine ⟨fun i hi => ⟨((r2.below ((Below.refl _ w2).alloc (Nat.le_refl _) _)).below b3).below b4, q3.below b4, fun e he => by simp at he, Nat.le_refl _, hlo, hd⟩, fun i j hi hj hij => by omega, fun i j hi hj hij => by omega, ?_, ?_⟩
  · exact own_new hB (((b4.block _ (by omega)).trans (b3.block _ (by simp))).trans (heap_alloc_new _ _))
  · exact own_new (by omega) (heap_alloc_new _ _)
section
variable {B t N : Nat} {f : Nat → Pt} {vA vB : Value} {W W' : World}
/-- A pair stands while only rows of pointers turn. -/
theorem Pt.ok.byRow {p : Pt} {K : Nat → Prop} (h : p.ok B t W) (c : Chg K W W') (hK : ∀ k, K k → tg W k = 24 ∨ tg W k = 27) : p.ok B t W' := by
  refine ⟨h.agn.kept c (fun k hk hc => ?_), h.ref.kept c (fun k _ hc => ?_), h.int, h.len, h.lo, h.lod⟩
  · rcases h.agn.tags k hk with e | e | e <;> rcases hK k hc with e' | e' <;> rw [e] at e' <;> cases e'
  · rcases hK k hc with e' | e' <;> rw [e'] <;> decide
theorem grown_row {e n : Nat} {v : Value} {vs : List Value} {ob : Obj} (hg : (W.alloc ob).grownBy W' v.ownBlock) (hrow : W.ownsRow B e 1 v n vs) : Chg (fun k => v.ownBlock = some k) W W' ∧ ∀ k, v.ownBlock = some k → tg W k = e :=
  ⟨((Chg.refl _ W).alloc ob).trans (K' := fun k => v.ownBlock = some k) (Chg.of_gr hg (fun _ e => .inl e)) (fun _ _ h => h), fun _ hk => row_tag hrow hk⟩
/-- Behind the first append. -/
theorem Fam.half {W1 W2 : World} {ob : Obj} (h : Fam B t N f vA vB W) (b1 : Below W.heap.size W W1) (g2 : (W1.alloc ob).grownBy W2 vA.ownBlock) : (∀ j, j < N → (f j).ok B t W2) ∧ W2.ownsRow B 27 1 vB N (ptrB f N) := by
  have h1 := h.below b1
  obtain ⟨c2, ht⟩ := grown_row g2 h1.rowA
  exact ⟨fun j hj => (h1.ok j hj).byRow c2 (fun k hk => .inl (ht k hk)), row_kept h1.rowB (fun k hk => c2.block k (h1.rowB.lt k hk).2 (fun e => by
    have x := ht k e
    rw [row_tag h1.rowB hk] at x
    cases x))⟩
theorem ptr_snoc {α : Type} (g : Nat → α) (N : Nat) : (List.range (N + 1)).map g = (List.range N).map g ++ [g N] := by simp [List.range_succ]
theorem Fam.cloned {W1 W2 W3 W4 : World} {i c m' e : Nat} {ao' : Option Addr} {ob ob' : Obj} {vA' vB' : Value} (h : Fam B t N f vA vB W) (hB : B ≤ W.heap.size) (hi : i < N)
    (r1 : Agn 68 76 W1 c m' ao' (f i).L) (b1 : Below W.heap.size W W1) (lo1 : ∀ k, Kag c m' ao' k → W.heap.size ≤ k)
    (o2 : W2.ownsRow B 24 1 vA' (N + 1) (ptrA f N ++ [.pointer (some ⟨c, 0, none⟩)])) (g2 : (W1.alloc ob).grownBy W2 vA.ownBlock)
    (q3 : Rf W3 e (f i).L) (b3 : Below W2.heap.size W2 W3) (he : W2.heap.size ≤ e)
    (o4 : W4.ownsRow B 27 1 vB' (N + 1) (ptrB f N ++ [.pointer (some ⟨e, 0, none⟩)])) (g4 : (W3.alloc ob').grownBy W4 vB.ownBlock) :
    Fam B t (N + 1) (fun j => if j = N then ⟨c, m', ao', e, (f i).L⟩ else f j) vA' vB' W4 := by
  obtain ⟨ok2, rb2⟩ := h.half b1 g2
  obtain ⟨c2, ht2⟩ := grown_row g2 (h.below b1).rowA
  have rb3 : W3.ownsRow B 27 1 vB N (ptrB f N) := row_kept rb2 (fun k hk => b3.block k (rb2.lt k hk).2)
  obtain ⟨c4, ht4⟩ := grown_row g4 rb3
  have ok4 : ∀ j, j < N → (f j).ok B t W4 := fun j hj => ((ok2 j hj).kept b3).byRow c4 (fun k hk => .inr (ht4 k hk))
  have s2 : W.heap.size ≤ W2.heap.size := Nat.le_trans b1.size c2.size
  have p2 : Pt.ok ⟨c, m', ao', (f i).d, (f i).L⟩ B t W2 := by
    refine ⟨r1.kept c2 (fun k hk hc => ?_), (ok2 i hi).ref, (h.ok i hi).int, (h.ok i hi).len, fun k hk => Nat.le_trans hB (lo1 k hk), (h.ok i hi).lod⟩
    rcases r1.tags k hk with x | x | x <;> rw [ht2 k hc] at x <;> cases x
  have p3 : Pt.ok ⟨c, m', ao', e, (f i).L⟩ B t W3 := ⟨p2.agn.below b3, q3, p2.int, p2.len, p2.lo, by show B ≤ e; omega⟩
  have p4 : Pt.ok ⟨c, m', ao', e, (f i).L⟩ B t W4 := p3.byRow c4 (fun k hk => .inr (ht4 k hk))
  have hlt : ∀ j, j < N → ∀ k, Kag (f j).a (f j).m (f j).ao k → k < W.heap.size := fun j hj => (h.ok j hj).agn.lt
  have hltd : ∀ j, j < N → (f j).d < W2.heap.size := fun j hj => (ok2 j hj).ref.tag.2
  refine ⟨fun j hj => ?_, fun j l hj hl hjl k hk => ?_, fun j l hj hl hjl => ?_, ?_, ?_⟩
  · by_cases ej : j = N
    · simp only [ej, if_true]; exact p4
    · simp only [ej, if_false]; exact ok4 j (by omega)
  · by_cases ej : j = N
    · have el : l ≠ N := by omega
      simp only [ej, if_true] at hk
      simp only [el, if_false]
      intro hc
      have := hlt l (by omega) k hc
      have := lo1 k hk
      omega
    · simp only [ej, if_false] at hk
      by_cases el : l = N
      · simp only [el, if_true]
        intro hc
        have := hlt j (by omega) k hk
        have := lo1 k hc
        omega
      · simp only [el, if_false]
        exact h.dis j l (by omega) (by omega) hjl k hk
  · by_cases ej : j = N
    · have el : l ≠ N := by omega
      simp only [ej, if_true, el, if_false]
      have := hltd l (by omega)
      omega
    · by_cases el : l = N
      · simp only [ej, if_false, el, if_true]
        have := hltd j (by omega)
        omega
      · simp only [ej, el, if_false]
        exact h.disd j l (by omega) (by omega) hjl
  · rw [ptr_snoc]
    have e1 : (List.range N).map (fun j => Value.pointer (some ⟨((fun j => if j = N then (⟨c, m', ao', e, (f i).L⟩ : Pt) else f j) j).a, 0, none⟩)) = ptrA f N := List.map_congr_left (fun j hj => by simp [Nat.ne_of_lt (List.mem_range.1 hj)])
    rw [e1]
    simp only [if_true]
    have o3 := row_kept o2 (fun k hk => b3.block k (o2.lt k hk).2)
    exact row_kept o3 (fun k hk => c4.block k (o3.lt k hk).2 (fun hc => by
      have x := ht4 k hc
      rw [row_tag o3 hk] at x
      cases x))
  · rw [ptr_snoc]
    have e1 : (List.range N).map (fun j => Value.pointer (some ⟨((fun j => if j = N then (⟨c, m', ao', e, (f i).L⟩ : Pt) else f j) j).d, 0, none⟩)) = ptrB f N := List.map_congr_left (fun j hj => by simp [Nat.ne_of_lt (List.mem_range.1 hj)])
    rw [e1]
    simp only [if_true]
    exact o4
/-- The pointers, read. -/
theorem ptr_at {e n : Nat} {g : Nat → Value} {v : Value} (h : W.ownsRow B e 1 v n ((List.range n).map g)) (hn : 0 < n) : ∃ b cap, v = .slice (some ⟨b, 0, none⟩) n cap ∧ n ≤ cap ∧ ∀ i, i < n → W.cell? ⟨b, i, none⟩ = some (g i) := by
  rcases owns_shape h with ⟨_, h0⟩ | ⟨b, cap, rfl, _, hc⟩
  · omega
  · refine ⟨b, cap, rfl, hc, fun i hi => ?_⟩
    rw [h.cellAt i (by omega)]
    simp [hi]
end
end Go.Proofs.Ytjmiifgofedcnaa
