/-
  maps.Clone.
-/
import Derived.Test.YtjmiifgofedcnaaAddM
import Derived.Shelf.SlMaps.Clone
namespace Go.Proofs.Ytjmiifgofedcnaa
open Go.RowKit Ag

theorem flat_one {h : Nat → En} {n : Nat} (ok : ∀ k, k < n → (h k).x.oneCell' = true) : ∀ u ∈ flat h n, u.oneCell' = true := by
  induction n with
  | zero => intro u hu; simp [flat] at hu
  | succ n ih =>
    intro u hu
    simp only [flat, List.mem_append] at hu
    rcases hu with hu | hu
    · exact ih (fun k hk => ok k (by omega)) u hu
    · simp [En.cells] at hu
      rcases hu with rfl | rfl | rfl
      · rfl
      · rfl
      · exact ok n (by omega)
theorem RowAt.flat_cells {w : World} {te g cap n : Nat} {h : Nat → En} {cur : Array Value} (r : RowAt w te g cap n h cur) (o : Obj) : ∀ j u, (flat h n)[j]? = some u → (w.alloc o).cell? ((⟨g, 0, none⟩ : Addr).add j) = some u := by
  intro j u hu
  have hj : j < n * 3 := by
    have := (List.getElem?_eq_some_iff.1 hu).1
    rwa [flat_len] at this
  have ha : (⟨g, 0, none⟩ : Addr).add j = ⟨g, j, none⟩ := by unfold Addr.add; split <;> simp_all
  rw [ha]
  refine cell_al (cells_at r.blk ?_) o
  have h1 := flat_at h n (j / 3) (j % 3) (by omega) (by omega)
  have h2 := r.at_ (j / 3) (by omega) (j % 3) (by omega)
  rw [show j / 3 * 3 + j % 3 = j by omega] at h1 h2
  rw [h2, ← h1]
  exact hu
theorem made0 (w : World) (te : TypeId) : (w.alloc (.cells #[] te)).ownsRow 0 te 3 (.slice (some ⟨w.heap.size, 0, none⟩) 0 0) 0 [] := World.ownsRow_made w #[] 0 (Nat.zero_le _) (Nat.zero_le _) rfl

set_option maxHeartbeats 2000000 in
set_option maxRecDepth 20000 in
theorem mclone_any {b n : Nat} {D : DataW Unit} {w : World} (hown : w.ownsMap Try.prog 3 (plainElem Try.prog 3) b n D) :
    Calls Try.prog 41 #[.map (some b)] w fun e w' => e = .returned (.map (some w.heap.size)) ∧ w'.ownsMap Try.prog 3 (plainElem Try.prog 3) w.heap.size n D ∧ ∃ es clock, w' = w.alloc (.map es clock) := by
  obtain ⟨es, clock, hb, F, hs, hD⟩ := hown
  have hq := fun w => run_eql_map_nil_sl (P := Try.prog) w 65 _ _ (some b) Try.underlying65
  have hcl := run_maps_clone_sl (P := Try.prog) w 65 hb
  go_enter Try.func41, Try.ntmps41
  go_wp2
  rw [run_callFunc_extern Try.func62 (by kernel_rfl) (by kernel_rfl) (by kernel_rfl) (e := Extern.MapsClone.clone) (by kernel_rfl), hcl]
  simp only [Result.andThen]
  rw [Oper.upon_value]
  go_wp2
  rw [run_typeAssert_map_sl _ 65 20 _ _ _ Try.underlying65]
  simp only [Result.andThen]
  rw [Oper.upon_value]
  go_wp2
  go_ret
  exact ⟨rfl, ⟨es, clock, (MapKept.heap_alloc w _).1, F, hs, hD⟩, es, clock, rfl⟩

theorem RowIn.below {w w' : World} {te : Nat} {ao : Option Addr} {cap n : Nat} {h : Nat → En} (r : RowIn w te ao cap n h) (b : Below w.heap.size w w') : RowIn w' te ao cap n h := by
  rcases r with h0 | ⟨g, cur, rfl, hr⟩
  · exact .inl h0
  · exact .inr ⟨g, cur, rfl, hr.of_heap (b.block g hr.lt)⟩
theorem own_below {w w' : World} {b n : Nat} {D : DataW Unit} (h : w.ownsMap Try.prog 3 (plainElem Try.prog 3) b n D) (k : Below w.heap.size w w') : w'.ownsMap Try.prog 3 (plainElem Try.prog 3) b n D :=
  h.kept (row := none) ⟨k.os, k.tape, k.output, k.size, fun i hi _ => k.block i hi⟩ (by simp)
/-- What a clone is made of. -/
structure Parts (te : Nat) (w : World) (n : Nat) (h : Nat → En) (D : DataW Unit) (ao : Option Addr) (cap m : Nat) (w' : World) : Prop where
  row : RowIn w' te ao cap n h
  new : ∀ g, ao = some ⟨g, 0, none⟩ → w.heap.size ≤ g
  own : w'.ownsMap Try.prog 3 (plainElem Try.prog 3) m n D
  newm : w.heap.size ≤ m
  bel : Below w.heap.size w w'
theorem clone_mk {ts te : Nat} {w w' : World} {a m m' : Nat} {ao ao' : Option Addr} {L : List En} {cap cap' n : Nat} {h : Nat → En} {D : DataW Unit} (r : Agd ts te w a m ao L cap n h) (hd : PD D n h) (p : Parts te w n h D ao' cap' m' w') :
    Agn ts te (w'.alloc (.cells #[.slice ao' n cap', .map (some m')] ts)) w'.heap.size m' ao' L ∧ Below w.heap.size w (w'.alloc (.cells #[.slice ao' n cap', .map (some m')] ts)) ∧ ∀ k, Kag w'.heap.size m' ao' k → w.heap.size ≤ k := by
  have hb : Below w'.heap.size w' (w'.alloc (.cells #[.slice ao' n cap', .map (some m')] ts)) := (Below.refl _ _).alloc (Nat.le_refl _) _
  have hmlt := p.own.lt
  refine ⟨⟨cap', n, h, ⟨heap_alloc_new _ _, p.row.below hb, ⟨D, own_below p.own hb, hd⟩, by omega, ?_, r.raw.ok, r.raw.top⟩, r.heap, r.isL⟩, p.bel.trans (hb.mono p.bel.size), ?_⟩
  · intro g hg
    rcases p.row with ⟨h0, _⟩ | ⟨g', cur, h0, hr⟩
    · rw [h0] at hg; cases hg
    · rw [h0] at hg
      injection hg with hg
      injection hg with hg
      subst hg
      have hlt := hr.lt
      refine ⟨by omega, fun e => ?_⟩
      subst e
      obtain ⟨es, clock, hh, _⟩ := p.own
      rw [hr.blk] at hh
      cases hh
  · rintro k (rfl | rfl | ⟨g, hg, rfl⟩)
    · exact p.bel.size
    · exact p.newm
    · exact p.new _ hg
end Go.Proofs.Ytjmiifgofedcnaa
