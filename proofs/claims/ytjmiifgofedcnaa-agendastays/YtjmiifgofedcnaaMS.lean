/-
  remove.
-/
import Derived.Test.YtjmiifgofedcnaaRS
import Derived.Test.YtjmiifgofedcnaaClr
namespace Go.Proofs.Ytjmiifgofedcnaa
open Go.RowKit Ag

set_option maxHeartbeats 2000000 in
theorem remove_S {w : World} {a m : Nat} {ao : Option Addr} {cap l : Nat} {h : Nat → En} (r : Raw 95 97 w a m ao cap (l + 1) h) (p : Nat) (hp : p < l + 1) (hh : Heap h (l + 1)) :
    Calls Try.prog 76 #[.pointer (some ⟨a, 0, none⟩), .int .i64 p] w fun e w' => e = .returned (.tuple #[]) ∧ ∃ h', Way 95 97 w a m ao cap l (swp h p l) w' h' ∧ Heap h' l := by
  have ht := r.top
  have c0 := r.c0
  have el : ((l : Int) + 1) - 1 = (l : Int) := by omega
  go_enter Try.func76, Try.ntmps76
  go_wp2_with fail
  refine (swap_S r p l hp (by omega)).mono ?_
  rintro e w1 ⟨rfl, r1, g1⟩
  obtain ⟨D, ho, hd⟩ := r1.pm
  obtain ⟨g, cur, rfl, hr, hga, hgm⟩ := r1.has (by omega)
  obtain ⟨w2, hrun, ho2, ht2⟩ := ho.drew.drop (Maps.int_keyed Try.underlying3) Try.underlying65 (Maps.keyOf_int_mk Try.underlying3 (r1.ok l (by omega)).1) 0
  have d0 := r1.c0
  have d1 := r1.c1
  obtain ⟨i0, i1, i2⟩ := hr.cell (k := l) (by omega)
  have hz := hr.sz
  have hle := hr.le
  have hg2 := ht2.grown
  have b2 : w2.heap[a]? = w1.heap[a]? := hg2.block a r1.alt (fun e => r1.am (Option.some.inj e))
  have k2 : w2.heap[g]? = w1.heap[g]? := hg2.block g hr.lt (fun e => hgm (Option.some.inj e))
  have hr2 := hr.of_heap k2
  have e0 : w2.cell? ⟨a, 0, none⟩ = some (.slice (some ⟨g, 0, none⟩) (l + 1) cap) := cells_at (b2.trans r1.blk) rfl
  have fa : w2.frozen? ⟨a, 0, none⟩ = false := frozen_at (b2.trans r1.blk)
  obtain ⟨w3, cur3, hrun3, hr3, hg3⟩ := clear_run 93 97 _ Try.underlying93 Try.zeroValue97 rfl hr2
  have b3 : w3.heap[a]? = w1.heap[a]? := (hg3.block a (by have := hg2.size; have := r1.alt; have : w1.drew.heap.size = w1.heap.size := rfl; omega) (fun e => hga (Option.some.inj e).symm)).trans b2
  have e3 : w3.cell? ⟨a, 0, none⟩ = some (.slice (some ⟨g, 0, none⟩) (l + 1) cap) := cells_at (b3.trans r1.blk) rfl
  have f3 : w3.frozen? ⟨a, 0, none⟩ = false := frozen_at (b3.trans r1.blk)
  have hblk := heap_setCell_same w3 a 0 _ 95 (.slice (some ⟨g, 0, none⟩) l cap) (b3.trans r1.blk)
  have ho3 : w3.ownsMap Try.prog 3 (plainElem Try.prog 3) m (l + 1) (D.del (K0 (swp h p l l).id)) := ho2.kept hg3 (fun e => hgm (Option.some.inj e).symm)
  have ho4 := tight (ho3.setCell (a := ⟨a, 0, none⟩) (Ne.symm r1.am) (.slice (some ⟨g, 0, none⟩) l cap))
  rw [hd.pop.size] at ho4
  have R4 : Hid (Raw 95 97 (w3.setCell ⟨a, 0, none⟩ (.slice (some ⟨g, 0, none⟩) l cap)) a m (some ⟨g, 0, none⟩) cap l (swp h p l)) :=
    ⟨hblk, .inr ⟨g, cur3, rfl, hr3.of_heap (Below.heap_setCell _ _ _ _ hga)⟩, ⟨_, ho4, hd.pop⟩, r1.am, r1.ag, fun k hk => r1.ok k (by omega), by omega⟩
  have C4 : Hid (Chg (Kag a m (some ⟨g, 0, none⟩)) w (w3.setCell ⟨a, 0, none⟩ (.slice (some ⟨g, 0, none⟩) l cap))) :=
    (((g1.drew.turned ht2 (.inr (.inl rfl))).trans (K' := fun i => i = g) (Chg.of_gr hg3 (fun _ e => .inl (Option.some.inj e).symm)) (fun _ _ e => .inr (.inr ⟨g, rfl, e⟩))).setCell _ _ (.inl (.inl rfl)))
  clear hr hr2 hr3 r r1 ho ho2 ho3 ho4 hd hg2 hg3 ht2 hblk b2 b3 k2 hz g1
  go_wp2_with fail
  go_region
  all_goals
    by_cases hpl : p < l
    · go_wp2_with fail
      refine (sink_S R4.out p hpl (hole_of hh hpl)).mono ?_
      rintro e w5 ⟨rfl, h5, W5, u5⟩
      go_wp2_with fail
      refine (rise_S W5.raw p hpl u5).mono ?_
      rintro e w6 ⟨rfl, h6, W6, u6⟩
      go_wp2
      go_end0
      have W := W5.trans W6
      exact ⟨rfl, h6, ⟨W.raw, W.same, C4.out.trans W.chg (fun _ _ h => h)⟩, u6⟩
    · obtain rfl : p = l := by omega
      go_wp2
      go_end0
      exact ⟨rfl, _, ⟨R4.out, Same.refl _ _, C4.out⟩, heap_pop hh⟩
end Go.Proofs.Ytjmiifgofedcnaa
