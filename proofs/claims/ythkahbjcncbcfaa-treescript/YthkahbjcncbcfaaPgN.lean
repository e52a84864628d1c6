/-
  Package tree: New; maps.Clone.
-/
import Derived.Test.YthkahbjcncbcfaaPgE
import Derived.Test.YthkahbjcncbcfaaPgR
import Derived.Shelf.SlMaps.Clone
namespace Go.Proofs.Ythkahbjcncbcfaa
open Go.RowKit Tr

set_option maxHeartbeats 2000000 in
set_option maxRecDepth 20000 in
theorem mclone_s {b n : Nat} {D : DataW Unit} {w : World} (hown : w.ownsMap Try.prog 9 (plainElem Try.prog 3) b n D) :
    Calls Try.prog 33 #[.map (some b)] w fun e w' => e = .returned (.map (some w.heap.size)) ∧ w'.ownsMap Try.prog 9 (plainElem Try.prog 3) w.heap.size n D ∧ ∃ es clock, w' = w.alloc (.map es clock) := by
  obtain ⟨es, clock, hb, F, hs, hD⟩ := hown
  have hq := fun w => run_eql_map_nil_sl (P := Try.prog) w 62 _ _ (some b) Try.underlying62
  have hcl := run_maps_clone_sl (P := Try.prog) w 62 hb
  go_enter Try.func33, Try.ntmps33
  go_wp2
  rw [run_callFunc_extern Try.func59 (by kernel_rfl) (by kernel_rfl) (by kernel_rfl) (e := Extern.MapsClone.clone) (by kernel_rfl), hcl]
  simp only [Result.andThen]
  rw [Oper.upon_value]
  go_wp2
  rw [run_typeAssert_map_sl _ 62 20 _ _ _ Try.underlying62]
  simp only [Result.andThen]
  rw [Oper.upon_value]
  go_wp2
  go_ret
  exact ⟨rfl, ⟨es, clock, (MapKept.heap_alloc w _).1, F, hs, hD⟩, es, clock, rfl⟩
set_option maxHeartbeats 2000000 in
set_option maxRecDepth 20000 in
theorem mclone_i {b n : Nat} {D : DataW Unit} {w : World} (hown : w.ownsMap Try.prog 3 unitElem b n D) :
    Calls Try.prog 34 #[.map (some b)] w fun e w' => e = .returned (.map (some w.heap.size)) ∧ w'.ownsMap Try.prog 3 unitElem w.heap.size n D ∧ ∃ es clock, w' = w.alloc (.map es clock) := by
  obtain ⟨es, clock, hb, F, hs, hD⟩ := hown
  have hq := fun w => run_eql_map_nil_sl (P := Try.prog) w 72 _ _ (some b) Try.underlying72
  have hcl := run_maps_clone_sl (P := Try.prog) w 72 hb
  go_enter Try.func34, Try.ntmps34
  go_wp2
  rw [run_callFunc_extern Try.func59 (by kernel_rfl) (by kernel_rfl) (by kernel_rfl) (e := Extern.MapsClone.clone) (by kernel_rfl), hcl]
  simp only [Result.andThen]
  rw [Oper.upon_value]
  go_wp2
  rw [run_typeAssert_map_sl _ 72 20 _ _ _ Try.underlying72]
  simp only [Result.andThen]
  rw [Oper.upon_value]
  go_wp2
  go_ret
  exact ⟨rfl, ⟨es, clock, (MapKept.heap_alloc w _).1, F, hs, hD⟩, es, clock, rfl⟩
theorem nmD_none : NmD (.map [] : DataW Unit) [] := fun s => ⟨rfl, fun k h => (by cases h)⟩
theorem kidB_root : ∀ i j, kidB [rootAc] i j = false := by
  intro i j
  unfold kidB
  cases j with
  | zero => simp [rootAc]
  | succ j => simp
set_option maxHeartbeats 2000000 in
set_option maxRecDepth 20000 in
theorem pnew_any (w : World) : Calls Try.prog 9 #[] w fun e w' => ∃ t v m kv ks, e = .returned (.pointer (some ⟨t, 0, none⟩)) ∧ PT w' t v m kv ks [rootAc] (kidB [rootAc]) ∧ (∀ j, PK t v m kv ks j → w.heap.size ≤ j) ∧ Below w.heap.size w w' := by
  have hmm := @run_makeMap Try.prog
  obtain ⟨w1, hw1⟩ : ∃ w1, (w.alloc (.map #[] 0)).alloc (.cells #[.slice none 0 0, .map (some w.heap.size), .slice none 0 0] 65) = w1 := ⟨_, rfl⟩
  have b1 : Below w.heap.size w w1 := by rw [← hw1]; exact ((Below.refl _ w).alloc (Nat.le_refl _) _).alloc (by simp) _
  have p1 : PT w1 (w.heap.size + 1) (.slice none 0 0) w.heap.size (.slice none 0 0) [] [] (kidB [rootAc]) := by
    rw [← hw1]
    refine ⟨?_, World.ownsRow_nil _ _ _ _, ⟨.map [], ?_, nmD_none⟩, World.ownsRow_nil _ _ _ _, rfl, fun i k h => (by simp at h), List.nodup_nil, by simp⟩
    · have := heap_alloc_new (w.alloc (.map #[] 0)) (.cells #[.slice none 0 0, .map (some w.heap.size), .slice none 0 0] 65)
      rwa [World.size_alloc] at this
    · exact (World.ownsMap_made w Try.prog 9 (plainElem Try.prog 3)).alloc _
  have HB : Hid _ := b1
  have HP : Hid _ := p1
  clear b1 p1
  go_enter Try.func9, Try.ntmps9
  go_wp2_with fail
  refine (root_any w1).mono ?_
  rintro e w2 ⟨rfl, b2⟩
  have hlay := lay_any (HP.out.below b2) rootAc (by decide) rfl (by decide) (fun j => kidB_root _ j)
  go_wp2_with fail
  refine hlay.mono ?_
  rintro e w3 ⟨rfl, v', kv', k', p3, c3, n3⟩
  have HP3 : Hid _ := p3
  have HC3 : Hid _ := c3
  have HN3 : Hid _ := n3
  clear p3 c3 n3
  go_wp2
  go_ret
  have hs1 := HB.out.size
  have hs2 := b2.size
  have hlo : ∀ j, PK (w.heap.size + 1) (.slice none 0 0) w.heap.size (.slice none 0 0) [] j → w.heap.size ≤ j := by
    rintro j (rfl | h | rfl | h | h)
    · omega
    · simp [Value.ownBlock] at h
    · omega
    · simp [Value.ownBlock] at h
    · cases h
  refine ⟨_, _, _, _, _, rfl, HP3.out, fun j hj => ?_, ?_⟩
  · rcases HN3.out j hj with h | h
    · exact hlo j h
    · omega
  · exact HC3.out.below (HB.out.trans (b2.mono HB.out.size)) (Nat.le_trans hs1 hs2) hlo
end Go.Proofs.Ythkahbjcncbcfaa
