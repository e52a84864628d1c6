/-
  Layer 6's reference: row.
-/
import Derived.Test.YtioldijdmefljaaGreatDoorRfX
namespace Go.Proofs.YtioldijdmefljaaGreatDoor
open Go.RowKit Tr

set_option maxRecDepth 20000 in
set_option maxHeartbeats 4000000 in
set_option maxRecDepth 20000 in
theorem row_any {w : World} {ao : Option Addr} {l : List Ac} {c : Nat} (hA : AcsAt w ao l) (hn : l.length * 48 ≤ 140737488355328) {i : Nat} {a : Ac} (ha : l[i]? = some a) :
    Calls Tryz.prog 74 #[.slice ao l.length c, .int .i64 i] w fun e w' => e = .returned (.int .i64 (rowE l i a)) ∧ Below w.heap.size w w' := by
  have hil := (List.getElem?_eq_some_iff.1 ha).1
  have hil' : (i : Int) < l.length := by omega
  have HF : ∀ (W : World), Below w.heap.size w W → Hid (Calls Tryz.prog 101 #[.slice ao l.length c, .string a.nm] W fun e w' => e = .returned (.int .i64 (findI (findV l a.nm))) ∧ Below W.heap.size W w') := fun W hb => find_any (hA.below hb) hn a.nm
  obtain ⟨g, o, hg, hc⟩ := hA
  obtain rfl := hg (by omega)
  obtain ⟨d0, d1, d2, d3, d4⟩ := hc i a ha
  obtain ⟨w0, hw0⟩ : ∃ w0, w.alloc (.cells #[.string a.nm, .int .i64 a.pa, .int .i64 a.sh, .bool a.cl, .int .u64 a.us] 32) = w0 := ⟨_, rfl⟩
  have b0 : Below w.heap.size w w0 := by rw [← hw0]; exact (Below.refl _ w).alloc (Nat.le_refl _) _
  have y0 : w0.heap[w.heap.size]? = some (.cells #[.string a.nm, .int .i64 a.pa, .int .i64 a.sh, .bool a.cl, .int .u64 a.us] 32 (0, 0)) := by rw [← hw0]; exact heap_alloc_new w _
  have hlt0 : w.heap.size < w0.heap.size := by rw [← hw0]; simp
  have HW0 : Hid _ := hw0
  clear hw0 hc hg
  cases hnm : okName a.nm with
  | false =>
    have hv : rowE l i a = 60 := by unfold rowE; simp [hnm]
    rw [hv]
    go_enter Tryz.func74, Tryz.ntmps74
    go_wp2_with fail
    rw [HW0.out]
    refine (name_any a.nm w0).mono ?_
    rintro e w1 ⟨rfl, b1⟩
    rw [hnm]
    obtain ⟨⟨x0, x1, x2, x3, x4⟩, _⟩ := cells5 ((b1.block _ hlt0).trans y0)
    have b01 := b0.trans (b1.mono b0.size)
    go_wp2
    go_ret
    exact ⟨rfl, b01⟩
  | true =>
    by_cases hfd : findV l a.nm = some i
    · have hfi : findI (findV l a.nm) = i := by rw [hfd]; rfl
      by_cases hpa : a.pa < 0
      · have hv : rowE l i a = 62 := by unfold rowE; rw [if_neg (by simp [hnm]), if_neg (by simp [hfd]), if_pos (.inl hpa)]
        rw [hv]
        go_enter Tryz.func74, Tryz.ntmps74
        go_wp2_with fail
        rw [HW0.out]
        refine (name_any a.nm w0).mono ?_
        rintro e w1 ⟨rfl, b1⟩
        rw [hnm]
        obtain ⟨⟨x0, x1, x2, x3, x4⟩, _⟩ := cells5 ((b1.block _ hlt0).trans y0)
        have b01 := b0.trans (b1.mono b0.size)
        go_wp2_with fail
        refine (HF w1 b01).out.mono ?_
        rw [hfi]
        rintro e w2 ⟨rfl, b2⟩
        have b02 := b01.trans (b2.mono b01.size)
        obtain ⟨⟨y0', y1, y2, y3, y4⟩, _⟩ := cells5 (((b1.trans (b2.mono b1.size)).block _ hlt0).trans y0)
        go_wp2
        go_ret
        exact ⟨rfl, b02⟩
      · by_cases hpb : (l.length : Int) ≤ a.pa
        · have hv : rowE l i a = 62 := by unfold rowE; rw [if_neg (by simp [hnm]), if_neg (by simp [hfd]), if_pos (.inr hpb)]
          rw [hv]
          go_enter Tryz.func74, Tryz.ntmps74
          go_wp2_with fail
          rw [HW0.out]
          refine (name_any a.nm w0).mono ?_
          rintro e w1 ⟨rfl, b1⟩
          rw [hnm]
          obtain ⟨⟨x0, x1, x2, x3, x4⟩, _⟩ := cells5 ((b1.block _ hlt0).trans y0)
          have b01 := b0.trans (b1.mono b0.size)
          go_wp2_with fail
          refine (HF w1 b01).out.mono ?_
          rw [hfi]
          rintro e w2 ⟨rfl, b2⟩
          have b02 := b01.trans (b2.mono b01.size)
          obtain ⟨⟨y0', y1, y2, y3, y4⟩, _⟩ := cells5 (((b1.trans (b2.mono b1.size)).block _ hlt0).trans y0)
          go_wp2
          go_ret
          exact ⟨rfl, b02⟩
        · cases hsh : okSh a.sh with
          | false =>
            have hv : rowE l i a = 63 := by unfold rowE; rw [if_neg (by simp [hnm]), if_neg (by simp [hfd]), if_neg (by omega), if_pos hsh]
            rw [hv]
            by_cases s1 : a.sh < 1
            · skip
              go_enter Tryz.func74, Tryz.ntmps74
              go_wp2_with fail
              rw [HW0.out]
              refine (name_any a.nm w0).mono ?_
              rintro e w1 ⟨rfl, b1⟩
              rw [hnm]
              obtain ⟨⟨x0, x1, x2, x3, x4⟩, _⟩ := cells5 ((b1.block _ hlt0).trans y0)
              have b01 := b0.trans (b1.mono b0.size)
              go_wp2_with fail
              refine (HF w1 b01).out.mono ?_
              rw [hfi]
              rintro e w2 ⟨rfl, b2⟩
              have b02 := b01.trans (b2.mono b01.size)
              obtain ⟨⟨y0', y1, y2, y3, y4⟩, _⟩ := cells5 (((b1.trans (b2.mono b1.size)).block _ hlt0).trans y0)
              go_wp2
              go_ret
              exact ⟨rfl, b02⟩
            · have s2 : 4096 < a.sh := by
                simp [okSh] at hsh
                omega
              go_enter Tryz.func74, Tryz.ntmps74
              go_wp2_with fail
              rw [HW0.out]
              refine (name_any a.nm w0).mono ?_
              rintro e w1 ⟨rfl, b1⟩
              rw [hnm]
              obtain ⟨⟨x0, x1, x2, x3, x4⟩, _⟩ := cells5 ((b1.block _ hlt0).trans y0)
              have b01 := b0.trans (b1.mono b0.size)
              go_wp2_with fail
              refine (HF w1 b01).out.mono ?_
              rw [hfi]
              rintro e w2 ⟨rfl, b2⟩
              have b02 := b01.trans (b2.mono b01.size)
              obtain ⟨⟨y0', y1, y2, y3, y4⟩, _⟩ := cells5 (((b1.trans (b2.mono b1.size)).block _ hlt0).trans y0)
              go_wp2
              go_ret
              exact ⟨rfl, b02⟩
          | true =>
            have hv : rowE l i a = 0 := by unfold rowE; rw [if_neg (by simp [hnm]), if_neg (by simp [hfd]), if_neg (by omega), if_neg (by simp [hsh])]
            rw [hv]
            obtain ⟨s1, s2⟩ : 1 ≤ a.sh ∧ a.sh ≤ 4096 := by simpa [okSh] using hsh
            go_enter Tryz.func74, Tryz.ntmps74
            go_wp2_with fail
            rw [HW0.out]
            refine (name_any a.nm w0).mono ?_
            rintro e w1 ⟨rfl, b1⟩
            rw [hnm]
            obtain ⟨⟨x0, x1, x2, x3, x4⟩, _⟩ := cells5 ((b1.block _ hlt0).trans y0)
            have b01 := b0.trans (b1.mono b0.size)
            go_wp2_with fail
            refine (HF w1 b01).out.mono ?_
            rw [hfi]
            rintro e w2 ⟨rfl, b2⟩
            have b02 := b01.trans (b2.mono b01.size)
            obtain ⟨⟨y0', y1, y2, y3, y4⟩, _⟩ := cells5 (((b1.trans (b2.mono b1.size)).block _ hlt0).trans y0)
            go_wp2
            go_ret
            exact ⟨rfl, b02⟩
    · have hv : rowE l i a = 61 := by unfold rowE; rw [if_neg (by simp [hnm]), if_pos hfd]
      have hfi : ¬ findI (findV l a.nm) = (i : Int) := fun h => by
        cases hf : findV l a.nm with
        | none => rw [hf] at h; simp [findI] at h
        | some k =>
          rw [hf] at h hfd
          simp only [findI] at h
          exact hfd (by congr 1; omega)
      rw [hv]
      go_enter Tryz.func74, Tryz.ntmps74
      go_wp2_with fail
      rw [HW0.out]
      refine (name_any a.nm w0).mono ?_
      rintro e w1 ⟨rfl, b1⟩
      rw [hnm]
      obtain ⟨⟨x0, x1, x2, x3, x4⟩, _⟩ := cells5 ((b1.block _ hlt0).trans y0)
      have b01 := b0.trans (b1.mono b0.size)
      go_wp2_with fail
      refine (HF w1 b01).out.mono ?_
      rintro e w2 ⟨rfl, b2⟩
      have b02 := b01.trans (b2.mono b01.size)
      obtain ⟨⟨y0', y1, y2, y3, y4⟩, _⟩ := cells5 (((b1.trans (b2.mono b1.size)).block _ hlt0).trans y0)
      obtain ⟨z, hz⟩ : ∃ z, findI (findV l a.nm) = z := ⟨_, rfl⟩
      rw [hz] at hfi ⊢
      go_wp2
      go_ret
      exact ⟨rfl, b02⟩
end Go.Proofs.YtioldijdmefljaaGreatDoor
