/-
  TreeBack, walked.
-/
import Derived.Test.YthkahbjcncbcfaaLdB
namespace Go.Proofs.Ythkahbjcncbcfaa
open Go.RowKit Tr

theorem plain_wf {l : List Ac} (h : Wf l) : l.map plainAc = l := by
  apply List.ext_getElem?
  intro i
  rw [List.getElem?_map]
  cases ha : l[i]? with
  | none => rfl
  | some a =>
    have : a.us = 0 := by
      by_cases hi : 0 < i
      · exact (h.row i a ha hi).2.2.2.2
      · obtain rfl : i = 0 := by omega
        rw [h.root] at ha
        cases ha
        rfl
    simp [plainAc, ← this]
theorem Tr.Wf.nms {l : List Ac} (h : Wf l) : ∀ a ∈ l, a.nm.size ≤ maxLen := fun x hx => by
  obtain ⟨k, hk⟩ := List.getElem?_of_mem hx
  by_cases h0 : 0 < k
  · have := (h.row k x hk h0).1
    simp [okName] at this
    exact Nat.le_trans this.1.2 (by decide)
  · obtain rfl : k = 0 := by omega
    rw [h.root] at hk
    cases hk
    decide
set_option maxHeartbeats 4000000 in
set_option maxRecDepth 20000 in
theorem back_any {w : World} {ao : Option Addr} {xs : List Ax} {c : Nat} (hA : ActsAt w ao xs) (hok : ∀ a ∈ xs, OkAx a) (hn : xs.length * 56 ≤ 140737488355328) :
    Calls Try.prog 5 #[.slice ao xs.length c] w fun e w' => e = .returned (.bool true) ∧ Below w.heap.size w w' := by
  go_enter Try.func5, Try.ntmps5
  go_wp2_with fail
  refine (shown_any w).mono ?_
  rintro e w1 ⟨rfl, b1⟩
  have hA1 : ActsAt w1 ao xs := by
    obtain ⟨g, o, h1, h2⟩ := hA
    exact ⟨g, o, h1, fun k a ha => (h2 k a ha).below b1 (Nat.le_refl _)⟩
  have hgr := grown_any (c := c) hA1 hok hn
  clear hA1 hA
  go_wp2_with fail
  refine hgr.mono ?_
  rintro e w2 ⟨t, rfl, t2, b2⟩
  have hwf := wf_grow xs
  obtain ⟨L, hL⟩ : ∃ L, growV xs = L := ⟨_, rfl⟩
  rw [hL] at t2 hwf
  have b12 := b1.trans (b2.mono b1.size)
  have hls := tlist t2 hwf
  clear hgr t2 hL
  go_wp2_with fail
  refine hls.mono ?_
  rintro e w3 ⟨v3, rfl, r3, b3⟩
  have hcap : ∃ ao3 c3, v3 = .slice ao3 L.length c3 ∧ AcsAt w3 ao3 L ∧ L.length ≤ c3 := by
    obtain ⟨ao3, c3, rfl, h1, _⟩ := acs_row r3
    refine ⟨ao3, c3, rfl, h1, ?_⟩
    rcases r3.2 with ⟨_, h0⟩ | ⟨g, cap, cur, hv, _, _, hnc, _⟩
    · omega
    · simp at hv
      omega
  obtain ⟨ao3, c3, rfl, h3, hc3⟩ := hcap
  have hl48 : L.length * 48 ≤ 140737488355328 := by have := hwf.len; omega
  have hld := pload_any h3 hwf.nms hl48 hc3
  have b13 := b12.trans (b3.mono (Nat.le_trans b1.size b2.size))
  clear hls r3
  go_wp2_with fail
  refine hld.mono ?_
  intro e w4 hP
  obtain ⟨p1, _, b4⟩ := hP
  obtain ⟨t4, rfl, tt⟩ := p1 (load_wf hwf)
  rw [plain_wf hwf] at tt
  have hl2 := tlist tt hwf
  have h34 := h3.below b4
  have b14 := b13.trans (b4.mono b13.size)
  clear p1 tt hld h3
  go_wp2_with fail
  refine hl2.mono ?_
  rintro e w5 ⟨v5, rfl, r5, b5⟩
  obtain ⟨ao5, c5, rfl, h5, _⟩ := acs_row r5
  have hac := accounts_yes (c1 := c5) (c2 := c3) h5 (h34.below b5) hl48
  have b15 := b14.trans (b5.mono b14.size)
  clear hl2 r5 h5 h34
  go_wp2_with fail
  refine hac.mono ?_
  rintro e w6 ⟨rfl, b6⟩
  go_wp2
  go_ret
  exact ⟨rfl, b15.trans (b6.mono b15.size)⟩
end Go.Proofs.Ythkahbjcncbcfaa
