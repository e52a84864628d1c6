/-
  numbers; lists of numbers in memory.
-/
import Derived.Test.YtjmiifgofedcnaaCol
namespace Go.Proofs.Ytjmiifgofedcnaa
open Go.RowKit Ag

/-- v reads as xs. -/
def RdI (w : World) (v : Value) (xs : List Int) : Prop := ∃ ao cap g o, v = .slice ao xs.length cap ∧ (0 < xs.length → ao = some ⟨g, o, none⟩) ∧ ∀ j x, xs[j]? = some x → w.cell? ⟨g, o + j, none⟩ = some (.int .i64 x)
theorem rd_own {w : World} {B : Nat} {v : Value} {xs : List Int} (h : w.ownsRow B 3 1 v xs.length (ints xs)) : RdI w v xs := by
  rcases h.2 with ⟨rfl, h0⟩ | ⟨g, cap, cur, rfl, _, hg, _, _, _, ht⟩
  · obtain rfl : xs = [] := List.length_eq_zero_iff.1 h0
    exact ⟨none, 0, 0, 0, rfl, fun h => by simp at h, fun j x hx => by simp at hx⟩
  · refine ⟨some ⟨g, 0, none⟩, cap, g, 0, rfl, fun _ => rfl, fun j x hx => ?_⟩
    have hj : j < xs.length := (List.getElem?_eq_some_iff.1 hx).1
    refine cells_at hg ?_
    have h1 : (ints xs)[j]? = some (.int .i64 x) := by simp [ints, hx]
    rw [← ht, List.getElem?_take_of_lt (by omega), Array.getElem?_toList] at h1
    simpa using h1
theorem RdI.chg {w w' : World} {v : Value} {xs : List Int} (h : RdI w v xs) {K : Nat → Prop} (c : Chg K w w') (hv : ∀ k, v.ownBlock = some k → ¬ K k) : RdI w' v xs := by
  obtain ⟨ao, cap, g, o, rfl, ha, hc⟩ := h
  refine ⟨ao, cap, g, o, rfl, ha, fun j x hx => c.cell (hc j x hx) (hv g ?_)⟩
  rw [ha (by have := (List.getElem?_eq_some_iff.1 hx).1; omega)]
  rfl
theorem RdI.below {w w' : World} {v : Value} {xs : List Int} (h : RdI w v xs) (b : Below w.heap.size w w') : RdI w' v xs := h.chg (Chg.of_below b (fun _ => False)) (fun _ _ h => h)

theorem Grew.drewN {w w1 : World} (h : Grew w w1) (q : Nat) : Grew w (w1.drewN q) := by
  obtain ⟨p, os, rfl⟩ := h
  refine ⟨p + q, os, ?_⟩
  simp only [Sort.grow, World.drewN]
  congr 1
  omega
theorem Grew.trans {w w1 w2 : World} (h : Grew w w1) (k : Grew w1 w2) : Grew w w2 := by
  obtain ⟨p, os, rfl⟩ := h
  obtain ⟨q, os', rfl⟩ := k
  refine ⟨p + q, os ++ os', ?_⟩
  simp only [Sort.grow, World.drewN]
  congr 1
  · simp
  · omega

set_option maxHeartbeats 1000000 in
theorem numbers_any {w : World} {v v' : Value} {xs ys : List Int} (hx : RdI w v xs) (hy : RdI w v' ys) (h1 : xs.length ≤ 35184372088832) (h2 : ys.length ≤ 35184372088832) :
    Calls Try.prog 21 #[v, v'] w fun e w' => e = .returned (.bool (decide (xs = ys))) ∧ Grew w w' := by
  obtain ⟨ao, cap, g, o, rfl, ha, hc⟩ := hx
  obtain ⟨ao', cap', g', o', rfl, ha', hc'⟩ := hy
  obtain ⟨n, hn⟩ : ∃ n, xs.length = n := ⟨_, rfl⟩
  obtain ⟨n', hn'⟩ : ∃ n', ys.length = n' := ⟨_, rfl⟩
  have HN : Hid _ := hn
  have HN' : Hid _ := hn'
  rw [hn] at ha h1 ⊢
  rw [hn'] at ha' h2 ⊢
  clear hn hn'
  by_cases hl : n = n'
  · subst hl
    go_enter Try.func21, Try.ntmps21
    go_wp2
    go_loopg [13] n (fun gk c wr => ∃ k : Nat, k + gk = n ∧ c = .int .i64 k ∧ (∀ j, j < k → xs[j]? = ys[j]?) ∧ Grew w wr)
    case atStart => exact ⟨0, by omega, rfl, by omega, Grew.refl _⟩
    case round =>
      obtain ⟨k, hk, rfl, hsame, hg⟩ := hrel
      by_cases hlt : k < n
      · obtain ⟨x, hxk⟩ : ∃ x, xs[k]? = some x := ⟨_, List.getElem?_eq_getElem (by have := HN.out; omega)⟩
        obtain ⟨y, hyk⟩ : ∃ y, ys[k]? = some y := ⟨_, List.getElem?_eq_getElem (by have := HN'.out; omega)⟩
        have e1 := ha (by omega)
        have e2 := ha' (by omega)
        subst e1 e2
        have cx := hg.cell (hc k x hxk)
        have cy := hg.cell (hc' k y hyk)
        by_cases hxy : x = y
        · subst hxy
          go_wp2_with fail
          go_quiet (fail)
          all_goals
            go_wp2
            go_roundg (n - (k + 1))
            case measure => omega
            case rel => exact ⟨k + 1, by omega, rfl, fun j hj => (by
              by_cases e : j = k
              · subst e; rw [hxk, hyk]
              · exact hsame j (by omega)), hg.drewN _⟩
        · go_wp2_with fail
          go_quiet (fail)
          all_goals
            go_wp2
            go_ret
            have hne : ¬ xs = ys := fun e => by subst e; rw [hxk] at hyk; exact hxy (Option.some.inj hyk)
            exact ⟨by simp [hne], hg.drewN _⟩
      · have hk' : k = n := by omega
        go_wp2
        go_ret
        have heq : xs = ys := by
          apply List.ext_getElem?
          intro i
          by_cases hi : i < n
          · exact hsame i (by omega)
          · rw [List.getElem?_eq_none (by have := HN.out; omega), List.getElem?_eq_none (by have := HN'.out; omega)]
        exact ⟨by simp [heq], hg⟩
  · go_enter Try.func21, Try.ntmps21
    go_wp2
    go_ret
    have hne : ¬ xs = ys := fun e => by subst e; exact hl (HN.out.symm.trans HN'.out)
    exact ⟨by simp [hne], Grew.refl _⟩
end Go.Proofs.Ytjmiifgofedcnaa
