/-
  Layer 6's statements: numbers, accounts, where the two are the same.
-/
import Derived.Test.YthkahbjcncbcfaaRfI
namespace Go.Proofs.Ythkahbjcncbcfaa
open Go.RowKit Tr

theorem drew_below (w : World) (k : Nat) : Below w.heap.size w (w.drewN k) := ⟨rfl, rfl, rfl, Nat.le_refl _, fun _ _ => rfl⟩
/-- Numbers that lie in memory. -/
def IntsAt (W : World) (v : Value) (xs : List Nat) : Prop := ∃ ao c g, v = .slice ao xs.length c ∧ (0 < xs.length → ao = some ⟨g, 0, none⟩) ∧ ∀ (k x : Nat), xs[k]? = some x → W.cell? ⟨g, k, none⟩ = some (.int .i64 (x : Int))
theorem IntsAt.below {W W' : World} {v : Value} {xs : List Nat} (h : IntsAt W v xs) (b : Below W.heap.size W W') : IntsAt W' v xs := by
  obtain ⟨ao, c, g, h0, h1, h2⟩ := h
  exact ⟨ao, c, g, h0, h1, fun k x hx => cellB b (h2 k x hx)⟩
set_option maxHeartbeats 1000000 in
set_option maxRecDepth 20000 in
theorem numbers_yes {w : World} {va vb : Value} {xs : List Nat} (ha : IntsAt w va xs) (hb : IntsAt w vb xs) (hn : xs.length * 8 ≤ 140737488355328) :
    Calls Try.prog 29 #[va, vb] w fun e w' => e = .returned (.bool true) ∧ Below w.heap.size w w' := by
  obtain ⟨ao1, c1, g1, rfl, h1, k1⟩ := ha
  obtain ⟨ao2, c2, g2, rfl, h2, k2⟩ := hb
  obtain ⟨q, hq⟩ : ∃ q, xs.length = q := ⟨_, rfl⟩
  rw [hq] at h1 h2 hn ⊢
  go_enter Try.func29, Try.ntmps29
  go_wp2
  go_loopg [13] q (fun gk p wr => ∃ j : Nat, j + gk = q ∧ p = .int .i64 j ∧ Below w.heap.size w wr)
  case atStart => exact ⟨0, by omega, rfl, Below.refl _ _⟩
  case round =>
    obtain ⟨j, hj, rfl, hbw⟩ := hrel
    by_cases hlt : j < q
    · have hlt' : (j : Int) < q := by omega
      obtain ⟨x, hx⟩ : ∃ x, xs[j]? = some x := ⟨_, List.getElem?_eq_getElem (by omega)⟩
      obtain rfl := h1 (by omega)
      obtain rfl := h2 (by omega)
      have d1 := cellB hbw (k1 j x hx)
      have d2 := cellB hbw (k2 j x hx)
      clear k1 k2 h1 h2
      go_wp2_with fail
      go_quiet (fail)
      all_goals
        go_wp2
        go_roundg (q - (j + 1))
        case measure => omega
        case rel => exact ⟨j + 1, by omega, rfl, hbw.trans ((drew_below wr _).mono hbw.size)⟩
    · obtain rfl : j = q := by omega
      go_wp2
      go_ret
      exact ⟨rfl, hbw⟩
set_option maxHeartbeats 2000000 in
set_option maxRecDepth 20000 in
theorem accounts_yes {w : World} {ao1 ao2 : Option Addr} {c1 c2 : Nat} {l : List Ac} (ha : AcsAt w ao1 l) (hb : AcsAt w ao2 l) (hn : l.length * 48 ≤ 140737488355328) :
    Calls Try.prog 18 #[.slice ao1 l.length c1, .slice ao2 l.length c2] w fun e w' => e = .returned (.bool true) ∧ Below w.heap.size w w' := by
  obtain ⟨g1, o1, h1, k1⟩ := ha
  obtain ⟨g2, o2, h2, k2⟩ := hb
  obtain ⟨q, hq⟩ : ∃ q, l.length = q := ⟨_, rfl⟩
  rw [hq] at h1 h2 hn ⊢
  go_enter Try.func18, Try.ntmps18
  go_wp2
  go_loopg [13] q (fun gk p wr => ∃ j : Nat, j + gk = q ∧ p = .int .i64 j ∧ Below w.heap.size w wr)
  case atStart => exact ⟨0, by omega, rfl, Below.refl _ _⟩
  case round =>
    obtain ⟨j, hj, rfl, hbw⟩ := hrel
    by_cases hlt : j < q
    · have hlt' : (j : Int) < q := by omega
      obtain ⟨a, hx⟩ : ∃ a, l[j]? = some a := ⟨_, List.getElem?_eq_getElem (by omega)⟩
      obtain rfl := h1 (by omega)
      obtain rfl := h2 (by omega)
      obtain ⟨d0, d1, d2, d3, d4⟩ := (k1 j a hx).below hbw
      obtain ⟨e0, e1, e2, e3, e4⟩ := (k2 j a hx).below hbw
      clear k1 k2 h1 h2
      go_wp2_with fail
      go_quiet (fail)
      all_goals
        go_wp2
        go_roundg (q - (j + 1))
        case measure => omega
        case rel => exact ⟨j + 1, by omega, rfl, hbw.trans ((drew_below wr _).mono hbw.size)⟩
    · obtain rfl : j = q := by omega
      go_wp2
      go_ret
      exact ⟨rfl, hbw⟩
end Go.Proofs.Ythkahbjcncbcfaa
