/-
  Package profile: parted, nodesOf.
-/
import Derived.Test.YtdkibcagbidelaaVal
import Derived.Test.YtdkibcagbidelaaPrT
namespace Go.Proofs.Ytdkibcagbidelaa
open Go.RowKit Pr

/-- A slice of runs. -/
structure Sl (g o : Nat) (W : World) (ao : Option Addr) (l : List Rn) (c : Nat) : Prop where
  at_ : ao = some ⟨g, o, none⟩ ∨ (ao = none ∧ l = [] ∧ c = 0)
  cell : ∀ k r, l[k]? = some r → W.cell? ⟨g, o + k * 2, none⟩ = some (.int .i64 r.nd) ∧ W.cell? ⟨g, o + k * 2 + 1, none⟩ = some (.int .i64 r.en)
  le : l.length ≤ c
theorem Sl.g {g o : Nat} {W : World} {ao : Option Addr} {l : List Rn} {c : Nat} (h : Sl g o W ao l c) : RunsG g o W ao l :=
  ⟨fun hl => h.at_.elim id (fun e => by rw [e.2.1] at hl; simp at hl), h.cell⟩
theorem Sl.chg {g o : Nat} {W W' : World} {ao : Option Addr} {l : List Rn} {c : Nat} {K : Nat → Prop} (h : Sl g o W ao l c) (hc : Chg K W W') (hK : 0 < l.length → ¬ K g) : Sl g o W' ao l c :=
  ⟨h.at_, (h.g.chg hc hK).cell, h.le⟩
theorem Sl.below {g o : Nat} {W W' : World} {ao : Option Addr} {l : List Rn} {c : Nat} (h : Sl g o W ao l c) (b : Below W.heap.size W W') : Sl g o W' ao l c := h.chg (Chg.of_below b (fun _ => False)) (fun _ h => h)

theorem Sl.cut {g o : Nat} {W : World} {l : List Rn} {c n : Nat} (h : Sl g o W (some ⟨g, o, none⟩) l c) (hn : n ≤ l.length) : Sl g o W (some ⟨g, o, none⟩) (l.take n) n ∧ Sl g (o + n * 2) W (some ⟨g, o + n * 2, none⟩) (l.drop n) (c - n) := by
  refine ⟨⟨.inl rfl, fun k r hr => ?_, by simp; omega⟩, ⟨.inl rfl, fun k r hr => ?_, by have := h.le; simp; omega⟩⟩
  · rw [List.getElem?_take] at hr
    split at hr
    · exact h.cell k r hr
    · cases hr
  · rw [List.getElem?_drop] at hr
    have := h.cell _ r hr
    rwa [show o + (n + k) * 2 = o + n * 2 + k * 2 by omega] at this

set_option maxHeartbeats 1000000 in
theorem nodesOf_any {w : World} {ao : Option Addr} {l : List Rn} {c : Nat} (hA : RunsAt w ao l) (hn : l.length * 16 ≤ 140737488355328) (hok : l.all okR = true) :
    Calls Try.prog 54 #[.slice ao l.length c] w fun e w' => e = .returned (.int .i64 (sumN l)) ∧ Below w.heap.size w w' := by
  obtain ⟨q, hq⟩ : ∃ q, l.length = q := ⟨_, rfl⟩
  obtain ⟨g, o, hg, hc⟩ := hA
  rw [hq]
  rw [hq] at hg hn
  go_enter Try.func54, Try.ntmps54
  go_wp2
  go_loopg [3, 8] q (fun gk p i wr => ∃ (j : Nat) (x : Int), j + gk = q ∧ p = .int .i64 x ∧ i = .int .i64 j ∧ Below w.heap.size w wr ∧ x = sumN (l.take j))
  case atStart => exact ⟨0, 0, by omega, rfl, rfl, Below.refl _ _, by simp [sumN]⟩
  case round =>
    obtain ⟨j, x, hj, rfl, rfl, hb, hx⟩ := hrel
    by_cases hlt : j < q
    · obtain ⟨r, hr⟩ : ∃ r, l[j]? = some r := ⟨_, List.getElem?_eq_getElem (by omega)⟩
      obtain rfl := hg (by omega)
      obtain ⟨c1, c2⟩ := hc j r hr
      replace c1 := (hb.cell (World.block_lt_of_cell? w _ c1)).trans c1
      replace c2 := (hb.cell (World.block_lt_of_cell? w _ c2)).trans c2
      have e1 := sumN_take hr
      have e2 := sumN_bound (take_all hok (j + 1))
      rw [List.length_take] at e2
      have e3 := sumN_bound (take_all hok j)
      rw [List.length_take] at e3
      have := okR_le (List.all_eq_true.1 hok r (List.mem_of_getElem? hr))
      have x0 : 0 ≤ x := by omega
      have x1 : x ≤ 256 * q := by omega
      have HX : Hid (x + r.nd = sumN (l.take (j + 1))) := show x + r.nd = sumN (l.take (j + 1)) by omega
      clear hx e1 e2 e3 hc hg hr
      go_wp2
      go_roundg (q - (j + 1))
      case measure => omega
      case rel => exact ⟨j + 1, _, by omega, rfl, rfl, hb.alloc hb.size _, HX.out⟩
    · obtain rfl : j = q := by omega
      rw [List.take_of_length_le (by omega)] at hx
      have HX : Hid _ := hx
      clear hx
      go_wp2
      go_ret
      exact ⟨by rw [HX.out]; rfl, hb⟩

set_option maxHeartbeats 2000000 in
theorem parted_any {w : World} {g o : Nat} {ao : Option Addr} {l : List Rn} {c : Nat} (hA : Sl g o w ao l c) (hn : l.length * 16 ≤ 140737488355328) (hc : c ≤ maxLen) (t : Int) :
    Calls Try.prog 53 #[.slice ao l.length c, .int .i64 t] w fun e w' => ∃ a1 a2, e = .returned (.tuple #[.slice a1 (nEnd t l) (nEnd t l), .slice a2 (l.length - nEnd t l) (c - nEnd t l)]) ∧ Sl g o w' a1 (l.take (nEnd t l)) (nEnd t l) ∧ (∃ o2, Sl g o2 w' a2 (l.drop (nEnd t l)) (c - nEnd t l)) ∧ Below w.heap.size w w' := by
  rcases hA.at_ with rfl | ⟨rfl, rfl, rfl⟩
  · obtain ⟨q, hq⟩ : ∃ q, l.length = q := ⟨_, rfl⟩
    have hcl := hA.cell
    have hle := hA.le
    rw [hq] at hn hle ⊢
    go_enter Try.func53, Try.ntmps53
    go_wp2_with fail
    go_loopg [6] q (fun gk p wr => ∃ j : Nat, j + gk = q ∧ p = .int .i64 j ∧ w = wr ∧ ∀ i r, i < j → l[i]? = some r → r.en ≤ t)
    case atStart => exact ⟨0, by omega, rfl, rfl, fun i r h => by omega⟩
    case round =>
      obtain ⟨j, hj, rfl, rfl, hinv⟩ := hrel
      have HI : Hid _ := hinv
      clear hinv
      by_cases hlt : j < q
      · obtain ⟨r, hr⟩ : ∃ r, l[j]? = some r := ⟨_, List.getElem?_eq_getElem (by omega)⟩
        obtain ⟨c1, c2⟩ := hcl j r hr
        by_cases ht : r.en ≤ t
        · have HR : Hid _ := hr
          clear hcl hr
          go_wp2
          go_roundg (q - (j + 1))
          case measure => omega
          case rel =>
            refine ⟨j + 1, by omega, rfl, rfl, fun i r' hi hir => ?_⟩
            by_cases e : i = j
            · subst e
              have := HR.out
              rw [this] at hir
              cases hir
              exact ht
            · exact HI.out i r' (by omega) hir
        · have e : nEnd t l = j := nEnd_is (by omega) HI.out (fun r' hr' => by rw [hr] at hr'; cases hr'; omega)
          have E : Hid _ := e
          have HA : Hid _ := hA
          clear hcl hr e hA
          go_wp2_with fail
          go_quiet (fail)
          all_goals
            go_wp2
            obtain ⟨e1, e2⟩ := HA.out.cut (n := j) (by omega)
            have ee := E.out
            rw [ee]
            exact bodyPost_ret (v := .tuple #[.slice (some ⟨g, o, none⟩) j j, .slice (some ⟨g, o + j * 2, none⟩) (q - j) (c - j)]) (by simp [results, Try.results53, go_sem]) rfl ⟨_, _, rfl, e1.below (drew_below _ _), ⟨_, e2.below (drew_below _ _)⟩, drew_below _ _⟩
      · obtain rfl : j = q := by omega
        have e : nEnd t l = j := nEnd_is (by omega) HI.out (fun r' hr' => by have := (List.getElem?_eq_some_iff.1 hr').1; omega)
        have E : Hid _ := e
        have HA : Hid _ := hA
        obtain ⟨e1, e2⟩ := hA.cut (n := j) (by omega)
        have E1 : Hid _ := e1
        have E2 : Hid _ := e2
        have hdn : Hid (l.drop j = []) := show l.drop j = [] from List.drop_of_length_le (by omega)
        clear hcl e hA e1 e2
        by_cases hcj : c = j
        · subst hcj
          go_wp2_with fail
          go_quiet (fail)
          all_goals
            go_wp2
            have ee := E.out
            rw [ee]
            refine bodyPost_ret (v := .tuple #[.slice (some ⟨g, o, none⟩) c c, .slice (some ⟨g, o, none⟩) (c - c) (c - c)]) (by simp [results, Try.results53, go_sem]) rfl ⟨_, _, rfl, E1.out.below (drew_below _ _), ⟨o, .inl rfl, fun k r hr => ?_, ?_⟩, drew_below _ _⟩
            · rw [hdn.out] at hr; simp at hr
            · rw [hdn.out]; simp
        · have hcj' : j < c := by omega
          go_wp2_with fail
          go_quiet (fail)
          all_goals
            go_wp2
            have ee := E.out
            rw [ee]
            refine bodyPost_ret (v := .tuple #[.slice (some ⟨g, o, none⟩) j j, .slice (some ⟨g, o + j * 2, none⟩) (j - j) (c - j)]) (by simp [results, Try.results53, go_sem]) rfl ⟨_, _, rfl, E1.out.below (drew_below _ _), ⟨_, E2.out.below (drew_below _ _)⟩, drew_below _ _⟩
  · simp only [List.length_nil] at *
    go_enter Try.func53, Try.ntmps53
    go_wp2_with fail
    go_loopg [6] 0 (fun gk p wr => gk = 0 ∧ p = .int .i64 0 ∧ w = wr)
    case atStart => exact ⟨rfl, rfl, rfl⟩
    case round =>
      obtain ⟨hj, rfl, rfl⟩ := hrel
      go_wp2_with fail
      go_quiet (fail)
      all_goals
        go_wp2
        exact bodyPost_ret (v := .tuple #[.slice none 0 0, .slice none 0 0]) (by simp [results, Try.results53, go_sem]) rfl ⟨none, none, rfl, ⟨.inr ⟨rfl, rfl, rfl⟩, fun k r hr => by simp at hr, Nat.le_refl _⟩, ⟨0, .inr ⟨rfl, rfl, rfl⟩, fun k r hr => by simp at hr, Nat.le_refl _⟩, drew_below _ _⟩
end Go.Proofs.Ytdkibcagbidelaa
