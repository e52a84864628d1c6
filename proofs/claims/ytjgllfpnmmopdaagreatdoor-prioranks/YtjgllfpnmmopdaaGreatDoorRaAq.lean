/-
  PrioRanks: sameRanks; the caller's own lists of accounts and jobs, with a mark behind them.
-/
import Derived.Test.YtjgllfpnmmopdaaGreatDoorRrAq
import Derived.Test.YtjgllfpnmmopdaaGreatDoorHezq
import Derived.Deep.QuietTactic
namespace Go.Proofs.YtjgllfpnmmopdaaGreatDoor
open Go.RowKit Wd Tr Cg Ld
theorem dNr (x : World) (q : Nat) : Below x.heap.size x (x.drewN q) := ⟨rfl, rfl, rfl, Nat.le_refl _, fun _ _ => rfl⟩
/-- A row of ranks that reads. -/
def RkAt (W : World) (ao : Option Addr) (M : List Pr) : Prop := ∃ g, (0 < M.length → ao = some ⟨g, 0, none⟩) ∧ ∀ k p, M[k]? = some p → W.cell? ⟨g, k * 2, none⟩ = some (.int .i64 p.a) ∧ W.cell? ⟨g, k * 2 + 1, none⟩ = some (.int .i64 p.b)
theorem RkAt.of_row {W : World} {g : Nat} {M : List Pr} (h : RwR W g M) : RkAt W (some ⟨g, 0, none⟩) M := ⟨g, fun _ => rfl, fun _ _ hp => h.at hp⟩
theorem RkAt.of_own {W : World} {B : Nat} {v : Value} {M : List Pr} (h : W.ownsRow B 40 2 v M.length (flatP M)) : ∃ ao c, v = .slice ao M.length c ∧ RkAt W ao M := by
  rcases h.2 with ⟨e, h0⟩ | ⟨g, cap, cur, e, _⟩
  · exact ⟨none, 0, by rw [e, h0], 0, fun h => by omega, fun k p hp => by have := (List.getElem?_eq_some_iff.1 hp).1; omega⟩
  · refine ⟨_, cap, e, g, fun _ => rfl, fun k p hp => ?_⟩
    obtain ⟨e0, e1⟩ := flatP_at M k p hp
    have h0 := h.cells (g := g) (by rw [e]; rfl) _ _ e0
    have h1 := h.cells (g := g) (by rw [e]; rfl) _ _ e1
    rw [Addr.add_lit, Nat.zero_add] at h0 h1
    exact ⟨h0, h1⟩
set_option maxHeartbeats 1000000 in
set_option maxRecDepth 20000 in
theorem ranks_yes {w : World} {ao bo : Option Addr} {M : List Pr} {n c d : Nat} (hn : n = M.length) (hA : RkAt w ao M) (hB : RkAt w bo M) (hm : n ≤ 140737488355328) :
    Calls Tryz.prog 8 #[.slice ao n c, .slice bo n d] w fun e w' => e = .returned (.bool true) ∧ Below w.heap.size w w' := by
  have hd : ((n : Int) != (n : Int)) = false := by simp
  have HA : Hid (RkAt w ao M) := hA
  have HB : Hid (RkAt w bo M) := hB
  have HN : Hid (n = M.length ∧ n ≤ 140737488355328) := ⟨hn, hm⟩
  clear hn hA hB hm
  go_enter Tryz.func8, Tryz.ntmps8
  go_wp2
  go_loopg [5] n (fun gk x wr => ∃ k : Nat, k + gk = n ∧ x = .int .i64 k ∧ Below w.heap.size w wr)
  case atStart => exact ⟨0, by omega, rfl, Below.refl _ _⟩
  case round =>
    obtain ⟨k, hk, rfl, hbw⟩ := hrel
    have HBW : Hid (Below w.heap.size w wr) := hbw
    clear hbw
    by_cases hlt : k < n
    · obtain ⟨p, hp⟩ : ∃ p, M[k]? = some p := ⟨_, List.getElem?_eq_getElem (by have := HN.out.1; omega)⟩
      obtain ⟨g, h1, h2⟩ := HA.out
      obtain ⟨g', h1', h2'⟩ := HB.out
      obtain rfl := h1 (by have := HN.out.1; omega)
      obtain rfl := h1' (by have := HN.out.1; omega)
      have a0 := cellB HBW.out (h2 k p hp).1
      have a1 := cellB HBW.out (h2 k p hp).2
      have b0 := cellB HBW.out (h2' k p hp).1
      have b1 := cellB HBW.out (h2' k p hp).2
      have n0 : (p.a != p.a) = false := by simp
      have n1 : (p.b != p.b) = false := by simp
      have HW : Hid (wrap64 ((k : Int) + 1) = ((k + 1 : Nat) : Int)) := wrap64_nat (h := k + 1) (by have := HN.out.2; omega)
      have hlt' : (k : Int) < n := by omega
      clear h1 h2 h1' h2' hp
      generalize p.a = pa at *
      generalize p.b = pb at *
      go_upto_region 6 with fail
      go_quiet (fail)
      have HB2 : Hid (Below w.heap.size w (wr.drewN nq)) := below_drewN HBW.out nq
      go_wp2
      go_roundg (n - (k + 1))
      case measure => omega
      case rel => exact ⟨k + 1, by omega, by first | rfl | (rw [HW.out]), HB2.out⟩
    · have hge : ¬ (k : Int) < n := by omega
      go_wp2
      go_ret
      exact ⟨rfl, HBW.out⟩
/-! ## Own accounts -/
def mkA : Ac := ⟨⟨#[109, 97, 114, 107]⟩, 0, 0, false, 0⟩
def RwA (W : World) (b : Nat) (M : List Ac) : Prop := ∃ cs : List Value, W.heap[b]? = some (.cells (flatA M ++ cs).toArray 31 (0, 0))
section
variable {W W' : World} {b : Nat} {M l r : List Ac}
theorem RwA.lt (h : RwA W b M) : b < W.heap.size := by
  obtain ⟨cs, h⟩ := h
  exact (Array.getElem?_eq_some_iff.1 h).1
theorem RwA.at (h : RwA W b M) {k : Nat} {a : Ac} (ha : M[k]? = some a) : AcAt W b (k * 5) a := by
  obtain ⟨cs, h⟩ := h
  obtain ⟨e0, e1, e2, e3, e4⟩ := flatA_at M k a ha
  have key : ∀ {j : Nat} {v : Value}, (flatA M)[j]? = some v → W.cell? ⟨b, j, none⟩ = some v := fun {j v} hj => cells_at h (by simp only [List.getElem?_toArray]; rw [List.getElem?_append_left (List.getElem?_eq_some_iff.1 hj).1]; exact hj)
  exact ⟨key e0, key e1, key e2, key e3, key e4⟩
theorem RwA.chg {K : Nat → Prop} (c : Chg K W W') (h : RwA W b M) (hK : ¬ K b) : RwA W' b M := by
  have hl := h.lt
  obtain ⟨cs, h⟩ := h
  exact ⟨cs, (c.block b hl hK).trans h⟩
theorem RwA.acs (h : RwA W b (l ++ r)) : AcsAt W (some ⟨b, 0, none⟩) l := ⟨b, 0, fun _ => rfl, fun k a ha => by
  have hk := (List.getElem?_eq_some_iff.1 ha).1
  rw [Nat.zero_add]
  exact h.at (by rw [List.getElem?_append_left hk]; exact ha)⟩
theorem RwA.of_own {B n : Nat} {v : Value} (h : W.ownsRow B 31 5 v n (flatA M)) (hn : 0 < n) : ∃ g cap, v = .slice (some ⟨g, 0, none⟩) n cap ∧ B ≤ g ∧ n ≤ cap ∧ RwA W g M := by
  rcases h.2 with ⟨_, h0⟩ | ⟨g, cap, cur, e, hb, hg, h1, _, _, h3⟩
  · omega
  · refine ⟨g, cap, e, hb, h1, cur.toList.drop (n * 5), ?_⟩
    rw [hg, ← h3, List.take_append_drop]
end
/-! ## Own jobs -/
def flatJ : List Jb → List Value
  | [] => []
  | j :: l => .int .i64 j.ac :: .int .i64 j.nd :: .int .i64 j.lm :: .int .i64 j.sb :: .int .i64 j.st :: .int .i64 j.sr :: .int .i64 j.en :: j.set :: flatJ l
theorem flatJ_len : ∀ l : List Jb, (flatJ l).length = l.length * 8
  | [] => rfl
  | j :: l => by simp only [flatJ, List.length_cons, flatJ_len l]; omega
theorem flatJ_app : ∀ l m : List Jb, flatJ (l ++ m) = flatJ l ++ flatJ m
  | [], m => rfl
  | p :: l, m => by simp only [List.cons_append, flatJ, flatJ_app l m]
theorem flatJ_at : ∀ (l : List Jb) (k : Nat) (j : Jb), l[k]? = some j → (flatJ l)[k * 8]? = some (.int .i64 j.ac) ∧ (flatJ l)[k * 8 + 1]? = some (.int .i64 j.nd) ∧ (flatJ l)[k * 8 + 2]? = some (.int .i64 j.lm) ∧ (flatJ l)[k * 8 + 3]? = some (.int .i64 j.sb) ∧ (flatJ l)[k * 8 + 4]? = some (.int .i64 j.st) ∧ (flatJ l)[k * 8 + 5]? = some (.int .i64 j.sr) ∧ (flatJ l)[k * 8 + 6]? = some (.int .i64 j.en) ∧ (flatJ l)[k * 8 + 7]? = some j.set
  | [], k, p, h => by simp at h
  | q :: l, 0, p, h => by simp at h; subst h; exact ⟨rfl, rfl, rfl, rfl, rfl, rfl, rfl, rfl⟩
  | q :: l, k + 1, p, h => by
    have h1 := flatJ_at l k p (by simpa using h)
    rw [show (k + 1) * 8 = k * 8 + 1 + 1 + 1 + 1 + 1 + 1 + 1 + 1 by omega]
    simpa only [flatJ, List.getElem?_cons_succ] using h1
theorem flatJ_set : ∀ (l : List Jb) (k : Nat) (j : Jb), ((((((((flatJ l).set (k * 8) (.int .i64 j.ac)).set (k * 8 + 1) (.int .i64 j.nd)).set (k * 8 + 2) (.int .i64 j.lm)).set (k * 8 + 3) (.int .i64 j.sb)).set (k * 8 + 4) (.int .i64 j.st)).set (k * 8 + 5) (.int .i64 j.sr)).set (k * 8 + 6) (.int .i64 j.en)).set (k * 8 + 7) j.set = flatJ (l.set k j)
  | [], k, p => rfl
  | q :: l, 0, p => rfl
  | q :: l, k + 1, p => by
    have h1 := flatJ_set l k p
    rw [show (k + 1) * 8 = k * 8 + 1 + 1 + 1 + 1 + 1 + 1 + 1 + 1 by omega]
    simp only [flatJ, List.set_cons_succ, h1]
def RwJ (W : World) (b : Nat) (M : List Jb) : Prop := ∃ cs : List Value, W.heap[b]? = some (.cells (flatJ M ++ cs).toArray 34 (0, 0))
def mkJ : Jb := ⟨-77, 0, 0, 0, 0, 0, 0, .slice none 0 0⟩
def pnJ : Jb := ⟨0, 0, 0, 0, 1, 0, 0, .slice none 0 0⟩
section
variable {W W' : World} {b : Nat} {M l r : List Jb}
theorem RwJ.lt (h : RwJ W b M) : b < W.heap.size := by
  obtain ⟨cs, h⟩ := h
  exact (Array.getElem?_eq_some_iff.1 h).1
theorem RwJ.free (h : RwJ W b M) (k : Nat) : W.frozen? ⟨b, k, none⟩ = false := by
  obtain ⟨cs, h⟩ := h
  exact frozen_at h
theorem RwJ.at (h : RwJ W b M) {k : Nat} {j : Jb} (ha : M[k]? = some j) : JbAt W b (k * 8) j := by
  obtain ⟨cs, h⟩ := h
  obtain ⟨e0, e1, e2, e3, e4, e5, e6, e7⟩ := flatJ_at M k j ha
  have key : ∀ {j : Nat} {v : Value}, (flatJ M)[j]? = some v → W.cell? ⟨b, j, none⟩ = some v := fun {j v} hj => cells_at h (by simp only [List.getElem?_toArray]; rw [List.getElem?_append_left (List.getElem?_eq_some_iff.1 hj).1]; exact hj)
  exact ⟨key e0, key e1, key e2, key e3, key e4, key e5, key e6, key e7⟩
theorem RwJ.chg {K : Nat → Prop} (c : Chg K W W') (h : RwJ W b M) (hK : ¬ K b) : RwJ W' b M := by
  have hl := h.lt
  obtain ⟨cs, h⟩ := h
  exact ⟨cs, (c.block b hl hK).trans h⟩
theorem RwJ.jbs (h : RwJ W b (l ++ r)) : Jbs W b 0 l := fun k a ha => by
  have hk := (List.getElem?_eq_some_iff.1 ha).1
  rw [Nat.zero_add]
  exact h.at (by rw [List.getElem?_append_left hk]; exact ha)
theorem RwJ.of_own {B n : Nat} {v : Value} (h : W.ownsRow B 34 8 v n (flatJ M)) (hn : 0 < n) : ∃ g cap, v = .slice (some ⟨g, 0, none⟩) n cap ∧ B ≤ g ∧ n ≤ cap ∧ RwJ W g M := by
  rcases h.2 with ⟨_, h0⟩ | ⟨g, cap, cur, e, hb, hg, h1, _, _, h3⟩
  · omega
  · refine ⟨g, cap, e, hb, h1, cur.toList.drop (n * 8), ?_⟩
    rw [hg, ← h3, List.take_append_drop]
theorem RwJ.set (h : RwJ W b M) {k : Nat} (hk : k < M.length) (j : Jb) : RwJ ((((((((W.setCell ⟨b, k * 8, none⟩ (.int .i64 j.ac)).setCell ⟨b, k * 8 + 1, none⟩ (.int .i64 j.nd)).setCell ⟨b, k * 8 + 2, none⟩ (.int .i64 j.lm)).setCell ⟨b, k * 8 + 3, none⟩ (.int .i64 j.sb)).setCell ⟨b, k * 8 + 4, none⟩ (.int .i64 j.st)).setCell ⟨b, k * 8 + 5, none⟩ (.int .i64 j.sr)).setCell ⟨b, k * 8 + 6, none⟩ (.int .i64 j.en)).setCell ⟨b, k * 8 + 7, none⟩ j.set) b (M.set k j) := by
  obtain ⟨cs, h⟩ := h
  have h0 := heap_setCell_same W b (k * 8) _ 34 (.int .i64 j.ac) h
  have h1 := heap_setCell_same _ b (k * 8 + 1) _ 34 (.int .i64 j.nd) h0
  have h2 := heap_setCell_same _ b (k * 8 + 2) _ 34 (.int .i64 j.lm) h1
  have h3 := heap_setCell_same _ b (k * 8 + 3) _ 34 (.int .i64 j.sb) h2
  have h4 := heap_setCell_same _ b (k * 8 + 4) _ 34 (.int .i64 j.st) h3
  have h5 := heap_setCell_same _ b (k * 8 + 5) _ 34 (.int .i64 j.sr) h4
  have h6 := heap_setCell_same _ b (k * 8 + 6) _ 34 (.int .i64 j.en) h5
  have h7 := heap_setCell_same _ b (k * 8 + 7) _ 34 j.set h6
  refine ⟨cs, ?_⟩
  rw [h7, ← flatJ_set M k j]
  have hl : (flatJ M).length = M.length * 8 := flatJ_len M
  simp only [List.setIfInBounds_toArray]
  repeat rw [List.set_append_left _ _ (by first | omega | (simp only [List.length_set]; omega))]
end
end Go.Proofs.YtjgllfpnmmopdaaGreatDoor
