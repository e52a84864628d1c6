/-
  PrioSorts: the caller's own list: rows with places behind them.
-/
import Derived.Test.YtjgllfpnmmopdaaAlA
import Derived.Test.YtjgllfpnmmopdaaShw
import Derived.Test.YtjgllfpnmmopdaaSsIa
import Derived.Test.YtjgllfpnmmopdaaSsIb
import Derived.Test.YtjgllfpnmmopdaaSsIc
import Derived.Maps.AppendAt
namespace Go.Proofs.Ytjgllfpnmmopdaa
open Go.RowKit Tr
/-- A row of items, whatever lies behind it. -/
def RwS (W : World) (b : Nat) (M : List Pr) : Prop := ∃ cs : List Value, W.heap[b]? = some (.cells (flatP M ++ cs).toArray 25 (0, 0))
theorem flatP_setb : ∀ (l : List Pr) (k : Nat) (p : Pr) (y : Int), l[k]? = some p → (flatP l).set (k * 2 + 1) (.int .i64 y) = flatP (l.set k ⟨p.a, y⟩)
  | [], k, p, y, h => by simp at h
  | q :: l, 0, p, y, h => by simp at h; subst h; rfl
  | q :: l, k + 1, p, y, h => by
    have h1 := flatP_setb l k p y (by simpa using h)
    rw [show (k + 1) * 2 + 1 = k * 2 + 1 + 1 + 1 by omega]
    simp only [flatP, List.set_cons_succ, h1]
section
variable {W W' : World} {b : Nat} {M : List Pr}
theorem RwS.lt (h : RwS W b M) : b < W.heap.size := by
  obtain ⟨cs, h⟩ := h
  exact (Array.getElem?_eq_some_iff.1 h).1
theorem RwS.free (h : RwS W b M) (k : Nat) : W.frozen? ⟨b, k, none⟩ = false := by
  obtain ⟨cs, h⟩ := h
  exact frozen_at h
theorem RwS.at (h : RwS W b M) {k : Nat} {p : Pr} (ha : M[k]? = some p) : W.cell? ⟨b, k * 2, none⟩ = some (.int .i64 p.a) ∧ W.cell? ⟨b, k * 2 + 1, none⟩ = some (.int .i64 p.b) := by
  obtain ⟨cs, h⟩ := h
  obtain ⟨e0, e1⟩ := flatP_at M k p ha
  have l0 := (List.getElem?_eq_some_iff.1 e0).1
  have l1 := (List.getElem?_eq_some_iff.1 e1).1
  exact ⟨cells_at h (by simp only [List.getElem?_toArray]; rw [List.getElem?_append_left l0]; exact e0), cells_at h (by simp only [List.getElem?_toArray]; rw [List.getElem?_append_left l1]; exact e1)⟩
theorem RwS.chg {K : Nat → Prop} (c : Chg K W W') (h : RwS W b M) (hK : ¬ K b) : RwS W' b M := by
  have hl := h.lt
  obtain ⟨cs, h⟩ := h
  exact ⟨cs, (c.block b hl hK).trans h⟩
theorem RwS.below (c : Below W.heap.size W W') (h : RwS W b M) : RwS W' b M := h.chg (Chg.of_below c (fun _ => False)) (fun e => e)
theorem RwS.setb (h : RwS W b M) {k : Nat} {p : Pr} (ha : M[k]? = some p) (y : Int) : RwS (W.setCell ⟨b, k * 2 + 1, none⟩ (.int .i64 y)) b (M.set k ⟨p.a, y⟩) := by
  obtain ⟨cs, h⟩ := h
  have h1 := heap_setCell_same W b (k * 2 + 1) _ 25 (.int .i64 y) h
  refine ⟨cs, ?_⟩
  rw [h1, ← flatP_setb M k p y ha]
  have hk := (List.getElem?_eq_some_iff.1 ha).1
  have e : (flatP M ++ cs).set (k * 2 + 1) (.int .i64 y) = (flatP M).set (k * 2 + 1) (.int .i64 y) ++ cs := List.set_append_left _ _ (by rw [flatP_len]; omega)
  simp [← e]
theorem RwS.src (h : RwS W b M) {B C : List Pr} (e : M = B ++ C) : ∀ j u, (flatP B)[j]? = some u → W.cell? ((⟨b, 0, none⟩ : Addr).add j) = some u := by
  intro j u hj
  obtain ⟨cs, h⟩ := h
  rw [Addr.add_lit, Nat.zero_add]
  refine cells_at h ?_
  have h1 := (List.getElem?_eq_some_iff.1 hj).1
  simp only [List.getElem?_toArray]
  rw [e, flatP_app, List.append_assoc, List.getElem?_append_left h1]
  exact hj
theorem RwS.of_own {B n : Nat} {v : Value} (h : W.ownsRow B 25 2 v n (flatP M)) (hn : 0 < n) : ∃ g cap, v = .slice (some ⟨g, 0, none⟩) n cap ∧ B ≤ g ∧ n ≤ cap ∧ RwS W g M := by
  rcases h.2 with ⟨_, h0⟩ | ⟨g, cap, cur, e, hb, hg, h1, _, _, h3⟩
  · omega
  · refine ⟨g, cap, e, hb, h1, cur.toList.drop (n * 2), ?_⟩
    rw [hg, ← h3, List.take_append_drop]
theorem RwI.own (h : RwI W b M) (hn : M.length ≤ maxLen) : W.ownsRow 0 25 2 (.slice (some ⟨b, 0, none⟩) M.length M.length) M.length (flatP M) :=
  ⟨flatP_len M, .inr ⟨b, M.length, _, rfl, Nat.zero_le _, h, Nat.le_refl _, hn, by simp [flatP_len], by
    rw [List.take_of_length_le (by simp [flatP_len])]⟩⟩
end
theorem made0q (w : World) : (w.alloc (.cells #[] 25)).ownsRow w.heap.size 25 2 (.slice (some ⟨w.heap.size, 0, none⟩) 0 0) 0 [] := ⟨by simp, .inr ⟨w.heap.size, 0, #[], rfl, Nat.le_refl _, heap_alloc_new w _, Nat.le_refl _, Nat.zero_le _, rfl, rfl⟩⟩
def mkP : Pr := ⟨-77, 0⟩
/-- The first i numbered. -/
def numK (l : List Pr) (i : Nat) : List Pr := (numF l 0).take i ++ (l.drop i ++ [mkP])
theorem numK_0 (l : List Pr) : numK l 0 = l ++ [mkP] := by simp [numK]
theorem numK_all (l : List Pr) : numK l l.length = numF l 0 ++ [mkP] := by
  unfold numK
  rw [List.take_of_length_le (by rw [numF_len]; exact Nat.le_refl _)]
  simp
theorem numK_at {l : List Pr} {i : Nat} {p : Pr} (h : l[i]? = some p) : (numK l i)[i]? = some p := by
  have hi := (List.getElem?_eq_some_iff.1 h).1
  unfold numK
  rw [List.getElem?_append_right (by simp; omega), List.length_take, numF_len, show i - min i l.length = 0 by omega, List.getElem?_append_left (by simp; omega)]
  simp [h]
theorem numK_set {l : List Pr} {i : Nat} {p : Pr} (h : l[i]? = some p) : (numK l i).set i ⟨p.a, (i : Int)⟩ = numK l (i + 1) := by
  have hi := (List.getElem?_eq_some_iff.1 h).1
  unfold numK
  have e : l.drop i = p :: l.drop (i + 1) := by
    rw [List.drop_eq_getElem_cons hi, (List.getElem?_eq_some_iff.1 h).2]
  have e2 : (numF l 0).take (i + 1) = (numF l 0).take i ++ [⟨p.a, (i : Int)⟩] := by
    rw [List.take_add_one, numF_at l 0 i p h]
    simp
  rw [e2, e, List.set_append_right _ _ (by simp; omega), List.length_take, numF_len, show i - min i l.length = 0 by omega]
  simp
theorem two_new (w : World) (x y : Int) : ∀ ad, some (⟨w.heap.size, 0, none⟩ : Addr) = some ad → ∀ j u, [Value.int .i64 x, .int .i64 y][j]? = some u → (w.alloc (.cells #[.int .i64 x, .int .i64 y] 25)).cell? (ad.add j) = some u := by
  intro ad e j u hj
  cases e
  rw [Addr.add_lit, Nat.zero_add]
  exact cells_at (heap_alloc_new w _) (by simpa using hj)
theorem two_one {x y : Int} : ∀ u ∈ [Value.int .i64 x, .int .i64 y], u.oneCell' = true := by
  intro u hu
  simp only [List.mem_cons, List.not_mem_nil, or_false] at hu
  rcases hu with rfl | rfl <;> rfl
theorem own_mark {w3 w4 : World} {B n : Nat} {v3 v4 : Value} {l : List Pr} (_ : w3.ownsRow B 25 2 v3 (0 + n) ([] ++ flatP l)) (hL : l.length = n) (h : w4.ownsRow B 25 2 v4 (0 + n + 1) ([] ++ flatP l ++ [.int .i64 (-77), .int .i64 0])) :
    ∃ b cap, v4 = .slice (some ⟨b, 0, none⟩) (0 + n + 1) cap ∧ B ≤ b ∧ n + 1 ≤ cap ∧ RwS w4 b (numK l 0) := by
  have e : [] ++ flatP l ++ [Value.int .i64 (-77), .int .i64 0] = flatP (numK l 0) := by rw [numK_0, flatP_app]; rfl
  rw [e] at h
  obtain ⟨g, cap, e1, e2, e3, e4⟩ := RwS.of_own h (by omega)
  exact ⟨g, cap, e1, e2, by omega, e4⟩
theorem num_mk (l : List Pr) : (numF l 0 ++ [mkP])[l.length]? = some mkP := by
  rw [List.getElem?_append_right (by rw [numF_len]; exact Nat.le_refl _), numF_len]
  simp
theorem num_in {l : List Pr} {i : Nat} {p : Pr} (h : l[i]? = some p) : (numF l 0 ++ [mkP])[i]? = some ⟨p.a, (i : Int)⟩ := by
  have hi := (List.getElem?_eq_some_iff.1 h).1
  rw [List.getElem?_append_left (by rw [numF_len]; exact hi), numF_at l 0 i p h]
  simp
/-- What stands once all is sorted. -/
structure Sx (w : World) (b gb gc : Nat) (l B C : List Pr) (x : World) : Prop where
  row : RwS x b (numF l 0 ++ [mkP])
  rb : RwI x gb B
  rc : RwI x gc C
  bel : Below w.heap.size w x
theorem Sx.chg {K : Nat → Prop} {w x y : World} {b gb gc : Nat} {l B C : List Pr} (h : Sx w b gb gc l B C x) (k : Chg K x y) (h1 : ¬ K b) (h2 : ¬ K gb) (h3 : ¬ K gc) (h4 : ∀ j, K j → w.heap.size ≤ j) : Sx w b gb gc l B C y :=
  ⟨h.row.chg k h1, h.rb.chg k h2, h.rc.chg k h3, k.below h.bel h.bel.size h4⟩
theorem Sx.below {w x y : World} {b gb gc : Nat} {l B C : List Pr} (h : Sx w b gb gc l B C x) (k : Below x.heap.size x y) : Sx w b gb gc l B C y := h.chg (Chg.of_below k (fun _ => False)) (fun e => e) (fun e => e) (fun e => e) (fun _ e => e.elim)
theorem nine_step {w wr w6 : World} {b gb gc : Nat} {l B C : List Pr} {u v : Value} {o : Obj} (h1 : ∀ j, u.ownBlock = some j → ¬ j = b ∧ ¬ j = gb ∧ ¬ j = gc ∧ w.heap.size ≤ j) (h2 : Sx w b gb gc l B C wr) (hg : (wr.alloc o).grownBy w6 u.ownBlock) (ho : v.ownBlock = u.ownBlock ∨ v.ownBlock = some (wr.alloc o).heap.size) :
    (∀ j, v.ownBlock = some j → ¬ j = b ∧ ¬ j = gb ∧ ¬ j = gc ∧ w.heap.size ≤ j) ∧ Sx w b gb gc l B C w6 := by
  have l1 := h2.row.lt
  have l2 := h2.rb.lt
  have l3 := h2.rc.lt
  have l4 := h2.bel.size
  refine ⟨fun j e => ?_, ?_⟩
  · rcases ho with h | h
    · exact h1 j (by rw [← h]; exact e)
    · rw [h] at e
      have e1 := Option.some.inj e
      simp at e1
      omega
  · have k0 : Sx w b gb gc l B C (wr.alloc o) := h2.below ((Below.refl _ _).alloc (Nat.le_refl _) _)
    exact k0.chg (K := fun j => u.ownBlock = some j) (Chg.of_gr hg (fun k e => .inl e)) (fun e => (h1 b e).1 rfl) (fun e => (h1 gb e).2.1 rfl) (fun e => (h1 gc e).2.2.1 rfl) (fun j e => (h1 j e).2.2.2)
theorem dN_b (x : World) (q : Nat) : Below x.heap.size x (x.drewN q) := ⟨rfl, rfl, rfl, Nat.le_refl _, fun _ _ => rfl⟩
end Go.Proofs.Ytjgllfpnmmopdaa
