/-
  LAYER 17: rows of turns in memory; swapRange, rotate.
  LAYER 17: rows of turns: rotate.
-/
import Derived.Test.YtbcinapnnlfnbaaGreatXad
import Derived.Deep.LoopGhost
import Derived.Deep.RegionHeld3
import Derived.Deep.QuietTactic
import Derived.Test.YtbcinapnnlfnbaaGreatXru
namespace Go.Proofs.YtbcinapnnlfnbaaGreat
open Go.RowKit Wd Tr Cg Lg

/-- Where the jobs' lists lie. -/
structure Slx where
  so : Nat → Option Addr
  sl : Nat → Nat
  sc : Nat → Nat
def flatE (S : Slx) : List Ev → List Value
  | [] => []
  | e :: l => .int .i64 e.tm :: .bool e.tk :: .slice (S.so e.jx) (S.sl e.jx) (S.sc e.jx) :: flatE S l
theorem flatE_len (S : Slx) : ∀ l : List Ev, (flatE S l).length = l.length * 3
  | [] => rfl
  | p :: l => by simp only [flatE, List.length_cons, flatE_len S l]; omega
theorem flatE_app (S : Slx) : ∀ l m : List Ev, flatE S (l ++ m) = flatE S l ++ flatE S m
  | [], m => rfl
  | p :: l, m => by simp only [List.cons_append, flatE, flatE_app S l m]
theorem flatE_at (S : Slx) : ∀ (l : List Ev) (k : Nat) (p : Ev), l[k]? = some p → (flatE S l)[k * 3]? = some (.int .i64 p.tm) ∧ (flatE S l)[k * 3 + 1]? = some (.bool p.tk) ∧ (flatE S l)[k * 3 + 2]? = some (.slice (S.so p.jx) (S.sl p.jx) (S.sc p.jx))
  | [], k, p, h => by simp at h
  | q :: l, 0, p, h => by simp at h; subst h; exact ⟨rfl, rfl, rfl⟩
  | q :: l, k + 1, p, h => by
    have h1 := flatE_at S l k p (by simpa using h)
    rw [show (k + 1) * 3 = k * 3 + 1 + 1 + 1 by omega]
    simpa only [flatE, List.getElem?_cons_succ] using h1
theorem flatE_set (S : Slx) : ∀ (l : List Ev) (r : List Value) (k : Nat) (p : Ev), k < l.length → (((flatE S l ++ r).set (k * 3) (.int .i64 p.tm)).set (k * 3 + 1) (.bool p.tk)).set (k * 3 + 2) (.slice (S.so p.jx) (S.sl p.jx) (S.sc p.jx)) = flatE S (l.set k p) ++ r
  | [], r, k, p, h => by simp at h
  | q :: l, r, 0, p, _ => rfl
  | q :: l, r, k + 1, p, h => by
    have h1 := flatE_set S l r k p (by simpa using h)
    rw [show (k + 1) * 3 = k * 3 + 1 + 1 + 1 by omega]
    simp only [flatE, List.cons_append, List.set_cons_succ, h1]
theorem flatE_one (S : Slx) : ∀ (l : List Ev), ∀ v ∈ flatE S l, v.oneCell' = true
  | [], v, h => by simp [flatE] at h
  | p :: l, v, h => by
    simp only [flatE, List.mem_cons] at h
    rcases h with h | h | h | h
    · subst h; rfl
    · subst h; rfl
    · subst h; rfl
    · exact flatE_one S l v h
/-- A row of turns, known whole; behind it what is spare. -/
def RwE (S : Slx) (W : World) (b : Nat) (D : List Ev) (r : List Value) : Prop := W.heap[b]? = some (.cells (flatE S D ++ r).toArray 63 (0, 0))
section
variable {S : Slx} {W W' : World} {b : Nat} {D : List Ev} {r : List Value}
theorem RwE.lt (h : RwE S W b D r) : b < W.heap.size := (Array.getElem?_eq_some_iff.1 (show W.heap[b]? = _ from h)).1
theorem RwE.free (h : RwE S W b D r) (k : Nat) : W.frozen? ⟨b, k, none⟩ = false := frozen_at (show W.heap[b]? = _ from h)
theorem RwE.at (h : RwE S W b D r) {k : Nat} {p : Ev} (ha : D[k]? = some p) : W.cell? ⟨b, k * 3, none⟩ = some (.int .i64 p.tm) ∧ W.cell? ⟨b, k * 3 + 1, none⟩ = some (.bool p.tk) ∧ W.cell? ⟨b, k * 3 + 2, none⟩ = some (.slice (S.so p.jx) (S.sl p.jx) (S.sc p.jx)) := by
  have hb : W.heap[b]? = _ := h
  obtain ⟨e0, e1, e2⟩ := flatE_at S D k p ha
  have ap : ∀ {i : Nat} {v : Value}, (flatE S D)[i]? = some v → (flatE S D ++ r).toArray[i]? = some v := by
    intro i v e
    have := (List.getElem?_eq_some_iff.1 e).1
    rw [List.getElem?_toArray, List.getElem?_append_left this]
    exact e
  exact ⟨cells_at hb (ap e0), cells_at hb (ap e1), cells_at hb (ap e2)⟩
theorem RwE.chg {K : Nat → Prop} (c : Chg K W W') (h : RwE S W b D r) (hK : ¬ K b) : RwE S W' b D r := (c.block b h.lt hK).trans h
theorem RwE.below (c : Below W.heap.size W W') (h : RwE S W b D r) : RwE S W' b D r := (c.block b h.lt).trans h
theorem RwE.set (h : RwE S W b D r) (k : Nat) (p : Ev) (hk : k < D.length) : RwE S (((W.setCell ⟨b, k * 3, none⟩ (.int .i64 p.tm)).setCell ⟨b, k * 3 + 1, none⟩ (.bool p.tk)).setCell ⟨b, k * 3 + 2, none⟩ (.slice (S.so p.jx) (S.sl p.jx) (S.sc p.jx))) b (D.set k p) r := by
  have h1 := heap_setCell_same W b (k * 3) _ 63 (.int .i64 p.tm) h
  have h2 := heap_setCell_same (W.setCell ⟨b, k * 3, none⟩ (.int .i64 p.tm)) b (k * 3 + 1) _ 63 (.bool p.tk) h1
  have h3 := heap_setCell_same ((W.setCell ⟨b, k * 3, none⟩ (.int .i64 p.tm)).setCell ⟨b, k * 3 + 1, none⟩ (.bool p.tk)) b (k * 3 + 2) _ 63 (.slice (S.so p.jx) (S.sl p.jx) (S.sc p.jx)) h2
  unfold RwE
  rw [h3]
  have e := flatE_set S D r k p hk
  simp [← e]
/-- Two places changed for one another. -/
theorem RwE.swap (h : RwE S W b D r) {i j : Nat} {x y : Ev} (hi : D[i]? = some x) (hj : D[j]? = some y) : RwE S ((((((W.setCell ⟨b, i * 3, none⟩ (.int .i64 y.tm)).setCell ⟨b, i * 3 + 1, none⟩ (.bool y.tk)).setCell ⟨b, i * 3 + 2, none⟩ (.slice (S.so y.jx) (S.sl y.jx) (S.sc y.jx))).setCell ⟨b, j * 3, none⟩ (.int .i64 x.tm)).setCell ⟨b, j * 3 + 1, none⟩ (.bool x.tk)).setCell ⟨b, j * 3 + 2, none⟩ (.slice (S.so x.jx) (S.sl x.jx) (S.sc x.jx))) b (swapE D i j) r := by
  have h1 := (List.getElem?_eq_some_iff.1 hi).1
  have h2 := (List.getElem?_eq_some_iff.1 hj).1
  rw [swapE_at hi hj]
  exact (h.set i y h1).set j x (by simpa using h2)
theorem chg_swap (W : World) (b i j : Nat) (v1 v2 v3 v4 v5 v6 : Value) : Chg (fun k => k = b) W ((((((W.setCell ⟨b, i * 3, none⟩ v1).setCell ⟨b, i * 3 + 1, none⟩ v2).setCell ⟨b, i * 3 + 2, none⟩ v3).setCell ⟨b, j * 3, none⟩ v4).setCell ⟨b, j * 3 + 1, none⟩ v5).setCell ⟨b, j * 3 + 2, none⟩ v6) :=
  ((((((Chg.refl (fun k => k = b) W).setCell ⟨b, _, none⟩ _ (.inl rfl)).setCell ⟨b, _, none⟩ _ (.inl rfl)).setCell ⟨b, _, none⟩ _ (.inl rfl)).setCell ⟨b, _, none⟩ _ (.inl rfl)).setCell ⟨b, _, none⟩ _ (.inl rfl)).setCell ⟨b, _, none⟩ _ (.inl rfl)
end
theorem wrapN (n : Nat) (h : n ≤ 140737488355328) : wrap64 (n : Int) = (n : Int) := by unfold wrap64; omega
theorem wrapA (a b : Nat) (h : a + b ≤ 140737488355328) : wrap64 ((a : Int) + (b : Int)) = ((a + b : Nat) : Int) := by unfold wrap64; omega
theorem iwrapA (a b : Nat) (h : a + b ≤ 140737488355328) : IntKind.i64.wrap ((a : Int) + (b : Int)) = ((a + b : Nat) : Int) := by rw [IntKind.wrap_i64]; omega
theorem iwrapS (a b : Nat) (h : b ≤ a) (h2 : a ≤ 140737488355328) : IntKind.i64.wrap ((a : Int) - (b : Int)) = ((a - b : Nat) : Int) := by rw [IntKind.wrap_i64]; omega
theorem wrapS (a b : Nat) (h : b ≤ a) (h2 : a ≤ 140737488355328) : wrap64 ((a : Int) - (b : Int)) = ((a - b : Nat) : Int) := by unfold wrap64; omega
set_option maxHeartbeats 2000000 in
set_option maxRecDepth 20000 in
theorem swapRange_any {S : Slx} {w : World} {b n a c N cap : Nat} {r : List Value} {fv : Value} (P X M Y Q : List Ev) (hX : X.length = n) (hY : Y.length = n) (ha : P.length = a) (hc : P.length + n + M.length = c)
    (hN : (P ++ (X ++ (M ++ (Y ++ Q)))).length = N) (hsz : N ≤ 1099511627776) (hR : RwE S w b (P ++ (X ++ (M ++ (Y ++ Q)))) r) :
    Calls Tryz.prog 124 #[.slice (some ⟨b, 0, none⟩) N cap, .int .i64 a, .int .i64 c, .int .i64 n, fv] w fun e w' => e = .returned (.tuple #[]) ∧ RwE S w' b (P ++ (Y ++ (M ++ (X ++ Q)))) r ∧ Chg (fun k => k = b) w w' := by
  have hN' : P.length + n + M.length + n + Q.length = N := by simp at hN; omega
  have HALL : Hid (X.length = n ∧ Y.length = n ∧ P.length = a ∧ P.length + n + M.length = c ∧ P.length + n + M.length + n + Q.length = N ∧ N ≤ 1099511627776) := ⟨hX, hY, ha, hc, hN', hsz⟩
  have HR : Hid (RwE S w b (P ++ (X ++ (M ++ (Y ++ Q)))) r) := hR
  clear hX hY ha hc hN hN' hR hsz
  go_enter Tryz.func124, Tryz.ntmps124
  go_wp2
  go_loopg [10] n (fun gk v wr => ∃ i : Nat, i + gk = n ∧ v = .int .i64 i ∧ RwE S wr b (P ++ (Y.take i ++ (X.drop i ++ (M ++ (X.take i ++ (Y.drop i ++ Q)))))) r ∧ Chg (fun k => k = b) w wr)
  case atStart => exact ⟨0, by omega, rfl, by simpa using HR.out, Chg.refl _ _⟩
  case round =>
    obtain ⟨i, hi, rfl, hrow, hchg⟩ := hrel
    have HROW : Hid (RwE S wr b (P ++ (Y.take i ++ (X.drop i ++ (M ++ (X.take i ++ (Y.drop i ++ Q)))))) r) := hrow
    have HCHG : Hid (Chg (fun k => k = b) w wr) := hchg
    have HI : Hid (i + gk = n) := hi
    clear hrow hchg
    by_cases hlt : i < n
    · obtain ⟨p, hp⟩ : ∃ p, a + i = p := ⟨_, rfl⟩
      obtain ⟨q, hq⟩ : ∃ q, c + i = q := ⟨_, rfl⟩
      have HPQ : Hid (a + i = p ∧ c + i = q) := ⟨hp, hq⟩
      obtain ⟨e1, e2, e3, e4, e5, e6⟩ := HALL.out
      have wpb : a + i ≤ 140737488355328 := by omega
      have wqb : c + i ≤ 140737488355328 := by omega
      have HWP : Hid (IntKind.i64.wrap ((a : Int) + (i : Int)) = (p : Int)) := by show IntKind.i64.wrap ((a : Int) + (i : Int)) = (p : Int); rw [iwrapA a i wpb, hp]
      have HWQ : Hid (IntKind.i64.wrap ((c : Int) + (i : Int)) = (q : Int)) := by show IntKind.i64.wrap ((c : Int) + (i : Int)) = (q : Int); rw [iwrapA c i wqb, hq]
      clear wpb wqb
      have hpN : p < N := by omega
      have hqN : q < N := by omega
      have hpN' : (p : Int) < N := by omega
      have hqN' : (q : Int) < N := by omega
      have hlt' : (i : Int) < n := by omega
      have HSW : Hid (swapE (P ++ (Y.take i ++ (X.drop i ++ (M ++ (X.take i ++ (Y.drop i ++ Q)))))) p q = P ++ (Y.take (i + 1) ++ (X.drop (i + 1) ++ (M ++ (X.take (i + 1) ++ (Y.drop (i + 1) ++ Q)))))) := by
        have := swap_range P X M Y Q n e1 e2 hlt
        rw [show P.length + n + M.length + i = q by omega, show P.length + i = p by omega] at this
        exact this
      have HL : Hid ((P ++ (Y.take i ++ (X.drop i ++ (M ++ (X.take i ++ (Y.drop i ++ Q)))))).length = N) := by
        show (P ++ (Y.take i ++ (X.drop i ++ (M ++ (X.take i ++ (Y.drop i ++ Q)))))).length = N
        simp; omega
      have HW1 : Hid (wrap64 ((i : Int) + 1) = ((i + 1 : Nat) : Int)) := by show wrap64 ((i : Int) + 1) = ((i + 1 : Nat) : Int); unfold wrap64; omega
      clear hp hq e1 e2 e3 e4 e5 e6
      generalize P ++ (Y.take i ++ (X.drop i ++ (M ++ (X.take i ++ (Y.drop i ++ Q))))) = D at *
      obtain ⟨x, hx⟩ : ∃ x, D[p]? = some x := ⟨_, List.getElem?_eq_getElem (by rw [HL.out]; exact hpN)⟩
      obtain ⟨y, hy⟩ : ∃ y, D[q]? = some y := ⟨_, List.getElem?_eq_getElem (by rw [HL.out]; exact hqN)⟩
      have HX : Hid (D[p]? = some x) := hx
      have HY : Hid (D[q]? = some y) := hy
      obtain ⟨x0, x1, x2⟩ := HROW.out.at hx
      obtain ⟨y0, y1, y2⟩ := HROW.out.at hy
      have fz := HROW.out.free
      have f0 := fz (p * 3); have f1 := fz (p * 3 + 1); have f2 := fz (p * 3 + 2)
      clear fz hx hy
      have wp := HWP.out
      have wq := HWQ.out
      go_upto_region 3 with fail
      refine wp_region_last (S := (fun _ : World => True)) (L := 99) (by kernel_rfl) ?_
      refine last_takeF (i := 0) (v := ?v0k1) rfl (by kernel_rfl) (by kernel_rfl) (by kernel_rfl) (by kernel_rfl) rfl (fun _ _ _ h => h) (by rfl) trivial ?hy0k1 ?rest0k1
      case hy0k1 =>
        intro xx hSx
        go_simp
        try (with_reducible rfl)
      simp only [Act.put, List.setIfInBounds_toArray, List.set_cons_zero, List.set_cons_succ]
      refine last_takeF (i := 1) (v := ?v1k2) rfl (by kernel_rfl) (by kernel_rfl) (by kernel_rfl) (by kernel_rfl) rfl (fun _ _ _ h => h) (by rfl) trivial ?hy1k2 ?rest1k2
      case hy1k2 =>
        intro xx hSx
        go_simp
        try (with_reducible rfl)
      simp only [Act.put, List.setIfInBounds_toArray, List.set_cons_zero, List.set_cons_succ]
      refine last_takeF (i := 2) (v := ?v2k3) rfl (by kernel_rfl) (by kernel_rfl) (by kernel_rfl) (by kernel_rfl) rfl (fun _ _ _ h => h) (by rfl) trivial ?hy2k3 ?rest2k3
      case hy2k3 =>
        intro xx hSx
        go_simp
        try (with_reducible rfl)
      simp only [Act.put, List.setIfInBounds_toArray, List.set_cons_zero, List.set_cons_succ]
      refine last_takeF (i := 3) (v := ?v3k4) rfl (by kernel_rfl) (by kernel_rfl) (by kernel_rfl) (by kernel_rfl) rfl (fun _ _ _ h => h) (by rfl) trivial ?hy3k4 ?rest3k4
      case hy3k4 =>
        intro xx hSx
        go_simp
        try (with_reducible rfl)
      simp only [Act.put, List.setIfInBounds_toArray, List.set_cons_zero, List.set_cons_succ]
      refine last_takeF (i := 4) (v := ?v4k5) rfl (by kernel_rfl) (by kernel_rfl) (by kernel_rfl) (by kernel_rfl) rfl (fun _ _ _ h => h) (by rfl) trivial ?hy4k5 ?rest4k5
      case hy4k5 =>
        intro xx hSx
        go_simp
        try (with_reducible rfl)
      simp only [Act.put, List.setIfInBounds_toArray, List.set_cons_zero, List.set_cons_succ]
      refine last_takeF (i := 5) (v := ?v5k6) rfl (by kernel_rfl) (by kernel_rfl) (by kernel_rfl) (by kernel_rfl) rfl (fun _ _ _ h => h) (by rfl) trivial ?hy5k6 ?rest5k6
      case hy5k6 =>
        intro xx hSx
        go_simp
        try (with_reducible rfl)
      simp only [Act.put, List.setIfInBounds_toArray, List.set_cons_zero, List.set_cons_succ]
      refine last_takeF (i := 6) (v := ?v6k7) rfl (by kernel_rfl) (by kernel_rfl) (by kernel_rfl) (by kernel_rfl) rfl (fun _ _ _ h => h) (by rfl) trivial ?hy6k7 ?rest6k7
      case hy6k7 =>
        intro xx hSx
        go_simp
        try (with_reducible rfl)
      simp only [Act.put, List.setIfInBounds_toArray, List.set_cons_zero, List.set_cons_succ]
      refine last_takeF (i := 7) (v := ?v7k8) rfl (by kernel_rfl) (by kernel_rfl) (by kernel_rfl) (by kernel_rfl) rfl (fun _ _ _ h => h) (by rfl) trivial ?hy7k8 ?rest7k8
      case hy7k8 =>
        intro xx hSx
        go_simp
        try (with_reducible rfl)
      simp only [Act.put, List.setIfInBounds_toArray, List.set_cons_zero, List.set_cons_succ]
      refine last_takeF (i := 8) (v := ?v8k9) rfl (by kernel_rfl) (by kernel_rfl) (by kernel_rfl) (by kernel_rfl) rfl (fun _ _ _ h => h) (by rfl) trivial ?hy8k9 ?rest8k9
      case hy8k9 =>
        intro xx hSx
        go_simp
        try (with_reducible rfl)
      simp only [Act.put, List.setIfInBounds_toArray, List.set_cons_zero, List.set_cons_succ]
      refine last_takeF (i := 9) (v := ?v9k10) rfl (by kernel_rfl) (by kernel_rfl) (by kernel_rfl) (by kernel_rfl) rfl (fun _ _ _ h => h) (by rfl) trivial ?hy9k10 ?rest9k10
      case hy9k10 =>
        intro xx hSx
        go_simp
        try (with_reducible rfl)
      simp only [Act.put, List.setIfInBounds_toArray, List.set_cons_zero, List.set_cons_succ]
      refine last_takeF (i := 10) (v := ?v10k11) rfl (by kernel_rfl) (by kernel_rfl) (by kernel_rfl) (by kernel_rfl) rfl (fun _ _ _ h => h) (by rfl) trivial ?hy10k11 ?rest10k11
      case hy10k11 =>
        intro xx hSx
        go_simp
        try (with_reducible rfl)
      simp only [Act.put, List.setIfInBounds_toArray, List.set_cons_zero, List.set_cons_succ]
      refine last_takeF (i := 11) (v := ?v11k12) rfl (by kernel_rfl) (by kernel_rfl) (by kernel_rfl) (by kernel_rfl) rfl (fun _ _ _ h => h) (by rfl) trivial ?hy11k12 ?rest11k12
      case hy11k12 =>
        intro xx hSx
        go_simp
        try (with_reducible rfl)
      simp only [Act.put, List.setIfInBounds_toArray, List.set_cons_zero, List.set_cons_succ]
      refine last_takeF (i := 12) (v := ?v12k13) rfl (by kernel_rfl) (by kernel_rfl) (by kernel_rfl) (by kernel_rfl) rfl (fun _ _ _ h => h) (by rfl) trivial ?hy12k13 ?rest12k13
      case hy12k13 =>
        intro xx hSx
        go_simp
        try (with_reducible rfl)
      simp only [Act.put, List.setIfInBounds_toArray, List.set_cons_zero, List.set_cons_succ]
      refine last_takeF (i := 14) (v := ?v14k14) rfl (by kernel_rfl) (by kernel_rfl) (by kernel_rfl) (by kernel_rfl) rfl (fun _ _ _ h => h) (by rfl) trivial ?hy14k14 ?rest14k14
      case hy14k14 =>
        intro xx hSx
        go_simp
        try (with_reducible rfl)
      simp only [Act.put, List.setIfInBounds_toArray, List.set_cons_zero, List.set_cons_succ]
      refine last_takeF (i := 15) (v := ?v15k15) rfl (by kernel_rfl) (by kernel_rfl) (by kernel_rfl) (by kernel_rfl) rfl (fun _ _ _ h => h) (by rfl) trivial ?hy15k15 ?rest15k15
      case hy15k15 =>
        intro xx hSx
        go_simp
        try (with_reducible rfl)
      simp only [Act.put, List.setIfInBounds_toArray, List.set_cons_zero, List.set_cons_succ]
      refine last_takeF (i := 16) (v := ?v16k16) rfl (by kernel_rfl) (by kernel_rfl) (by kernel_rfl) (by kernel_rfl) rfl (fun _ _ _ h => h) (by rfl) trivial ?hy16k16 ?rest16k16
      case hy16k16 =>
        intro xx hSx
        go_simp
        try (with_reducible rfl)
      simp only [Act.put, List.setIfInBounds_toArray, List.set_cons_zero, List.set_cons_succ]
      refine last_takeF (i := 17) (v := ?v17k17) rfl (by kernel_rfl) (by kernel_rfl) (by kernel_rfl) (by kernel_rfl) rfl (fun _ _ _ h => h) (by rfl) trivial ?hy17k17 ?rest17k17
      case hy17k17 =>
        intro xx hSx
        go_simp
        try (with_reducible rfl)
      simp only [Act.put, List.setIfInBounds_toArray, List.set_cons_zero, List.set_cons_succ]
      refine last_takeF (i := 18) (v := ?v18k18) rfl (by kernel_rfl) (by kernel_rfl) (by kernel_rfl) (by kernel_rfl) rfl (fun _ _ _ h => h) (by rfl) trivial ?hy18k18 ?rest18k18
      case hy18k18 =>
        intro xx hSx
        go_simp
        try (with_reducible rfl)
      simp only [Act.put, List.setIfInBounds_toArray, List.set_cons_zero, List.set_cons_succ]
      refine last_few (i := 13) (l := [19]) (by kernel_rfl) (List.forall_mem_cons.2 ⟨⟨_, rfl, ?h13n19⟩, List.forall_mem_cons.2 ⟨⟨_, rfl, ?h19n19⟩, List.forall_mem_nil _⟩⟩)
      case h13n19 =>
        intro K hK
        go_simp
        refine hK.out _ _ (fun _ => trivial) (fun _ => ?_)
        clear hK K
        refine last_one (i := 19) (by kernel_rfl) rfl ?_
        intro K hK
        go_simp
        refine hK.out _ _ (fun _ => trivial) (fun _ => ?_)
        clear hK K
        refine last_takeF (i := 20) (v := ?v20k20) rfl (by kernel_rfl) (by kernel_rfl) (by kernel_rfl) (by kernel_rfl) rfl (fun _ _ _ h => h) (by rfl) trivial ?hy20k20 ?rest20k20
        case hy20k20 =>
          intro xx hSx
          go_simp
          try (with_reducible rfl)
        simp only [Act.put, List.setIfInBounds_toArray, List.set_cons_zero, List.set_cons_succ]
        refine last_one (i := 21) (by kernel_rfl) rfl ?_
        intro K hK
        go_simp
        obtain ⟨V, hV⟩ : ∃ V, (((wr.setCell ⟨b, p * 3, none⟩ (.int .i64 y.tm)).setCell ⟨b, p * 3 + 1, none⟩ (.bool y.tk)).setCell ⟨b, p * 3 + 2, none⟩ (.slice (S.so y.jx) (S.sl y.jx) (S.sc y.jx))).drew = V := ⟨_, rfl⟩
        have HV : Hid (RwE S V b (D.set p y) r) := by show RwE S V b (D.set p y) r; rw [← hV]; exact RwE.below (drew_below _) (RwE.set HROW.out p y (List.getElem?_eq_some_iff.1 HX.out).1)
        have CV : Hid (Chg (fun k => k = b) wr V) := by show Chg (fun k => k = b) wr V; rw [← hV]; exact ((((Chg.refl (fun k => k = b) wr).setCell ⟨b, _, none⟩ _ (.inl rfl)).setCell ⟨b, _, none⟩ _ (.inl rfl)).setCell ⟨b, _, none⟩ _ (.inl rfl)).drew
        rw [hV]
        clear hV x0 x1 x2 y0 y1 y2 f0 f1 f2
        obtain ⟨y', hy'⟩ : ∃ y', (D.set p y)[q]? = some y' := ⟨_, List.getElem?_eq_getElem (by rw [List.length_set]; exact (List.getElem?_eq_some_iff.1 HY.out).1)⟩
        obtain ⟨z0, z1, z2⟩ := HV.out.at hy'
        have g0 := HV.out.free (q * 3)
        have g1 := HV.out.free (q * 3 + 1)
        have g2 := HV.out.free (q * 3 + 2)
        clear hy'
        refine hK.out _ _ (fun _ => trivial) (fun _ => ?_)
        clear hK K
        refine last_takeF (i := 22) (v := ?v22k21) rfl (by kernel_rfl) (by kernel_rfl) (by kernel_rfl) (by kernel_rfl) rfl (fun _ _ _ h => h) (by rfl) trivial ?hy22k21 ?rest22k21
        case hy22k21 =>
          intro xx hSx
          go_simp
          try (with_reducible rfl)
        simp only [Act.put, List.setIfInBounds_toArray, List.set_cons_zero, List.set_cons_succ]
        refine last_one (i := 23) (by kernel_rfl) rfl ?_
        intro K hK
        go_simp
        obtain ⟨Z, hZ⟩ : ∃ Z, ((V.setCell ⟨b, q * 3, none⟩ (.int .i64 x.tm)).setCell ⟨b, q * 3 + 1, none⟩ (.bool x.tk)).setCell ⟨b, q * 3 + 2, none⟩ (.slice (S.so x.jx) (S.sl x.jx) (S.sc x.jx)) = Z := ⟨_, rfl⟩
        have HZ : Hid (RwE S Z b (swapE D p q) r) := by show RwE S Z b (swapE D p q) r; rw [← hZ, swapE_at HX.out HY.out]; exact RwE.set HV.out q x (by rw [List.length_set]; exact (List.getElem?_eq_some_iff.1 HY.out).1)
        have CZ : Hid (Chg (fun k => k = b) wr Z) := by show Chg (fun k => k = b) wr Z; rw [← hZ]; exact ((CV.out.setCell ⟨b, _, none⟩ _ (.inl rfl)).setCell ⟨b, _, none⟩ _ (.inl rfl)).setCell ⟨b, _, none⟩ _ (.inl rfl)
        rw [hZ]
        clear hZ z0 z1 z2 g0 g1 g2 HV CV
        refine hK.out _ _ (fun _ => trivial) (fun _ => ?_)
        clear hK K
        refine last_done (by kernel_rfl) ?_ _
        clear wp wq
        go_wp2
        go_roundg (n - (i + 1))
        case measure => have := HI.out; omega
        case rel => exact ⟨i + 1, by omega, by rw [HW1.out], by rw [← HSW.out]; exact HZ.out, HCHG.out.trans CZ.out (fun _ _ e => e)⟩
      case h19n19 =>
        intro K hK
        go_simp
        refine hK.out _ _ (fun _ => trivial) (fun _ => ?_)
        clear hK K
        refine last_one (i := 13) (by kernel_rfl) rfl ?_
        intro K hK
        go_simp
        refine hK.out _ _ (fun _ => trivial) (fun _ => ?_)
        clear hK K
        refine last_takeF (i := 20) (v := ?v20k22) rfl (by kernel_rfl) (by kernel_rfl) (by kernel_rfl) (by kernel_rfl) rfl (fun _ _ _ h => h) (by rfl) trivial ?hy20k22 ?rest20k22
        case hy20k22 =>
          intro xx hSx
          go_simp
          try (with_reducible rfl)
        simp only [Act.put, List.setIfInBounds_toArray, List.set_cons_zero, List.set_cons_succ]
        refine last_one (i := 21) (by kernel_rfl) rfl ?_
        intro K hK
        go_simp
        obtain ⟨V, hV⟩ : ∃ V, (((wr.setCell ⟨b, p * 3, none⟩ (.int .i64 y.tm)).setCell ⟨b, p * 3 + 1, none⟩ (.bool y.tk)).setCell ⟨b, p * 3 + 2, none⟩ (.slice (S.so y.jx) (S.sl y.jx) (S.sc y.jx))).drew = V := ⟨_, rfl⟩
        have HV : Hid (RwE S V b (D.set p y) r) := by show RwE S V b (D.set p y) r; rw [← hV]; exact RwE.below (drew_below _) (RwE.set HROW.out p y (List.getElem?_eq_some_iff.1 HX.out).1)
        have CV : Hid (Chg (fun k => k = b) wr V) := by show Chg (fun k => k = b) wr V; rw [← hV]; exact ((((Chg.refl (fun k => k = b) wr).setCell ⟨b, _, none⟩ _ (.inl rfl)).setCell ⟨b, _, none⟩ _ (.inl rfl)).setCell ⟨b, _, none⟩ _ (.inl rfl)).drew
        rw [hV]
        clear hV x0 x1 x2 y0 y1 y2 f0 f1 f2
        obtain ⟨y', hy'⟩ : ∃ y', (D.set p y)[q]? = some y' := ⟨_, List.getElem?_eq_getElem (by rw [List.length_set]; exact (List.getElem?_eq_some_iff.1 HY.out).1)⟩
        obtain ⟨z0, z1, z2⟩ := HV.out.at hy'
        have g0 := HV.out.free (q * 3)
        have g1 := HV.out.free (q * 3 + 1)
        have g2 := HV.out.free (q * 3 + 2)
        clear hy'
        refine hK.out _ _ (fun _ => trivial) (fun _ => ?_)
        clear hK K
        refine last_takeF (i := 22) (v := ?v22k23) rfl (by kernel_rfl) (by kernel_rfl) (by kernel_rfl) (by kernel_rfl) rfl (fun _ _ _ h => h) (by rfl) trivial ?hy22k23 ?rest22k23
        case hy22k23 =>
          intro xx hSx
          go_simp
          try (with_reducible rfl)
        simp only [Act.put, List.setIfInBounds_toArray, List.set_cons_zero, List.set_cons_succ]
        refine last_one (i := 23) (by kernel_rfl) rfl ?_
        intro K hK
        go_simp
        obtain ⟨Z, hZ⟩ : ∃ Z, ((V.setCell ⟨b, q * 3, none⟩ (.int .i64 x.tm)).setCell ⟨b, q * 3 + 1, none⟩ (.bool x.tk)).setCell ⟨b, q * 3 + 2, none⟩ (.slice (S.so x.jx) (S.sl x.jx) (S.sc x.jx)) = Z := ⟨_, rfl⟩
        have HZ : Hid (RwE S Z b (swapE D p q) r) := by show RwE S Z b (swapE D p q) r; rw [← hZ, swapE_at HX.out HY.out]; exact RwE.set HV.out q x (by rw [List.length_set]; exact (List.getElem?_eq_some_iff.1 HY.out).1)
        have CZ : Hid (Chg (fun k => k = b) wr Z) := by show Chg (fun k => k = b) wr Z; rw [← hZ]; exact ((CV.out.setCell ⟨b, _, none⟩ _ (.inl rfl)).setCell ⟨b, _, none⟩ _ (.inl rfl)).setCell ⟨b, _, none⟩ _ (.inl rfl)
        rw [hZ]
        clear hZ z0 z1 z2 g0 g1 g2 HV CV
        refine hK.out _ _ (fun _ => trivial) (fun _ => ?_)
        clear hK K
        refine last_done (by kernel_rfl) ?_ _
        clear wp wq
        go_wp2
        go_roundg (n - (i + 1))
        case measure => have := HI.out; omega
        case rel => exact ⟨i + 1, by omega, by rw [HW1.out], by rw [← HSW.out]; exact HZ.out, HCHG.out.trans CZ.out (fun _ _ e => e)⟩
    · have e : i = n := by omega
      subst e
      go_wp2
      go_end0
      have h := HROW.out
      obtain ⟨e1, e2, e3, e4, e5, e6⟩ := HALL.out
      rw [List.take_of_length_le (by omega), List.take_of_length_le (by omega), List.drop_eq_nil_of_le (by omega), List.drop_eq_nil_of_le (by omega)] at h
      exact ⟨rfl, by simpa using h, HCHG.out⟩
end Go.Proofs.YtbcinapnnlfnbaaGreat
namespace Go.Proofs.YtbcinapnnlfnbaaGreat
open Go.RowKit Wd Tr Cg Lg

set_option maxHeartbeats 1000000 in
set_option maxRecDepth 20000 in
theorem rotate_any {S : Slx} {w : World} {b a m c N cap : Nat} {r : List Value} {fv : Value} (P A B Q : List Ev) (hA : 0 < A.length) (hB : 0 < B.length) (ha : P.length = a) (hm : P.length + A.length = m) (hc : P.length + A.length + B.length = c)
    (hN : (P ++ (A ++ (B ++ Q))).length = N) (hsz : N ≤ 1099511627776) (hR : RwE S w b (P ++ (A ++ (B ++ Q))) r) :
    Calls Tryz.prog 121 #[.slice (some ⟨b, 0, none⟩) N cap, .int .i64 a, .int .i64 m, .int .i64 c, fv] w fun e w' => e = .returned (.tuple #[]) ∧ RwE S w' b (P ++ (B ++ (A ++ Q))) r ∧ Chg (fun k => k = b) w w' := by
  have hN' : P.length + A.length + B.length + Q.length = N := by simp at hN; omega
  have HALL : Hid (P.length + A.length + B.length + Q.length = N ∧ N ≤ 1099511627776 ∧ P.length + A.length = m) := ⟨hN', hsz, hm⟩
  have HR : Hid (RwE S w b (P ++ (A ++ (B ++ Q))) r) := hR
  have HW1 : Hid (wrap64 ((m : Int) - (a : Int)) = (A.length : Int)) := by show wrap64 ((m : Int) - (a : Int)) = (A.length : Int); rw [wrapS m a (by omega) (by omega)]; congr 1; omega
  have HI0 : Hid (0 < A.length ∧ 0 < B.length) := ⟨hA, hB⟩
  have HW2 : Hid (wrap64 ((c : Int) - (m : Int)) = (B.length : Int)) := by show wrap64 ((c : Int) - (m : Int)) = (B.length : Int); rw [wrapS c m (by omega) (by omega)]; congr 1; omega
  clear hA hB ha hm hc hN hN' hsz hR
  obtain ⟨T, hT⟩ : ∃ T, P ++ (B ++ (A ++ Q)) = T := ⟨_, rfl⟩
  have HT : Hid (P ++ (B ++ (A ++ Q)) = T) := hT
  rw [hT]
  clear hT
  go_enter Tryz.func121, Tryz.ntmps121
  go_wp2
  go_loopg [10, 11] (A.length + B.length) (fun gk v1 v2 wr => ∃ (i j : Nat) (P' X Y Q' : List Ev), i + j = gk ∧ v1 = .int .i64 i ∧ v2 = .int .i64 j ∧ 0 < i ∧ 0 < j ∧ X.length = i ∧ Y.length = j ∧ P'.length + i = m ∧ P'.length + i + j + Q'.length = N ∧ RwE S wr b (P' ++ (X ++ (Y ++ Q'))) r ∧ P' ++ (Y ++ (X ++ Q')) = T ∧ Chg (fun k => k = b) w wr)
  case atStart => exact ⟨A.length, B.length, P, A, B, Q, rfl, by rw [HW1.out], by rw [HW2.out], HI0.out.1, HI0.out.2, rfl, rfl, HALL.out.2.2, HALL.out.1, HR.out, HT.out, Chg.refl _ _⟩
  case round =>
    obtain ⟨i, j, P', X, Y, Q', hgk, rfl, rfl, hi, hj, hX, hY, hPm, hPN, hrow, hT, hchg⟩ := hrel
    have HROW : Hid (RwE S wr b (P' ++ (X ++ (Y ++ Q'))) r) := hrow
    have HT2 : Hid (P' ++ (Y ++ (X ++ Q')) = T) := hT
    have HCHG : Hid (Chg (fun k => k = b) w wr) := hchg
    have HF : Hid (i + j = gk ∧ 0 < i ∧ 0 < j ∧ X.length = i ∧ Y.length = j ∧ P'.length + i = m ∧ P'.length + i + j + Q'.length = N ∧ N ≤ 1099511627776) := ⟨hgk, hi, hj, hX, hY, hPm, hPN, HALL.out.2.1⟩
    clear hrow hT hchg hgk hi hj hX hY hPm hPN
    obtain ⟨u, hu⟩ : ∃ u, m - i = u := ⟨_, rfl⟩
    have HW1 : Hid (wrap64 ((m : Int) - (i : Int)) = (u : Int)) := by
      show wrap64 ((m : Int) - (i : Int)) = (u : Int)
      obtain ⟨a1, a2, a3, a4, a5, a6, a7, a8⟩ := HF.out
      rw [wrapS m i (by omega) (by omega), hu]
    have HU : Hid (P'.length = u) := by
      show P'.length = u
      obtain ⟨a1, a2, a3, a4, a5, a6, a7, a8⟩ := HF.out
      omega
    clear hu
    rcases Nat.lt_trichotomy i j with hij | hij | hij
    · -- i < j
      obtain ⟨v, hv⟩ : ∃ v, m + j - i = v := ⟨_, rfl⟩
      have HV : Hid (u + i + (j - i) = v) := by
        show u + i + (j - i) = v
        have := HU.out
        obtain ⟨a1, a2, a3, a4, a5, a6, a7, a8⟩ := HF.out
        omega
      have HW2 : Hid (wrap64 ((m : Int) + (j : Int)) = ((m + j : Nat) : Int)) := by
        show wrap64 ((m : Int) + (j : Int)) = ((m + j : Nat) : Int)
        obtain ⟨a1, a2, a3, a4, a5, a6, a7, a8⟩ := HF.out
        exact wrapA m j (by omega)
      have HW3 : Hid (wrap64 (((m + j : Nat) : Int) - (i : Int)) = (v : Int)) := by
        show wrap64 (((m + j : Nat) : Int) - (i : Int)) = (v : Int)
        obtain ⟨a1, a2, a3, a4, a5, a6, a7, a8⟩ := HF.out
        rw [wrapS (m + j) i (by omega) (by omega), hv]
      have HW4 : Hid (wrap64 ((j : Int) - (i : Int)) = ((j - i : Nat) : Int)) := by
        show wrap64 ((j : Int) - (i : Int)) = ((j - i : Nat) : Int)
        obtain ⟨a1, a2, a3, a4, a5, a6, a7, a8⟩ := HF.out
        exact wrapS j i (by omega) (by omega)
      have HC : Hid (∀ fv, Calls Tryz.prog 124 #[.slice (some ⟨b, 0, none⟩) N cap, .int .i64 (wrap64 ((m : Int) - (i : Int))), .int .i64 (wrap64 (wrap64 ((m : Int) + (j : Int)) - (i : Int))), .int .i64 i, fv] wr fun e w' => e = .returned (.tuple #[]) ∧ RwE S w' b (P' ++ (Y.drop (j - i) ++ (Y.take (j - i) ++ (X ++ Q')))) r ∧ Chg (fun k => k = b) wr w') := by
        intro fv
        rw [HW2.out, HW3.out, HW1.out]
        have h1 := HU.out
        have h2 := HV.out
        obtain ⟨a1, a2, a3, a4, a5, a6, a7, a8⟩ := HF.out
        have e : P' ++ (X ++ (Y ++ Q')) = P' ++ (X ++ (Y.take (j - i) ++ (Y.drop (j - i) ++ Q'))) := by
          rw [← List.append_assoc (Y.take (j - i)), List.take_append_drop]
        refine swapRange_any P' X (Y.take (j - i)) (Y.drop (j - i)) Q' a4 (by rw [List.length_drop]; omega) h1 (by rw [List.length_take]; omega) ?_ a8 ?_
        · rw [← e]; simp; omega
        · rw [← e]; exact HROW.out
      have hneq : ¬ i = j := by omega
      have hneq' : ¬ (i : Int) = (j : Int) := by omega
      have hnlt : ¬ (j : Int) < (i : Int) := by omega
      have hnlt2 : (i : Int) ≤ (j : Int) := by omega
      have hgt : decide ((i : Int) > (j : Int)) = false := decide_eq_false (by omega)
      clear hv
      go_wp2_with (go_at_call 124; refine (HC.out _).mono ?_; rintro e w1 ⟨rfl, hR1, hc1⟩)
      go_roundg (i + (j - i))
      case measure => have := HF.out; omega
      case rel =>
        obtain ⟨a1, a2, a3, a4, a5, a6, a7, a8⟩ := HF.out
        refine ⟨i, j - i, P', Y.drop (j - i), Y.take (j - i), X ++ Q', rfl, rfl, by rw [HW4.out], a2, by omega, by rw [List.length_drop]; omega, by rw [List.length_take]; omega, a6, by rw [List.length_append]; omega, hR1, ?_, HCHG.out.trans hc1 (fun _ _ e => e)⟩
        rw [← List.append_assoc (Y.take (j - i)), List.take_append_drop]
        exact HT2.out
    · subst hij
      have HC : Hid (∀ fv, Calls Tryz.prog 124 #[.slice (some ⟨b, 0, none⟩) N cap, .int .i64 (wrap64 ((m : Int) - (i : Int))), .int .i64 m, .int .i64 i, fv] wr fun e w' => e = .returned (.tuple #[]) ∧ RwE S w' b (P' ++ (Y ++ ([] ++ (X ++ Q')))) r ∧ Chg (fun k => k = b) wr w') := by
        intro fv
        rw [HW1.out]
        have h1 := HU.out
        obtain ⟨a1, a2, a3, a4, a5, a6, a7, a8⟩ := HF.out
        refine swapRange_any P' X [] Y Q' a4 a5 h1 (by simp; omega) (by simp; omega) a8 ?_
        simpa using HROW.out
      go_wp2_with (go_at_call 124; refine (HC.out _).mono ?_; rintro e w1 ⟨rfl, hR1, hc1⟩)
      go_end0
      refine ⟨rfl, ?_, HCHG.out.trans hc1 (fun _ _ e => e)⟩
      rw [← HT2.out]
      simpa using hR1
    · have HW4 : Hid (wrap64 ((i : Int) - (j : Int)) = ((i - j : Nat) : Int)) := by
        show wrap64 ((i : Int) - (j : Int)) = ((i - j : Nat) : Int)
        obtain ⟨a1, a2, a3, a4, a5, a6, a7, a8⟩ := HF.out
        exact wrapS i j (by omega) (by omega)
      have HC : Hid (∀ fv, Calls Tryz.prog 124 #[.slice (some ⟨b, 0, none⟩) N cap, .int .i64 (wrap64 ((m : Int) - (i : Int))), .int .i64 m, .int .i64 j, fv] wr fun e w' => e = .returned (.tuple #[]) ∧ RwE S w' b (P' ++ (Y ++ (X.drop j ++ (X.take j ++ Q')))) r ∧ Chg (fun k => k = b) wr w') := by
        intro fv
        rw [HW1.out]
        have h1 := HU.out
        obtain ⟨a1, a2, a3, a4, a5, a6, a7, a8⟩ := HF.out
        have e : P' ++ (X ++ (Y ++ Q')) = P' ++ (X.take j ++ (X.drop j ++ (Y ++ Q'))) := by
          rw [← List.append_assoc (X.take j), List.take_append_drop]
        refine swapRange_any P' (X.take j) (X.drop j) Y Q' (by rw [List.length_take]; omega) a5 h1 (by rw [List.length_drop]; omega) ?_ a8 ?_
        · rw [← e]; simp; omega
        · rw [← e]; exact HROW.out
      have hneq : ¬ i = j := by omega
      have hneq' : ¬ (i : Int) = (j : Int) := by omega
      have hlt : (j : Int) < (i : Int) := by omega
      go_wp2_with (go_at_call 124; refine (HC.out _).mono ?_; rintro e w1 ⟨rfl, hR1, hc1⟩)
      go_roundg (i - j + j)
      case measure => have := HF.out; omega
      case rel =>
        have h1 := HU.out
        obtain ⟨a1, a2, a3, a4, a5, a6, a7, a8⟩ := HF.out
        refine ⟨i - j, j, P' ++ Y, X.drop j, X.take j, Q', rfl, by rw [HW4.out], rfl, by omega, a3, by rw [List.length_drop]; omega, by rw [List.length_take]; omega, by rw [List.length_append]; omega, by rw [List.length_append]; omega, by simpa using hR1, ?_, HCHG.out.trans hc1 (fun _ _ e => e)⟩
        rw [← HT2.out, List.append_assoc, ← List.append_assoc (X.take j), List.take_append_drop]
end Go.Proofs.YtbcinapnnlfnbaaGreat
