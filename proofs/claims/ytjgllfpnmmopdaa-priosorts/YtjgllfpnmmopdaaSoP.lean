/-
  Sorting: rows of pairs, rows of numbers, known whole; what is asked of a function that is before another.
-/
import Derived.Test.YtjgllfpnmmopdaaPmA
import Derived.Test.YtjgllfpnmmopdaaRfX
import Derived.Laws.CopyOwn
import Derived.Laws.MakeOwn
namespace Go.Proofs.Ytjgllfpnmmopdaa
open Go.RowKit Tr

structure Pr where
  a : Int
  b : Int
def prV (p : Pr) : Value := .agg #[.int .i64 p.a, .int .i64 p.b]
def flatP : List Pr → List Value
  | [] => []
  | p :: l => .int .i64 p.a :: .int .i64 p.b :: flatP l
theorem flatP_len : ∀ l : List Pr, (flatP l).length = l.length * 2
  | [] => rfl
  | p :: l => by simp only [flatP, List.length_cons, flatP_len l]; omega
theorem flatP_app : ∀ l m : List Pr, flatP (l ++ m) = flatP l ++ flatP m
  | [], m => rfl
  | p :: l, m => by simp only [List.cons_append, flatP, flatP_app l m]
theorem flatP_at : ∀ (l : List Pr) (k : Nat) (p : Pr), l[k]? = some p → (flatP l)[k * 2]? = some (.int .i64 p.a) ∧ (flatP l)[k * 2 + 1]? = some (.int .i64 p.b)
  | [], k, p, h => by simp at h
  | q :: l, 0, p, h => by simp at h; subst h; exact ⟨rfl, rfl⟩
  | q :: l, k + 1, p, h => by
    have h1 := flatP_at l k p (by simpa using h)
    rw [show (k + 1) * 2 = k * 2 + 1 + 1 by omega]
    simpa only [flatP, List.getElem?_cons_succ] using h1
theorem flatP_set : ∀ (l : List Pr) (k : Nat) (p : Pr), ((flatP l).set (k * 2) (.int .i64 p.a)).set (k * 2 + 1) (.int .i64 p.b) = flatP (l.set k p)
  | [], k, p => rfl
  | q :: l, 0, p => rfl
  | q :: l, k + 1, p => by
    have h1 := flatP_set l k p
    rw [show (k + 1) * 2 = k * 2 + 1 + 1 by omega]
    simp only [flatP, List.set_cons_succ, h1]
theorem flatP_one : ∀ (l : List Pr), ∀ v ∈ flatP l, v.oneCell' = true
  | [], v, h => by simp [flatP] at h
  | p :: l, v, h => by
    simp only [flatP, List.mem_cons] at h
    rcases h with h | h | h
    · subst h; rfl
    · subst h; rfl
    · exact flatP_one l v h
def zPr : Pr := ⟨0, 0⟩
theorem madeP_flat (n : Nat) : madeCells #[.int .i64 0, .int .i64 0] (n * 2) = (flatP (List.replicate n zPr)).toArray := by
  apply Array.ext
  · simp [madeCells, flatP_len]
  · intro j h1 h2
    have hj : j < n * 2 := by simpa [madeCells] using h1
    obtain ⟨e0, e1⟩ := flatP_at (List.replicate n zPr) (j / 2) zPr (by rw [List.getElem?_replicate, if_pos (by omega)])
    have key : (flatP (List.replicate n zPr))[j]? = some (.int .i64 0) := by
      rcases (by omega : j % 2 = 0 ∨ j % 2 = 1) with h | h
      · rw [show j = j / 2 * 2 by omega]; exact e0
      · rw [show j = j / 2 * 2 + 1 by omega]; exact e1
    have e := (List.getElem?_eq_some_iff.1 key).2
    simp only [madeCells, Array.getElem_map, Array.getElem_range, List.getElem_toArray]
    rcases (by omega : j % 2 = 0 ∨ j % 2 = 1) with h | h
    · rw [e]; simp [h]
    · rw [e]; simp [h]
def flatN : List Int → List Value
  | [] => []
  | p :: l => .int .i64 p :: flatN l
theorem flatN_len : ∀ l : List Int, (flatN l).length = l.length * 1
  | [] => rfl
  | p :: l => by simp only [flatN, List.length_cons, flatN_len l]; omega
theorem flatN_app : ∀ l m : List Int, flatN (l ++ m) = flatN l ++ flatN m
  | [], m => rfl
  | p :: l, m => by simp only [List.cons_append, flatN, flatN_app l m]
theorem flatN_at : ∀ (l : List Int) (k : Nat) (p : Int), l[k]? = some p → (flatN l)[k]? = some (.int .i64 p)
  | [], k, p, h => by simp at h
  | q :: l, 0, p, h => by simp at h; subst h; rfl
  | q :: l, k + 1, p, h => by
    have h1 := flatN_at l k p (by simpa using h)
    simpa only [flatN, List.getElem?_cons_succ] using h1
theorem flatN_set : ∀ (l : List Int) (k : Nat) (p : Int), (flatN l).set k (.int .i64 p) = flatN (l.set k p)
  | [], k, p => rfl
  | q :: l, 0, p => rfl
  | q :: l, k + 1, p => by
    have h1 := flatN_set l k p
    simp only [flatN, List.set_cons_succ, h1]
theorem flatN_one : ∀ (l : List Int), ∀ v ∈ flatN l, v.oneCell' = true
  | [], v, h => by simp [flatN] at h
  | p :: l, v, h => by
    simp only [flatN, List.mem_cons] at h
    rcases h with h | h
    · subst h; rfl
    · exact flatN_one l v h
theorem madeN_flat (n : Nat) : madeCells #[.int .i64 0] (n * 1) = (flatN (List.replicate n 0)).toArray := by
  apply Array.ext
  · simp [madeCells, flatN_len]
  · intro j h1 h2
    have hj : j < n := by simpa [madeCells] using h1
    have key := flatN_at (List.replicate n 0) j 0 (by rw [List.getElem?_replicate, if_pos (by omega)])
    have e := (List.getElem?_eq_some_iff.1 key).2
    simp only [madeCells, Array.getElem_map, Array.getElem_range, List.getElem_toArray]
    rw [e]; simp [Nat.mod_one]
section
variable {P : Program}
theorem copy_rowN (w : World) (dT sT ty elem : TypeId) (g o dLen dCap : Nat) (a : Addr) (sLen sCap size : Nat) (cur : Array Value) (t : TypeId) (cs : List Value)
    (hu : P.underlying dT = some (.slice elem)) (hs : (P.info? elem).map (·.size) = some size)
    (hg : w.heap[g]? = some (.cells cur t (0, 0))) (hn : cs.length = Nat.min sLen dLen * size)
    (hsrc : ∀ j v, cs[j]? = some v → w.cell? (a.add j) = some v) (hfit : o + cs.length ≤ cur.size) (h1 : ∀ v ∈ cs, v.oneCell' = true) :
    (Builtin.copy_ #[dT, sT] ty #[.slice (some ⟨g, o, none⟩) dLen dCap, .slice (some a) sLen sCap]).run P w =
      .ok (goInt (Nat.min sLen dLen : Nat)) (w.setRow g (cur.toList.take o ++ cs ++ cur.toList.drop (o + cs.length)).toArray) := by
  have hl := run_loadCells_list (P := P) w a cs hsrc
  have hst := run_storeCells_at P g o t cs 0 cur w hg (by simpa using hfit) h1
  cases hq : P.info? elem with
  | none => simp [hq] at hs
  | some i =>
    have hi : i.size = size := by simpa [hq] using hs
    simp [Builtin.copy_, run_underlying hu, Builtin.lenOf, Builtin.firstCells, sizeOf, typeInfo, hq, hi, ← hn, hl, hst]
theorem copy_noneN (w : World) (dT sT ty elem : TypeId) (d a : Option Addr) (dLen dCap sLen sCap size : Nat) (hu : P.underlying dT = some (.slice elem)) (hs : (P.info? elem).map (·.size) = some size) (hn : Nat.min sLen dLen = 0) :
    (Builtin.copy_ #[dT, sT] ty #[.slice d dLen dCap, .slice a sLen sCap]).run P w = .ok (goInt 0) w := by
  cases hq : P.info? elem with
  | none => simp [hq] at hs
  | some i =>
    have hl : ∀ (x : Addr), (loadCells x 0).run P w = .ok #[] w := fun x => by simpa using run_loadCells_list (P := P) w x [] (by simp)
    cases d <;> cases a <;> simp [Builtin.copy_, run_underlying hu, Builtin.lenOf, Builtin.firstCells, sizeOf, typeInfo, hq, hn, storeCells, hl]
end
theorem set_mid {α : Type} (P out G R : List α) (g v : α) : (P ++ (out ++ (g :: G ++ R))).set (P.length + out.length) v = P ++ (out ++ (v :: G ++ R)) := by
  rw [List.set_append_right _ _ (by omega), List.set_append_right _ _ (by omega), show P.length + out.length - P.length - out.length = 0 by omega]
  rfl
theorem wrap64_nat {h : Nat} (hh : h ≤ 140737488355328) : wrap64 (h : Int) = (h : Int) := by unfold wrap64; omega
section
variable {P : Program} (w : World)
theorem eqIn_nilFunc (d : Nat) (t : TypeId) (ps rs : Array TypeId) (v : Bool) (f : Fn) (x y : Array Value) (h : P.underlying t = some (.func ps rs v)) : (Op.equalIn (d + 1) t (.func f x y) .nilFunc).run P w = .ok false w := by
  simp [Op.equalIn, run_underlying h]
theorem neq_nilFunc (t : TypeId) (ps rs : Array TypeId) (v : Bool) (f : Fn) (x y : Array Value) (h : P.underlying t = some (.func ps rs v)) : (binOp .neq t (.func f x y) .nilFunc).run P w = .ok (.bool true) w := by
  have h1 : (Op.equal t (.func f x y) .nilFunc).run P w = .ok false w := eqIn_nilFunc w 9999 t ps rs v f x y h
  simp only [binOp]
  simp [h1]
end
/-- A function that tells what is before what: what it wants to stand (I), which blocks it may turn (D). -/
structure Clo {α : Type} (enc : α → Value) (k : Nat) (caps : List Value) (lt : α → α → Bool) (I : World → Prop) (D : Nat → Prop) : Prop where
  call : ∀ x p q, I x → Calls Try.prog k ([enc p, enc q] ++ caps).toArray x fun e x' => e = .returned (.bool (lt p q)) ∧ I x' ∧ Chg D x x'
  keep : ∀ x x' (K : Nat → Prop), I x → Chg K x x' → (∀ j, D j → ¬ K j) → I x'
  low : ∀ x, I x → ∀ j, D j → j < x.heap.size
end Go.Proofs.Ytjgllfpnmmopdaa
