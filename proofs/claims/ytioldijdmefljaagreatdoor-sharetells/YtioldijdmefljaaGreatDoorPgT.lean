/-
  Package tree: a tree in memory: its accounts, the map of their names, the maps of their children.
-/
import Derived.Test.YtioldijdmefljaaGreatDoorRfX
import Derived.Test.YtioldijdmefljaaGreatDoorPgA
import Derived.Maps.OwnSet
import Derived.Maps.RangeWalk
namespace Go.Proofs.YtioldijdmefljaaGreatDoor
open Go.RowKit Tr

abbrev KS (s : ByteArray) : Lit := .string s.data.toList
abbrev KI (i : Nat) : Lit := .int .i64 (i : Int)
theorem wfN {k : Nat} (h : k ≤ 35184372088832) : (Lit.int .i64 (k : Int)).wf = true := by
  have h1 : IntKind.i64.min = -9223372036854775808 := rfl
  have h2 : IntKind.i64.max = 9223372036854775807 := rfl
  simp only [Lit.wf, h1, h2, Bool.and_eq_true, decide_eq_true_eq]
  omega
theorem keyS {s : ByteArray} (h : s.size ≤ maxLen) : keyOf Tryz.prog 9 (.string s) = some (KS s) := by simp [keyOf, Tryz.underlying9, mapKey, h]
theorem keyI {n : Nat} (h : n ≤ 35184372088832) : keyOf Tryz.prog 3 (.int .i64 (n : Int)) = some (KI n) := Maps.keyOf_int_mk Tryz.underlying3 (wfN h)
theorem KS_inj {s t : ByteArray} (h : KS s = KS t) : s = t := by
  cases s with
  | mk x =>
    cases t with
    | mk y =>
      simp only [KS, Lit.string.injEq] at h
      rw [Array.toList_inj.1 h]
theorem KI_inj {i j : Nat} (h : KI i = KI j) : i = j := by
  simp only [KI, Lit.int.injEq, true_and] at h
  omega
theorem keyedS : Maps.Keyed Tryz.prog 9 := Maps.string_keyed Tryz.underlying9
theorem keyedI : Maps.Keyed Tryz.prog 3 := Maps.int_keyed Tryz.underlying3

/-- The map of names says each account's number. -/
def NmD (D : DataW Unit) (l : List Ac) : Prop := ∀ s : ByteArray, Maps.has D (KS s) = (findV l s).isSome ∧ ∀ k, findV l s = some k → ∀ z, D.atKey (KS s) z = .lit (.int .i64 (k : Int))
/-- A map whose keys are the numbers of which P is so. -/
def SetD (D : DataW Unit) (P : Nat → Bool) : Prop := ∀ kl, Maps.has D kl = true ↔ ∃ j, kl = KI j ∧ P j = true
def SetAt (W : World) (k : Nat) (P : Nat → Bool) : Prop := ∃ D, W.ownsMap Tryz.prog 3 unitElem k 64 D ∧ SetD D P
/-- The blocks of a tree. -/
def PK (t : Nat) (v : Value) (m : Nat) (kv : Value) (ks : List Nat) (j : Nat) : Prop := j = t ∨ v.ownBlock = some j ∨ j = m ∨ kv.ownBlock = some j ∨ j ∈ ks
def mapsV (ks : List Nat) : List Value := ks.map fun k => .map (some k)
/-- The program's tree at t. -/
structure PT (W : World) (t : Nat) (v : Value) (m : Nat) (kv : Value) (ks : List Nat) (l : List Ac) (K : Nat → Nat → Bool) : Prop where
  blk : W.heap[t]? = some (.cells #[v, .map (some m), kv] 134 (0, 0))
  row : W.ownsRow 0 32 5 v l.length (flatA l)
  nms : ∃ D, W.ownsMap Tryz.prog 9 (plainElem Tryz.prog 3) m l.length D ∧ NmD D l
  krow : W.ownsRow 0 138 1 kv ks.length (mapsV ks)
  klen : ks.length = l.length
  kids : ∀ i k, ks[i]? = some k → SetAt W k (K i)
  nodup : ks.Nodup
  apart : m ∉ ks
theorem SetAt.kept {W W' : World} {k : Nat} {P : Nat → Bool} (h : SetAt W k P) (b : W'.heap[k]? = W.heap[k]?) : SetAt W' k P := by
  obtain ⟨D, ⟨es, clock, h1, h2⟩, h3⟩ := h
  exact ⟨D, ⟨es, clock, b.trans h1, h2⟩, h3⟩
theorem SetAt.lt {W : World} {k : Nat} {P : Nat → Bool} (h : SetAt W k P) : k < W.heap.size := by
  obtain ⟨D, h1, _⟩ := h
  exact h1.lt
theorem PT.lt {W : World} {t : Nat} {v : Value} {m : Nat} {kv : Value} {ks : List Nat} {l : List Ac} {K : Nat → Nat → Bool} (h : PT W t v m kv ks l K) : ∀ j, PK t v m kv ks j → j < W.heap.size := by
  rintro j (rfl | hj | rfl | hj | hj)
  · exact (Array.getElem?_eq_some_iff.1 h.blk).1
  · exact (h.row.lt j hj).2
  · obtain ⟨D, h1, _⟩ := h.nms
    exact h1.lt
  · exact (h.krow.lt j hj).2
  · obtain ⟨i, hi⟩ := List.getElem?_of_mem hj
    exact (h.kids i j hi).lt
theorem row_of {w w' : World} {B e sz n : Nat} {v : Value} {vs : List Value} (h : w.ownsRow B e sz v n vs) (b : ∀ j, v.ownBlock = some j → w'.heap[j]? = w.heap[j]?) : w'.ownsRow B e sz v n vs := by
  refine ⟨h.1, ?_⟩
  rcases h.2 with h0 | ⟨g, cap, cur, rfl, hb, hg, r⟩
  · exact .inl h0
  · exact .inr ⟨g, cap, cur, rfl, hb, (b g rfl).trans hg, r⟩
theorem PT.kept {W W' : World} {t : Nat} {v : Value} {m : Nat} {kv : Value} {ks : List Nat} {l : List Ac} {K : Nat → Nat → Bool} (h : PT W t v m kv ks l K) (b : ∀ j, PK t v m kv ks j → W'.heap[j]? = W.heap[j]?) : PT W' t v m kv ks l K := by
  refine ⟨(b t (.inl rfl)).trans h.blk, row_of h.row (fun j hj => b j (.inr (.inl hj))), ?_, row_of h.krow (fun j hj => b j (.inr (.inr (.inr (.inl hj))))), h.klen, fun i k hk => (h.kids i k hk).kept (b k (.inr (.inr (.inr (.inr (List.mem_of_getElem? hk)))))), h.nodup, h.apart⟩
  obtain ⟨D, ⟨es, clock, h1, h2⟩, h3⟩ := h.nms
  exact ⟨D, ⟨es, clock, (b m (.inr (.inr (.inl rfl)))).trans h1, h2⟩, h3⟩
theorem PT.below {W W' : World} {t : Nat} {v : Value} {m : Nat} {kv : Value} {ks : List Nat} {l : List Ac} {K : Nat → Nat → Bool} (h : PT W t v m kv ks l K) (b : Below W.heap.size W W') : PT W' t v m kv ks l K := h.kept (fun j hj => b.block j (h.lt j hj))
/-- A tree within the blocks of S. -/
def Tree (S : Nat → Prop) (W : World) (t : Nat) (l : List Ac) (K : Nat → Nat → Bool) : Prop := ∃ v m kv ks, PT W t v m kv ks l K ∧ ∀ j, PK t v m kv ks j → S j
theorem Tree.kept {S : Nat → Prop} {W W' : World} {t : Nat} {l : List Ac} {K : Nat → Nat → Bool} (h : Tree S W t l K) (b : ∀ j, j < W.heap.size → S j → W'.heap[j]? = W.heap[j]?) : Tree S W' t l K := by
  obtain ⟨v, m, kv, ks, h1, h2⟩ := h
  exact ⟨v, m, kv, ks, h1.kept (fun j hj => b j (h1.lt j hj) (h2 j hj)), h2⟩
theorem Tree.below {S : Nat → Prop} {W W' : World} {t : Nat} {l : List Ac} {K : Nat → Nat → Bool} (h : Tree S W t l K) (b : Below W.heap.size W W') : Tree S W' t l K := h.kept (fun j hj _ => b.block j hj)
theorem Tree.mono {S S' : Nat → Prop} {W : World} {t : Nat} {l : List Ac} {K : Nat → Nat → Bool} (h : Tree S W t l K) (b : ∀ j, j < W.heap.size → S j → S' j) : Tree S' W t l K := by
  obtain ⟨v, m, kv, ks, h1, h2⟩ := h
  exact ⟨v, m, kv, ks, h1, fun j hj => b j (h1.lt j hj) (h2 j hj)⟩

/-- What a call reads of a tree. -/
structure Cells (W : World) (t : Nat) (ao : Option Addr) (l : List Ac) (c m : Nat) (kv : Value) : Prop where
  c0 : W.cell? ⟨t, 0, none⟩ = some (.slice ao l.length c)
  c1 : W.cell? ⟨t, 1, none⟩ = some (.map (some m))
  c2 : W.cell? ⟨t, 2, none⟩ = some kv
  acs : AcsAt W ao l
theorem PT.cells {W : World} {t : Nat} {v : Value} {m : Nat} {kv : Value} {ks : List Nat} {l : List Ac} {K : Nat → Nat → Bool} (h : PT W t v m kv ks l K) : ∃ ao c, v = .slice ao l.length c ∧ Cells W t ao l c m kv := by
  obtain ⟨ao, c, rfl, h1, h2⟩ := acs_row h.row
  exact ⟨ao, c, rfl, cells_at h.blk rfl, cells_at h.blk rfl, cells_at h.blk rfl, h1⟩

theorem look_names {W : World} {m n : Nat} {D : DataW Unit} {l : List Ac} (h : W.ownsMap Tryz.prog 9 (plainElem Tryz.prog 3) m n D) (hD : NmD D l) {s : ByteArray} (hs : s.size ≤ maxLen) :
    (Instr.lookup 131 (.map (some m)) (.string s) true).run Tryz.prog W = .ok (.tuple #[.int .i64 ((findV l s).getD 0 : Nat), .bool (findV l s).isSome]) W := by
  obtain ⟨v, ps, h1, h2⟩ := h.look_ok keyedS Tryz.underlying131 (z := .int .i64 0) (zd := .lit (.int .i64 0)) (zp := []) (Tryz.zeroValue3 W) (plainElem_int Tryz.underlying3 (wfN (k := 0) (by omega))) (keyS hs)
  obtain ⟨g1, g2⟩ := hD s
  rw [h1, g1]
  obtain ⟨a, rfl, h3, _⟩ := plainElem_int_inv Tryz.underlying3 h2
  cases hf : findV l s with
  | none =>
    rw [hf] at g1
    rw [Maps.atKey_of_not_has g1] at h3
    simp at h3
    rw [← h3.1]
    rfl
  | some k =>
    rw [g2 k hf] at h3
    simp at h3
    rw [← h3.1]
    rfl
end Go.Proofs.YtioldijdmefljaaGreatDoor
