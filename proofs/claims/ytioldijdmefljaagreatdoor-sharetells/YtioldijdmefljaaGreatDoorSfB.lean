/-
  LAYER 13: package share: familyOf: who is whose parent, in a map of rows.
-/
import Derived.Test.YtioldijdmefljaaGreatDoorSfA
import Derived.Test.YtioldijdmefljaaGreatDoorLdB
import Derived.Maps.Own
import Derived.Maps.OwnSet
import Derived.Maps.AppendAt
namespace Go.Proofs.YtioldijdmefljaaGreatDoor
open Go.RowKit Wd Tr Go.Maps

/-- How a brood reads: as it is. -/
def heldE (v : Value) : Option (DataW Value × List MemPlace) := some (.held v, [])
def broZ : Value := .agg #[.slice none 0 0, .int .u64 0]
theorem Tryz.keyB : Keyed Tryz.prog 3 := int_keyed Tryz.underlying3
theorem Tryz.zeroB (w : World) : (zeroValue 49).run Tryz.prog w = .ok broZ w := by kernel_rfl
/-- The broods of the first k accounts. -/
structure Bro (W : World) (B m : Nat) (l : List Ac) (k : Nat) (v : Nat → Value) : Prop where
  map : ∃ D, W.ownsMap Tryz.prog 3 heldE m k D ∧ ∀ p, p < l.length → D.atKey (.int .i64 p) (.held broZ) = .held (.agg #[v p, .int .u64 (togN l p k)])
  row : ∀ p, p < l.length → W.ownsRow B 3 1 (v p) (kidP l p k).length (ints (kidP l p k))
  apart : ∀ p q, p < l.length → q < l.length → p ≠ q → (v p).ownBlock = none ∨ (v p).ownBlock ≠ (v q).ownBlock
  lo : B ≤ m
theorem keyN (p : Nat) (h : p < 9223372036854775808) : keyOf Tryz.prog 3 (.int .i64 (p : Int)) = some (.int .i64 (p : Int)) := keyOf_int_mk Tryz.underlying3 (WalkArith.wf_i64 (by omega))
/-- What a look-up tells. -/
theorem Bro.look {W : World} {B m k : Nat} {l : List Ac} {v : Nat → Value} (h : Bro W B m l k v) (hl : l.length ≤ 64) {p : Nat} (hp : p < l.length) :
    (Instr.lookup 40 (.map (some m)) (.int .i64 (p : Int)) false).run Tryz.prog W = .ok (.agg #[v p, .int .u64 (togN l p k)]) W := by
  obtain ⟨D, h1, h2⟩ := h.map
  obtain ⟨x, ps, hr, hx⟩ := h1.lookup Tryz.keyB Tryz.underlying40 (Tryz.zeroB W) (zd := .held broZ) (zp := []) rfl (keyN p (by omega))
  rw [h2 p hp] at hx
  unfold heldE at hx
  have hx := DataW.held.inj (Prod.mk.inj (Option.some.inj hx)).1
  rw [hr, hx]
theorem Bro.made {W : World} {B : Nat} {l : List Ac} (h : Wu l) (hB : B ≤ W.heap.size) : Bro (W.alloc (.map #[] 0)) B W.heap.size l 1 (fun _ => .slice none 0 0) := by
  obtain ⟨a, ha, hpa, _⟩ := h.root
  have hk : ∀ p : Nat, kidP l p 1 = [] := fun p => by rw [kidP_no ha (by omega)]; rfl
  have ht : ∀ p : Nat, togN l p 1 = 0 := fun p => by rw [togN_no ha (by omega)]; rfl
  refine ⟨⟨.map [], (World.ownsMap_made W Tryz.prog 3 heldE).mono (by omega), fun p _ => ?_⟩, fun p _ => ?_, fun _ _ _ _ _ => .inl rfl, hB⟩
  · rw [ht]; rfl
  · rw [hk]; exact World.ownsRow_nil _ _ _ _
section
variable {W W' : World} {B m k : Nat} {l : List Ac} {v : Nat → Value}
theorem Bro.m_lt (h : Bro W B m l k v) : m < W.heap.size := by
  obtain ⟨D, h1, _⟩ := h.map
  exact h1.lt
theorem Bro.v_lt (h : Bro W B m l k v) {p : Nat} (hp : p < l.length) : ∀ j, (v p).ownBlock = some j → j < W.heap.size ∧ B ≤ j ∧ j ≠ m := fun j hj => by
  obtain ⟨D, ⟨es, clock, hb, _⟩, _⟩ := h.map
  rcases (h.row p hp).2 with ⟨e, _⟩ | ⟨g, cap, cur, e, hg, hh, _⟩
  · rw [e] at hj; cases hj
  · rw [e] at hj
    have : g = j := by simpa [Value.ownBlock] using hj
    subst this
    refine ⟨(Array.getElem?_eq_some_iff.1 hh).1, hg, fun e => ?_⟩
    rw [e, hb] at hh
    cases hh
/-- It stands where its blocks do. -/
theorem Bro.same (h : Bro W B m l k v) (hm : W'.heap[m]? = W.heap[m]?) (hv : ∀ p, p < l.length → ∀ j, (v p).ownBlock = some j → W'.heap[j]? = W.heap[j]?) : Bro W' B m l k v := by
  obtain ⟨⟨D, ⟨es, clock, hb, h1⟩, h2⟩, hr, ha, hl⟩ := h
  exact ⟨⟨D, ⟨es, clock, hm.trans hb, h1⟩, h2⟩, fun p hp => row_same (hr p hp) (hv p hp), ha, hl⟩
theorem Bro.below (h : Bro W B m l k v) (b : Below W.heap.size W W') : Bro W' B m l k v :=
  h.same (b.block m h.m_lt) (fun _ hp j hj => b.block j (h.v_lt hp j hj).1)
theorem Bro.chg {K : Nat → Prop} (h : Bro W B m l k v) (c : Chg K W W') (hK : ∀ j, K j → j < B ∨ W.heap.size ≤ j) : Bro W' B m l k v :=
  h.same (c.block m h.m_lt (fun x => by rcases hK m x with y | y; have := h.lo; omega; have := h.m_lt; omega))
    (fun _ hp j hj => c.block j (h.v_lt hp j hj).1 (fun x => by have := h.v_lt hp j hj; rcases hK j x with y | y <;> omega))
theorem Bro.base {B' : Nat} (h : Bro W B m l k v) (hB : B' ≤ B) : Bro W B' m l k v := ⟨h.map, fun p hp => own_base (h.row p hp) hB, h.apart, Nat.le_trans hB h.lo⟩
/-- One account more: its parent's row grew, its parent's entry was turned. -/
theorem Bro.step {W1 W2 W3 : World} {a : Ac} {p b8 : Nat} {v' : Value} (h : Bro W B m l k v) (hl : l.length ≤ 64) (hk : k < l.length) (ha : l[k]? = some a) (hpa : a.pa = p) (hp : p < l.length)
    (b0 : Below W.heap.size W W1) (hrow : W2.ownsRow B 3 1 v' ((kidP l p k).length + 1) (ints (kidP l p k) ++ [.int .i64 (k : Int)])) (hg : W1.grownBy W2 (v p).ownBlock) (hat : v'.ownBlock = (v p).ownBlock ∨ v'.ownBlock = some W1.heap.size)
    (b2 : Chg (fun j => j = b8) W2 W3) (h8 : W.heap.size ≤ b8) (h8' : b8 < W1.heap.size) :
    ∃ W4, (Instr.mapUpdate 40 (.map (some m)) (.int .i64 (p : Int)) (.agg #[v', .int .u64 (togN l p k + a.sh)])).run Tryz.prog W3 = .ok () W4 ∧
      Bro W4 B m l (k + 1) (fun q => if q = p then v' else v q) ∧ W3.grownBy W4 (some m) := by
  have h1 := h.below b0
  have hm2 : W2.heap[m]? = W1.heap[m]? := hg.block m h1.m_lt (fun e => (h1.v_lt hp m (e.symm ▸ rfl)).2.2 rfl)
  have h1m := h1.m_lt
  have s12 := hg.size
  have hm0 := h.m_lt
  have hm3 : W3.heap[m]? = W2.heap[m]? := b2.block m (by omega) (by omega)
  obtain ⟨D, hD, hat2⟩ := h1.map
  have hD3 : W3.ownsMap Tryz.prog 3 heldE m k D := by
    obtain ⟨es, clock, hb, r⟩ := hD
    exact ⟨es, clock, (hm3.trans hm2).trans hb, r⟩
  obtain ⟨W4, hrun, hD4, hg4⟩ := hD3.update Tryz.keyB Tryz.underlying40 (show k < maxLen by unfold maxLen; omega) (keyN p (by omega)) (val := .agg #[v', .int .u64 (togN l p k + a.sh)]) (d := .held (.agg #[v', .int .u64 (togN l p k + a.sh)])) (ps := []) rfl
  have hism : Maps.IsMap D := hD.isMap
  refine ⟨W4, hrun, ⟨⟨_, hD4, fun q hq => ?_⟩, fun q hq => ?_, fun q r hq hr hne => ?_, h.lo⟩, hg4⟩
  · by_cases e : q = p
    · subst e
      simp only [if_true]
      rw [Maps.atKey_put_same hism (by exact trivial), togN_yes ha hpa]
    · rw [Maps.atKey_put_other (fun x => e (by have := (Lit.int.inj x).2; omega)), hat2 q hq, togN_no ha (by rw [hpa]; omega)]
      simp only [e, if_false]
  · have hk4 : ∀ j, j < W3.heap.size → j ≠ m → W4.heap[j]? = W3.heap[j]? := fun j hj hne => hg4.block j hj (fun e => hne (Option.some.inj e))
    by_cases e : q = p
    · subst e
      simp only [if_true]
      rw [kidP_yes ha hpa]
      have hr2 : W2.ownsRow B 3 1 v' (kidP l q k ++ [k]).length (ints (kidP l q k ++ [k])) := by
        have : ints (kidP l q k ++ [k]) = ints (kidP l q k) ++ [.int .i64 (k : Int)] := by simp [ints]
        rw [this, List.length_append]
        exact hrow
      refine row_same hr2 (fun j hj => ?_)
      have hj8 : j ≠ b8 := fun e => by
        rcases hat with x | x
        · have := (h.v_lt hp j (x.symm.trans hj)).1
          omega
        · rw [hj] at x
          have := Option.some.inj x
          omega
      have hj2 : ∃ cs, W2.heap[j]? = some (.cells cs 3 (0, 0)) := by
        rcases hr2.2 with ⟨e, _⟩ | ⟨g, cap, cur, e, _, hh, _⟩
        · rw [e] at hj; cases hj
        · rw [e] at hj
          have : g = j := by simpa [Value.ownBlock] using hj
          subst this
          exact ⟨_, hh⟩
      obtain ⟨cs, hcs⟩ := hj2
      have hjl := (Array.getElem?_eq_some_iff.1 hcs).1
      refine (hk4 j (by have := b2.size; omega) (fun e => ?_)).trans (b2.block j hjl hj8)
      rw [e, hm2] at hcs
      obtain ⟨es, clock, hb, _⟩ := hD
      rw [hb] at hcs
      cases hcs
    · simp only [e, if_false]
      rw [kidP_no ha (by rw [hpa]; omega)]
      refine row_same (h1.row q hq) (fun j hj => ?_)
      have hv := h1.v_lt hq j hj
      have hv0 := (h.v_lt hq j hj).1
      rw [hk4 j (by have := b2.size; omega) hv.2.2, b2.block j (by omega) (by omega)]
      refine hg.block j hv.1 (fun x => ?_)
      rcases h1.apart q p hq hp e with y | y
      · rw [y] at hj; cases hj
      · exact y (hj.trans x)
  · have key : ∀ q r, q < l.length → r < l.length → q ≠ r → q = p → (v'.ownBlock = none ∨ v'.ownBlock ≠ (v r).ownBlock) := fun q r hq hr hne e => by
      subst e
      rcases hat with x | x
      · rw [x]; exact h1.apart q r hq hr hne
      · rw [x]
        refine .inr (fun y => ?_)
        have := (h1.v_lt hr _ y.symm).1
        omega
    by_cases e : q = p
    · have e' : r ≠ p := fun x => hne (e.trans x.symm)
      simp only [e, if_true, e', if_false]
      exact key q r hq hr hne e
    · by_cases e' : r = p
      · simp only [e, if_false, e', if_true]
        rcases key r q hr hq (Ne.symm hne) e' with x | x
        · rw [x]
          cases hv : (v q).ownBlock with
          | none => exact .inl rfl
          | some _ => exact .inr (by simp)
        · exact .inr (fun y => x y.symm)
      · simp only [e, if_false, e']
        exact h1.apart q r hq hr hne
end
end Go.Proofs.YtioldijdmefljaaGreatDoor
