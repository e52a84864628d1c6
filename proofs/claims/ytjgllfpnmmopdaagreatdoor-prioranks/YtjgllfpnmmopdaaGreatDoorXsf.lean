/-
  LAYER 13: package share: familyOf: who is whose parent, in a map of rows.
  LAYER 13: package share: familyOf walked.
  LAYER 13: package share: down: each account behind its parent.
  A region that draws, whose last operation turns a cell that the others read: what is to stand behind each operation is not asked behind the last one (number L), for which every operation that is taken first must be waited for.
  LAYER 13: package share: what Shares and Effective do at each account.
-/
import Derived.Test.YtjgllfpnmmopdaaGreatDoorSfAq
import Derived.Test.YtjgllfpnmmopdaaGreatDoorXld
import Derived.Maps.Own
import Derived.Maps.OwnSet
import Derived.Maps.AppendAt
import Derived.Test.YtjgllfpnmmopdaaGreatDoorRgAq
import Derived.Laws.ByValue
import Derived.Laws.EntriesVeiled
import Derived.Deep.RegionHeld3
import Derived.StillTail
import Derived.Test.YtjgllfpnmmopdaaGreatDoorProg
namespace Go.Proofs.YtjgllfpnmmopdaaGreatDoor
open Go.RowKit Wd Tr Go.Maps

/-- How a brood reads: as it is. -/
def heldE (v : Value) : Option (DataW Value × List MemPlace) := some (.held v, [])
def broZ : Value := .agg #[.slice none 0 0, .int .u64 0]
theorem Tryz.keyB : Keyed Tryz.prog 3 := int_keyed Tryz.underlying3
theorem Tryz.zeroB (w : World) : (zeroValue 111).run Tryz.prog w = .ok broZ w := by kernel_rfl
/-- The broods of the first k accounts. -/
structure Bro (W : World) (B m : Nat) (l : List Ac) (k : Nat) (v : Nat → Value) : Prop where
  map : ∃ D, W.ownsMap Tryz.prog 3 heldE m k D ∧ ∀ p, p < l.length → D.atKey (.int .i64 p) (.held broZ) = .held (.agg #[v p, .int .u64 (togN l p k)])
  row : ∀ p, p < l.length → W.ownsRow B 3 1 (v p) (kidP l p k).length (ints (kidP l p k))
  apart : ∀ p q, p < l.length → q < l.length → p ≠ q → (v p).ownBlock = none ∨ (v p).ownBlock ≠ (v q).ownBlock
  lo : B ≤ m
theorem keyN (p : Nat) (h : p < 9223372036854775808) : keyOf Tryz.prog 3 (.int .i64 (p : Int)) = some (.int .i64 (p : Int)) := keyOf_int_mk Tryz.underlying3 (WalkArith.wf_i64 (by omega))
/-- What a look-up tells. -/
theorem Bro.look {W : World} {B m k : Nat} {l : List Ac} {v : Nat → Value} (h : Bro W B m l k v) (hl : l.length ≤ 64) {p : Nat} (hp : p < l.length) :
    (Instr.lookup 103 (.map (some m)) (.int .i64 (p : Int)) false).run Tryz.prog W = .ok (.agg #[v p, .int .u64 (togN l p k)]) W := by
  obtain ⟨D, h1, h2⟩ := h.map
  obtain ⟨x, ps, hr, hx⟩ := h1.lookup Tryz.keyB Tryz.underlying103 (Tryz.zeroB W) (zd := .held broZ) (zp := []) rfl (keyN p (by omega))
  rw [h2 p hp] at hx
  unfold heldE at hx
  have hx := DataW.held.inj (Prod.mk.inj (Option.some.inj hx)).1
  rw [hr, hx]
theorem Bro.made {W : World} {B : Nat} {l : List Ac} (h : Wu l) (hB : B ≤ W.heap.size) : Bro (W.alloc (.map #[] 0)) B W.heap.size l 1 (fun _ => .slice none 0 0) := by
  obtain ⟨a, ha, hpa, _⟩ := h.root
  have hk : ∀ p : Nat, kidP l p 1 = [] := fun p => by rw [kidP_no ha (by omega)]; rfl
  have ht : ∀ p : Nat, togN l p 1 = 0 := fun p => by rw [togN_no ha (by omega)]; rfl
  refine ⟨⟨.map [], (World.ownsMap_made W Tryz.prog 3 heldE).mono (by omega), fun p _ => ?_⟩, fun p _ => ?_, fun _ _ _ _ _ => .inl rfl, hB⟩
  · rw [ht]; rfl
  · rw [hk]; exact World.ownsRow_nil _ _ _ _
section
variable {W W' : World} {B m k : Nat} {l : List Ac} {v : Nat → Value}
theorem Bro.m_lt (h : Bro W B m l k v) : m < W.heap.size := by
  obtain ⟨D, h1, _⟩ := h.map
  exact h1.lt
theorem Bro.v_lt (h : Bro W B m l k v) {p : Nat} (hp : p < l.length) : ∀ j, (v p).ownBlock = some j → j < W.heap.size ∧ B ≤ j ∧ j ≠ m := fun j hj => by
  obtain ⟨D, ⟨es, clock, hb, _⟩, _⟩ := h.map
  rcases (h.row p hp).2 with ⟨e, _⟩ | ⟨g, cap, cur, e, hg, hh, _⟩
  · rw [e] at hj; cases hj
  · rw [e] at hj
    have : g = j := by simpa [Value.ownBlock] using hj
    subst this
    refine ⟨(Array.getElem?_eq_some_iff.1 hh).1, hg, fun e => ?_⟩
    rw [e, hb] at hh
    cases hh
/-- It stands where its blocks do. -/
theorem Bro.same (h : Bro W B m l k v) (hm : W'.heap[m]? = W.heap[m]?) (hv : ∀ p, p < l.length → ∀ j, (v p).ownBlock = some j → W'.heap[j]? = W.heap[j]?) : Bro W' B m l k v := by
  obtain ⟨⟨D, ⟨es, clock, hb, h1⟩, h2⟩, hr, ha, hl⟩ := h
  exact ⟨⟨D, ⟨es, clock, hm.trans hb, h1⟩, h2⟩, fun p hp => row_same (hr p hp) (hv p hp), ha, hl⟩
theorem Bro.below (h : Bro W B m l k v) (b : Below W.heap.size W W') : Bro W' B m l k v :=
  h.same (b.block m h.m_lt) (fun _ hp j hj => b.block j (h.v_lt hp j hj).1)
theorem Bro.chg {K : Nat → Prop} (h : Bro W B m l k v) (c : Chg K W W') (hK : ∀ j, K j → j < B ∨ W.heap.size ≤ j) : Bro W' B m l k v :=
  h.same (c.block m h.m_lt (fun x => by rcases hK m x with y | y; have := h.lo; omega; have := h.m_lt; omega))
    (fun _ hp j hj => c.block j (h.v_lt hp j hj).1 (fun x => by have := h.v_lt hp j hj; rcases hK j x with y | y <;> omega))
theorem Bro.base {B' : Nat} (h : Bro W B m l k v) (hB : B' ≤ B) : Bro W B' m l k v := ⟨h.map, fun p hp => own_base (h.row p hp) hB, h.apart, Nat.le_trans hB h.lo⟩
/-- One account more: its parent's row grew, its parent's entry was turned. -/
theorem Bro.step {W1 W2 W3 : World} {a : Ac} {p b8 : Nat} {v' : Value} (h : Bro W B m l k v) (hl : l.length ≤ 64) (hk : k < l.length) (ha : l[k]? = some a) (hpa : a.pa = p) (hp : p < l.length)
    (b0 : Below W.heap.size W W1) (hrow : W2.ownsRow B 3 1 v' ((kidP l p k).length + 1) (ints (kidP l p k) ++ [.int .i64 (k : Int)])) (hg : W1.grownBy W2 (v p).ownBlock) (hat : v'.ownBlock = (v p).ownBlock ∨ v'.ownBlock = some W1.heap.size)
    (b2 : Chg (fun j => j = b8) W2 W3) (h8 : W.heap.size ≤ b8) (h8' : b8 < W1.heap.size) :
    ∃ W4, (Instr.mapUpdate 103 (.map (some m)) (.int .i64 (p : Int)) (.agg #[v', .int .u64 (togN l p k + a.sh)])).run Tryz.prog W3 = .ok () W4 ∧
      Bro W4 B m l (k + 1) (fun q => if q = p then v' else v q) ∧ W3.grownBy W4 (some m) := by
  have h1 := h.below b0
  have hm2 : W2.heap[m]? = W1.heap[m]? := hg.block m h1.m_lt (fun e => (h1.v_lt hp m (e.symm ▸ rfl)).2.2 rfl)
  have h1m := h1.m_lt
  have s12 := hg.size
  have hm0 := h.m_lt
  have hm3 : W3.heap[m]? = W2.heap[m]? := b2.block m (by omega) (by omega)
  obtain ⟨D, hD, hat2⟩ := h1.map
  have hD3 : W3.ownsMap Tryz.prog 3 heldE m k D := by
    obtain ⟨es, clock, hb, r⟩ := hD
    exact ⟨es, clock, (hm3.trans hm2).trans hb, r⟩
  obtain ⟨W4, hrun, hD4, hg4⟩ := hD3.update Tryz.keyB Tryz.underlying103 (show k < maxLen by unfold maxLen; omega) (keyN p (by omega)) (val := .agg #[v', .int .u64 (togN l p k + a.sh)]) (d := .held (.agg #[v', .int .u64 (togN l p k + a.sh)])) (ps := []) rfl
  have hism : Maps.IsMap D := hD.isMap
  refine ⟨W4, hrun, ⟨⟨_, hD4, fun q hq => ?_⟩, fun q hq => ?_, fun q r hq hr hne => ?_, h.lo⟩, hg4⟩
  · by_cases e : q = p
    · subst e
      simp only [if_true]
      rw [Maps.atKey_put_same hism (by exact trivial), togN_yes ha hpa]
    · rw [Maps.atKey_put_other (fun x => e (by have := (Lit.int.inj x).2; omega)), hat2 q hq, togN_no ha (by rw [hpa]; omega)]
      simp only [e, if_false]
  · have hk4 : ∀ j, j < W3.heap.size → j ≠ m → W4.heap[j]? = W3.heap[j]? := fun j hj hne => hg4.block j hj (fun e => hne (Option.some.inj e))
    by_cases e : q = p
    · subst e
      simp only [if_true]
      rw [kidP_yes ha hpa]
      have hr2 : W2.ownsRow B 3 1 v' (kidP l q k ++ [k]).length (ints (kidP l q k ++ [k])) := by
        have : ints (kidP l q k ++ [k]) = ints (kidP l q k) ++ [.int .i64 (k : Int)] := by simp [ints]
        rw [this, List.length_append]
        exact hrow
      refine row_same hr2 (fun j hj => ?_)
      have hj8 : j ≠ b8 := fun e => by
        rcases hat with x | x
        · have := (h.v_lt hp j (x.symm.trans hj)).1
          omega
        · rw [hj] at x
          have := Option.some.inj x
          omega
      have hj2 : ∃ cs, W2.heap[j]? = some (.cells cs 3 (0, 0)) := by
        rcases hr2.2 with ⟨e, _⟩ | ⟨g, cap, cur, e, _, hh, _⟩
        · rw [e] at hj; cases hj
        · rw [e] at hj
          have : g = j := by simpa [Value.ownBlock] using hj
          subst this
          exact ⟨_, hh⟩
      obtain ⟨cs, hcs⟩ := hj2
      have hjl := (Array.getElem?_eq_some_iff.1 hcs).1
      refine (hk4 j (by have := b2.size; omega) (fun e => ?_)).trans (b2.block j hjl hj8)
      rw [e, hm2] at hcs
      obtain ⟨es, clock, hb, _⟩ := hD
      rw [hb] at hcs
      cases hcs
    · simp only [e, if_false]
      rw [kidP_no ha (by rw [hpa]; omega)]
      refine row_same (h1.row q hq) (fun j hj => ?_)
      have hv := h1.v_lt hq j hj
      have hv0 := (h.v_lt hq j hj).1
      rw [hk4 j (by have := b2.size; omega) hv.2.2, b2.block j (by omega) (by omega)]
      refine hg.block j hv.1 (fun x => ?_)
      rcases h1.apart q p hq hp e with y | y
      · rw [y] at hj; cases hj
      · exact y (hj.trans x)
  · have key : ∀ q r, q < l.length → r < l.length → q ≠ r → q = p → (v'.ownBlock = none ∨ v'.ownBlock ≠ (v r).ownBlock) := fun q r hq hr hne e => by
      subst e
      rcases hat with x | x
      · rw [x]; exact h1.apart q r hq hr hne
      · rw [x]
        refine .inr (fun y => ?_)
        have := (h1.v_lt hr _ y.symm).1
        omega
    by_cases e : q = p
    · have e' : r ≠ p := fun x => hne (e.trans x.symm)
      simp only [e, if_true, e', if_false]
      exact key q r hq hr hne e
    · by_cases e' : r = p
      · simp only [e, if_false, e', if_true]
        rcases key r q hr hq (Ne.symm hne) e' with x | x
        · rw [x]
          cases hv : (v q).ownBlock with
          | none => exact .inl rfl
          | some _ => exact .inr (by simp)
        · exact .inr (fun y => x y.symm)
      · simp only [e, if_false, e']
        exact h1.apart q r hq hr hne
end
end Go.Proofs.YtjgllfpnmmopdaaGreatDoor
namespace Go.Proofs.YtjgllfpnmmopdaaGreatDoor
open Go.RowKit Wd Tr Go.Maps

def FamP (w : World) (ao : Option Addr) (l : List Ac) (c : Nat) (e : Ending) (w' : World) : Prop :=
  (loadE l = 0 → ∃ m v, e = .returned (.tuple #[.agg #[.slice ao l.length c, .map (some m)], .bool true]) ∧ Bro w' w.heap.size m l l.length v) ∧
  (loadE l ≠ 0 → e = .returned (.tuple #[.agg #[.slice none 0 0, .map none], .bool false])) ∧ Below w.heap.size w w'
theorem drew_below (w : World) : Below w.heap.size w w.drew := ⟨rfl, rfl, rfl, Nat.le_refl _, fun _ _ => rfl⟩
theorem grown_block {w w' : World} {r : Option Nat} {j : Nat} {o : Obj} (hg : w.grownBy w' r) (h : w.heap[j]? = some o) (hne : some j ≠ r) : w'.heap[j]? = some o := (hg.block j (Array.getElem?_eq_some_iff.1 h).1 hne).trans h
theorem set_block {w : World} {j b k : Nat} {o : Obj} {v : Value} (h : w.heap[j]? = some o) (hne : j ≠ b) : (w.setCell ⟨b, k, none⟩ v).heap[j]? = some o := by
  rw [heap_setCell_other w ⟨b, k, none⟩ j v hne]
  exact h
theorem AcAt.lo {W W' : World} {B g o : Nat} {a : Ac} (h : AcAt W g o a) (b : Below B W W') (hg : g < B) : AcAt W' g o a :=
  ⟨(b.cell (p := ⟨g, o, none⟩) hg).trans h.nm, (b.cell (p := ⟨g, o + 1, none⟩) hg).trans h.pa, (b.cell (p := ⟨g, o + 2, none⟩) hg).trans h.sh, (b.cell (p := ⟨g, o + 3, none⟩) hg).trans h.cl, (b.cell (p := ⟨g, o + 4, none⟩) hg).trans h.us⟩
theorem below_grown {w w' : World} {r : Option Nat} {B : Nat} (hg : w.grownBy w' r) (hr : ∀ j, r = some j → B ≤ j) (hB : B ≤ w.heap.size) : Below B w w' :=
  ⟨hg.os, hg.tape, hg.output, hg.size, fun k hk => hg.block k (by omega) (fun e => by have := hr k e.symm; omega)⟩
theorem heap_keep {w w' : World} {j : Nat} {o : Obj} (b : Below w.heap.size w w') (h : w.heap[j]? = some o) : w'.heap[j]? = some o := (b.block j (Array.getElem?_eq_some_iff.1 h).1).trans h
set_option maxHeartbeats 2000000 in
set_option maxRecDepth 20000 in
theorem famof_any {w : World} {ao : Option Addr} {l : List Ac} {c : Nat} (hA : AcsAt w ao l) (hs : ∀ a ∈ l, a.nm.size ≤ maxLen) (hn : l.length * 48 ≤ 140737488355328) (hc : l.length ≤ c) :
    Calls Tryz.prog 67 #[.slice ao l.length c] w (FamP w ao l c) := by
  have hA1 : AcsAt (w.alloc (.cells #[.slice none 0 0, .map none] 105)) ao l := hA.below ((Below.refl _ _).alloc (Nat.le_refl _) _)
  have hld := pload_any (c := c) hA1 hs hn hc
  have b0 : Below w.heap.size w (w.alloc (.cells #[.slice none 0 0, .map none] 105)) := (Below.refl _ _).alloc (Nat.le_refl _) _
  have hT0 : (w.alloc (.cells #[.slice none 0 0, .map none] 105)).heap[w.heap.size]? = some (.cells #[.slice none 0 0, .map none] 105 (0, 0)) := heap_alloc_new w _
  have z0 : (w.alloc (.cells #[.slice none 0 0, .map none] 105)).heap.size = w.heap.size + 1 := by simp
  obtain ⟨w0, hw0⟩ : ∃ w0, w.alloc (.cells #[.slice none 0 0, .map none] 105) = w0 := ⟨_, rfl⟩
  rw [hw0] at hA1 hld b0 hT0 z0
  by_cases hE : loadE l = 0
  · have hwu : Wu l := wf_load hE
    have hlen := hwu.len
    obtain ⟨g, o, hao, hcl⟩ := hA1
    obtain rfl := hao hwu.pos
    have HCL : Hid (∀ k a, l[k]? = some a → AcAt w0 g (o + k * 5) a) := hcl
    have HWU : Hid (Wu l) := hwu
    obtain ⟨q, hq⟩ : ∃ q, l.length = q := ⟨_, rfl⟩
    have HQ : Hid (l.length = q) := hq
    have HE : Hid (loadE l = 0) := hE
    have HE0 : Hid (loadE l = 0) := hE
    have HZ : Hid (w0.heap.size = w.heap.size + 1) := z0
    rw [hq] at hld hlen hc hn
    clear hcl hA hs hwu hE hao z0
    have hmm := @run_makeMap Tryz.prog
    go_enter Tryz.func67, Tryz.ntmps67
    go_wp2_with fail
    refine hld.mono ?_
    rintro e w1 ⟨h1, _, hb1⟩
    obtain ⟨t, rfl, _⟩ := h1 HE.out
    have b1 : Below w.heap.size w w1 := b0.trans (hb1.mono (by have := HZ.out; omega))
    have hz1 : w.heap.size < w1.heap.size := by have := hb1.size; have := HZ.out; omega
    have T1 := heap_keep hb1 hT0
    have HC1 : Hid (∀ k a, l[k]? = some a → AcAt w1 g (o + k * 5) a) := fun k a ha => (HCL.out k a ha).below hb1
    clear h1 hld b0 hT0 hb1 HCL HZ HE
    have hw2 : ∃ w2, (w1.alloc (.map #[] 0)).alloc (.cells #[.slice (some ⟨g, o, none⟩) q c, .map (some w1.heap.size)] 105) = w2 := ⟨_, rfl⟩
    obtain ⟨w2, hw2⟩ := hw2
    obtain ⟨m, hm⟩ : ∃ m, w1.heap.size = m := ⟨_, rfl⟩
    have HB2 : Hid (Bro w2 m m l 1 (fun _ => .slice none 0 0)) := show Bro w2 m m l 1 (fun _ => .slice none 0 0) by
      rw [← hw2, ← hm]
      exact (Bro.made HWU.out (Nat.le_refl _)).below ((Below.refl _ _).alloc (Nat.le_refl _) _)
    have bb : Below w1.heap.size w1 w2 := by rw [← hw2]; exact ((Below.refl _ _).alloc (Nat.le_refl _) _).alloc (by simp) _
    have F2 : w2.heap[m + 1]? = some (.cells #[.slice (some ⟨g, o, none⟩) q c, .map (some m)] 105 (0, 0)) := by
      rw [← hw2, ← hm]
      have := heap_alloc_new (w1.alloc (.map #[] 0)) (.cells #[.slice (some ⟨g, o, none⟩) q c, .map (some w1.heap.size)] 105)
      simpa using this
    have T2 := heap_keep bb T1
    have HC2 : Hid (∀ k a, l[k]? = some a → AcAt w2 g (o + k * 5) a) := fun k a ha => (HC1.out k a ha).below bb
    have b2 : Below w.heap.size w w2 := b1.trans (bb.mono (by omega))
    have HB1 : Hid (Below w.heap.size w w2) := b2
    have HM : Hid (w.heap.size < m) := show w.heap.size < m by omega
    have hm2 : m + 1 < w2.heap.size := (Array.getElem?_eq_some_iff.1 F2).1
    have HF2 : Hid _ := F2
    have HT2 : Hid _ := T2
    have HM2 : Hid _ := hm2
    have HGm : Hid (g < m) := show g < m by
      obtain ⟨a0, ha0, _⟩ := HWU.out.root
      have := World.block_lt_of_cell? w1 _ (HC1.out 0 a0 ha0).nm
      simp only at this
      omega
    clear b1 T1 HC1 bb F2 T2 b2 hz1 hm2
    rw [hm] at hw2
    go_wp2
    obtain ⟨i0, hi0, hz0, hz1, hz2⟩ : ∃ i, Tryz.prog.info? 3 = some i ∧ i.zero = some (.int .i64 0) ∧ i.size = 1 ∧ i.bytes = 8 := by
      have h := Tryz.inf3
      cases hi : Tryz.prog.info? 3 with
      | none => rw [hi] at h; cases h
      | some i =>
        rw [hi] at h
        simp at h
        exact ⟨i, rfl, h.1, h.2.1, h.2.2⟩
    have HI : Hid (Tryz.prog.info? 3 = some i0 ∧ i0.zero = some (.int .i64 0) ∧ i0.size = 1 ∧ i0.bytes = 8) := ⟨hi0, hz0, hz1, hz2⟩
    clear hi0 hz0 hz1 hz2 hw0 hw2 hm
    go_loopg [7] q (fun gk x wr => ∃ (k : Nat) (v : Nat → Value), 0 < k ∧ k ≤ q ∧ k + gk = q + 1 ∧ x = .int .i64 k ∧ Bro wr m m l k v ∧ wr.heap[m + 1]? = some (.cells #[.slice (some ⟨g, o, none⟩) q c, .map (some m)] 105 (0, 0)) ∧ wr.heap[w.heap.size]? = some (.cells #[.slice none 0 0, .map none] 105 (0, 0)) ∧ Below w.heap.size w wr ∧ (∀ k a, l[k]? = some a → AcAt wr g (o + k * 5) a))
    case atStart => exact ⟨1, _, by omega, by have := HWU.out.pos; have := HQ.out; omega, by omega, rfl, HB2.out, HF2.out, HT2.out, HB1.out, HC2.out⟩
    case round =>
      obtain ⟨k, v, hk0, hkl, hkg, rfl, hbro, hF, hT, hB, hAc⟩ := hrel
      by_cases hkq : k < q
      · have hkq' : (k : Int) < q := by omega
        obtain ⟨a, ha⟩ : ∃ a, l[k]? = some a := ⟨_, List.getElem?_eq_getElem (by rw [HQ.out]; exact hkq)⟩
        obtain ⟨p0, p1, s0, s1⟩ := HWU.out.row ha hk0
        rw [HQ.out] at p1
        obtain ⟨p, hp⟩ : ∃ p : Nat, a.pa = p := ⟨a.pa.toNat, by omega⟩
        have HP : Hid (a.pa = p) := hp
        have HPq : Hid (p < l.length) := show p < l.length by rw [HQ.out]; omega
        have HA : Hid _ := ha
        have HBR : Hid _ := hbro
        have x1 : wr.cell? ⟨g, o + k * 5 + 1, none⟩ = some (.int .i64 (p : Int)) := by
          have := (hAc k a ha).pa
          rw [hp] at this
          exact this
        have F0 := cells_at (k := 0) hF rfl
        have F1 := cells_at (k := 1) hF rfl
        have b8 : Below wr.heap.size wr (wr.alloc (.cells #[.slice none 0 0, .int .u64 0] 111)).drew := ((Below.refl _ _).alloc (Nat.le_refl _) _).drew
        have lk := (hbro.below b8).look HWU.out.len HPq.out
        obtain ⟨va, vc, hv⟩ := sl_shape (hbro.row p HPq.out)
        rw [hv] at lk
        have HV : Hid _ := hv
        have x2 := cellB b8 x1
        have F2 := cellB b8 F0
        have F3 := cellB b8 F1
        have lk0 := (hbro.below (drew_below wr)).look HWU.out.len HPq.out
        rw [hv] at lk0
        have HFF : Hid _ := hF
        have HTT : Hid _ := hT
        have HBB : Hid _ := hB
        have HAc : Hid _ := hAc
        clear hbro hF hT hB hAc ha p0 p1 hp hk0 HB2 HF2 HT2 HB1 HC2 b8 hv
        obtain ⟨tg, htg⟩ : ∃ tg, togN l (↑p) k = tg := ⟨_, rfl⟩
        have HTG : Hid (0 ≤ tg ∧ tg ≤ 262144) := by
          have := togN_word HWU.out p (k := k) (by omega)
          rw [htg] at this
          exact this
        rw [htg] at lk lk0
        have HTE : Hid _ := htg
        clear htg
        have hnk : (kidP l p k).length ≤ 64 := by have := kidP_le l p k; omega
        obtain ⟨nk, hnkE⟩ : ∃ nk, (kidP l p k).length = nk := ⟨_, rfl⟩
        rw [hnkE] at hnk lk lk0
        have HN : Hid _ := hnkE
        clear hnkE
        go_upto_region 8 with fail
        go_cut [8] (fun b wq => b = .pointer (some ⟨wr.heap.size, 0, none⟩) ∧ (wr.alloc (.cells #[.slice va nk vc, .int .u64 tg] 111)).drew = wq)
        case first =>
          go_region
          all_goals
            go_wp2
            go_meet
            exact ⟨rfl, rfl⟩
        case rest =>
          obtain ⟨rfl, hwA⟩ := hcut
          generalize wc = wA at *
          have bA : Below wr.heap.size wr wA := by rw [← hwA]; exact ((Below.refl _ _).alloc (Nat.le_refl _) _).drew
          have hG : wA.heap[wr.heap.size]? = some (.cells #[.slice va nk vc, .int .u64 tg] 111 (0, 0)) := by rw [← hwA]; exact heap_alloc_new wr _
          have hzA : wr.heap.size < wA.heap.size := (Array.getElem?_eq_some_iff.1 hG).1
          have g0 := cells_at (k := 0) hG rfl
          have g1 := cells_at (k := 1) hG rfl
          have e0 := frozen_at (k := 0) hG
          have e1 := frozen_at (k := 1) hG
          have HbA : Hid _ := bA
          have HzA : Hid _ := hzA
          have HG : Hid _ := hG
          have hrow : (wA.alloc (.cells #[.int .i64 (k : Int)] 3)).ownsRow m 3 1 (.slice va nk vc) nk (ints (kidP l p k)) := by
            have := ((HBR.out.below bA).row p HPq.out).alloc (.cells #[.int .i64 (k : Int)] 3)
            rw [HV.out, HN.out] at this
            exact this
          obtain ⟨hi0, hz0, hz1, hz2⟩ := HI.out
          have hmw : m ≤ wA.heap.size := by have := HBR.out.m_lt; omega
          have hvl := fun j hj => HBR.out.v_lt HPq.out j (HV.out.symm ▸ hj : (v p).ownBlock = some j)
          have bI : Below wA.heap.size wA (wA.alloc (.cells #[.int .i64 (k : Int)] 3)) := (Below.refl _ _).alloc (Nat.le_refl _) _
          have HW1 : Hid (Below wr.heap.size wr (wA.alloc (.cells #[.int .i64 (k : Int)] 3))) := bA.trans (bI.mono (by omega))
          have HG1 : Hid _ := heap_keep bI hG
          have HF1 : Hid _ := heap_keep HW1.out HFF.out
          have HN8 : Hid (∀ j, (Value.slice va nk vc).ownBlock = some j → j < wr.heap.size ∧ m ≤ j ∧ j ≠ m + 1) := fun j hj => by
            rw [HN.out] at hvl
            obtain ⟨j1, j2, j3⟩ := hvl j hj
            refine ⟨j1, j2, fun e => ?_⟩
            obtain ⟨cs, hcs⟩ := own_tag hrow j hj
            rw [e, HF1.out] at hcs
            exact absurd (Obj.cells.inj (Option.some.inj hcs)).2.1 (by decide)
          have HZ1 : Hid (wr.heap.size < (wA.alloc (.cells #[.int .i64 (k : Int)] 3)).heap.size) := show wr.heap.size < (wA.alloc (.cells #[.int .i64 (k : Int)] 3)).heap.size by simp; omega
          clear lk lk0 x1 x2 F0 F1 F2 F3 hwA bA hzA hG hvl bI
          go_wp2_with (at_builtin; refine wpList_append_own_at _ rfl (.tmp 35) (.tmp 37) 32 rfl m 3 i0 _ 1 8 Tryz.underlying32 hi0 hz0 hz1 hz2 rfl (by decide) (.slice va nk vc) nk (ints (kidP l p k)) rfl hrow ⟨_, 0, none⟩ 1 1 [.int .i64 (k : Int)] rfl rfl (cell_one_new _ _ _) (fun u hu => by simp at hu; subst hu; rfl) ?_ ?_ ?_ ?_; exact (Nat.le_trans (m := 35184372088832) (by omega) (by decide)); omega; (simp; omega); intro v' w5 hown hgr _ hat; obtain ⟨va', vc', rfl⟩ := sl_shape hown; have hG5 := grown_block hgr HG1.out (fun e => Nat.lt_irrefl _ (HN8.out _ e.symm).1); have g50 := cells_at (k := 0) hG5 rfl; have g51 := cells_at (k := 1) hG5 rfl; have e50 := frozen_at (k := 0) hG5; have e51 := frozen_at (k := 1) hG5; have HG5 : Hid _ := hG5; have HO5 : Hid _ := hown; have HR5 : Hid _ := hgr; have HA5 : Hid _ := hat; clear hown hgr hat hG5)
          obtain ⟨w6, hw6⟩ : ∃ w6, w5.setCell ⟨wr.heap.size, 0, none⟩ (.slice va' (nk + 1) vc') = w6 := ⟨_, rfl⟩
          have hG6 : w6.heap[wr.heap.size]? = some (.cells #[.slice va' (nk + 1) vc', .int .u64 tg] 111 (0, 0)) := by
            rw [← hw6]
            exact heap_setCell_same _ _ 0 _ _ _ HG5.out
          have h8F : m + 1 < wr.heap.size := (Array.getElem?_eq_some_iff.1 HFF.out).1
          have hF6 : w6.heap[m + 1]? = some (.cells #[.slice (some ⟨g, o, none⟩) q c, .map (some m)] 105 (0, 0)) := by
            rw [← hw6]
            exact set_block (grown_block HR5.out HF1.out (fun e => (HN8.out _ e.symm).2.2 rfl)) (by omega)
          have B56 : Below m wr w6 := by
            rw [← hw6]
            exact (((HW1.out).mono (by omega)).trans (below_grown HR5.out (fun j hj => (HN8.out j hj).2.1) (by have := HZ1.out; omega))).setCell (by simp; omega) _
          have C56 : Chg (fun j => j = wr.heap.size) w5 w6 := by
            rw [← hw6]
            exact (Chg.refl _ _).setCell _ _ (.inl rfl)
          have HA6 : Hid (AcAt w6 g (o + k * 5) a) := (HAc.out k a HA.out).lo B56 HGm.out
          have hfs := fun x (hx : AcAt x g (o + k * 5) a) => fshares_any (c := c) (m := m) hx hkq (by omega) s1
          have g60 := cells_at (k := 0) hG6 rfl
          have g61 := cells_at (k := 1) hG6 rfl
          have e60 := frozen_at (k := 0) hG6
          have e61 := frozen_at (k := 1) hG6
          have q60 := cells_at (k := 0) hF6 rfl
          have q61 := cells_at (k := 1) hF6 rfl
          have hz6 : wr.heap.size < w6.heap.size := (Array.getElem?_eq_some_iff.1 hG6).1
          have et : IntKind.u64.wrap (tg + a.sh) = tg + a.sh := by
            have := HTG.out
            rw [IntKind.wrap_u64]
            omega
          have HG6 : Hid _ := hG6
          have HF6 : Hid _ := hF6
          have HB6 : Hid _ := B56
          have HC6 : Hid _ := C56
          have HZ6 : Hid _ := hz6
          clear g50 g51 e50 e51 g0 g1 e0 e1 hG6 hF6 B56 C56 hz6 hi0 hz0 hz1 hz2 hrow
          go_upto_region 10 with fail
          rw [hw6]
          clear hw6
          go_cut [8] (fun b wq => b = .pointer (some ⟨wr.heap.size, 0, none⟩) ∧ ∃ w7, Below w6.heap.size w6 w7 ∧ w7.setCell ⟨wr.heap.size, 1, none⟩ (.int .u64 (tg + a.sh)) = wq)
          case first =>
            go_region_with (go_at_call 70; refine (hfs _ (HA6.out.below (drew_below _))).mono ?_; rintro e x ⟨rfl, hx⟩; have y1 := keepC hx g61; have y2 := keepF hx g61 e61)
            all_goals
              go_wp2
              go_meet
              exact ⟨rfl, x, (drew_below w6).trans hx, rfl⟩
          case rest =>
            obtain ⟨rfl, w7, hw7, hw8⟩ := hcut
            clear g60 g61 e60 e61 q60 q61 hfs
            have hG7 := heap_keep hw7 HG6.out
            have hG8 : wc.heap[wr.heap.size]? = some (.cells #[.slice va' (nk + 1) vc', .int .u64 (tg + a.sh)] 111 (0, 0)) := by
              rw [← hw8]
              exact heap_setCell_same _ _ 1 _ _ _ hG7
            have h8F : m + 1 < wr.heap.size := (Array.getElem?_eq_some_iff.1 HFF.out).1
            have h8T : w.heap.size < wr.heap.size := (Array.getElem?_eq_some_iff.1 HTT.out).1
            have hF8 : wc.heap[m + 1]? = some (.cells #[.slice (some ⟨g, o, none⟩) q c, .map (some m)] 105 (0, 0)) := by
              rw [← hw8]
              exact set_block (heap_keep hw7 HF6.out) (by omega)
            have B68 : Below m wr wc := by
              rw [← hw8]
              exact (HB6.out.trans (hw7.mono (by have := HZ6.out; omega))).setCell (by simp; omega) _
            have C58 : Chg (fun j => j = wr.heap.size) w5 wc.drew := by
              rw [← hw8]
              exact (((HC6.out.trans (Chg.of_below hw7 (fun j => j = wr.heap.size)) (fun _ _ h => h)).setCell _ _ (.inl rfl))).drew
            obtain ⟨w9, hup, hbr9, hg9⟩ := HBR.out.step HWU.out.len (by rw [HQ.out]; exact hkq) HA.out HP.out HPq.out HW1.out (v' := .slice va' (nk + 1) vc') (by rw [HN.out]; exact HO5.out) (by rw [HV.out, HN.out]; exact HR5.out) (by rw [HV.out, HN.out]; exact HA5.out) C58 (Nat.le_refl _) HZ1.out
            rw [HTE.out] at hup
            have A8 := (HAc.out k a HA.out).lo B68 HGm.out
            have x8 := A8.pa
            rw [HP.out] at x8
            have g80 := cells_at (k := 0) hG8 rfl
            have g81 := cells_at (k := 1) hG8 rfl
            have q81 := cells_at (k := 1) hF8 rfl
            have hm9 := HBR.out.m_lt
            have B9 : Below m wr w9 := (B68.trans ((drew_below wc).mono (by have := B68.size; omega))).trans (below_grown hg9 (fun j hj => by have := Option.some.inj hj; omega) (by have := B68.size; simp; omega))
            have HF9 : Hid _ := grown_block hg9 (show wc.drew.heap[m + 1]? = _ from hF8) (by simp)
            have HT9 : Hid (w9.heap[w.heap.size]? = some (.cells #[.slice none 0 0, .map none] 105 (0, 0))) := (B9.block w.heap.size (by have := HM.out; omega)).trans HTT.out
            have HB9 : Hid (Below w.heap.size w w9) := HBB.out.trans (B9.mono (by have := HM.out; omega))
            have HA9 : Hid (∀ k a, l[k]? = some a → AcAt w9 g (o + k * 5) a) := fun i b hb => (HAc.out i b hb).lo B9 HGm.out
            have HBR9 : Hid _ := hbr9
            clear hG7 hG8 hF8 B68 C58 A8 hbr9 hg9 B9 hw7 hw8
            go_upto_region 11 with fail
            go_region
            go_wp2
            go_roundg (q + 1 - (k + 1))
            case measure => omega
            case rel => exact ⟨k + 1, _, by omega, by omega, by omega, rfl, HBR9.out, HF9.out, HT9.out, HB9.out, HA9.out⟩
      · obtain rfl : k = q := by omega
        have F0 := cells_at (k := 0) hF rfl
        have F1 := cells_at (k := 1) hF rfl
        have T0 := cells_at (k := 0) hT rfl
        have T1 := cells_at (k := 1) hT rfl
        have U0 := frozen_at (k := 0) hT
        have U1 := frozen_at (k := 1) hT
        have hbr := hbro
        rw [← HQ.out] at hbr
        have hne : w.heap.size ≠ m + 1 := by have := HM.out; omega
        have HBR : Hid (Bro ((wr.setCell ⟨w.heap.size, 0, none⟩ (.slice (some ⟨g, o, none⟩) k c)).setCell ⟨w.heap.size, 1, none⟩ (.map (some m))) w.heap.size m l l.length v) :=
          show Bro _ _ _ _ _ _ from (hbr.chg (K := fun j => j = w.heap.size) (((Chg.refl (fun j => j = w.heap.size) wr).setCell _ _ (.inl rfl)).setCell _ _ (.inl rfl)) (fun j hj => .inl (by have := HM.out; omega))).base (by have := HM.out; omega)
        have HBB : Hid _ := hB
        clear hF hT hbro hbr hB hAc hk0
        go_wp2
        refine bodyPost_ret (v := .tuple #[.agg #[.slice (some ⟨g, o, none⟩) k c, .map (some m)], .bool true]) (by simp [results, Tryz.results67, go_sem, *]) rfl ⟨fun _ => ⟨m, v, by rw [HQ.out], HBR.out⟩, fun h => absurd HE0.out h, ?_⟩
        exact (HBB.out.setCell (Nat.le_refl _) _).setCell (Nat.le_refl _) _
  · obtain ⟨er, her⟩ : ∃ er, loadE l = er := ⟨_, rfl⟩
    have HR : Hid (loadE l = er) := her
    rw [her] at hE
    have he' : (er == 0) = false := by simp [hE]
    have HZ : Hid (w0.heap.size = w.heap.size + 1) := z0
    clear hA hs hn hc her z0
    go_enter Tryz.func67, Tryz.ntmps67
    go_wp2_with fail
    refine hld.mono ?_
    rintro e w1 ⟨_, h2, hb1⟩
    obtain rfl := h2 (by rw [HR.out]; exact hE)
    rw [HR.out]
    have T1 := heap_keep hb1 hT0
    have c0 := cells_at (k := 0) T1 rfl
    have c1 := cells_at (k := 1) T1 rfl
    have f0 := frozen_at (k := 0) T1
    have f1 := frozen_at (k := 1) T1
    have B1 : Hid (Below w.heap.size w w1) := b0.trans (hb1.mono (by have := HZ.out; omega))
    clear T1 hT0 b0 hb1 h2 hld hA1
    go_wp2
    refine bodyPost_ret (v := .tuple #[.agg #[.slice none 0 0, .map none], .bool false]) (by simp [results, Tryz.results67, go_sem, *]) rfl ⟨fun h => ?_, fun _ => rfl, ?_⟩
    · exact absurd (HR.out.symm.trans h) hE
    · exact (B1.out.setCell (Nat.le_refl _) _).setCell (Nat.le_refl _) _
end Go.Proofs.YtjgllfpnmmopdaaGreatDoor
namespace Go.Proofs.YtjgllfpnmmopdaaGreatDoor
open Go.RowKit Wd Tr Go.Maps

namespace Tr
section
variable {l : List Ac} {n k k' j : Nat}
theorem Wu.below_kid (h : Wu l) (hk : k ∈ kidsV l n) (hj : j < l.length) (hb : Blw l k j) : Blw l n j ∧ j ≠ n := by
  have := Tr.below_kid h (by rw [kids_plain]; exact hk) (by rwa [List.length_map]) (blw_plain.2 hb)
  exact ⟨blw_plain.1 this.1, this.2⟩
theorem Wu.below_split (h : Wu l) (hj : j < l.length) (hb : Blw l n j) (hne : j ≠ n) : ∃ k, k ∈ kidsV l n ∧ Blw l k j := by
  obtain ⟨k, h1, h2⟩ := Tr.below_split h (by rwa [List.length_map]) (blw_plain.2 hb) hne
  exact ⟨k, by rw [kids_plain] at h1; exact h1, blw_plain.1 h2⟩
theorem Wu.below_one (h : Wu l) (hk : k ∈ kidsV l n) (hk' : k' ∈ kidsV l n) (hn : n < l.length) (hj : j < l.length) (hb : Blw l k j) (hb' : Blw l k' j) : k = k' :=
  Tr.below_one h (by rw [kids_plain]; exact hk) (by rw [kids_plain]; exact hk') (by rwa [List.length_map]) (by rwa [List.length_map]) (blw_plain.2 hb) (blw_plain.2 hb')
theorem Wu.below_root (h : Wu l) (hj : j < l.length) : Blw l 0 j := by
  obtain ⟨d, _, hd⟩ := h.deep hj
  have key : ∀ d j, Dep l d j → Blw l 0 j := fun d => by
    induction d with
    | zero => exact fun j hd => ⟨0, hd⟩
    | succ d ih => exact fun j hd => below_up hd.1 (ih _ hd.2)
  exact key d j hd
end
/-- What is done when j of p's children are done. -/
def DoneTo (l : List Ac) (p : Nat) (D : Nat → Prop) (j : Nat) : Nat → Prop := fun i => D i ∨ ∃ (m k : Nat), m < j ∧ (kidsV l p)[m]? = some k ∧ i < l.length ∧ Blw l k i
def DoneAll (l : List Ac) (p : Nat) (D : Nat → Prop) : Nat → Prop := fun i => D i ∨ (i < l.length ∧ Blw l p i ∧ i ≠ p)
section
variable {l : List Ac} {p j k : Nat} {D : Nat → Prop}
theorem done_start : DoneTo l p D 0 = D := by
  funext i
  apply propext
  exact ⟨fun h => h.elim id (fun ⟨m, k, hm, _⟩ => absurd hm (by omega)), .inl⟩
theorem done_end (h : Wu l) : DoneTo l p D (kidsV l p).length = DoneAll l p D := by
  funext i
  apply propext
  constructor
  · rintro (h1 | ⟨m, k, hm, hk, hi, hb⟩)
    · exact .inl h1
    · have := h.below_kid (List.mem_of_getElem? hk) hi hb
      exact .inr ⟨hi, this.1, this.2⟩
  · rintro (h1 | ⟨hi, hb, hne⟩)
    · exact .inl h1
    · obtain ⟨k, hk, hb⟩ := h.below_split hi hb hne
      obtain ⟨m, hm⟩ := List.getElem?_of_mem hk
      exact .inr ⟨m, k, (List.getElem?_eq_some_iff.1 hm).1, hm, hi, hb⟩
theorem kids_nodup (l : List Ac) (p : Nat) : (kidsV l p).Nodup := (range_nodup _).filter _
theorem done_not (h : Wu l) (hp : p < l.length) (hk : (kidsV l p)[j]? = some k) (hD : ∀ i, i < l.length → Blw l p i → i ≠ p → ¬ D i) {i : Nat} (hi : i < l.length) (hb : Blw l k i) : ¬ DoneTo l p D j i := by
  have hkm := List.mem_of_getElem? hk
  rintro (h1 | ⟨m, k', hm, hk', _, hb'⟩)
  · have := h.below_kid hkm hi hb
    exact hD i hi this.1 this.2 h1
  · have e := h.below_one hkm (List.mem_of_getElem? hk') hp hi hb hb'
    subst e
    have h1 := (List.getElem?_eq_some_iff.1 hk)
    have h2 := (List.getElem?_eq_some_iff.1 hk')
    obtain ⟨a1, a2⟩ := h1
    obtain ⟨b1, b2⟩ := h2
    exact (List.pairwise_iff_getElem.1 (kids_nodup l p)) m j b1 a1 hm (by rw [a2, b2])
theorem done_next (h : Wu l) (hk : (kidsV l p)[j]? = some k) : DoneAll l k (fun i => DoneTo l p D j i ∨ i = k) = DoneTo l p D (j + 1) := by
  have hkl := (h.kid (List.mem_of_getElem? hk)).2.1
  funext i
  apply propext
  constructor
  · rintro ((h1 | rfl) | ⟨hi, hb, _⟩)
    · rcases h1 with h1 | ⟨m, k', hm, r⟩
      · exact .inl h1
      · exact .inr ⟨m, k', by omega, r⟩
    · exact .inr ⟨j, i, by omega, hk, hkl, below_self l i⟩
    · exact .inr ⟨j, k, by omega, hk, hi, hb⟩
  · rintro (h1 | ⟨m, k', hm, hk', hi, hb⟩)
    · exact .inl (.inl (.inl h1))
    · by_cases e : m = j
      · subst e
        rw [hk] at hk'
        cases hk'
        by_cases e2 : i = k
        · exact .inl (.inr e2)
        · exact .inr ⟨hi, hb, e2⟩
      · exact .inl (.inl (.inr ⟨m, k', by omega, hk', hi, hb⟩))
end
end Tr
theorem fld0 (a b : Value) (w : World) : (Instr.field 111 (.agg #[a, b]) 0).run Tryz.prog w = .ok a w := by
  simp [Instr.field, run_underlying Tryz.underlying111, asAgg, part, isAgg, run_underlying Tryz.underlying32]
theorem fld1 (a b : Value) (w : World) : (Instr.field 111 (.agg #[a, b]) 1).run Tryz.prog w = .ok b w := by
  simp [Instr.field, run_underlying Tryz.underlying111, asAgg, part, isAgg, run_underlying Tryz.underlying29]
theorem ints_cell {W : World} {B n : Nat} {v : Value} {ks : List Nat} (h : W.ownsRow B 3 1 v n (ints ks)) {j k : Nat} (hk : ks[j]? = some k) : ∃ b c, v = .slice (some ⟨b, 0, none⟩) n c ∧ W.cell? ⟨b, j, none⟩ = some (.int .i64 (k : Int)) := by
  have hx : (ints ks)[j]? = some (.int .i64 (k : Int)) := by simp [ints, hk]
  rcases h.2 with ⟨_, h0⟩ | ⟨g, cap, cur, e, _, hh, _, _, _, ht⟩
  · have := h.1
    rw [h0] at this
    have := List.eq_nil_of_length_eq_zero (by simpa using this : (ints ks).length = 0)
    rw [this] at hx
    cases hx
  · refine ⟨g, cap, e, cells_at hh ?_⟩
    rw [← ht] at hx
    rw [List.getElem?_take] at hx
    split at hx
    · simpa using hx
    · cases hx

set_option maxHeartbeats 1000000 in
set_option maxRecDepth 20000 in
theorem below_sh {WF : World} {B m fa va ba g1 g2 g3 : Nat} {l : List Ac} {v : Nat → Value} {K : Nat → Prop} {Inv : (Nat → Prop) → World → Prop} (hwu : Wu l) (hbr : ∀ x, Chg K WF x → Bro x B m l l.length v)
    (kf : ¬ K fa) (kv : ¬ K va) (kb : ¬ K ba)
    (hvis : ∀ (D : Nat → Prop) (k : Nat) (w : World), Inv D w → k ≠ 0 → k < l.length → D (up l k) → ¬ D k → Calls Tryz.prog 69 #[.int .i64 (k : Int), .int .i64 (up l k : Nat), .pointer (some ⟨g1, 0, none⟩), .pointer (some ⟨g2, 0, none⟩), .pointer (some ⟨g3, 0, none⟩)] w fun e w' => e = .returned (.tuple #[]) ∧ Inv (fun j => D j ∨ j = k) w' ∧ Chg K w w') :
    ∀ (f : Nat) {p d : Nat} {D : Nat → Prop} {w : World}, Chg K WF w → w.cell? ⟨fa, 1, none⟩ = some (.map (some m)) → w.cell? ⟨va, 0, none⟩ = some (.func (.func 69) #[] #[.pointer (some ⟨g1, 0, none⟩), .pointer (some ⟨g2, 0, none⟩), .pointer (some ⟨g3, 0, none⟩)]) →
      w.cell? ⟨ba, 0, none⟩ = some (.func (.func 95) #[] #[.pointer (some ⟨fa, 0, none⟩), .pointer (some ⟨va, 0, none⟩), .pointer (some ⟨ba, 0, none⟩)]) →
      Inv D w → p < l.length → Dep l d p → 4 < d + f → D p → (∀ i, i < l.length → Blw l p i → i ≠ p → ¬ D i) →
      Calls Tryz.prog 95 #[.int .i64 (p : Int), .pointer (some ⟨fa, 0, none⟩), .pointer (some ⟨va, 0, none⟩), .pointer (some ⟨ba, 0, none⟩)] w fun e w' => e = .returned (.tuple #[]) ∧ Inv (DoneAll l p D) w' ∧ Chg K w w' := by
  intro f
  induction f with
  | zero =>
    intro p d D w _ _ _ _ _ hp hd hf
    obtain ⟨e, h1, h2⟩ := hwu.deep hp
    have := dep_uniq hd h2
    omega
  | succ f ih =>
    intro p d D w hbel c1 cv cb hinv hp hd hf hDp hDn
    have hb0 := hbr w hbel
    have hlk := hb0.look hwu.len hp
    obtain ⟨sa, sc, hv⟩ := sl_shape (hb0.row p hp)
    rw [hv] at hlk
    have HDE : Hid (DoneTo l p D (kidP l p l.length).length = DoneAll l p D) := done_end hwu
    have HPL : Hid ((kidP l p l.length).length = (kidsV l p).length) := rfl
    obtain ⟨nk, hnk⟩ : ∃ nk, (kidP l p l.length).length = nk := ⟨_, rfl⟩
    have hnk64 : nk ≤ 64 := by have := kidP_le l p l.length; have := hwu.len; omega
    rw [hnk] at hlk
    have HNK : Hid _ := hnk
    have HW : Hid (Wu l) := hwu
    have HV : Hid _ := hv
    have HVIS : Hid _ := hvis
    have HIH : Hid _ := @ih
    have HBRO : Hid (∀ x, Chg K WF x → Bro x B m l l.length v) := hbr
    have HBEL : Hid _ := hbel
    have HINV : Hid _ := hinv
    have HDp : Hid _ := hDp
    have HDn : Hid _ := hDn
    have HC : Hid (w.cell? ⟨fa, 1, none⟩ = some (.map (some m)) ∧ w.cell? ⟨va, 0, none⟩ = some (.func (.func 69) #[] #[.pointer (some ⟨g1, 0, none⟩), .pointer (some ⟨g2, 0, none⟩), .pointer (some ⟨g3, 0, none⟩)]) ∧ w.cell? ⟨ba, 0, none⟩ = some (.func (.func 95) #[] #[.pointer (some ⟨fa, 0, none⟩), .pointer (some ⟨va, 0, none⟩), .pointer (some ⟨ba, 0, none⟩)])) := ⟨c1, cv, cb⟩
    have HPp : Hid (p < l.length) := hp
    have HDD : Hid (Dep l d p) := hd
    have HF : Hid _ := hf
    clear hbel hinv hDp hDn hvis ih hb0 hv hnk cv cb hp hd hf hwu hbr
    generalize togN l (↑p) l.length = tg at *
    have hfl := fld0 (.slice sa nk sc) (.int .u64 tg)
    go_enter Tryz.func95, Tryz.ntmps95
    go_wp2
    go_loopg [13] nk (fun gk x wr => ∃ j : Nat, j + gk = nk ∧ x = .int .i64 j ∧ Inv (DoneTo l p D j) wr ∧ Chg K w wr)
    case atStart => exact ⟨0, by omega, rfl, by rw [done_start]; exact HINV.out, Chg.refl _ _⟩
    case round =>
      obtain ⟨j, hj, rfl, hi, hch⟩ := hrel
      by_cases hlt : j < nk
      · have hlt' : (j : Int) < nk := by omega
        obtain ⟨k, hk⟩ : ∃ k, (kidsV l p)[j]? = some k := ⟨_, List.getElem?_eq_getElem (by rw [← HPL.out, HNK.out]; exact hlt)⟩
        have hkm := List.mem_of_getElem? hk
        obtain ⟨hk0, hkl, hku⟩ := HW.out.kid hkm
        have B1 : Chg K WF wr := HBEL.out.trans hch (fun _ _ h => h)
        obtain ⟨b, c, hvv, hcell⟩ := ints_cell ((HBRO.out wr B1).row p HPp.out) (j := j) (k := k) hk
        rw [HV.out, HNK.out] at hvv
        obtain ⟨rfl, rfl⟩ : sa = some ⟨b, 0, none⟩ ∧ sc = c := by
          have := Value.slice.inj hvv
          exact ⟨this.1, this.2.2⟩
        have cv := hch.cell HC.out.2.1 kv
        have cb := hch.cell HC.out.2.2 kb
        have c1' := hch.cell HC.out.1 kf
        have hnd : ∀ i, i < l.length → Blw l k i → ¬ DoneTo l p D j i := fun i hi hb => done_not HW.out HPp.out hk HDn.out hi hb
        have hv1 := HVIS.out (DoneTo l p D j) k wr hi hk0 hkl (by rw [hku]; exact .inl HDp.out) (hnd k hkl (below_self l k))
        rw [hku] at hv1
        have HB2 : Hid (∀ x, Inv (fun i => DoneTo l p D j i ∨ i = k) x → Chg K wr x → Calls Tryz.prog 95 #[.int .i64 (k : Int), .pointer (some ⟨fa, 0, none⟩), .pointer (some ⟨va, 0, none⟩), .pointer (some ⟨ba, 0, none⟩)] x fun e w' => e = .returned (.tuple #[]) ∧ Inv (DoneAll l k (fun i => DoneTo l p D j i ∨ i = k)) w' ∧ Chg K x w') := fun x hx hcx =>
          HIH.out (d := d + 1) (B1.trans hcx (fun _ _ h => h)) (hcx.cell c1' kf) (hcx.cell cv kv) (hcx.cell cb kb) hx hkl (HW.out.kid_dep hkm HDD.out) (by have := HF.out; omega) (.inr rfl) (fun i hi hb hne h => h.elim (hnd i hi hb) hne)
        have HCB : Hid _ := cb
        have HN : Hid (DoneAll l k (fun i => DoneTo l p D j i ∨ i = k) = DoneTo l p D (j + 1)) := done_next HW.out hk
        have HCH : Hid _ := hch
        clear hi hch hk hkm hk0 hkl hku B1 hvv hnd cb c1'
        go_wp2_with fail
        refine hv1.mono ?_
        rintro e w1 ⟨rfl, hi1, hc1⟩
        have cb1 := hc1.cell HCB.out kb
        have hv2 := HB2.out w1 hi1 hc1
        have HC1 : Hid _ := hc1
        clear hv1 hi1 hc1
        go_wp2_with fail
        refine hv2.mono ?_
        rintro e w2 ⟨rfl, hi2, hc2⟩
        rw [HN.out] at hi2
        have HI2 : Hid _ := hi2
        have HC2 : Hid (Chg K w w2) := (HCH.out.trans HC1.out (fun _ _ h => h)).trans hc2 (fun _ _ h => h)
        clear hv2 hi2 hc2 cv cb1 hcell
        go_wp2
        go_roundg (nk - (j + 1))
        case measure => omega
        case rel => exact ⟨j + 1, by omega, rfl, HI2.out, HC2.out⟩
      · obtain rfl : j = nk := by omega
        have HI : Hid (Inv (DoneAll l p D) wr) := show Inv (DoneAll l p D) wr by rw [← HDE.out, HNK.out]; exact hi
        have HCH : Hid _ := hch
        clear hi hch
        go_wp2
        go_end0
        exact ⟨rfl, HI.out, HCH.out⟩
set_option maxHeartbeats 1000000 in
set_option maxRecDepth 20000 in
theorem down_sh {WF w : World} {B m L c g1 g2 g3 : Nat} {ao : Option Addr} {l : List Ac} {v : Nat → Value} {K : Nat → Prop} {Inv : (Nat → Prop) → World → Prop} (hwu : Wu l) (hbr : ∀ x, Chg K WF x → Bro x B m l l.length v)
    (kl : ∀ j, K j → j < w.heap.size) (hbel : Chg K WF w) (hst : ∀ D x y, Inv D x → Below x.heap.size x y → Inv D y)
    (hvis : ∀ (D : Nat → Prop) (k : Nat) (w : World), Inv D w → k ≠ 0 → k < l.length → D (up l k) → ¬ D k → Calls Tryz.prog 69 #[.int .i64 (k : Int), .int .i64 (up l k : Nat), .pointer (some ⟨g1, 0, none⟩), .pointer (some ⟨g2, 0, none⟩), .pointer (some ⟨g3, 0, none⟩)] w fun e w' => e = .returned (.tuple #[]) ∧ Inv (fun j => D j ∨ j = k) w' ∧ Chg K w w')
    (hinv : Inv (fun j => j = 0) w) :
    Calls Tryz.prog 68 #[.agg #[.slice ao L c, .map (some m)], .func (.func 69) #[] #[.pointer (some ⟨g1, 0, none⟩), .pointer (some ⟨g2, 0, none⟩), .pointer (some ⟨g3, 0, none⟩)]] w fun e w' => e = .returned (.tuple #[]) ∧ Inv (fun j => j < l.length) w' ∧ Chg K w w' := by
  have hD : DoneAll l 0 (fun j => j = 0) = fun j => j < l.length := by
    funext i
    apply propext
    constructor
    · rintro (rfl | ⟨hi, _⟩)
      · exact hwu.pos
      · exact hi
    · intro hi
      by_cases e : i = 0
      · exact .inl e
      · exact .inr ⟨hi, hwu.below_root hi, e⟩
  have hmf : ∀ (fn : Fn) (first cap : Array Value) (w : World), (Instr.makeFunc fn first cap).run Tryz.prog w = .ok (.func fn first cap) w := fun _ _ _ _ => rfl
  obtain ⟨w3, hw3⟩ : ∃ w3, ((w.alloc (.cells #[.slice ao L c, .map (some m)] 105)).alloc (.cells #[.func (.func 69) #[] #[.pointer (some ⟨g1, 0, none⟩), .pointer (some ⟨g2, 0, none⟩), .pointer (some ⟨g3, 0, none⟩)]] 112)).alloc (.cells #[.func (.func 95) #[] #[.pointer (some ⟨w.heap.size, 0, none⟩), .pointer (some ⟨w.heap.size + 1, 0, none⟩), .pointer (some ⟨w.heap.size + 1 + 1, 0, none⟩)]] 142) = w3 := ⟨_, rfl⟩
  have b3 : Below w.heap.size w w3 := by rw [← hw3]; exact (((Below.refl _ _).alloc (Nat.le_refl _) _).alloc (by simp) _).alloc (by simp; omega) _
  have q1 : w3.cell? ⟨w.heap.size, 1, none⟩ = some (.map (some m)) := by rw [← hw3]; simp [go_sem]
  have q2 : w3.cell? ⟨w.heap.size + 1, 0, none⟩ = some (.func (.func 69) #[] #[.pointer (some ⟨g1, 0, none⟩), .pointer (some ⟨g2, 0, none⟩), .pointer (some ⟨g3, 0, none⟩)]) := by rw [← hw3]; simp [go_sem]
  have q3 : w3.cell? ⟨w.heap.size + 1 + 1, 0, none⟩ = some (.func (.func 95) #[] #[.pointer (some ⟨w.heap.size, 0, none⟩), .pointer (some ⟨w.heap.size + 1, 0, none⟩), .pointer (some ⟨w.heap.size + 1 + 1, 0, none⟩)]) := by rw [← hw3]; simp [go_sem]
  have hb := below_sh (fa := w.heap.size) (va := w.heap.size + 1) (ba := w.heap.size + 1 + 1) (WF := WF) (K := K) (Inv := Inv) hwu hbr (fun h => by have := kl _ h; omega) (fun h => by have := kl _ h; omega) (fun h => by have := kl _ h; omega) hvis 5 (p := 0) (d := 0) (D := fun j => j = 0) (w := w3)
    (hbel.trans (Chg.of_below b3 K) (fun _ _ h => h)) q1 q2 q3 (hst _ _ _ hinv b3) hwu.pos rfl (by omega) rfl (fun i _ _ hne => hne)
  rw [hD] at hb
  have HB : Hid (Below w.heap.size w w3) := b3
  have HK : Hid _ := kl
  clear hvis hinv hst hbel kl hwu hbr hD b3 q1 q2
  go_enter Tryz.func68, Tryz.ntmps68
  go_wp2_with fail
  refine hb.mono ?_
  rintro e w4 ⟨rfl, hi, hc⟩
  have HI : Hid _ := hi
  have HC : Hid (Chg K w w4) := (Chg.of_below HB.out K).trans hc (fun _ _ h => h)
  clear hi hc q3
  go_wp2
  go_end0
  exact ⟨rfl, HI.out, HC.out⟩

set_option maxHeartbeats 1000000 in
set_option maxRecDepth 20000 in
theorem below_ef {WF : World} {B m fa va ba g1 g2 : Nat} {l : List Ac} {v : Nat → Value} {K : Nat → Prop} {Inv : (Nat → Prop) → World → Prop} (hwu : Wu l) (hbr : ∀ x, Chg K WF x → Bro x B m l l.length v)
    (kf : ¬ K fa) (kv : ¬ K va) (kb : ¬ K ba)
    (hvis : ∀ (D : Nat → Prop) (k : Nat) (w : World), Inv D w → k ≠ 0 → k < l.length → D (up l k) → ¬ D k → Calls Tryz.prog 73 #[.int .i64 (k : Int), .int .i64 (up l k : Nat), .pointer (some ⟨g1, 0, none⟩), .pointer (some ⟨g2, 0, none⟩)] w fun e w' => e = .returned (.tuple #[]) ∧ Inv (fun j => D j ∨ j = k) w' ∧ Chg K w w') :
    ∀ (f : Nat) {p d : Nat} {D : Nat → Prop} {w : World}, Chg K WF w → w.cell? ⟨fa, 1, none⟩ = some (.map (some m)) → w.cell? ⟨va, 0, none⟩ = some (.func (.func 73) #[] #[.pointer (some ⟨g1, 0, none⟩), .pointer (some ⟨g2, 0, none⟩)]) →
      w.cell? ⟨ba, 0, none⟩ = some (.func (.func 95) #[] #[.pointer (some ⟨fa, 0, none⟩), .pointer (some ⟨va, 0, none⟩), .pointer (some ⟨ba, 0, none⟩)]) →
      Inv D w → p < l.length → Dep l d p → 4 < d + f → D p → (∀ i, i < l.length → Blw l p i → i ≠ p → ¬ D i) →
      Calls Tryz.prog 95 #[.int .i64 (p : Int), .pointer (some ⟨fa, 0, none⟩), .pointer (some ⟨va, 0, none⟩), .pointer (some ⟨ba, 0, none⟩)] w fun e w' => e = .returned (.tuple #[]) ∧ Inv (DoneAll l p D) w' ∧ Chg K w w' := by
  intro f
  induction f with
  | zero =>
    intro p d D w _ _ _ _ _ hp hd hf
    obtain ⟨e, h1, h2⟩ := hwu.deep hp
    have := dep_uniq hd h2
    omega
  | succ f ih =>
    intro p d D w hbel c1 cv cb hinv hp hd hf hDp hDn
    have hb0 := hbr w hbel
    have hlk := hb0.look hwu.len hp
    obtain ⟨sa, sc, hv⟩ := sl_shape (hb0.row p hp)
    rw [hv] at hlk
    have HDE : Hid (DoneTo l p D (kidP l p l.length).length = DoneAll l p D) := done_end hwu
    have HPL : Hid ((kidP l p l.length).length = (kidsV l p).length) := rfl
    obtain ⟨nk, hnk⟩ : ∃ nk, (kidP l p l.length).length = nk := ⟨_, rfl⟩
    have hnk64 : nk ≤ 64 := by have := kidP_le l p l.length; have := hwu.len; omega
    rw [hnk] at hlk
    have HNK : Hid _ := hnk
    have HW : Hid (Wu l) := hwu
    have HV : Hid _ := hv
    have HVIS : Hid _ := hvis
    have HIH : Hid _ := @ih
    have HBRO : Hid (∀ x, Chg K WF x → Bro x B m l l.length v) := hbr
    have HBEL : Hid _ := hbel
    have HINV : Hid _ := hinv
    have HDp : Hid _ := hDp
    have HDn : Hid _ := hDn
    have HC : Hid (w.cell? ⟨fa, 1, none⟩ = some (.map (some m)) ∧ w.cell? ⟨va, 0, none⟩ = some (.func (.func 73) #[] #[.pointer (some ⟨g1, 0, none⟩), .pointer (some ⟨g2, 0, none⟩)]) ∧ w.cell? ⟨ba, 0, none⟩ = some (.func (.func 95) #[] #[.pointer (some ⟨fa, 0, none⟩), .pointer (some ⟨va, 0, none⟩), .pointer (some ⟨ba, 0, none⟩)])) := ⟨c1, cv, cb⟩
    have HPp : Hid (p < l.length) := hp
    have HDD : Hid (Dep l d p) := hd
    have HF : Hid _ := hf
    clear hbel hinv hDp hDn hvis ih hb0 hv hnk cv cb hp hd hf hwu hbr
    generalize togN l (↑p) l.length = tg at *
    have hfl := fld0 (.slice sa nk sc) (.int .u64 tg)
    go_enter Tryz.func95, Tryz.ntmps95
    go_wp2
    go_loopg [13] nk (fun gk x wr => ∃ j : Nat, j + gk = nk ∧ x = .int .i64 j ∧ Inv (DoneTo l p D j) wr ∧ Chg K w wr)
    case atStart => exact ⟨0, by omega, rfl, by rw [done_start]; exact HINV.out, Chg.refl _ _⟩
    case round =>
      obtain ⟨j, hj, rfl, hi, hch⟩ := hrel
      by_cases hlt : j < nk
      · have hlt' : (j : Int) < nk := by omega
        obtain ⟨k, hk⟩ : ∃ k, (kidsV l p)[j]? = some k := ⟨_, List.getElem?_eq_getElem (by rw [← HPL.out, HNK.out]; exact hlt)⟩
        have hkm := List.mem_of_getElem? hk
        obtain ⟨hk0, hkl, hku⟩ := HW.out.kid hkm
        have B1 : Chg K WF wr := HBEL.out.trans hch (fun _ _ h => h)
        obtain ⟨b, c, hvv, hcell⟩ := ints_cell ((HBRO.out wr B1).row p HPp.out) (j := j) (k := k) hk
        rw [HV.out, HNK.out] at hvv
        obtain ⟨rfl, rfl⟩ : sa = some ⟨b, 0, none⟩ ∧ sc = c := by
          have := Value.slice.inj hvv
          exact ⟨this.1, this.2.2⟩
        have cv := hch.cell HC.out.2.1 kv
        have cb := hch.cell HC.out.2.2 kb
        have c1' := hch.cell HC.out.1 kf
        have hnd : ∀ i, i < l.length → Blw l k i → ¬ DoneTo l p D j i := fun i hi hb => done_not HW.out HPp.out hk HDn.out hi hb
        have hv1 := HVIS.out (DoneTo l p D j) k wr hi hk0 hkl (by rw [hku]; exact .inl HDp.out) (hnd k hkl (below_self l k))
        rw [hku] at hv1
        have HB2 : Hid (∀ x, Inv (fun i => DoneTo l p D j i ∨ i = k) x → Chg K wr x → Calls Tryz.prog 95 #[.int .i64 (k : Int), .pointer (some ⟨fa, 0, none⟩), .pointer (some ⟨va, 0, none⟩), .pointer (some ⟨ba, 0, none⟩)] x fun e w' => e = .returned (.tuple #[]) ∧ Inv (DoneAll l k (fun i => DoneTo l p D j i ∨ i = k)) w' ∧ Chg K x w') := fun x hx hcx =>
          HIH.out (d := d + 1) (B1.trans hcx (fun _ _ h => h)) (hcx.cell c1' kf) (hcx.cell cv kv) (hcx.cell cb kb) hx hkl (HW.out.kid_dep hkm HDD.out) (by have := HF.out; omega) (.inr rfl) (fun i hi hb hne h => h.elim (hnd i hi hb) hne)
        have HCB : Hid _ := cb
        have HN : Hid (DoneAll l k (fun i => DoneTo l p D j i ∨ i = k) = DoneTo l p D (j + 1)) := done_next HW.out hk
        have HCH : Hid _ := hch
        clear hi hch hk hkm hk0 hkl hku B1 hvv hnd cb c1'
        go_wp2_with fail
        refine hv1.mono ?_
        rintro e w1 ⟨rfl, hi1, hc1⟩
        have cb1 := hc1.cell HCB.out kb
        have hv2 := HB2.out w1 hi1 hc1
        have HC1 : Hid _ := hc1
        clear hv1 hi1 hc1
        go_wp2_with fail
        refine hv2.mono ?_
        rintro e w2 ⟨rfl, hi2, hc2⟩
        rw [HN.out] at hi2
        have HI2 : Hid _ := hi2
        have HC2 : Hid (Chg K w w2) := (HCH.out.trans HC1.out (fun _ _ h => h)).trans hc2 (fun _ _ h => h)
        clear hv2 hi2 hc2 cv cb1 hcell
        go_wp2
        go_roundg (nk - (j + 1))
        case measure => omega
        case rel => exact ⟨j + 1, by omega, rfl, HI2.out, HC2.out⟩
      · obtain rfl : j = nk := by omega
        have HI : Hid (Inv (DoneAll l p D) wr) := show Inv (DoneAll l p D) wr by rw [← HDE.out, HNK.out]; exact hi
        have HCH : Hid _ := hch
        clear hi hch
        go_wp2
        go_end0
        exact ⟨rfl, HI.out, HCH.out⟩
set_option maxHeartbeats 1000000 in
set_option maxRecDepth 20000 in
theorem down_ef {WF w : World} {B m L c g1 g2 : Nat} {ao : Option Addr} {l : List Ac} {v : Nat → Value} {K : Nat → Prop} {Inv : (Nat → Prop) → World → Prop} (hwu : Wu l) (hbr : ∀ x, Chg K WF x → Bro x B m l l.length v)
    (kl : ∀ j, K j → j < w.heap.size) (hbel : Chg K WF w) (hst : ∀ D x y, Inv D x → Below x.heap.size x y → Inv D y)
    (hvis : ∀ (D : Nat → Prop) (k : Nat) (w : World), Inv D w → k ≠ 0 → k < l.length → D (up l k) → ¬ D k → Calls Tryz.prog 73 #[.int .i64 (k : Int), .int .i64 (up l k : Nat), .pointer (some ⟨g1, 0, none⟩), .pointer (some ⟨g2, 0, none⟩)] w fun e w' => e = .returned (.tuple #[]) ∧ Inv (fun j => D j ∨ j = k) w' ∧ Chg K w w')
    (hinv : Inv (fun j => j = 0) w) :
    Calls Tryz.prog 68 #[.agg #[.slice ao L c, .map (some m)], .func (.func 73) #[] #[.pointer (some ⟨g1, 0, none⟩), .pointer (some ⟨g2, 0, none⟩)]] w fun e w' => e = .returned (.tuple #[]) ∧ Inv (fun j => j < l.length) w' ∧ Chg K w w' := by
  have hD : DoneAll l 0 (fun j => j = 0) = fun j => j < l.length := by
    funext i
    apply propext
    constructor
    · rintro (rfl | ⟨hi, _⟩)
      · exact hwu.pos
      · exact hi
    · intro hi
      by_cases e : i = 0
      · exact .inl e
      · exact .inr ⟨hi, hwu.below_root hi, e⟩
  have hmf : ∀ (fn : Fn) (first cap : Array Value) (w : World), (Instr.makeFunc fn first cap).run Tryz.prog w = .ok (.func fn first cap) w := fun _ _ _ _ => rfl
  obtain ⟨w3, hw3⟩ : ∃ w3, ((w.alloc (.cells #[.slice ao L c, .map (some m)] 105)).alloc (.cells #[.func (.func 73) #[] #[.pointer (some ⟨g1, 0, none⟩), .pointer (some ⟨g2, 0, none⟩)]] 112)).alloc (.cells #[.func (.func 95) #[] #[.pointer (some ⟨w.heap.size, 0, none⟩), .pointer (some ⟨w.heap.size + 1, 0, none⟩), .pointer (some ⟨w.heap.size + 1 + 1, 0, none⟩)]] 142) = w3 := ⟨_, rfl⟩
  have b3 : Below w.heap.size w w3 := by rw [← hw3]; exact (((Below.refl _ _).alloc (Nat.le_refl _) _).alloc (by simp) _).alloc (by simp; omega) _
  have q1 : w3.cell? ⟨w.heap.size, 1, none⟩ = some (.map (some m)) := by rw [← hw3]; simp [go_sem]
  have q2 : w3.cell? ⟨w.heap.size + 1, 0, none⟩ = some (.func (.func 73) #[] #[.pointer (some ⟨g1, 0, none⟩), .pointer (some ⟨g2, 0, none⟩)]) := by rw [← hw3]; simp [go_sem]
  have q3 : w3.cell? ⟨w.heap.size + 1 + 1, 0, none⟩ = some (.func (.func 95) #[] #[.pointer (some ⟨w.heap.size, 0, none⟩), .pointer (some ⟨w.heap.size + 1, 0, none⟩), .pointer (some ⟨w.heap.size + 1 + 1, 0, none⟩)]) := by rw [← hw3]; simp [go_sem]
  have hb := below_ef (fa := w.heap.size) (va := w.heap.size + 1) (ba := w.heap.size + 1 + 1) (WF := WF) (K := K) (Inv := Inv) hwu hbr (fun h => by have := kl _ h; omega) (fun h => by have := kl _ h; omega) (fun h => by have := kl _ h; omega) hvis 5 (p := 0) (d := 0) (D := fun j => j = 0) (w := w3)
    (hbel.trans (Chg.of_below b3 K) (fun _ _ h => h)) q1 q2 q3 (hst _ _ _ hinv b3) hwu.pos rfl (by omega) rfl (fun i _ _ hne => hne)
  rw [hD] at hb
  have HB : Hid (Below w.heap.size w w3) := b3
  have HK : Hid _ := kl
  clear hvis hinv hst hbel kl hwu hbr hD b3 q1 q2
  go_enter Tryz.func68, Tryz.ntmps68
  go_wp2_with fail
  refine hb.mono ?_
  rintro e w4 ⟨rfl, hi, hc⟩
  have HI : Hid _ := hi
  have HC : Hid (Chg K w w4) := (Chg.of_below HB.out K).trans hc (fun _ _ h => h)
  clear hi hc q3
  go_wp2
  go_end0
  exact ⟨rfl, HI.out, HC.out⟩
end Go.Proofs.YtjgllfpnmmopdaaGreatDoor
namespace Go.Proofs.YtjgllfpnmmopdaaGreatDoor
open Go

section
variable {P : Program} {ops : Array Oper} {Q : Exit → Act → World → Prop} {md : Region.Mode} {S : World → Prop} {L : Nat}
def wpLast (P : Program) (md : Region.Mode) (ops : Array Oper) (Q : Exit → Act → World → Prop) (S : World → Prop) (L : Nat) : Nat → Array Bool → Act → World → Prop
  | 0, listed, a, w => Region.ready md ops listed = [] ∧ Q .normal a w
  | fuel + 1, listed, a, w => (Region.ready md ops listed = [] → Q .normal a w) ∧ ∀ i ∈ Region.ready md ops listed, wpOp P ops Q i (fun a' w' => (i ≠ L → S w') ∧ wpLast P md ops Q S L fuel (listed.setIfInBounds i true) a' w') a w
theorem any_of_last : ∀ (fuel : Nat) (listed : Array Bool) (a : Act) (w : World), wpLast P md ops Q S L fuel listed a w → wpAny P md ops Q fuel listed a w
  | 0, _, _, _, h => h
  | fuel + 1, _, _, _, h => ⟨h.1, fun i hi => wpOp_mono (fun a' w' h' => any_of_last fuel _ a' w' h'.2) (h.2 i hi)⟩
theorem last_first {i : Nat} {oi : Oper} {v : Value} (hi : ops[i]? = some oi) (hsel : ∀ (j : Nat) (o : Oper) cs b, ops[j]? = some o → o.op ≠ .select cs b) (hQ : ∀ c a w, Q (.panic c) (a.put oi.dst v) w → Q (.panic c) a w)
    (hL : Region.waitsFor md ops L i = true) :
    ∀ (fuel : Nat) (listed : Array Bool) (a : Act) (w : World),
      (∀ j oj, ops[j]? = some oj → j ≠ i → listed.getD j true = false → (∀ e ∈ oj.after, Region.binds md e = true → e.on ≠ i) → oi.apart ops oj = true) →
      i ∈ Region.ready md ops listed → YieldsIf P ops S oi v a → S w →
      wpLast P md ops Q S L fuel (listed.setIfInBounds i true) (a.put oi.dst v) w → wpLast P md ops Q S L (fuel + 1) listed a w := by
  intro fuel
  induction fuel with
  | zero =>
    intro listed a w _ hr hy hS H
    refine ⟨fun h => (by rw [h] at hr; cases hr), fun j hj => ?_⟩
    by_cases hji : j = i
    · subst hji
      exact hy.wpOp hi hS ⟨fun _ => hS, H⟩
    · have := ready_mono hj hji
      rw [H.1] at this
      cases this
  | succ fuel ih =>
    intro listed a w hfree hr hy hS H
    refine ⟨fun h => (by rw [h] at hr; cases hr), fun j hj => ?_⟩
    by_cases hji : j = i
    · subst hji
      exact hy.wpOp hi hS ⟨fun _ => hS, H⟩
    · obtain ⟨hjun, oj, hoj, hall⟩ := mem_ready.1 hj
      have hnot : ∀ e ∈ oj.after, Region.binds md e = true → e.on ≠ i := fun e he hb heq => by
        have h1 := hall e he hb
        have h0 := (mem_ready.1 hr).1
        rw [heq] at h1
        rcases Nat.lt_or_ge i listed.size with h' | h'
        · simp [h'] at h0 h1; rw [h0] at h1; cases h1
        · simp [Array.getElem?_eq_none h'] at h1
      have hjL : j ≠ L := fun e => by
        subst e
        obtain ⟨oL, h1, e, he, hb, hon⟩ := Region.waitsFor_spec hL
        rw [hoj] at h1
        cases h1
        exact hnot e he hb hon
      have h1 := H.2 j (ready_mono hj hji)
      have h2 := wpOp_putIf hoj (hfree j oj hoj hji hjun hnot) (fun cs b => hsel i oi cs b hi) (fun cs b => hsel j oj cs b hoj) hQ hy h1
      have hfree' : ∀ k ok, ops[k]? = some ok → k ≠ i → (listed.setIfInBounds j true).getD k true = false → (∀ e ∈ ok.after, Region.binds md e = true → e.on ≠ i) → oi.apart ops ok = true := fun k ok hk hki hun hno => by
        refine hfree k ok hk hki ?_ hno
        by_cases hjk : j = k
        · subst hjk; exact hjun
        · rw [getD_set_ne true hjk] at hun; exact hun
      refine wpOp_mono (fun a' w' h3 => ⟨fun _ => h3.2.1 hjL, ih (listed.setIfInBounds j true) a' w' hfree' (ready_mono hr (Ne.symm hji)) h3.1 (h3.2.1 hjL) ?_⟩) h2
      rw [Array.setIfInBounds_comm _ _ hji]
      exact h3.2.2
theorem last_take {i d : Nat} {oi : Oper} {v : Value} {fuel : Nat} {listed : Array Bool} {a : Act} {w : World} (hi : ops[i]? = some oi) (hs : Region.noSelect ops = true) (hf : Region.free md ops listed i = true) (hr : (Region.ready md ops listed).contains i = true)
    (hL : Region.waitsFor md ops L i = true) (hd : oi.dst = some d) (hQ : ∀ c a w, Q (.panic c) (a.put (some d) v) w → Q (.panic c) a w) (hw : Region.wanted oi (yielded ops a.tmps) = true) (hS : S w) (hy : ∀ w, S w → (execOp a.eval oi).run P w = .ok (.value v) w)
    (h : wpLast P md ops Q S L fuel (listed.setIfInBounds i true) (a.put (some d) v) w) : wpLast P md ops Q S L (fuel + 1) listed a w :=
  last_first hi (Region.noSelect_spec hs) (by rw [hd]; exact hQ) hL fuel listed a w (Region.free_spec hi hf) (by simpa using hr) (.inl ⟨hw, hy⟩) hS (by rw [hd]; exact h)
theorem last_one {i : Nat} {o : Oper} {fuel : Nat} {listed : Array Bool} {a : Act} {w : World} (hr : Region.ready md ops listed = [i]) (ho : ops[i]? = some o)
    (h : ∀ K' : Act → World → Prop, Shut (∀ a w, (i ≠ L → S w) → ((i ≠ L → S w) → wpLast P md ops Q S L fuel (listed.setIfInBounds i true) a w) → K' a w) → if Region.wanted o (yielded ops a.tmps) = true then Oper.wp P o a w K' Q else K' (a.put o.dst undef) w) :
    wpLast P md ops Q S L (fuel + 1) listed a w := by
  refine ⟨fun e => (by rw [hr] at e; cases e), fun j hj => ?_⟩
  rw [hr] at hj
  obtain rfl : j = i := by simpa using hj
  exact wpOp_step ho (fun K' hK => h K' (fun a w hS hW => hK a w ⟨hS, hW hS⟩))
theorem last_done {listed : Array Bool} {a : Act} {w : World} (hr : Region.ready md ops listed = []) (h : Q .normal a w) : ∀ fuel, wpLast P md ops Q S L fuel listed a w
  | 0 => ⟨hr, h⟩
  | _ + 1 => ⟨fun _ => h, by rw [hr]; simp⟩
theorem wp_region_last {id : Nat} {a : Act} {w : World} (hm : P.follows .mixedOrders = true) (h : wpLast P .any ops Q S L ops.size (Array.replicate ops.size false) a w.drew) : (Code.region id ops true).wp P Q a w :=
  wp_region_any hm (any_of_last _ _ _ _ h)
end
end Go.Proofs.YtjgllfpnmmopdaaGreatDoor
namespace Go.Proofs.YtjgllfpnmmopdaaGreatDoor
open Go.RowKit Wd Tr Go.Maps

theorem Acs.lo {W W' : World} {B g o : Nat} {l : List Ac} (h : Acs W g o l) (b : Below B W W') (hg : ∀ (k : Nat) (a : Ac), l[k]? = some a → g < B) : Acs W' g o l := fun k a ha => (h k a ha).lo b (hg k a ha)
/-- A row of L words in a block of its own. -/
def RowF (W : World) (b L : Nat) (f : Nat → Int) : Prop := ∃ cur, W.heap[b]? = some (.cells cur 29 (0, 0)) ∧ cur.size = L ∧ ∀ j, j < L → cur[j]? = some (.int .u64 (f j))
def updF (f : Nat → Int) (k : Nat) (x : Int) : Nat → Int := fun j => if j = k then x else f j
section
variable {W W' : World} {b L : Nat} {f : Nat → Int}
theorem RowF.cell (h : RowF W b L f) {j : Nat} (hj : j < L) : W.cell? ⟨b, j, none⟩ = some (.int .u64 (f j)) := by
  obtain ⟨cur, h1, _, h3⟩ := h
  exact cells_at h1 (h3 j hj)
theorem RowF.free (h : RowF W b L f) (j : Nat) : W.frozen? ⟨b, j, none⟩ = false := by
  obtain ⟨cur, h1, _⟩ := h
  exact frozen_at h1
theorem RowF.lt (h : RowF W b L f) : b < W.heap.size := by
  obtain ⟨cur, h1, _⟩ := h
  exact (Array.getElem?_eq_some_iff.1 h1).1
theorem RowF.same (h : RowF W b L f) (e : W'.heap[b]? = W.heap[b]?) : RowF W' b L f := by
  obtain ⟨cur, h1, h2⟩ := h
  exact ⟨cur, e.trans h1, h2⟩
theorem RowF.below (h : RowF W b L f) (e : Below W.heap.size W W') : RowF W' b L f := h.same (e.block b h.lt)
theorem RowF.set (h : RowF W b L f) (k : Nat) (x : Int) : RowF (W.setCell ⟨b, k, none⟩ (.int .u64 x)) b L (updF f k x) := by
  obtain ⟨cur, h1, h2, h3⟩ := h
  refine ⟨_, heap_setCell_same W b k cur _ _ h1, by simpa using h2, fun j hj => ?_⟩
  unfold updF
  by_cases e : j = k
  · subst e
    rw [if_pos rfl]
    simp [h2, hj]
  · rw [if_neg e, Array.getElem?_setIfInBounds_ne (fun x => e x.symm)]
    exact h3 j hj
theorem RowF.other (h : RowF W b L f) {g k : Nat} {v : Value} (e : b ≠ g) : RowF (W.setCell ⟨g, k, none⟩ v) b L f := h.same (heap_setCell_other W ⟨g, k, none⟩ b v e)
theorem RowF.congr {f' : Nat → Int} (h : RowF W b L f) (e : ∀ j, j < L → f j = f' j) : RowF W b L f' := by
  obtain ⟨cur, h1, h2, h3⟩ := h
  exact ⟨cur, h1, h2, fun j hj => by rw [← e j hj]; exact h3 j hj⟩
end
/-- What lies in memory while shares are told: the places of the two rows, the family. -/
structure InvS (WF : World) (m g o c g1 g2 g3 nb db : Nat) (l : List Ac) (D : Nat → Prop) (w : World) : Prop where
  bel : Chg (fun j => j = nb ∨ j = db) WF w
  c1 : w.cell? ⟨g1, 0, none⟩ = some (.slice (some ⟨nb, 0, none⟩) l.length l.length)
  c2 : w.cell? ⟨g2, 0, none⟩ = some (.slice (some ⟨g, o, none⟩) l.length c)
  c2' : w.cell? ⟨g2, 1, none⟩ = some (.map (some m))
  c3 : w.cell? ⟨g3, 0, none⟩ = some (.slice (some ⟨db, 0, none⟩) l.length l.length)
  num : ∃ f, RowF w nb l.length f ∧ ∀ j, j < l.length → D j → f j = numV l j
  den : ∃ f, RowF w db l.length f ∧ ∀ j, j < l.length → D j → f j = denV l j
  ne : nb ≠ db
theorem InvS.st {WF : World} {m g o c g1 g2 g3 nb db : Nat} {l : List Ac} {D : Nat → Prop} {x y : World} (h : InvS WF m g o c g1 g2 g3 nb db l D x) (b : Below x.heap.size x y) : InvS WF m g o c g1 g2 g3 nb db l D y := by
  obtain ⟨f, f1, f2⟩ := h.num
  obtain ⟨f', f1', f2'⟩ := h.den
  exact ⟨h.bel.trans (Chg.of_below b _) (fun _ _ h => h), cellB b h.c1, cellB b h.c2, cellB b h.c2', cellB b h.c3, ⟨f, f1.below b, f2⟩, ⟨f', f1'.below b, f2'⟩, h.ne⟩
theorem keepS4 {W w : World} {a0 a1 a2 a3 : Addr} {v0 v1 v2 v3 : Value} (hb : Below W.heap.size W w) (h : W.cell? a0 = some v0 ∧ W.cell? a1 = some v1 ∧ W.cell? a2 = some v2 ∧ W.cell? a3 = some v3) : w.cell? a0 = some v0 ∧ w.cell? a1 = some v1 ∧ w.cell? a2 = some v2 ∧ w.cell? a3 = some v3 :=
  ⟨keepC hb h.1, keepC hb h.2.1, keepC hb h.2.2.1, keepC hb h.2.2.2⟩
theorem far_cell {W : World} {b k g j : Nat} {u v : Value} (h : W.cell? ⟨g, j, none⟩ = some v) (hne : g ≠ b ∨ j ≠ k) : (W.setCell ⟨b, k, none⟩ u).cell? ⟨g, j, none⟩ = some v := by
  have e : (⟨b, k, none⟩ : Addr) ≠ ⟨g, j, none⟩ := fun e => by
    injection e with e1 e2 e3
    omega
  rw [World.cell?_setCell_other W ⟨b, k, none⟩ ⟨g, j, none⟩ u e]
  exact h
theorem setS4 {W : World} {g1 g2 nb k pk : Nat} {u v0 v1 v2 v3 : Value} (n1 : g1 ≠ nb) (n2 : g2 ≠ nb) (hk : pk ≠ k) (h : W.cell? ⟨g1, 0, none⟩ = some v0 ∧ W.cell? ⟨g2, 0, none⟩ = some v1 ∧ W.cell? ⟨g2, 1, none⟩ = some v2 ∧ W.cell? ⟨nb, pk, none⟩ = some v3) :
    (W.setCell ⟨nb, k, none⟩ u).cell? ⟨g1, 0, none⟩ = some v0 ∧ (W.setCell ⟨nb, k, none⟩ u).cell? ⟨g2, 0, none⟩ = some v1 ∧ (W.setCell ⟨nb, k, none⟩ u).cell? ⟨g2, 1, none⟩ = some v2 ∧ (W.setCell ⟨nb, k, none⟩ u).cell? ⟨nb, pk, none⟩ = some v3 :=
  ⟨far_cell h.1 (.inl n1), far_cell h.2.1 (.inl n2), far_cell h.2.2.1 (.inl n2), far_cell h.2.2.2 (.inr hk)⟩
set_option maxHeartbeats 2000000 in
set_option maxRecDepth 20000 in
theorem visS_any {WF : World} {B m g o c g1 g2 g3 nb db : Nat} {l : List Ac} {v : Nat → Value} (hwu : Wu l) (hac' : ∀ x, Chg (fun j => j = nb ∨ j = db) WF x → Acs x g o l) (hbr : ∀ x, Chg (fun j => j = nb ∨ j = db) WF x → Bro x B m l l.length v)
    (n1 : g1 ≠ nb) (n2 : g2 ≠ nb) (n3 : g3 ≠ nb) (d1 : g1 ≠ db) (d2 : g2 ≠ db) (d3 : g3 ≠ db) (D : Nat → Prop) (k : Nat) (w : World) (hi : InvS WF m g o c g1 g2 g3 nb db l D w) (hk0 : k ≠ 0) (hk : k < l.length) (hDp : D (up l k)) (hDk : ¬ D k) :
    Calls Tryz.prog 69 #[.int .i64 (k : Int), .int .i64 (up l k : Nat), .pointer (some ⟨g1, 0, none⟩), .pointer (some ⟨g2, 0, none⟩), .pointer (some ⟨g3, 0, none⟩)] w fun e w' => e = .returned (.tuple #[]) ∧ InvS WF m g o c g1 g2 g3 nb db l (fun j => D j ∨ j = k) w' ∧ Chg (fun j => j = nb ∨ j = db) w w' := by
  obtain ⟨fn, hfn, hfn'⟩ := hi.num
  obtain ⟨fd, hfd, hfd'⟩ := hi.den
  have hul := hwu.up_lt hk
  have hl64 := hwu.len
  have HLK : Hid (∀ x, Chg (fun j => j = nb ∨ j = db) WF x → (Instr.lookup 103 (.map (some m)) (.int .i64 (up l k : Nat)) false).run Tryz.prog x = .ok (.agg #[v (up l k), .int .u64 (tog l (up l k))]) x) := fun x hx => (hbr x hx).look hl64 hul
  have hfl := fld1 (v (up l k)) (.int .u64 (tog l (up l k)))
  obtain ⟨a, ha, hac⟩ := (hac' w hi.bel).at hk
  have hs := hwu.shOk k a ha
  have hb1 := den_word hwu hk
  have hb2 := den_word hwu hul
  have ht := tog_word hwu (up l k)
  have e1 := num_up hwu hk hk0
  have e2 := den_up hwu hk hk0
  rw [sh_of ha] at e1
  have k3 : IntKind.u64.wrap (numV l (up l k) * a.sh) = numV l k := by rw [← e1, IntKind.wrap_u64]; omega
  have k4 : IntKind.u64.wrap (denV l (up l k) * tog l (up l k)) = denV l k := by rw [← e2, IntKind.wrap_u64]; omega
  have p1 := hfn.cell hul
  rw [hfn' _ hul hDp] at p1
  have p2 := hfd.cell hul
  rw [hfd' _ hul hDp] at p2
  have p3 := hfn.cell hk
  have p4 := hfd.cell hk
  have f3 := hfn.free k
  have f4 := hfd.free k
  have HSH : Hid (∀ x, Below w.heap.size w x → Calls Tryz.prog 70 #[.agg #[.slice (some ⟨g, o, none⟩) l.length c, .map (some m)], .int .i64 (k : Int)] x fun e w' => e = .returned (.int .u64 a.sh) ∧ Below x.heap.size x w') := fun x hx => fshares_any (c := c) (m := m) ((hac' x (hi.bel.trans (Chg.of_below hx _) (fun _ _ h => h))) k a ha) hk (by omega) hs.2
  obtain ⟨q1, q2, q2', q3⟩ := (⟨hi.c1, hi.c2, hi.c2', hi.c3⟩ : _ ∧ _ ∧ _ ∧ _)
  have hne := hi.ne
  have hkp := hwu.up_ne hk hk0
  have HFN : Hid (RowF w nb l.length fn ∧ ∀ j, j < l.length → D j → fn j = numV l j) := ⟨hfn, hfn'⟩
  have HFD : Hid (RowF w db l.length fd ∧ ∀ j, j < l.length → D j → fd j = denV l j) := ⟨hfd, hfd'⟩
  have HI : Hid (InvS WF m g o c g1 g2 g3 nb db l D w) := hi
  have hk' : (k : Int) < l.length := by omega
  have hu' : ((up l k : Nat) : Int) < l.length := by omega
  have HD : Hid _ := hDk
  clear hi hfn hfn' hfd hfd' hs hb1 hb2 ht e1 e2 hac ha hDp hDk hk0 hul hl64 hbr hac'
  obtain ⟨N2, hN2⟩ : ∃ N, numV l k = N := ⟨_, rfl⟩
  obtain ⟨D2, hD2⟩ : ∃ N, denV l k = N := ⟨_, rfl⟩
  rw [hN2] at k3
  rw [hD2] at k4
  have HN2 : Hid _ := hN2
  have HD2 : Hid _ := hD2
  have HQ : Hid (w.cell? ⟨g1, 0, none⟩ = some (.slice (some ⟨nb, 0, none⟩) l.length l.length) ∧ w.cell? ⟨g2, 0, none⟩ = some (.slice (some ⟨g, o, none⟩) l.length c) ∧ w.cell? ⟨g2, 1, none⟩ = some (.map (some m)) ∧ w.cell? ⟨g3, 0, none⟩ = some (.slice (some ⟨db, 0, none⟩) l.length l.length)) := ⟨q1, q2, q2', q3⟩
  clear hN2 hD2 hwu
  generalize numV l (up l k) = N1 at *
  generalize denV l (up l k) = D1 at *
  generalize tog l (up l k) = tg at *
  generalize v (up l k) = vu at *
  generalize a.sh = sh at *
  obtain ⟨pk, hpk⟩ : ∃ pk, up l k = pk := ⟨_, rfl⟩
  rw [hpk] at p1 p2 hu' HLK hkp ⊢
  clear hpk
  go_enter Tryz.func69, Tryz.ntmps69
  go_upto_region 0 with fail
  go_cut [0] (fun b wq => b = .int .i64 (k : Int) ∧ ∃ x, Below w.heap.size w x ∧ x.setCell ⟨nb, k, none⟩ (.int .u64 N2) = wq)
  case first =>
    have HS : Hid (w.drew.cell? ⟨g1, 0, none⟩ = some (.slice (some ⟨nb, 0, none⟩) l.length l.length) ∧ w.drew.cell? ⟨g2, 0, none⟩ = some (.slice (some ⟨g, o, none⟩) l.length c) ∧ w.drew.cell? ⟨g2, 1, none⟩ = some (.map (some m)) ∧ w.drew.cell? ⟨nb, pk, none⟩ = some (.int .u64 N1)) := ⟨q1, q2, q2', p1⟩
    clear q1 q2 q2' q3 p1 p2 p4 f4 hfl
    go_region_held3 (fun x => x.cell? ⟨g1, 0, none⟩ = some (.slice (some ⟨nb, 0, none⟩) l.length l.length) ∧ x.cell? ⟨g2, 0, none⟩ = some (.slice (some ⟨g, o, none⟩) l.length c) ∧ x.cell? ⟨g2, 1, none⟩ = some (.map (some m)) ∧ x.cell? ⟨nb, pk, none⟩ = some (.int .u64 N1)) (first | exact HS.out | exact keepS4 (by assumption) (by assumption) | exact setS4 n1 n2 hkp (by assumption))
      (first | (go_at_call 70; refine (HSH.out _ (drew_below _)).mono ?_; rintro e x ⟨rfl, hx⟩; have y3 := keepC hx p3; have y4 := keepF hx p3 f3))
    all_goals
      go_wp2
      go_meet
      exact ⟨rfl, x, (drew_below w).trans hx, rfl⟩
  case rest =>
    obtain ⟨rfl, x, hx, hw1⟩ := hcut
    have b1 : Chg (fun j => j = nb ∨ j = db) WF wc := by rw [← hw1]; exact (HI.out.bel.trans (Chg.of_below hx (fun j => j = nb ∨ j = db)) (fun _ _ h => h)).setCell _ _ (.inl (.inl rfl))
    have lk := HLK.out wc.drew b1.drew
    have z1 : wc.cell? ⟨g3, 0, none⟩ = some (.slice (some ⟨db, 0, none⟩) l.length l.length) := by rw [← hw1]; exact far_cell (keepC hx q3) (.inl n3)
    have z2 : wc.cell? ⟨db, pk, none⟩ = some (.int .u64 D1) := by rw [← hw1]; exact far_cell (keepC hx p2) (.inl (Ne.symm hne))
    have z3 : wc.cell? ⟨g2, 1, none⟩ = some (.map (some m)) := by rw [← hw1]; exact far_cell (keepC hx q2') (.inl n2)
    have RN : RowF wc nb l.length (updF fn k N2) := by rw [← hw1]; exact (HFN.out.1.below hx).set k N2
    have RD : RowF wc db l.length fd := by rw [← hw1]; exact (HFD.out.1.below hx).other (Ne.symm hne)
    have z4 := RD.cell hk
    have z5 := RD.free k
    have w1 : wc.cell? ⟨g1, 0, none⟩ = some (.slice (some ⟨nb, 0, none⟩) l.length l.length) := by rw [← hw1]; exact far_cell (keepC hx q1) (.inl n1)
    have w2 : wc.cell? ⟨g2, 0, none⟩ = some (.slice (some ⟨g, o, none⟩) l.length c) := by rw [← hw1]; exact far_cell (keepC hx q2) (.inl n2)
    have HJ : Hid (InvS WF m g o c g1 g2 g3 nb db l (fun j => D j ∨ j = k) (wc.setCell ⟨db, k, none⟩ (.int .u64 D2)).drew) := show InvS WF m g o c g1 g2 g3 nb db l (fun j => D j ∨ j = k) (wc.setCell ⟨db, k, none⟩ (.int .u64 D2)).drew from
      InvS.st ⟨b1.setCell _ _ (.inl (.inr rfl)), far_cell w1 (.inl d1), far_cell w2 (.inl d2), far_cell z3 (.inl d2), far_cell z1 (.inl d3), ⟨_, RN.other hne, fun j hj hd => by
          unfold updF
          by_cases e : j = k
          · rw [if_pos e, e, HN2.out]
          · rw [if_neg e]; exact HFN.out.2 j hj (hd.elim id (fun h => absurd h e))⟩, ⟨_, RD.set k D2, fun j hj hd => by
          unfold updF
          by_cases e : j = k
          · rw [if_pos e, e, HD2.out]
          · rw [if_neg e]; exact HFD.out.2 j hj (hd.elim id (fun h => absurd h e))⟩, hne⟩ (drew_below _)
    have HC : Hid (Chg (fun j => j = nb ∨ j = db) w (wc.setCell ⟨db, k, none⟩ (.int .u64 D2)).drew) := show Chg (fun j => j = nb ∨ j = db) w (wc.setCell ⟨db, k, none⟩ (.int .u64 D2)).drew by
      rw [← hw1]
      exact (((Chg.of_below hx _).setCell _ _ (.inl (.inl rfl))).setCell _ _ (.inl (.inr rfl))).drew
    clear b1 RN RD w1 w2 q1 q2 q2' q3 p1 p2 p3 p4 f3 f4 hx hw1 HFN HFD HLK HSH HI
    go_upto_region 1 with fail
    go_region
    all_goals
      go_wp2
      go_end0
      exact ⟨rfl, HJ.out, HC.out⟩
/-- What lies in memory while effective usages are told. -/
structure InvE (WF : World) (m g o c g1 g2 ub : Nat) (l : List Ac) (W : Int) (D : Nat → Prop) (w : World) : Prop where
  bel : Chg (fun j => j = ub) WF w
  c1 : w.cell? ⟨g1, 0, none⟩ = some (.slice (some ⟨ub, 0, none⟩) l.length l.length)
  c2 : w.cell? ⟨g2, 0, none⟩ = some (.slice (some ⟨g, o, none⟩) l.length c)
  c2' : w.cell? ⟨g2, 1, none⟩ = some (.map (some m))
  row : ∃ f, RowF w ub l.length f ∧ ∀ j, j < l.length → (D j → f j = efV l W j) ∧ (¬ D j → f j = uV l W j)
theorem InvE.st {WF : World} {m g o c g1 g2 ub : Nat} {l : List Ac} {W : Int} {D : Nat → Prop} {x y : World} (h : InvE WF m g o c g1 g2 ub l W D x) (b : Below x.heap.size x y) : InvE WF m g o c g1 g2 ub l W D y := by
  obtain ⟨f, f1, f2⟩ := h.row
  exact ⟨h.bel.trans (Chg.of_below b _) (fun _ _ h => h), cellB b h.c1, cellB b h.c2, cellB b h.c2', ⟨f, f1.below b, f2⟩⟩
set_option maxHeartbeats 2000000 in
set_option maxRecDepth 20000 in
theorem visE_any {WF : World} {B m g o c g1 g2 ub : Nat} {l : List Ac} {v : Nat → Value} {W : Int} (hwu : Wu l) (hus : UsOk l) (hW : WOk l W) (hac' : ∀ x, Chg (fun j => j = ub) WF x → Acs x g o l) (hbr : ∀ x, Chg (fun j => j = ub) WF x → Bro x B m l l.length v)
    (n1 : g1 ≠ ub) (n2 : g2 ≠ ub) (D : Nat → Prop) (k : Nat) (w : World) (hi : InvE WF m g o c g1 g2 ub l W D w) (hk0 : k ≠ 0) (hk : k < l.length) (hDp : D (up l k)) (hDk : ¬ D k) :
    Calls Tryz.prog 73 #[.int .i64 (k : Int), .int .i64 (up l k : Nat), .pointer (some ⟨g1, 0, none⟩), .pointer (some ⟨g2, 0, none⟩)] w fun e w' => e = .returned (.tuple #[]) ∧ InvE WF m g o c g1 g2 ub l W (fun j => D j ∨ j = k) w' ∧ Chg (fun j => j = ub) w w' := by
  obtain ⟨fn, hfn, hfn'⟩ := hi.row
  have hul := hwu.up_lt hk
  have hl64 := hwu.len
  have HLK : Hid (∀ x, Chg (fun j => j = ub) WF x → (Instr.lookup 103 (.map (some m)) (.int .i64 (up l k : Nat)) false).run Tryz.prog x = .ok (.agg #[v (up l k), .int .u64 (tog l (up l k))]) x) := fun x hx => (hbr x hx).look hl64 hul
  have hfl := fld1 (v (up l k)) (.int .u64 (tog l (up l k)))
  obtain ⟨a, ha, hac⟩ := (hac' w hi.bel).at hk
  have hs := hwu.shOk k a ha
  have ht := tog_word hwu (up l k)
  have hf := ef_falls hwu hus hW hk hk0
  have hw1 := ef_word hwu hus hW hk
  have hw2 := ef_word hwu hus hW hul
  have e1 := ef_up hwu W hk hk0
  have hst := sh_tog hwu hk hk0
  rw [sh_of ha] at e1 hst
  have k3 : IntKind.u64.wrap (efV l W (up l k) - uV l W k) = efV l W (up l k) - uV l W k := by rw [IntKind.wrap_u64]; omega
  have hpq := part_of (x := efV l W (up l k) - uV l W k) (by omega) hst.1 hst.2
  have k4 : IntKind.u64.wrap (uV l W k + (efV l W (up l k) - uV l W k) * a.sh / tog l (up l k)) = efV l W k := by rw [← e1, IntKind.wrap_u64]; omega
  have cP := spart_any (a := efV l W (up l k) - uV l W k) (n := a.sh) (d := tog l (up l k)) ⟨by omega, by omega⟩ ⟨by omega, by omega⟩ ⟨by omega, by omega⟩ (by omega)
  have p1 := hfn.cell hul
  rw [(hfn' _ hul).1 hDp] at p1
  have p3 := hfn.cell hk
  rw [(hfn' _ hk).2 hDk] at p3
  have f3 := hfn.free k
  have HSH : Hid (∀ x, Below w.heap.size w x → Calls Tryz.prog 70 #[.agg #[.slice (some ⟨g, o, none⟩) l.length c, .map (some m)], .int .i64 (k : Int)] x fun e w' => e = .returned (.int .u64 a.sh) ∧ Below x.heap.size x w') := fun x hx => fshares_any (c := c) (m := m) ((hac' x (hi.bel.trans (Chg.of_below hx _) (fun _ _ h => h))) k a ha) hk (by omega) hs.2
  obtain ⟨q1, q2, q2'⟩ := (⟨hi.c1, hi.c2, hi.c2'⟩ : _ ∧ _ ∧ _)
  have hkp := hwu.up_ne hk hk0
  have HFN : Hid (RowF w ub l.length fn ∧ ∀ j, j < l.length → (D j → fn j = efV l W j) ∧ (¬ D j → fn j = uV l W j)) := ⟨hfn, hfn'⟩
  have HI : Hid (InvE WF m g o c g1 g2 ub l W D w) := hi
  have hk' : (k : Int) < l.length := by omega
  have hu' : ((up l k : Nat) : Int) < l.length := by omega
  have HLW : Hid (∀ x, Below w.heap.size w x → (Instr.lookup 103 (.map (some m)) (.int .i64 (up l k : Nat)) false).run Tryz.prog x = .ok (.agg #[v (up l k), .int .u64 (tog l (up l k))]) x) := fun x hx => HLK.out x (hi.bel.trans (Chg.of_below hx _) (fun _ _ h => h))
  clear hi hfn hfn' hs ht hf hw1 hw2 e1 hst hpq hac ha hDp hDk hk0 hul hl64 hbr hac' HLK
  obtain ⟨N2, hN2⟩ : ∃ N, efV l W k = N := ⟨_, rfl⟩
  rw [hN2] at k4
  have HN2 : Hid _ := hN2
  clear hN2 hwu hW hus
  generalize (efV l W (up l k) - uV l W k) * a.sh / tog l (up l k) = Q at *
  generalize efV l W (up l k) = E1 at *
  obtain ⟨U1, hU1⟩ : ∃ U, uV l W k = U := ⟨_, rfl⟩
  rw [hU1] at k3 k4 p3 cP
  clear hU1
  generalize tog l (up l k) = tg at *
  generalize v (up l k) = vu at *
  generalize a.sh = sh at *
  obtain ⟨pk, hpk⟩ : ∃ pk, up l k = pk := ⟨_, rfl⟩
  rw [hpk] at p1 hu' HLW hkp ⊢
  clear hpk
  have lk0 := HLW.out w.drew (drew_below w)
  have HS : Hid (w.drew.cell? ⟨g1, 0, none⟩ = some (.slice (some ⟨ub, 0, none⟩) l.length l.length) ∧ w.drew.cell? ⟨g2, 0, none⟩ = some (.slice (some ⟨g, o, none⟩) l.length c) ∧ w.drew.cell? ⟨g2, 1, none⟩ = some (.map (some m)) ∧ w.drew.cell? ⟨ub, pk, none⟩ = some (.int .u64 E1)) := ⟨q1, q2, q2', p1⟩
  have HQ : Hid (w.cell? ⟨g1, 0, none⟩ = some (.slice (some ⟨ub, 0, none⟩) l.length l.length) ∧ w.cell? ⟨g2, 0, none⟩ = some (.slice (some ⟨g, o, none⟩) l.length c) ∧ w.cell? ⟨g2, 1, none⟩ = some (.map (some m))) := ⟨q1, q2, q2'⟩
  clear q1 q2 q2' p1
  go_enter Tryz.func73, Tryz.ntmps73
  go_upto_region 0 with fail
  refine wp_region_last (S := fun x => x.cell? ⟨g1, 0, none⟩ = some (.slice (some ⟨ub, 0, none⟩) l.length l.length) ∧ x.cell? ⟨g2, 0, none⟩ = some (.slice (some ⟨g, o, none⟩) l.length c) ∧ x.cell? ⟨g2, 1, none⟩ = some (.map (some m)) ∧ x.cell? ⟨ub, pk, none⟩ = some (.int .u64 E1) ∧ x.cell? ⟨ub, k, none⟩ = some (.int .u64 U1) ∧ Below w.heap.size w x) (L := 24) (by kernel_rfl) ?_
  have HS0 : (fun x : World => x.cell? ⟨g1, 0, none⟩ = some (.slice (some ⟨ub, 0, none⟩) l.length l.length) ∧ x.cell? ⟨g2, 0, none⟩ = some (.slice (some ⟨g, o, none⟩) l.length c) ∧ x.cell? ⟨g2, 1, none⟩ = some (.map (some m)) ∧ x.cell? ⟨ub, pk, none⟩ = some (.int .u64 E1) ∧ x.cell? ⟨ub, k, none⟩ = some (.int .u64 U1) ∧ Below w.heap.size w x) w.drew := ⟨HS.out.1, HS.out.2.1, HS.out.2.2.1, HS.out.2.2.2, p3, drew_below w⟩
  refine last_take (i := 0) (v := ?v0) rfl (by kernel_rfl) (by kernel_rfl) (by kernel_rfl) (by kernel_rfl) rfl (fun _ _ _ h => h) (by rfl) HS0 ?hy0 ?rest0
  case hy0 =>
    intro x hSx
    obtain ⟨s1, s2, s3, s4, s5, s6⟩ := hSx
    go_simp
    try (with_reducible rfl)
  simp only [Act.put, List.setIfInBounds_toArray, List.set_cons_zero, List.set_cons_succ]
  refine last_take (i := 1) (v := ?v1) rfl (by kernel_rfl) (by kernel_rfl) (by kernel_rfl) (by kernel_rfl) rfl (fun _ _ _ h => h) (by rfl) HS0 ?hy1 ?rest1
  case hy1 =>
    intro x hSx
    obtain ⟨s1, s2, s3, s4, s5, s6⟩ := hSx
    go_simp
    try (with_reducible rfl)
  simp only [Act.put, List.setIfInBounds_toArray, List.set_cons_zero, List.set_cons_succ]
  refine last_take (i := 2) (v := ?v2) rfl (by kernel_rfl) (by kernel_rfl) (by kernel_rfl) (by kernel_rfl) rfl (fun _ _ _ h => h) (by rfl) HS0 ?hy2 ?rest2
  case hy2 =>
    intro x hSx
    obtain ⟨s1, s2, s3, s4, s5, s6⟩ := hSx
    go_simp
    try (with_reducible rfl)
  simp only [Act.put, List.setIfInBounds_toArray, List.set_cons_zero, List.set_cons_succ]
  refine last_take (i := 3) (v := ?v3) rfl (by kernel_rfl) (by kernel_rfl) (by kernel_rfl) (by kernel_rfl) rfl (fun _ _ _ h => h) (by rfl) HS0 ?hy3 ?rest3
  case hy3 =>
    intro x hSx
    obtain ⟨s1, s2, s3, s4, s5, s6⟩ := hSx
    go_simp
    try (with_reducible rfl)
  simp only [Act.put, List.setIfInBounds_toArray, List.set_cons_zero, List.set_cons_succ]
  refine last_take (i := 4) (v := ?v4) rfl (by kernel_rfl) (by kernel_rfl) (by kernel_rfl) (by kernel_rfl) rfl (fun _ _ _ h => h) (by rfl) HS0 ?hy4 ?rest4
  case hy4 =>
    intro x hSx
    obtain ⟨s1, s2, s3, s4, s5, s6⟩ := hSx
    go_simp
    try (with_reducible rfl)
  simp only [Act.put, List.setIfInBounds_toArray, List.set_cons_zero, List.set_cons_succ]
  refine last_take (i := 5) (v := ?v5) rfl (by kernel_rfl) (by kernel_rfl) (by kernel_rfl) (by kernel_rfl) rfl (fun _ _ _ h => h) (by rfl) HS0 ?hy5 ?rest5
  case hy5 =>
    intro x hSx
    obtain ⟨s1, s2, s3, s4, s5, s6⟩ := hSx
    go_simp
    try (with_reducible rfl)
  simp only [Act.put, List.setIfInBounds_toArray, List.set_cons_zero, List.set_cons_succ]
  refine last_take (i := 6) (v := ?v6) rfl (by kernel_rfl) (by kernel_rfl) (by kernel_rfl) (by kernel_rfl) rfl (fun _ _ _ h => h) (by rfl) HS0 ?hy6 ?rest6
  case hy6 =>
    intro x hSx
    obtain ⟨s1, s2, s3, s4, s5, s6⟩ := hSx
    go_simp
    try (with_reducible rfl)
  simp only [Act.put, List.setIfInBounds_toArray, List.set_cons_zero, List.set_cons_succ]
  refine last_take (i := 7) (v := ?v7) rfl (by kernel_rfl) (by kernel_rfl) (by kernel_rfl) (by kernel_rfl) rfl (fun _ _ _ h => h) (by rfl) HS0 ?hy7 ?rest7
  case hy7 =>
    intro x hSx
    obtain ⟨s1, s2, s3, s4, s5, s6⟩ := hSx
    go_simp
    try (with_reducible rfl)
  simp only [Act.put, List.setIfInBounds_toArray, List.set_cons_zero, List.set_cons_succ]
  refine last_take (i := 8) (v := ?v8) rfl (by kernel_rfl) (by kernel_rfl) (by kernel_rfl) (by kernel_rfl) rfl (fun _ _ _ h => h) (by rfl) HS0 ?hy8 ?rest8
  case hy8 =>
    intro x hSx
    obtain ⟨s1, s2, s3, s4, s5, s6⟩ := hSx
    go_simp
    try (with_reducible rfl)
  simp only [Act.put, List.setIfInBounds_toArray, List.set_cons_zero, List.set_cons_succ]
  refine last_take (i := 9) (v := ?v9) rfl (by kernel_rfl) (by kernel_rfl) (by kernel_rfl) (by kernel_rfl) rfl (fun _ _ _ h => h) (by rfl) HS0 ?hy9 ?rest9
  case hy9 =>
    intro x hSx
    obtain ⟨s1, s2, s3, s4, s5, s6⟩ := hSx
    go_simp
    try (with_reducible rfl)
  simp only [Act.put, List.setIfInBounds_toArray, List.set_cons_zero, List.set_cons_succ]
  refine last_take (i := 10) (v := ?v10) rfl (by kernel_rfl) (by kernel_rfl) (by kernel_rfl) (by kernel_rfl) rfl (fun _ _ _ h => h) (by rfl) HS0 ?hy10 ?rest10
  case hy10 =>
    intro x hSx
    obtain ⟨s1, s2, s3, s4, s5, s6⟩ := hSx
    go_simp
    try (with_reducible rfl)
  simp only [Act.put, List.setIfInBounds_toArray, List.set_cons_zero, List.set_cons_succ]
  refine last_take (i := 11) (v := ?v11) rfl (by kernel_rfl) (by kernel_rfl) (by kernel_rfl) (by kernel_rfl) rfl (fun _ _ _ h => h) (by rfl) HS0 ?hy11 ?rest11
  case hy11 =>
    intro x hSx
    obtain ⟨s1, s2, s3, s4, s5, s6⟩ := hSx
    go_simp
    try (with_reducible rfl)
  simp only [Act.put, List.setIfInBounds_toArray, List.set_cons_zero, List.set_cons_succ]
  refine last_take (i := 12) (v := ?v12) rfl (by kernel_rfl) (by kernel_rfl) (by kernel_rfl) (by kernel_rfl) rfl (fun _ _ _ h => h) (by rfl) HS0 ?hy12 ?rest12
  case hy12 =>
    intro x hSx
    obtain ⟨s1, s2, s3, s4, s5, s6⟩ := hSx
    go_simp
    try (with_reducible rfl)
  simp only [Act.put, List.setIfInBounds_toArray, List.set_cons_zero, List.set_cons_succ]
  refine last_take (i := 13) (v := ?v13) rfl (by kernel_rfl) (by kernel_rfl) (by kernel_rfl) (by kernel_rfl) rfl (fun _ _ _ h => h) (by rfl) HS0 ?hy13 ?rest13
  case hy13 =>
    intro x hSx
    obtain ⟨s1, s2, s3, s4, s5, s6⟩ := hSx
    go_simp
    try (with_reducible rfl)
  simp only [Act.put, List.setIfInBounds_toArray, List.set_cons_zero, List.set_cons_succ]
  refine last_take (i := 14) (v := ?v14) rfl (by kernel_rfl) (by kernel_rfl) (by kernel_rfl) (by kernel_rfl) rfl (fun _ _ _ h => h) (by rfl) HS0 ?hy14 ?rest14
  case hy14 =>
    intro x hSx
    obtain ⟨s1, s2, s3, s4, s5, s6⟩ := hSx
    go_simp
    try (with_reducible rfl)
  simp only [Act.put, List.setIfInBounds_toArray, List.set_cons_zero, List.set_cons_succ]
  refine last_take (i := 16) (v := ?v16) rfl (by kernel_rfl) (by kernel_rfl) (by kernel_rfl) (by kernel_rfl) rfl (fun _ _ _ h => h) (by rfl) HS0 ?hy16 ?rest16
  case hy16 =>
    intro x hSx
    obtain ⟨s1, s2, s3, s4, s5, s6⟩ := hSx
    go_simp
    try (with_reducible rfl)
  simp only [Act.put, List.setIfInBounds_toArray, List.set_cons_zero, List.set_cons_succ]
  refine last_take (i := 17) (v := ?v17) rfl (by kernel_rfl) (by kernel_rfl) (by kernel_rfl) (by kernel_rfl) rfl (fun _ _ _ h => h) (by rfl) HS0 ?hy17 ?rest17
  case hy17 =>
    intro x hSx
    obtain ⟨s1, s2, s3, s4, s5, s6⟩ := hSx
    go_simp
    try (with_reducible rfl)
  simp only [Act.put, List.setIfInBounds_toArray, List.set_cons_zero, List.set_cons_succ]
  refine last_take (i := 18) (v := ?v18) rfl (by kernel_rfl) (by kernel_rfl) (by kernel_rfl) (by kernel_rfl) rfl (fun _ _ _ h => h) (by rfl) HS0 ?hy18 ?rest18
  case hy18 =>
    intro x hSx
    obtain ⟨s1, s2, s3, s4, s5, s6⟩ := hSx
    go_simp
    try (with_reducible rfl)
  simp only [Act.put, List.setIfInBounds_toArray, List.set_cons_zero, List.set_cons_succ]
  refine last_take (i := 19) (v := ?v19) rfl (by kernel_rfl) (by kernel_rfl) (by kernel_rfl) (by kernel_rfl) rfl (fun _ _ _ h => h) (by rfl) HS0 ?hy19 ?rest19
  case hy19 =>
    intro x hSx
    obtain ⟨s1, s2, s3, s4, s5, s6⟩ := hSx
    have lk := HLW.out x s6
    go_simp
    try (with_reducible rfl)
  simp only [Act.put, List.setIfInBounds_toArray, List.set_cons_zero, List.set_cons_succ]
  refine last_take (i := 20) (v := ?v20) rfl (by kernel_rfl) (by kernel_rfl) (by kernel_rfl) (by kernel_rfl) rfl (fun _ _ _ h => h) (by rfl) HS0 ?hy20 ?rest20
  case hy20 =>
    intro x hSx
    obtain ⟨s1, s2, s3, s4, s5, s6⟩ := hSx
    go_simp
    try (with_reducible rfl)
  simp only [Act.put, List.setIfInBounds_toArray, List.set_cons_zero, List.set_cons_succ]
  refine last_one (i := 15) (by kernel_rfl) rfl ?_
  intro K1 hK1
  go_simp
  refine (HSH.out _ (drew_below w)).mono ?_
  rintro e x ⟨rfl, hx⟩
  have HS1 : (fun x : World => x.cell? ⟨g1, 0, none⟩ = some (.slice (some ⟨ub, 0, none⟩) l.length l.length) ∧ x.cell? ⟨g2, 0, none⟩ = some (.slice (some ⟨g, o, none⟩) l.length c) ∧ x.cell? ⟨g2, 1, none⟩ = some (.map (some m)) ∧ x.cell? ⟨ub, pk, none⟩ = some (.int .u64 E1) ∧ x.cell? ⟨ub, k, none⟩ = some (.int .u64 U1) ∧ Below w.heap.size w x) x := ⟨keepC hx HS0.1, keepC hx HS0.2.1, keepC hx HS0.2.2.1, keepC hx HS0.2.2.2.1, keepC hx HS0.2.2.2.2.1, (drew_below w).trans hx⟩
  refine hK1.out _ _ (fun _ => HS1) (fun _ => ?_)
  clear hK1 K1
  refine last_one (i := 21) (by kernel_rfl) rfl ?_
  intro K2 hK2
  go_simp
  refine (cP _).mono ?_
  rintro e y ⟨rfl, hy⟩
  have HS2 : (fun x : World => x.cell? ⟨g1, 0, none⟩ = some (.slice (some ⟨ub, 0, none⟩) l.length l.length) ∧ x.cell? ⟨g2, 0, none⟩ = some (.slice (some ⟨g, o, none⟩) l.length c) ∧ x.cell? ⟨g2, 1, none⟩ = some (.map (some m)) ∧ x.cell? ⟨ub, pk, none⟩ = some (.int .u64 E1) ∧ x.cell? ⟨ub, k, none⟩ = some (.int .u64 U1) ∧ Below w.heap.size w x) y := ⟨keepC hy HS1.1, keepC hy HS1.2.1, keepC hy HS1.2.2.1, keepC hy HS1.2.2.2.1, keepC hy HS1.2.2.2.2.1, HS1.2.2.2.2.2.trans (hy.mono HS1.2.2.2.2.2.size)⟩
  refine hK2.out _ _ (fun _ => HS2) (fun _ => ?_)
  clear hK2 K2
  refine last_take (i := 22) (v := ?v22) rfl (by kernel_rfl) (by kernel_rfl) (by kernel_rfl) (by kernel_rfl) rfl (fun _ _ _ h => h) (by rfl) HS2 ?hy22 ?rest22
  case hy22 =>
    intro x hSx
    obtain ⟨s1, s2, s3, s4, s5, s6⟩ := hSx
    go_simp
    try (with_reducible rfl)
  simp only [Act.put, List.setIfInBounds_toArray, List.set_cons_zero, List.set_cons_succ]
  refine last_take (i := 23) (v := ?v23) rfl (by kernel_rfl) (by kernel_rfl) (by kernel_rfl) (by kernel_rfl) rfl (fun _ _ _ h => h) (by rfl) HS2 ?hy23 ?rest23
  case hy23 =>
    intro x hSx
    obtain ⟨s1, s2, s3, s4, s5, s6⟩ := hSx
    go_simp
    try (with_reducible rfl)
  simp only [Act.put, List.setIfInBounds_toArray, List.set_cons_zero, List.set_cons_succ]
  refine last_one (i := 24) (by kernel_rfl) rfl ?_
  intro K3 hK3
  have y5 : y.cell? ⟨ub, k, none⟩ = some (.int .u64 U1) := HS2.2.2.2.2.1
  have BY : Below w.heap.size w y := HS2.2.2.2.2.2
  have y6 := keepF BY p3 f3
  have HJ : Hid (InvE WF m g o c g1 g2 ub l W (fun j => D j ∨ j = k) (y.setCell ⟨ub, k, none⟩ (.int .u64 N2))) := show InvE WF m g o c g1 g2 ub l W (fun j => D j ∨ j = k) (y.setCell ⟨ub, k, none⟩ (.int .u64 N2)) from
    ⟨(HI.out.bel.trans (Chg.of_below BY (fun j => j = ub)) (fun _ _ h => h)).setCell _ _ (.inl rfl), far_cell HS2.1 (.inl n1), far_cell HS2.2.1 (.inl n2), far_cell HS2.2.2.1 (.inl n2), ⟨_, (HFN.out.1.below BY).set k N2, fun j hj => by
      unfold updF
      by_cases e : j = k
      · rw [if_pos e, e, HN2.out]
        exact ⟨fun _ => rfl, fun h => absurd (.inr rfl) h⟩
      · rw [if_neg e]
        exact ⟨fun h => (HFN.out.2 j hj).1 (h.elim id (fun h => absurd h e)), fun h => (HFN.out.2 j hj).2 (fun hd => h (.inl hd))⟩⟩⟩
  have HC : Hid (Chg (fun j => j = ub) w (y.setCell ⟨ub, k, none⟩ (.int .u64 N2))) := show Chg (fun j => j = ub) w (y.setCell ⟨ub, k, none⟩ (.int .u64 N2)) from (Chg.of_below BY _).setCell _ _ (.inl rfl)
  go_simp
  refine hK3.out _ _ (fun h => absurd rfl h) (fun _ => ?_)
  clear hK3 K3
  refine last_done (by kernel_rfl) ?_ _
  go_wp2
  go_end0
  exact ⟨rfl, HJ.out, HC.out⟩
end Go.Proofs.YtjgllfpnmmopdaaGreatDoor
