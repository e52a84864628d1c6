/-
 LAYER 13: package share: part, atLeast, power, a family's shares.
 LAYER 13: package share: familyOf: who is whose parent, in a map of rows.
 LAYER 13: package share: familyOf walked.
 A region that draws, whose last operation turns a cell that the others read: what is to stand behind each operation is not asked behind the last one (number L), for which every operation that is taken first must be waited for.
-/
import Derived.Test.YtdkbmligaodpmaaGreatDoorXmtz
import Derived.Test.YtdkbmligaodpmaaGreatDoorXfxz
import Derived.Test.YtdkbmligaodpmaaGreatDoorCfEqz
import Derived.Test.YtdkbmligaodpmaaGreatDoorRfXz
import Derived.Test.YtdkbmligaodpmaaGreatDoorXpgz
import Derived.Test.YtdkbmligaodpmaaGreatDoorProg
import Derived.Deep.CutBlock
import Derived.Deep.DeepCutAuto
import Derived.Maps.Own
import Derived.Maps.OwnSet
import Derived.Maps.AppendAt
import Derived.Deep.RegionHeld3
import Derived.StillTail
namespace Go.Proofs.YtdkbmligaodpmaaGreatDoor
open Go.RowKit Wd Tr

theorem divV_eq (a b : Int) : divV a b = a / b := by
 unfold divV
 split
 ·rename_i h; rw [h, Int.ediv_zero]
 ·rfl
set_option maxHeartbeats 400000 in
set_option maxRecDepth 20000 in
theorem fshares_any {W : World} {g o n L c m : Nat} {a : Ac} (hA : AcAt W g (o + n * 5) a) (hn : n < L) (h1 : 0 ≤ a.sh) (h2 : a.sh ≤ 4096) :
  Calls Tryz.prog 146 #[.agg #[.slice (some ⟨g, o, none⟩) L c, .map (some m)], .int .i64 n] W fun e w' => e = .returned (.int .u64 a.sh) ∧ Below W.heap.size W w' := by
 have e1 : IntKind.u64.wrap a.sh = a.sh := by rw [IntKind.wrap_u64]; omega
 have hn' : (n : Int) < L := by omega
 have x1 := hA.sh
 have hb : Below W.heap.size W (W.alloc (.cells #[.slice (some ⟨g, o, none⟩) L c, .map (some m)] 204)) := (Below.refl _ _).alloc (Nat.le_refl _) _
 have x2 : (W.alloc (.cells #[.slice (some ⟨g, o, none⟩) L c, .map (some m)] 204)).cell? ⟨g, o + n * 5 + 2, none⟩ = some (.int .i64 a.sh) := allocC _ x1
 clear hA x1 h1 h2
 generalize a.sh = sh at *
 go_enter Tryz.func146, Tryz.ntmps146
 go_wp2
 go_ret
 exact ⟨rfl, hb⟩
end Go.Proofs.YtdkbmligaodpmaaGreatDoor
namespace Go.Proofs.YtdkbmligaodpmaaGreatDoor
open Go.RowKit Wd Tr Go.Maps

def heldE (v : Value) : Option (DataW Value × List MemPlace) := some (.held v, [])
def broZ : Value := .agg #[.slice none 0 0, .int .u64 0]
theorem Tryz.keyB : Keyed Tryz.prog 3 := int_keyed Tryz.underlying3
theorem Tryz.zeroB (w : World) : (zeroValue 209).run Tryz.prog w = .ok broZ w := by kernel_rfl
structure Bro (W : World) (B m : Nat) (l : List Ac) (k : Nat) (v : Nat → Value) : Prop where
 map : ∃ D, W.ownsMap Tryz.prog 3 heldE m k D ∧ ∀ p, p < l.length → D.atKey (.int .i64 p) (.held broZ) = .held (.agg #[v p, .int .u64 (togN l p k)])
 row : ∀ p, p < l.length → W.ownsRow B 3 1 (v p) (kidP l p k).length (ints (kidP l p k))
 apart : ∀ p q, p < l.length → q < l.length → p ≠ q → (v p).ownBlock = none ∨ (v p).ownBlock ≠ (v q).ownBlock
 lo : B ≤ m
theorem keyN (p : Nat) (h : p < 9223372036854775808) : keyOf Tryz.prog 3 (.int .i64 (p : Int)) = some (.int .i64 (p : Int)) := keyOf_int_mk Tryz.underlying3 (WalkArith.wf_i64 (by omega))
theorem Bro.look {W : World} {B m k : Nat} {l : List Ac} {v : Nat → Value} (h : Bro W B m l k v) (hl : l.length ≤ 64) {p : Nat} (hp : p < l.length) :
  (Instr.lookup 202 (.map (some m)) (.int .i64 (p : Int)) false).run Tryz.prog W = .ok (.agg #[v p, .int .u64 (togN l p k)]) W := by
 obtain ⟨D, h1, h2⟩ := h.map
 obtain ⟨x, ps, hr, hx⟩ := h1.lookup Tryz.keyB Tryz.underlying202 (Tryz.zeroB W) (zd := .held broZ) (zp := []) rfl (keyN p (by omega))
 rw [h2 p hp] at hx
 unfold heldE at hx
 have hx := DataW.held.inj (Prod.mk.inj (Option.some.inj hx)).1
 rw [hr, hx]
theorem Bro.made {W : World} {B : Nat} {l : List Ac} (h : Wu l) (hB : B ≤ W.heap.size) : Bro (W.alloc (.map #[] 0)) B W.heap.size l 1 (fun _ => .slice none 0 0) := by
 obtain ⟨a, ha, hpa, _⟩ := h.root
 have hk : ∀ p : Nat, kidP l p 1 = [] := fun p => by rw [kidP_no ha (by omega)]; rfl
 have ht : ∀ p : Nat, togN l p 1 = 0 := fun p => by rw [togN_no ha (by omega)]; rfl
 refine ⟨⟨.map [], (World.ownsMap_made W Tryz.prog 3 heldE).mono (by omega), fun p _ => ?_⟩, fun p _ => ?_, fun _ _ _ _ _ => .inl rfl, hB⟩
 ·rw [ht]; rfl
 ·rw [hk]; exact World.ownsRow_nil _ _ _ _
section
variable {W W' : World} {B m k : Nat} {l : List Ac} {v : Nat → Value}
theorem Bro.m_lt (h : Bro W B m l k v) : m < W.heap.size := by
 obtain ⟨D, h1, _⟩ := h.map
 exact h1.lt
theorem Bro.v_lt (h : Bro W B m l k v) {p : Nat} (hp : p < l.length) : ∀ j, (v p).ownBlock = some j → j < W.heap.size ∧ B ≤ j ∧ j ≠ m := fun j hj => by
 obtain ⟨D, ⟨es, clock, hb, _⟩, _⟩ := h.map
 rcases (h.row p hp).2 with ⟨e, _⟩ | ⟨g, cap, cur, e, hg, hh, _⟩
 ·rw [e] at hj; cases hj
 ·rw [e] at hj
  have : g = j := by simpa [Value.ownBlock] using hj
  subst this
  refine ⟨(Array.getElem?_eq_some_iff.1 hh).1, hg, fun e => ?_⟩
  rw [e, hb] at hh
  cases hh
theorem Bro.same (h : Bro W B m l k v) (hm : W'.heap[m]? = W.heap[m]?) (hv : ∀ p, p < l.length → ∀ j, (v p).ownBlock = some j → W'.heap[j]? = W.heap[j]?) : Bro W' B m l k v := by
 obtain ⟨⟨D, ⟨es, clock, hb, h1⟩, h2⟩, hr, ha, hl⟩ := h
 exact ⟨⟨D, ⟨es, clock, hm.trans hb, h1⟩, h2⟩, fun p hp => row_same (hr p hp) (hv p hp), ha, hl⟩
theorem Bro.below (h : Bro W B m l k v) (b : Below W.heap.size W W') : Bro W' B m l k v :=
 h.same (b.block m h.m_lt) (fun _ hp j hj => b.block j (h.v_lt hp j hj).1)
theorem Bro.chg {K : Nat → Prop} (h : Bro W B m l k v) (c : Chg K W W') (hK : ∀ j, K j → j < B ∨ W.heap.size ≤ j) : Bro W' B m l k v :=
 h.same (c.block m h.m_lt (fun x => by rcases hK m x with y | y; have := h.lo; omega; have := h.m_lt; omega))
  (fun _ hp j hj => c.block j (h.v_lt hp j hj).1 (fun x => by have := h.v_lt hp j hj; rcases hK j x with y | y <;> omega))
theorem Bro.base {B' : Nat} (h : Bro W B m l k v) (hB : B' ≤ B) : Bro W B' m l k v := ⟨h.map, fun p hp => own_base (h.row p hp) hB, h.apart, Nat.le_trans hB h.lo⟩
theorem Bro.step {W1 W2 W3 : World} {a : Ac} {p b8 : Nat} {v' : Value} (h : Bro W B m l k v) (hl : l.length ≤ 64) (hk : k < l.length) (ha : l[k]? = some a) (hpa : a.pa = p) (hp : p < l.length)
  (b0 : Below W.heap.size W W1) (hrow : W2.ownsRow B 3 1 v' ((kidP l p k).length + 1) (ints (kidP l p k) ++ [.int .i64 (k : Int)])) (hg : W1.grownBy W2 (v p).ownBlock) (hat : v'.ownBlock = (v p).ownBlock ∨ v'.ownBlock = some W1.heap.size)
  (b2 : Chg (fun j => j = b8) W2 W3) (h8 : W.heap.size ≤ b8) (h8' : b8 < W1.heap.size) :
  ∃ W4, (Instr.mapUpdate 202 (.map (some m)) (.int .i64 (p : Int)) (.agg #[v', .int .u64 (togN l p k + a.sh)])).run Tryz.prog W3 = .ok () W4 ∧
   Bro W4 B m l (k + 1) (fun q => if q = p then v' else v q) ∧ W3.grownBy W4 (some m) := by
 have h1 := h.below b0
 have hm2 : W2.heap[m]? = W1.heap[m]? := hg.block m h1.m_lt (fun e => (h1.v_lt hp m (e.symm ▸ rfl)).2.2 rfl)
 have h1m := h1.m_lt
 have s12 := hg.size
 have hm0 := h.m_lt
 have hm3 : W3.heap[m]? = W2.heap[m]? := b2.block m (by omega) (by omega)
 obtain ⟨D, hD, hat2⟩ := h1.map
 have hD3 : W3.ownsMap Tryz.prog 3 heldE m k D := by
  obtain ⟨es, clock, hb, r⟩ := hD
  exact ⟨es, clock, (hm3.trans hm2).trans hb, r⟩
 obtain ⟨W4, hrun, hD4, hg4⟩ := hD3.update Tryz.keyB Tryz.underlying202 (show k < maxLen by unfold maxLen; omega) (keyN p (by omega)) (val := .agg #[v', .int .u64 (togN l p k + a.sh)]) (d := .held (.agg #[v', .int .u64 (togN l p k + a.sh)])) (ps := []) rfl
 have hism : Maps.IsMap D := hD.isMap
 refine ⟨W4, hrun, ⟨⟨_, hD4, fun q hq => ?_⟩, fun q hq => ?_, fun q r hq hr hne => ?_, h.lo⟩, hg4⟩
 ·by_cases e : q = p
  ·subst e
   simp only [if_true]
   rw [Maps.atKey_put_same hism (by exact trivial), togN_yes ha hpa]
  ·rw [Maps.atKey_put_other (fun x => e (by have := (Lit.int.inj x).2; omega)), hat2 q hq, togN_no ha (by rw [hpa]; omega)]
   simp only [e, if_false]
 ·have hk4 : ∀ j, j < W3.heap.size → j ≠ m → W4.heap[j]? = W3.heap[j]? := fun j hj hne => hg4.block j hj (fun e => hne (Option.some.inj e))
  by_cases e : q = p
  ·subst e
   simp only [if_true]
   rw [kidP_yes ha hpa]
   have hr2 : W2.ownsRow B 3 1 v' (kidP l q k ++ [k]).length (ints (kidP l q k ++ [k])) := by
    have : ints (kidP l q k ++ [k]) = ints (kidP l q k) ++ [.int .i64 (k : Int)] := by simp [ints]
    rw [this, List.length_append]
    exact hrow
   refine row_same hr2 (fun j hj => ?_)
   have hj8 : j ≠ b8 := fun e => by
    rcases hat with x | x
    ·have := (h.v_lt hp j (x.symm.trans hj)).1
     omega
    ·rw [hj] at x
     have := Option.some.inj x
     omega
   have hj2 : ∃ cs, W2.heap[j]? = some (.cells cs 3 (0, 0)) := by
    rcases hr2.2 with ⟨e, _⟩ | ⟨g, cap, cur, e, _, hh, _⟩
    ·rw [e] at hj; cases hj
    ·rw [e] at hj
     have : g = j := by simpa [Value.ownBlock] using hj
     subst this
     exact ⟨_, hh⟩
   obtain ⟨cs, hcs⟩ := hj2
   have hjl := (Array.getElem?_eq_some_iff.1 hcs).1
   refine (hk4 j (by have := b2.size; omega) (fun e => ?_)).trans (b2.block j hjl hj8)
   rw [e, hm2] at hcs
   obtain ⟨es, clock, hb, _⟩ := hD
   rw [hb] at hcs
   cases hcs
  ·simp only [e, if_false]
   rw [kidP_no ha (by rw [hpa]; omega)]
   refine row_same (h1.row q hq) (fun j hj => ?_)
   have hv := h1.v_lt hq j hj
   have hv0 := (h.v_lt hq j hj).1
   rw [hk4 j (by have := b2.size; omega) hv.2.2, b2.block j (by omega) (by omega)]
   refine hg.block j hv.1 (fun x => ?_)
   rcases h1.apart q p hq hp e with y | y
   ·rw [y] at hj; cases hj
   ·exact y (hj.trans x)
 ·have key : ∀ q r, q < l.length → r < l.length → q ≠ r → q = p → (v'.ownBlock = none ∨ v'.ownBlock ≠ (v r).ownBlock) := fun q r hq hr hne e => by
   subst e
   rcases hat with x | x
   ·rw [x]; exact h1.apart q r hq hr hne
   ·rw [x]
    refine .inr (fun y => ?_)
    have := (h1.v_lt hr _ y.symm).1
    omega
  by_cases e : q = p
  ·have e' : r ≠ p := fun x => hne (e.trans x.symm)
   simp only [e, if_true, e', if_false]
   exact key q r hq hr hne e
  ·by_cases e' : r = p
   ·simp only [e, if_false, e', if_true]
    rcases key r q hr hq (Ne.symm hne) e' with x | x
    ·rw [x]
     cases hv : (v q).ownBlock with
     | none => exact .inl rfl
     | some _ => exact .inr (by simp)
    ·exact .inr (fun y => x y.symm)
   ·simp only [e, if_false, e']
    exact h1.apart q r hq hr hne
end
end Go.Proofs.YtdkbmligaodpmaaGreatDoor
namespace Go.Proofs.YtdkbmligaodpmaaGreatDoor
open Go.RowKit Wd Tr Go.Maps

def FamP (w : World) (ao : Option Addr) (l : List Ac) (c : Nat) (e : Ending) (w' : World) : Prop :=
 (loadE l = 0 → ∃ m v, e = .returned (.tuple #[.agg #[.slice ao l.length c, .map (some m)], .bool true]) ∧ Bro w' w.heap.size m l l.length v) ∧
 (loadE l ≠ 0 → e = .returned (.tuple #[.agg #[.slice none 0 0, .map none], .bool false])) ∧ Below w.heap.size w w'
theorem drew_below (w : World) : Below w.heap.size w w.drew := ⟨rfl, rfl, rfl, Nat.le_refl _, fun _ _ => rfl⟩
theorem grown_block {w w' : World} {r : Option Nat} {j : Nat} {o : Obj} (hg : w.grownBy w' r) (h : w.heap[j]? = some o) (hne : some j ≠ r) : w'.heap[j]? = some o := (hg.block j (Array.getElem?_eq_some_iff.1 h).1 hne).trans h
theorem set_block {w : World} {j b k : Nat} {o : Obj} {v : Value} (h : w.heap[j]? = some o) (hne : j ≠ b) : (w.setCell ⟨b, k, none⟩ v).heap[j]? = some o := by
 rw [heap_setCell_other w ⟨b, k, none⟩ j v hne]
 exact h
theorem AcAt.lo {W W' : World} {B g o : Nat} {a : Ac} (h : AcAt W g o a) (b : Below B W W') (hg : g < B) : AcAt W' g o a :=
 ⟨(b.cell (p := ⟨g, o, none⟩) hg).trans h.nm, (b.cell (p := ⟨g, o + 1, none⟩) hg).trans h.pa, (b.cell (p := ⟨g, o + 2, none⟩) hg).trans h.sh, (b.cell (p := ⟨g, o + 3, none⟩) hg).trans h.cl, (b.cell (p := ⟨g, o + 4, none⟩) hg).trans h.us⟩
theorem below_grown {w w' : World} {r : Option Nat} {B : Nat} (hg : w.grownBy w' r) (hr : ∀ j, r = some j → B ≤ j) (hB : B ≤ w.heap.size) : Below B w w' :=
 ⟨hg.os, hg.tape, hg.output, hg.size, fun k hk => hg.block k (by omega) (fun e => by have := hr k e.symm; omega)⟩
theorem heap_keep {w w' : World} {j : Nat} {o : Obj} (b : Below w.heap.size w w') (h : w.heap[j]? = some o) : w'.heap[j]? = some o := (b.block j (Array.getElem?_eq_some_iff.1 h).1).trans h
set_option maxHeartbeats 2000000 in
set_option maxRecDepth 20000 in
theorem famof_any {w : World} {ao : Option Addr} {l : List Ac} {c : Nat} (hA : AcsAt w ao l) (hs : ∀ a ∈ l, a.nm.size ≤ maxLen) (hn : l.length * 48 ≤ 140737488355328) (hc : l.length ≤ c) :
  Calls Tryz.prog 143 #[.slice ao l.length c] w (FamP w ao l c) := by
 have hA1 : AcsAt (w.alloc (.cells #[.slice none 0 0, .map none] 204)) ao l := hA.below ((Below.refl _ _).alloc (Nat.le_refl _) _)
 have hld := pload_any (c := c) hA1 hs hn hc
 have b0 : Below w.heap.size w (w.alloc (.cells #[.slice none 0 0, .map none] 204)) := (Below.refl _ _).alloc (Nat.le_refl _) _
 have hT0 : (w.alloc (.cells #[.slice none 0 0, .map none] 204)).heap[w.heap.size]? = some (.cells #[.slice none 0 0, .map none] 204 (0, 0)) := heap_alloc_new w _
 have z0 : (w.alloc (.cells #[.slice none 0 0, .map none] 204)).heap.size = w.heap.size + 1 := by simp
 obtain ⟨w0, hw0⟩ : ∃ w0, w.alloc (.cells #[.slice none 0 0, .map none] 204) = w0 := ⟨_, rfl⟩
 rw [hw0] at hA1 hld b0 hT0 z0
 by_cases hE : loadE l = 0
 ·have hwu : Wu l := wf_load hE
  have hlen := hwu.len
  obtain ⟨g, o, hao, hcl⟩ := hA1
  obtain rfl := hao hwu.pos
  have HCL : Hid (∀ k a, l[k]? = some a → AcAt w0 g (o + k * 5) a) := hcl
  have HWU : Hid (Wu l) := hwu
  obtain ⟨q, hq⟩ : ∃ q, l.length = q := ⟨_, rfl⟩
  have HQ : Hid (l.length = q) := hq
  have HE : Hid (loadE l = 0) := hE
  have HE0 : Hid (loadE l = 0) := hE
  have HZ : Hid (w0.heap.size = w.heap.size + 1) := z0
  rw [hq] at hld hlen hc hn
  clear hcl hA hs hwu hE hao z0
  have hmm := @run_makeMap Tryz.prog
  go_enter Tryz.func143, Tryz.ntmps143
  go_wp2_with fail
  refine hld.mono ?_
  rintro e w1 ⟨h1, _, hb1⟩
  obtain ⟨t, rfl, _⟩ := h1 HE.out
  have b1 : Below w.heap.size w w1 := b0.trans (hb1.mono (by have := HZ.out; omega))
  have hz1 : w.heap.size < w1.heap.size := by have := hb1.size; have := HZ.out; omega
  have T1 := heap_keep hb1 hT0
  have HC1 : Hid (∀ k a, l[k]? = some a → AcAt w1 g (o + k * 5) a) := fun k a ha => (HCL.out k a ha).below hb1
  clear h1 hld b0 hT0 hb1 HCL HZ HE
  have hw2 : ∃ w2, (w1.alloc (.map #[] 0)).alloc (.cells #[.slice (some ⟨g, o, none⟩) q c, .map (some w1.heap.size)] 204) = w2 := ⟨_, rfl⟩
  obtain ⟨w2, hw2⟩ := hw2
  obtain ⟨m, hm⟩ : ∃ m, w1.heap.size = m := ⟨_, rfl⟩
  have HB2 : Hid (Bro w2 m m l 1 (fun _ => .slice none 0 0)) := show Bro w2 m m l 1 (fun _ => .slice none 0 0) by
   rw [← hw2, ← hm]
   exact (Bro.made HWU.out (Nat.le_refl _)).below ((Below.refl _ _).alloc (Nat.le_refl _) _)
  have bb : Below w1.heap.size w1 w2 := by rw [← hw2]; exact ((Below.refl _ _).alloc (Nat.le_refl _) _).alloc (by simp) _
  have F2 : w2.heap[m + 1]? = some (.cells #[.slice (some ⟨g, o, none⟩) q c, .map (some m)] 204 (0, 0)) := by
   rw [← hw2, ← hm]
   have := heap_alloc_new (w1.alloc (.map #[] 0)) (.cells #[.slice (some ⟨g, o, none⟩) q c, .map (some w1.heap.size)] 204)
   simpa using this
  have T2 := heap_keep bb T1
  have HC2 : Hid (∀ k a, l[k]? = some a → AcAt w2 g (o + k * 5) a) := fun k a ha => (HC1.out k a ha).below bb
  have b2 : Below w.heap.size w w2 := b1.trans (bb.mono (by omega))
  have HB1 : Hid (Below w.heap.size w w2) := b2
  have HM : Hid (w.heap.size < m) := show w.heap.size < m by omega
  have hm2 : m + 1 < w2.heap.size := (Array.getElem?_eq_some_iff.1 F2).1
  have HF2 : Hid _ := F2
  have HT2 : Hid _ := T2
  have HM2 : Hid _ := hm2
  have HGm : Hid (g < m) := show g < m by
   obtain ⟨a0, ha0, _⟩ := HWU.out.root
   have := World.block_lt_of_cell? w1 _ (HC1.out 0 a0 ha0).nm
   simp only at this
   omega
  clear b1 T1 HC1 bb F2 T2 b2 hz1 hm2
  rw [hm] at hw2
  go_wp2
  obtain ⟨i0, hi0, hz0, hz1, hz2⟩ : ∃ i, Tryz.prog.info? 3 = some i ∧ i.zero = some (.int .i64 0) ∧ i.size = 1 ∧ i.bytes = 8 := by
   have h := Tryz.inf3
   cases hi : Tryz.prog.info? 3 with
   | none => rw [hi] at h; cases h
   | some i =>
    rw [hi] at h
    simp at h
    exact ⟨i, rfl, h.1, h.2.1, h.2.2⟩
  have HI : Hid (Tryz.prog.info? 3 = some i0 ∧ i0.zero = some (.int .i64 0) ∧ i0.size = 1 ∧ i0.bytes = 8) := ⟨hi0, hz0, hz1, hz2⟩
  clear hi0 hz0 hz1 hz2 hw0 hw2 hm
  go_loopg [7] q (fun gk x wr => ∃ (k : Nat) (v : Nat → Value), 0 < k ∧ k ≤ q ∧ k + gk = q + 1 ∧ x = .int .i64 k ∧ Bro wr m m l k v ∧ wr.heap[m + 1]? = some (.cells #[.slice (some ⟨g, o, none⟩) q c, .map (some m)] 204 (0, 0)) ∧ wr.heap[w.heap.size]? = some (.cells #[.slice none 0 0, .map none] 204 (0, 0)) ∧ Below w.heap.size w wr ∧ (∀ k a, l[k]? = some a → AcAt wr g (o + k * 5) a))
  case atStart => exact ⟨1, _, by omega, by have := HWU.out.pos; have := HQ.out; omega, by omega, rfl, HB2.out, HF2.out, HT2.out, HB1.out, HC2.out⟩
  case round =>
   obtain ⟨k, v, hk0, hkl, hkg, rfl, hbro, hF, hT, hB, hAc⟩ := hrel
   by_cases hkq : k < q
   ·have hkq' : (k : Int) < q := by omega
    obtain ⟨a, ha⟩ : ∃ a, l[k]? = some a := ⟨_, List.getElem?_eq_getElem (by rw [HQ.out]; exact hkq)⟩
    obtain ⟨p0, p1, s0, s1⟩ := HWU.out.row ha hk0
    rw [HQ.out] at p1
    obtain ⟨p, hp⟩ : ∃ p : Nat, a.pa = p := ⟨a.pa.toNat, by omega⟩
    have HP : Hid (a.pa = p) := hp
    have HPq : Hid (p < l.length) := show p < l.length by rw [HQ.out]; omega
    have HA : Hid _ := ha
    have HBR : Hid _ := hbro
    have x1 : wr.cell? ⟨g, o + k * 5 + 1, none⟩ = some (.int .i64 (p : Int)) := by
     have := (hAc k a ha).pa
     rw [hp] at this
     exact this
    have F0 := cells_at (k := 0) hF rfl
    have F1 := cells_at (k := 1) hF rfl
    have b8 : Below wr.heap.size wr (wr.alloc (.cells #[.slice none 0 0, .int .u64 0] 209)).drew := ((Below.refl _ _).alloc (Nat.le_refl _) _).drew
    have lk := (hbro.below b8).look HWU.out.len HPq.out
    obtain ⟨va, vc, hv⟩ := sl_shape (hbro.row p HPq.out)
    rw [hv] at lk
    have HV : Hid _ := hv
    have x2 := cellB b8 x1
    have F2 := cellB b8 F0
    have F3 := cellB b8 F1
    have lk0 := (hbro.below (drew_below wr)).look HWU.out.len HPq.out
    rw [hv] at lk0
    have HFF : Hid _ := hF
    have HTT : Hid _ := hT
    have HBB : Hid _ := hB
    have HAc : Hid _ := hAc
    clear hbro hF hT hB hAc ha p0 p1 hp hk0 HB2 HF2 HT2 HB1 HC2 b8 hv
    obtain ⟨tg, htg⟩ : ∃ tg, togN l (↑p) k = tg := ⟨_, rfl⟩
    have HTG : Hid (0 ≤ tg ∧ tg ≤ 262144) := by
     have := togN_word HWU.out p (k := k) (by omega)
     rw [htg] at this
     exact this
    rw [htg] at lk lk0
    have HTE : Hid _ := htg
    clear htg
    have hnk : (kidP l p k).length ≤ 64 := by have := kidP_le l p k; omega
    obtain ⟨nk, hnkE⟩ : ∃ nk, (kidP l p k).length = nk := ⟨_, rfl⟩
    rw [hnkE] at hnk lk lk0
    have HN : Hid _ := hnkE
    clear hnkE
    go_upto_region 8 with fail
    go_cut [8] (fun b wq => b = .pointer (some ⟨wr.heap.size, 0, none⟩) ∧ (wr.alloc (.cells #[.slice va nk vc, .int .u64 tg] 209)).drew = wq)
    case first =>
     go_region
     all_goals
      go_wp2
      go_meet
      exact ⟨rfl, rfl⟩
    case rest =>
     obtain ⟨rfl, hwA⟩ := hcut
     generalize wc = wA at *
     have bA : Below wr.heap.size wr wA := by rw [← hwA]; exact ((Below.refl _ _).alloc (Nat.le_refl _) _).drew
     have hG : wA.heap[wr.heap.size]? = some (.cells #[.slice va nk vc, .int .u64 tg] 209 (0, 0)) := by rw [← hwA]; exact heap_alloc_new wr _
     have hzA : wr.heap.size < wA.heap.size := (Array.getElem?_eq_some_iff.1 hG).1
     have g0 := cells_at (k := 0) hG rfl
     have g1 := cells_at (k := 1) hG rfl
     have e0 := frozen_at (k := 0) hG
     have e1 := frozen_at (k := 1) hG
     have HbA : Hid _ := bA
     have HzA : Hid _ := hzA
     have HG : Hid _ := hG
     have hrow : (wA.alloc (.cells #[.int .i64 (k : Int)] 3)).ownsRow m 3 1 (.slice va nk vc) nk (ints (kidP l p k)) := by
      have := ((HBR.out.below bA).row p HPq.out).alloc (.cells #[.int .i64 (k : Int)] 3)
      rw [HV.out, HN.out] at this
      exact this
     obtain ⟨hi0, hz0, hz1, hz2⟩ := HI.out
     have hmw : m ≤ wA.heap.size := by have := HBR.out.m_lt; omega
     have hvl := fun j hj => HBR.out.v_lt HPq.out j (HV.out.symm ▸ hj : (v p).ownBlock = some j)
     have bI : Below wA.heap.size wA (wA.alloc (.cells #[.int .i64 (k : Int)] 3)) := (Below.refl _ _).alloc (Nat.le_refl _) _
     have HW1 : Hid (Below wr.heap.size wr (wA.alloc (.cells #[.int .i64 (k : Int)] 3))) := bA.trans (bI.mono (by omega))
     have HG1 : Hid _ := heap_keep bI hG
     have HF1 : Hid _ := heap_keep HW1.out HFF.out
     have HN8 : Hid (∀ j, (Value.slice va nk vc).ownBlock = some j → j < wr.heap.size ∧ m ≤ j ∧ j ≠ m + 1) := fun j hj => by
      rw [HN.out] at hvl
      obtain ⟨j1, j2, j3⟩ := hvl j hj
      refine ⟨j1, j2, fun e => ?_⟩
      obtain ⟨cs, hcs⟩ := own_tag hrow j hj
      rw [e, HF1.out] at hcs
      exact absurd (Obj.cells.inj (Option.some.inj hcs)).2.1 (by decide)
     have HZ1 : Hid (wr.heap.size < (wA.alloc (.cells #[.int .i64 (k : Int)] 3)).heap.size) := show wr.heap.size < (wA.alloc (.cells #[.int .i64 (k : Int)] 3)).heap.size by simp; omega
     clear lk lk0 x1 x2 F0 F1 F2 F3 hwA bA hzA hG hvl bI
     go_wp2_with (at_builtin; refine wpList_append_own_at _ rfl (.tmp 35) (.tmp 37) 37 rfl m 3 i0 _ 1 8 Tryz.underlying37 hi0 hz0 hz1 hz2 rfl (by decide) (.slice va nk vc) nk (ints (kidP l p k)) rfl hrow ⟨_, 0, none⟩ 1 1 [.int .i64 (k : Int)] rfl rfl (cell_one_new _ _ _) (fun u hu => by simp at hu; subst hu; rfl) ?_ ?_ ?_ ?_; exact (Nat.le_trans (m := 35184372088832) (by omega) (by decide)); omega; (simp; omega); intro v' w5 hown hgr _ hat; obtain ⟨va', vc', rfl⟩ := sl_shape hown; have hG5 := grown_block hgr HG1.out (fun e => Nat.lt_irrefl _ (HN8.out _ e.symm).1); have g50 := cells_at (k := 0) hG5 rfl; have g51 := cells_at (k := 1) hG5 rfl; have e50 := frozen_at (k := 0) hG5; have e51 := frozen_at (k := 1) hG5; have HG5 : Hid _ := hG5; have HO5 : Hid _ := hown; have HR5 : Hid _ := hgr; have HA5 : Hid _ := hat; clear hown hgr hat hG5)
     obtain ⟨w6, hw6⟩ : ∃ w6, w5.setCell ⟨wr.heap.size, 0, none⟩ (.slice va' (nk + 1) vc') = w6 := ⟨_, rfl⟩
     have hG6 : w6.heap[wr.heap.size]? = some (.cells #[.slice va' (nk + 1) vc', .int .u64 tg] 209 (0, 0)) := by
      rw [← hw6]
      exact heap_setCell_same _ _ 0 _ _ _ HG5.out
     have h8F : m + 1 < wr.heap.size := (Array.getElem?_eq_some_iff.1 HFF.out).1
     have hF6 : w6.heap[m + 1]? = some (.cells #[.slice (some ⟨g, o, none⟩) q c, .map (some m)] 204 (0, 0)) := by
      rw [← hw6]
      exact set_block (grown_block HR5.out HF1.out (fun e => (HN8.out _ e.symm).2.2 rfl)) (by omega)
     have B56 : Below m wr w6 := by
      rw [← hw6]
      exact (((HW1.out).mono (by omega)).trans (below_grown HR5.out (fun j hj => (HN8.out j hj).2.1) (by have := HZ1.out; omega))).setCell (by simp; omega) _
     have C56 : Chg (fun j => j = wr.heap.size) w5 w6 := by
      rw [← hw6]
      exact (Chg.refl _ _).setCell _ _ (.inl rfl)
     have HA6 : Hid (AcAt w6 g (o + k * 5) a) := (HAc.out k a HA.out).lo B56 HGm.out
     have hfs := fun x (hx : AcAt x g (o + k * 5) a) => fshares_any (c := c) (m := m) hx hkq (by omega) s1
     have g60 := cells_at (k := 0) hG6 rfl
     have g61 := cells_at (k := 1) hG6 rfl
     have e60 := frozen_at (k := 0) hG6
     have e61 := frozen_at (k := 1) hG6
     have q60 := cells_at (k := 0) hF6 rfl
     have q61 := cells_at (k := 1) hF6 rfl
     have hz6 : wr.heap.size < w6.heap.size := (Array.getElem?_eq_some_iff.1 hG6).1
     have et : IntKind.u64.wrap (tg + a.sh) = tg + a.sh := by
      have := HTG.out
      rw [IntKind.wrap_u64]
      omega
     have HG6 : Hid _ := hG6
     have HF6 : Hid _ := hF6
     have HB6 : Hid _ := B56
     have HC6 : Hid _ := C56
     have HZ6 : Hid _ := hz6
     clear g50 g51 e50 e51 g0 g1 e0 e1 hG6 hF6 B56 C56 hz6 hi0 hz0 hz1 hz2 hrow
     go_upto_region 10 with fail
     rw [hw6]
     clear hw6
     go_cut [8] (fun b wq => b = .pointer (some ⟨wr.heap.size, 0, none⟩) ∧ ∃ w7, Below w6.heap.size w6 w7 ∧ w7.setCell ⟨wr.heap.size, 1, none⟩ (.int .u64 (tg + a.sh)) = wq)
     case first =>
      go_region_with (go_at_call 146; refine (hfs _ (HA6.out.below (drew_below _))).mono ?_; rintro e x ⟨rfl, hx⟩; have y1 := keepC hx g61; have y2 := keepF hx g61 e61)
      all_goals
       go_wp2
       go_meet
       exact ⟨rfl, x, (drew_below w6).trans hx, rfl⟩
     case rest =>
      obtain ⟨rfl, w7, hw7, hw8⟩ := hcut
      clear g60 g61 e60 e61 q60 q61 hfs
      have hG7 := heap_keep hw7 HG6.out
      have hG8 : wc.heap[wr.heap.size]? = some (.cells #[.slice va' (nk + 1) vc', .int .u64 (tg + a.sh)] 209 (0, 0)) := by
       rw [← hw8]
       exact heap_setCell_same _ _ 1 _ _ _ hG7
      have h8F : m + 1 < wr.heap.size := (Array.getElem?_eq_some_iff.1 HFF.out).1
      have h8T : w.heap.size < wr.heap.size := (Array.getElem?_eq_some_iff.1 HTT.out).1
      have hF8 : wc.heap[m + 1]? = some (.cells #[.slice (some ⟨g, o, none⟩) q c, .map (some m)] 204 (0, 0)) := by
       rw [← hw8]
       exact set_block (heap_keep hw7 HF6.out) (by omega)
      have B68 : Below m wr wc := by
       rw [← hw8]
       exact (HB6.out.trans (hw7.mono (by have := HZ6.out; omega))).setCell (by simp; omega) _
      have C58 : Chg (fun j => j = wr.heap.size) w5 wc.drew := by
       rw [← hw8]
       exact (((HC6.out.trans (Chg.of_below hw7 (fun j => j = wr.heap.size)) (fun _ _ h => h)).setCell _ _ (.inl rfl))).drew
      obtain ⟨w9, hup, hbr9, hg9⟩ := HBR.out.step HWU.out.len (by rw [HQ.out]; exact hkq) HA.out HP.out HPq.out HW1.out (v' := .slice va' (nk + 1) vc') (by rw [HN.out]; exact HO5.out) (by rw [HV.out, HN.out]; exact HR5.out) (by rw [HV.out, HN.out]; exact HA5.out) C58 (Nat.le_refl _) HZ1.out
      rw [HTE.out] at hup
      have A8 := (HAc.out k a HA.out).lo B68 HGm.out
      have x8 := A8.pa
      rw [HP.out] at x8
      have g80 := cells_at (k := 0) hG8 rfl
      have g81 := cells_at (k := 1) hG8 rfl
      have q81 := cells_at (k := 1) hF8 rfl
      have hm9 := HBR.out.m_lt
      have B9 : Below m wr w9 := (B68.trans ((drew_below wc).mono (by have := B68.size; omega))).trans (below_grown hg9 (fun j hj => by have := Option.some.inj hj; omega) (by have := B68.size; simp; omega))
      have HF9 : Hid _ := grown_block hg9 (show wc.drew.heap[m + 1]? = _ from hF8) (by simp)
      have HT9 : Hid (w9.heap[w.heap.size]? = some (.cells #[.slice none 0 0, .map none] 204 (0, 0))) := (B9.block w.heap.size (by have := HM.out; omega)).trans HTT.out
      have HB9 : Hid (Below w.heap.size w w9) := HBB.out.trans (B9.mono (by have := HM.out; omega))
      have HA9 : Hid (∀ k a, l[k]? = some a → AcAt w9 g (o + k * 5) a) := fun i b hb => (HAc.out i b hb).lo B9 HGm.out
      have HBR9 : Hid _ := hbr9
      clear hG7 hG8 hF8 B68 C58 A8 hbr9 hg9 B9 hw7 hw8
      go_upto_region 11 with fail
      go_region
      go_wp2
      go_roundg (q + 1 - (k + 1))
      case measure => omega
      case rel => exact ⟨k + 1, _, by omega, by omega, by omega, rfl, HBR9.out, HF9.out, HT9.out, HB9.out, HA9.out⟩
   ·obtain rfl : k = q := by omega
    have F0 := cells_at (k := 0) hF rfl
    have F1 := cells_at (k := 1) hF rfl
    have T0 := cells_at (k := 0) hT rfl
    have T1 := cells_at (k := 1) hT rfl
    have U0 := frozen_at (k := 0) hT
    have U1 := frozen_at (k := 1) hT
    have hbr := hbro
    rw [← HQ.out] at hbr
    have hne : w.heap.size ≠ m + 1 := by have := HM.out; omega
    have HBR : Hid (Bro ((wr.setCell ⟨w.heap.size, 0, none⟩ (.slice (some ⟨g, o, none⟩) k c)).setCell ⟨w.heap.size, 1, none⟩ (.map (some m))) w.heap.size m l l.length v) :=
     show Bro _ _ _ _ _ _ from (hbr.chg (K := fun j => j = w.heap.size) (((Chg.refl (fun j => j = w.heap.size) wr).setCell _ _ (.inl rfl)).setCell _ _ (.inl rfl)) (fun j hj => .inl (by have := HM.out; omega))).base (by have := HM.out; omega)
    have HBB : Hid _ := hB
    clear hF hT hbro hbr hB hAc hk0
    go_wp2
    refine bodyPost_ret (v := .tuple #[.agg #[.slice (some ⟨g, o, none⟩) k c, .map (some m)], .bool true]) (by simp [results, Tryz.results143, go_sem, *]) rfl ⟨fun _ => ⟨m, v, by rw [HQ.out], HBR.out⟩, fun h => absurd HE0.out h, ?_⟩
    exact (HBB.out.setCell (Nat.le_refl _) _).setCell (Nat.le_refl _) _
 ·obtain ⟨er, her⟩ : ∃ er, loadE l = er := ⟨_, rfl⟩
  have HR : Hid (loadE l = er) := her
  rw [her] at hE
  have he' : (er == 0) = false := by simp [hE]
  have HZ : Hid (w0.heap.size = w.heap.size + 1) := z0
  clear hA hs hn hc her z0
  go_enter Tryz.func143, Tryz.ntmps143
  go_wp2_with fail
  refine hld.mono ?_
  rintro e w1 ⟨_, h2, hb1⟩
  obtain rfl := h2 (by rw [HR.out]; exact hE)
  rw [HR.out]
  have T1 := heap_keep hb1 hT0
  have c0 := cells_at (k := 0) T1 rfl
  have c1 := cells_at (k := 1) T1 rfl
  have f0 := frozen_at (k := 0) T1
  have f1 := frozen_at (k := 1) T1
  have B1 : Hid (Below w.heap.size w w1) := b0.trans (hb1.mono (by have := HZ.out; omega))
  clear T1 hT0 b0 hb1 h2 hld hA1
  go_wp2
  refine bodyPost_ret (v := .tuple #[.agg #[.slice none 0 0, .map none], .bool false]) (by simp [results, Tryz.results143, go_sem, *]) rfl ⟨fun h => ?_, fun _ => rfl, ?_⟩
  ·exact absurd (HR.out.symm.trans h) hE
  ·exact (B1.out.setCell (Nat.le_refl _) _).setCell (Nat.le_refl _) _
end Go.Proofs.YtdkbmligaodpmaaGreatDoor
namespace Go.Proofs.YtdkbmligaodpmaaGreatDoor
open Go

section
variable {P : Program} {ops : Array Oper} {Q : Exit → Act → World → Prop} {md : Region.Mode} {S : World → Prop} {L : Nat}
def wpLast (P : Program) (md : Region.Mode) (ops : Array Oper) (Q : Exit → Act → World → Prop) (S : World → Prop) (L : Nat) : Nat → Array Bool → Act → World → Prop
 | 0, listed, a, w => Region.ready md ops listed = [] ∧ Q .normal a w
 | fuel + 1, listed, a, w => (Region.ready md ops listed = [] → Q .normal a w) ∧ ∀ i ∈ Region.ready md ops listed, wpOp P ops Q i (fun a' w' => (i ≠ L → S w') ∧ wpLast P md ops Q S L fuel (listed.setIfInBounds i true) a' w') a w
theorem any_of_last : ∀ (fuel : Nat) (listed : Array Bool) (a : Act) (w : World), wpLast P md ops Q S L fuel listed a w → wpAny P md ops Q fuel listed a w
 | 0, _, _, _, h => h
 | fuel + 1, _, _, _, h => ⟨h.1, fun i hi => wpOp_mono (fun a' w' h' => any_of_last fuel _ a' w' h'.2) (h.2 i hi)⟩
theorem last_first {i : Nat} {oi : Oper} {v : Value} (hi : ops[i]? = some oi) (hsel : ∀ (j : Nat) (o : Oper) cs b, ops[j]? = some o → o.op ≠ .select cs b) (hQ : ∀ c a w, Q (.panic c) (a.put oi.dst v) w → Q (.panic c) a w)
  (hL : Region.waitsFor md ops L i = true) :
  ∀ (fuel : Nat) (listed : Array Bool) (a : Act) (w : World),
   (∀ j oj, ops[j]? = some oj → j ≠ i → listed.getD j true = false → (∀ e ∈ oj.after, Region.binds md e = true → e.on ≠ i) → oi.apart ops oj = true) →
   i ∈ Region.ready md ops listed → YieldsIf P ops S oi v a → S w →
   wpLast P md ops Q S L fuel (listed.setIfInBounds i true) (a.put oi.dst v) w → wpLast P md ops Q S L (fuel + 1) listed a w := by
 intro fuel
 induction fuel with
 | zero =>
  intro listed a w _ hr hy hS H
  refine ⟨fun h => (by rw [h] at hr; cases hr), fun j hj => ?_⟩
  by_cases hji : j = i
  ·subst hji
   exact hy.wpOp hi hS ⟨fun _ => hS, H⟩
  ·have := ready_mono hj hji
   rw [H.1] at this
   cases this
 | succ fuel ih =>
  intro listed a w hfree hr hy hS H
  refine ⟨fun h => (by rw [h] at hr; cases hr), fun j hj => ?_⟩
  by_cases hji : j = i
  ·subst hji
   exact hy.wpOp hi hS ⟨fun _ => hS, H⟩
  ·obtain ⟨hjun, oj, hoj, hall⟩ := mem_ready.1 hj
   have hnot : ∀ e ∈ oj.after, Region.binds md e = true → e.on ≠ i := fun e he hb heq => by
    have h1 := hall e he hb
    have h0 := (mem_ready.1 hr).1
    rw [heq] at h1
    rcases Nat.lt_or_ge i listed.size with h' | h'
    ·simp [h'] at h0 h1; rw [h0] at h1; cases h1
    ·simp [Array.getElem?_eq_none h'] at h1
   have hjL : j ≠ L := fun e => by
    subst e
    obtain ⟨oL, h1, e, he, hb, hon⟩ := Region.waitsFor_spec hL
    rw [hoj] at h1
    cases h1
    exact hnot e he hb hon
   have h1 := H.2 j (ready_mono hj hji)
   have h2 := wpOp_putIf hoj (hfree j oj hoj hji hjun hnot) (fun cs b => hsel i oi cs b hi) (fun cs b => hsel j oj cs b hoj) hQ hy h1
   have hfree' : ∀ k ok, ops[k]? = some ok → k ≠ i → (listed.setIfInBounds j true).getD k true = false → (∀ e ∈ ok.after, Region.binds md e = true → e.on ≠ i) → oi.apart ops ok = true := fun k ok hk hki hun hno => by
    refine hfree k ok hk hki ?_ hno
    by_cases hjk : j = k
    ·subst hjk; exact hjun
    ·rw [getD_set_ne true hjk] at hun; exact hun
   refine wpOp_mono (fun a' w' h3 => ⟨fun _ => h3.2.1 hjL, ih (listed.setIfInBounds j true) a' w' hfree' (ready_mono hr (Ne.symm hji)) h3.1 (h3.2.1 hjL) ?_⟩) h2
   rw [Array.setIfInBounds_comm _ _ hji]
   exact h3.2.2
theorem last_take {i d : Nat} {oi : Oper} {v : Value} {fuel : Nat} {listed : Array Bool} {a : Act} {w : World} (hi : ops[i]? = some oi) (hs : Region.noSelect ops = true) (hf : Region.free md ops listed i = true) (hr : (Region.ready md ops listed).contains i = true)
  (hL : Region.waitsFor md ops L i = true) (hd : oi.dst = some d) (hQ : ∀ c a w, Q (.panic c) (a.put (some d) v) w → Q (.panic c) a w) (hw : Region.wanted oi (yielded ops a.tmps) = true) (hS : S w) (hy : ∀ w, S w → (execOp a.eval oi).run P w = .ok (.value v) w)
  (h : wpLast P md ops Q S L fuel (listed.setIfInBounds i true) (a.put (some d) v) w) : wpLast P md ops Q S L (fuel + 1) listed a w :=
 last_first hi (Region.noSelect_spec hs) (by rw [hd]; exact hQ) hL fuel listed a w (Region.free_spec hi hf) (by simpa using hr) (.inl ⟨hw, hy⟩) hS (by rw [hd]; exact h)
theorem last_one {i : Nat} {o : Oper} {fuel : Nat} {listed : Array Bool} {a : Act} {w : World} (hr : Region.ready md ops listed = [i]) (ho : ops[i]? = some o)
  (h : ∀ K' : Act → World → Prop, Shut (∀ a w, (i ≠ L → S w) → ((i ≠ L → S w) → wpLast P md ops Q S L fuel (listed.setIfInBounds i true) a w) → K' a w) → if Region.wanted o (yielded ops a.tmps) = true then Oper.wp P o a w K' Q else K' (a.put o.dst undef) w) :
  wpLast P md ops Q S L (fuel + 1) listed a w := by
 refine ⟨fun e => (by rw [hr] at e; cases e), fun j hj => ?_⟩
 rw [hr] at hj
 obtain rfl : j = i := by simpa using hj
 exact wpOp_step ho (fun K' hK => h K' (fun a w hS hW => hK a w ⟨hS, hW hS⟩))
theorem last_done {listed : Array Bool} {a : Act} {w : World} (hr : Region.ready md ops listed = []) (h : Q .normal a w) : ∀ fuel, wpLast P md ops Q S L fuel listed a w
 | 0 => ⟨hr, h⟩
 | _ + 1 => ⟨fun _ => h, by rw [hr]; simp⟩
theorem wp_region_last {id : Nat} {a : Act} {w : World} (hm : P.follows .mixedOrders = true) (h : wpLast P .any ops Q S L ops.size (Array.replicate ops.size false) a w.drew) : (Code.region id ops true).wp P Q a w :=
 wp_region_any hm (any_of_last _ _ _ _ h)
end
end Go.Proofs.YtdkbmligaodpmaaGreatDoor
