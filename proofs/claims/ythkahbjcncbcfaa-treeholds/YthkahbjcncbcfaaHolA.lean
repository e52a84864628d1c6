/-
  TreeHolds, walked.
-/
import Derived.Test.YthkahbjcncbcfaaGrA
import Derived.Laws.MakeOwn
namespace Go.Proofs.Ythkahbjcncbcfaa
open Go.RowKit Tr

namespace Tr
/-- How often each was seen: all children of the accounts ahead of i, and those of zs. -/
def seenV (l : List Ac) (i : Nat) (zs : List Nat) (k : Nat) : Nat := if k ≠ 0 ∧ k < l.length ∧ (up l k < i ∨ (up l k = i ∧ k ∈ zs)) then 1 else 0
theorem seen_start (l : List Ac) (k : Nat) : seenV l 0 [] k = 0 := by
  unfold seenV
  rw [if_neg]
  simp
theorem seen_step {l : List Ac} (h : Wf l) {i j x : Nat} (hx : (kidsV l i)[j]? = some x) :
    seenV l i ((kidsV l i).take j) x = 0 ∧ ∀ k, seenV l i ((kidsV l i).take (j + 1)) k = if k = x then 1 else seenV l i ((kidsV l i).take j) k := by
  obtain ⟨h1, h2, h3⟩ := kid_pos h (List.mem_of_getElem? hx)
  have hnd : (kidsV l i).Nodup := (List.Pairwise.filter _ List.pairwise_lt_range).imp (fun h => by omega)
  have hnt : x ∉ (kidsV l i).take j := fun hm => by
    obtain ⟨k, hk⟩ := List.getElem?_of_mem hm
    have hkj : k < j := by
      have := (List.getElem?_eq_some_iff.1 hk).1
      rw [List.length_take] at this
      omega
    rw [List.getElem?_take_of_lt hkj] at hk
    have := (List.getElem?_inj (List.getElem?_eq_some_iff.1 hk).1 hnd).1 (hk.trans hx.symm)
    omega
  refine ⟨?_, fun k => ?_⟩
  · unfold seenV
    rw [if_neg]
    rintro ⟨_, _, h | ⟨_, h⟩⟩
    · omega
    · exact hnt h
  · unfold seenV
    rw [List.take_add_one, hx]
    by_cases e : k = x
    · subst e
      rw [if_pos rfl, if_pos ⟨h1, h2, .inr ⟨h3, by simp⟩⟩]
    · rw [if_neg e]
      have : (k ∈ (kidsV l i).take j ++ (some x).toList) ↔ k ∈ (kidsV l i).take j := by simp [e]
      simp only [this]
theorem seen_row {l : List Ac} (h : Wf l) (i k : Nat) : seenV l i (kidsV l i) k = seenV l (i + 1) [] k := by
  unfold seenV
  have : (k ≠ 0 ∧ k < l.length ∧ (up l k < i ∨ (up l k = i ∧ k ∈ kidsV l i))) ↔ (k ≠ 0 ∧ k < l.length ∧ (up l k < i + 1 ∨ (up l k = i + 1 ∧ k ∈ ([] : List Nat)))) := by
    refine ⟨fun ⟨a, b, c⟩ => ⟨a, b, .inl (by rcases c with c | c <;> omega)⟩, fun ⟨a, b, c⟩ => ⟨a, b, ?_⟩⟩
    rcases c with c | ⟨_, c⟩
    · by_cases e : up l k < i
      · exact .inl e
      · have e' : up l k = i := by omega
        exact .inr ⟨e', e' ▸ kid_of h a b⟩
    · cases c
  simp only [this]
theorem seen_end {l : List Ac} (h : Wf l) {k : Nat} (hk : k < l.length) : seenV l l.length [] k = if k = 0 then 0 else 1 := by
  unfold seenV
  by_cases e : k = 0
  · simp [e]
  · rw [if_neg e, if_pos ⟨e, hk, .inl (h.up_lt hk)⟩]
theorem sum_take (f : Nat → Nat) : ∀ (l : List Nat) (j x : Nat), l[j]? = some x → sumL f (l.take (j + 1)) = sumL f (l.take j) + f x
  | [], j, x, h => by simp at h
  | a :: l, 0, x, h => by
    simp at h
    subst h
    simp [sumL]
  | a :: l, j + 1, x, h => by
    have := sum_take f l j x (by simpa using h)
    simp only [List.take_succ_cons, sumL, this]
    omega
theorem sum_le (f : Nat → Nat) : ∀ (l : List Nat) (j : Nat), sumL f (l.take j) ≤ sumL f l
  | [], j => by simp [sumL]
  | a :: l, 0 => by simp [sumL]
  | a :: l, j + 1 => by
    have := sum_le f l j
    simp only [List.take_succ_cons, sumL]
    omega
end Tr
/-- What was seen, in memory. -/
def SeenAt (W : World) (gs q : Nat) (f : Nat → Nat) : Prop := ∃ cur, W.heap[gs]? = some (.cells cur 3 (0, 0)) ∧ cur.size = q ∧ ∀ k, k < q → cur[k]? = some (.int .i64 (f k : Int))
theorem SeenAt.below {W W' : World} {gs q : Nat} {f : Nat → Nat} (h : SeenAt W gs q f) (b : Below W.heap.size W W') : SeenAt W' gs q f := by
  obtain ⟨cur, h1, h2, h3⟩ := h
  exact ⟨cur, (b.block _ (Array.getElem?_eq_some_iff.1 h1).1).trans h1, h2, h3⟩
theorem SeenAt.re {W : World} {gs q : Nat} {f f' : Nat → Nat} (h : SeenAt W gs q f) (e : ∀ k, f k = f' k) : SeenAt W gs q f' := by
  obtain ⟨cur, h1, h2, h3⟩ := h
  exact ⟨cur, h1, h2, fun k hk => by rw [h3 k hk, e]⟩
theorem SeenAt.set {W : World} {gs q x : Nat} {f f' : Nat → Nat} {v : Int} (h : SeenAt W gs q f) (e : ∀ k, ((f' k : Nat) : Int) = if k = x then v else f k) : SeenAt (W.setCell ⟨gs, x, none⟩ (.int .i64 v)) gs q f' := by
  obtain ⟨cur, h1, h2, h3⟩ := h
  refine ⟨_, heap_setCell_same W gs x cur 3 _ h1, by simpa using h2, fun k hk => ?_⟩
  rw [Array.getElem?_setIfInBounds, e]
  by_cases hx : x = k
  · subst hx
    simp [h2, hk]
  · have : ¬ k = x := fun h => hx h.symm
    rw [if_neg hx, if_neg this]
    exact h3 k hk
theorem SeenAt.lt {W : World} {gs q : Nat} {f : Nat → Nat} (h : SeenAt W gs q f) : gs < W.heap.size := by
  obtain ⟨cur, h1, _⟩ := h
  exact (Array.getElem?_eq_some_iff.1 h1).1
theorem SeenAt.cell {W : World} {gs q : Nat} {f : Nat → Nat} (h : SeenAt W gs q f) {k : Nat} (hk : k < q) : W.cell? ⟨gs, k, none⟩ = some (.int .i64 (f k : Int)) ∧ W.frozen? ⟨gs, k, none⟩ = false := by
  obtain ⟨cur, h1, h2, h3⟩ := h
  exact ⟨cells_at h1 (h3 k hk), frozen_at h1⟩
theorem made_seen (w : World) (q : Nat) : SeenAt (w.alloc (.cells (madeCells #[.int .i64 0] (q * 1)) 3)) w.heap.size q (fun _ => 0) := by
  refine ⟨_, heap_alloc_new w _, by simp [madeCells], fun k hk => ?_⟩
  simp [madeCells, hk, Nat.mod_one]

theorem ints_far {w : World} {B gs : Nat} {v : Value} {xs : List Nat} (h : w.ownsRow B 3 1 v xs.length (ints xs)) (hg : gs < B) : ∃ ao c kg, v = .slice ao xs.length c ∧ (0 < xs.length → ao = some ⟨kg, 0, none⟩) ∧ kg ≠ gs ∧ ∀ (k x : Nat), xs[k]? = some x → w.cell? ⟨kg, k, none⟩ = some (.int .i64 (x : Int)) := by
  obtain ⟨ao, c, rfl, h1, h2⟩ := ints_src h
  rcases h.2 with ⟨_, h0⟩ | ⟨g, cap, cur, hv, hB, r⟩
  · exact ⟨ao, c, gs + 1, rfl, fun h => (by omega), by omega, fun k x hx => by have := (List.getElem?_eq_some_iff.1 hx).1; omega⟩
  · simp at hv
    obtain ⟨rfl, _⟩ := hv
    refine ⟨_, c, g, rfl, fun _ => rfl, by omega, fun k x hx => ?_⟩
    have := h2 _ rfl k (.int .i64 (x : Int)) (by simp [ints, hx])
    have ha : (⟨g, 0, none⟩ : Addr).add k = ⟨g, k, none⟩ := by unfold Addr.add; split <;> simp_all
    rw [ha] at this
    exact this
theorem Tr.Wf.vals {l : List Ac} (h : Wf l) {k : Nat} {x : Ac} (hx : l[k]? = some x) : x.us = 0 ∧ 1 ≤ x.sh ∧ x.sh ≤ 4096 := by
  by_cases hk : 0 < k
  · have := h.row k x hx hk
    have h4 := this.2.2.2.1
    simp [okSh] at h4
    exact ⟨this.2.2.2.2, h4.1, h4.2⟩
  · obtain rfl : k = 0 := by omega
    rw [h.root] at hx
    cases hx
    simp [rootAc]
theorem Tr.Wf.small' {l : List Ac} (h : Wf l) {k : Nat} {x : Ac} (hx : l[k]? = some x) : x.nm.size ≤ maxLen := by
  by_cases hk : 0 < k
  · have := (h.row k x hx hk).1
    simp [okName] at this
    exact Nat.le_trans this.1.2 (by decide)
  · obtain rfl : k = 0 := by omega
    rw [h.root] at hx
    cases hx
    decide
theorem dep_nat {l : List Ac} (h : Wf l) {k : Nat} (hk : k < l.length) : ∃ d : Nat, depZ l (k : Int) = d ∧ d ≤ 4 ∧ Dep l d k := by
  obtain ⟨d, d1, d2, d3⟩ := h.depth hk
  refine ⟨d, ?_, d2, d3⟩
  unfold depZ
  rw [show thereB l (k : Int) = true by simp [thereB, hk]]
  simp [d1, findI]
theorem belowZ_nat {l : List Ac} {k : Nat} (hk : k < l.length) : belowZ l (k : Int) = belowV l k := by
  unfold belowZ
  rw [show thereB l (k : Int) = true by simp [thereB, hk]]
  simp
theorem kidsZ_nat {l : List Ac} {k : Nat} (hk : k < l.length) : kidsZ l (k : Int) = kidsV l k := by
  unfold kidsZ
  rw [show thereB l (k : Int) = true by simp [thereB, hk]]
  simp
theorem getA_nat {l : List Ac} {k : Nat} {x : Ac} (hx : l[k]? = some x) : getA l (k : Int) = .tuple #[acV x, .bool true] := by
  have hk := (List.getElem?_eq_some_iff.1 hx).1
  unfold getA
  rw [show thereB l (k : Int) = true by simp [thereB, hk]]
  simp [hx]

set_option maxHeartbeats 8000000 in
set_option maxRecDepth 20000 in
theorem holds_any {w : World} {ao : Option Addr} {xs : List Ax} {c : Nat} (hA : ActsAt w ao xs) (hok : ∀ a ∈ xs, OkAx a) (hn : xs.length * 56 ≤ 140737488355328) :
    Calls Try.prog 6 #[.slice ao xs.length c] w fun e w' => e = .returned (.bool true) ∧ Below w.heap.size w w' := by
  go_enter Try.func6, Try.ntmps6
  go_wp2_with fail
  refine (shown_any w).mono ?_
  rintro e w1 ⟨rfl, b1⟩
  have hA1 : ActsAt w1 ao xs := by
    obtain ⟨g, o, h1, h2⟩ := hA
    exact ⟨g, o, h1, fun k a ha => (h2 k a ha).below b1 (Nat.le_refl _)⟩
  have hgr := grown_any (c := c) hA1 hok hn
  clear hA1 hA
  go_wp2_with fail
  refine hgr.mono ?_
  rintro e w2 ⟨t, rfl, t2, b2⟩
  have hwf := wf_grow xs
  obtain ⟨L, hL⟩ : ∃ L, growV xs = L := ⟨_, rfl⟩
  rw [hL] at t2 hwf
  have b12 := b1.trans (b2.mono b1.size)
  have hln := tlen t2
  have hb0 := tbelow t2 hwf 0
  have hz0 : belowZ L 0 = belowV L 0 := by
    unfold belowZ
    rw [show thereB L 0 = true by have := hwf.pos; simp [thereB]; omega]
    simp
  rw [hz0, below_root hwf] at hb0
  have hpos := hwf.pos
  have hlen := hwf.len
  have T2 : Hid (Tree (fun j => w1.heap.size ≤ j) w2 t L (kidB L)) := t2
  obtain ⟨i0, hi0, hy0, hy1, hy2⟩ := info_parts Try.inf3
  clear hgr t2 hL hz0
  go_wp2_with fail
  refine hln.mono ?_
  rintro e w3 ⟨rfl, rfl⟩
  have hlt1 : ¬ (L.length : Int) < 1 := by omega
  have hlt2 : ¬ (64 : Int) < L.length := by omega
  go_wp2_with fail
  refine hb0.mono ?_
  rintro e w3 ⟨v3, rfl, r3, b3⟩
  obtain ⟨ao3, c3, rfl⟩ := sl_shape r3
  have hmk := run_makeSlice (P := Try.prog) w3 50 3 i0 _ Try.underlying50 hi0 hy0 .i64 .i64 (L.length : Int) (L.length : Int) (by omega) (Int.le_refl _) (by rw [hy1]; simp; omega) (by rw [hy2]; omega) (by omega)
  simp only [Int.toNat_natCast, hy1] at hmk
  have hsn := made_seen w3 L.length
  have b34 : Below w3.heap.size w3 (w3.alloc (.cells (madeCells #[.int .i64 0] (L.length * 1)) 3)) := (Below.refl _ w3).alloc (Nat.le_refl _) _
  obtain ⟨w4, hw4⟩ : ∃ w4, w3.alloc (.cells (madeCells #[.int .i64 0] (L.length * 1)) 3) = w4 := ⟨_, rfl⟩
  rw [show (Value.int .i64 0).cells = #[.int .i64 0] from rfl, hw4] at hmk
  rw [hw4] at hsn b34
  obtain ⟨gs, hgs⟩ : ∃ gs, w3.heap.size = gs := ⟨_, rfl⟩
  rw [hgs] at hsn hmk
  have hgs2 : w2.heap.size ≤ gs := by rw [← hgs]; exact b3.size
  have b24 : Below w2.heap.size w2 w4 := b3.trans (b34.mono b3.size)
  have SN : Hid (SeenAt w4 gs L.length (fun _ => 0)) := hsn
  have B24 : Hid _ := b24
  clear hln hb0 r3 hsn b34 hw4 hgs b24
  go_wp2_with fail
  go_loopg [37] L.length (fun gk p wr => ∃ i : Nat, i + gk = L.length ∧ p = .int .i64 i ∧ SeenAt wr gs L.length (seenV L i []) ∧ Below w2.heap.size w2 wr)
  case atStart => exact ⟨0, by omega, rfl, SN.out.re (fun k => (seen_start L k).symm), B24.out⟩
  case round =>
    obtain ⟨i, hi, rfl, hS, hB⟩ := hrel
    by_cases hlt : i < L.length
    · have hlt' : (i : Int) < L.length := by omega
      have hK := tkids (Tree.below T2.out hB) hwf (i : Int)
      rw [kidsZ_nat hlt] at hK
      have HS : Hid (SeenAt wr gs L.length (seenV L i [])) := hS
      have HB : Hid _ := hB
      clear hS hB
      go_wp2_with fail
      refine hK.mono ?_
      rintro e wk ⟨vK, rfl, rK, bK⟩
      obtain ⟨aoK, cK, kg, rfl, hk1, hk2, hk3⟩ := ints_far rK (SeenAt.lt HS.out)
      have HSK : Hid (SeenAt wk gs L.length (seenV L i [])) := SeenAt.below HS.out bK
      have HBK : Hid (Below w2.heap.size w2 wk) := HB.out.trans (bK.mono HB.out.size)
      obtain ⟨q, hq⟩ : ∃ q, (kidsV L i).length = q := ⟨_, rfl⟩
      rw [hq] at hk1
      rw [hq]
      have HK3 : Hid _ := hk3
      have hcnt := below_count hwf hlt
      have hb64 : (belowV L i).length ≤ 64 := len64 (lt_nodup (below_sorted L i)) (fun j hj => Nat.lt_of_lt_of_le ((mem_below hwf).1 hj).1 hlen)
      have hq64 : q ≤ 64 := by rw [← hq]; exact len64 (lt_nodup (kids_sorted L i)) (fun j hj => Nat.lt_of_lt_of_le (kid_pos hwf hj).2.1 hlen)
      clear hK rK bK HS HB hk3
      go_wp2_with fail
      go_loopg [7, 44] q (fun gk p7 p wr => ∃ j : Nat, j + gk = q ∧ p = .int .i64 j ∧ p7 = .int .i64 ((1 + sumL (fun k => (belowV L k).length) ((kidsV L i).take j) : Nat) : Int) ∧ SeenAt wr gs L.length (seenV L i ((kidsV L i).take j)) ∧ (∀ (k x : Nat), (kidsV L i)[k]? = some x → wr.cell? ⟨kg, k, none⟩ = some (.int .i64 (x : Int))) ∧ Below w2.heap.size w2 wr)
      case atStart => exact ⟨0, by omega, rfl, by simp [sumL], by simpa using HSK.out, HK3.out, HBK.out⟩
      case round =>
        obtain ⟨j, hj, rfl, rfl, hS, hc, hB⟩ := hrel
        by_cases hjq : j < q
        · have hjq' : (j : Int) < q := by omega
          obtain ⟨x, hx⟩ : ∃ x, (kidsV L i)[j]? = some x := ⟨_, List.getElem?_eq_getElem (by omega)⟩
          obtain rfl := hk1 (by omega)
          have hcx := hc j x hx
          have hmem := List.mem_of_getElem? hx
          obtain ⟨x0, x1, x2⟩ := kid_pos hwf hmem
          obtain ⟨di, d1, d2, d3⟩ := dep_nat hwf hlt
          obtain ⟨dx, g1, g2, g3⟩ := dep_nat hwf x1
          have hdd := dep_uniq g3 (kid_dep hwf hmem d3)
          have tr := Tree.below T2.out hB
          have hDx := tdepth tr hwf (x : Int)
          have hDi := tdepth tr hwf (i : Int)
          rw [g1] at hDx
          rw [d1] at hDi
          obtain ⟨s1, s2⟩ := seen_step hwf hx
          obtain ⟨z1, z2⟩ := hS.cell x1
          rw [s1] at z1
          have hsum := sum_take (fun k => (belowV L k).length) _ j x hx
          have hsle := sum_le (fun k => (belowV L k).length) (kidsV L i) (j + 1)
          have HS2 : Hid (SeenAt (wr.setCell ⟨gs, x, none⟩ (.int .i64 1)) gs L.length (seenV L i ((kidsV L i).take (j + 1)))) := hS.set (fun k => by rw [s2 k]; split <;> rfl)
          have b2' : Below w2.heap.size w2 (wr.setCell ⟨gs, x, none⟩ (.int .i64 1)) := hB.setCell (p := ⟨gs, x, none⟩) hgs2 _
          have hBx := tbelow (Tree.below T2.out b2') hwf (x : Int)
          rw [belowZ_nat x1] at hBx
          have hc2 : ∀ (k y : Nat), (kidsV L i)[k]? = some y → (wr.setCell ⟨gs, x, none⟩ (.int .i64 1)).cell? ⟨kg, k, none⟩ = some (.int .i64 (y : Int)) := fun k y hy => by
            have := hc k y hy
            rw [← this]
            exact World.cell?_of_block (Below.heap_setCell _ _ _ _ hk2)
          have HC2 : Hid _ := hc2
          have HB2 : Hid _ := b2'
          have e1 : ¬ (x : Int) ≤ 0 := by omega
          have e2 : ¬ (L.length : Int) ≤ x := by omega
          have e3 : ((dx : Int) == (di : Int) + 1) = true := by simp; omega
          have x1' : (x : Int) < L.length := by omega
          obtain ⟨sm, hsm⟩ : ∃ sm, sumL (fun k => (belowV L k).length) ((kidsV L i).take j) = sm := ⟨_, rfl⟩
          obtain ⟨bx, hbx⟩ : ∃ bx, (belowV L x).length = bx := ⟨_, rfl⟩
          rw [hsm] at hsum ⊢
          rw [hbx] at hsum hBx
          have hsm2 : sm + bx ≤ 64 := by omega
          have HSUM : Hid _ := hsum
          have HSM : Hid _ := hsm
          clear tr hS hc hB hx hmem s1 s2 hsum hsle hc2 b2' d3 g3 d1 g1 hsm hbx
          go_wp2_with fail
          refine hDx.mono ?_
          rintro e wy ⟨rfl, rfl⟩
          go_wp2_with fail
          refine hDi.mono ?_
          rintro e wy ⟨rfl, rfl⟩
          go_wp2_with fail
          refine hBx.mono ?_
          rintro e wB ⟨vB, rfl, rB, bB⟩
          obtain ⟨aoB, cB, rfl⟩ := sl_shape rB
          have HS3 : Hid _ := SeenAt.below HS2.out bB
          have HC3 : Hid (∀ (k y : Nat), (kidsV L i)[k]? = some y → wB.cell? ⟨kg, k, none⟩ = some (.int .i64 (y : Int))) := fun k y hy => cellB bB (HC2.out k y hy)
          have HB3 : Hid _ := HB2.out.trans (bB.mono HB2.out.size)
          have hse : Hid (((1 + sumL (fun k => (belowV L k).length) ((kidsV L i).take (j + 1)) : Nat) : Int) = 1 + (sm : Int) + bx) := show ((1 + sumL (fun k => (belowV L k).length) ((kidsV L i).take (j + 1)) : Nat) : Int) = 1 + (sm : Int) + bx by rw [HSUM.out]; omega
          clear rB hDx hDi hBx HS2 HC2 HB2 z1 z2 hcx HSUM
          go_wp2
          go_roundg (q - (j + 1))
          case measure => omega
          case rel => exact ⟨j + 1, by omega, rfl, by rw [hse.out], HS3.out, HC3.out, HB3.out⟩
        · obtain rfl : j = q := by omega
          rw [List.take_of_length_le (by omega)] at hS ⊢
          have hS2 := hS.re (seen_row hwf i)
          obtain ⟨a, ha⟩ : ∃ a, L[i]? = some a := ⟨_, List.getElem?_eq_getElem hlt⟩
          obtain ⟨v1, v2, v3⟩ := hwf.vals ha
          have tr := Tree.below T2.out hB
          have hG := tget tr hwf (i : Int)
          rw [getA_nat ha] at hG
          simp only [acV] at hG
          rw [v1] at hG
          have hcnt' : (1 + sumL (fun k => (belowV L k).length) (kidsV L i)) = (belowV L i).length := hcnt.symm
          rw [hcnt']
          have HS3 : Hid _ := hS2
          have HB3 : Hid _ := hB
          clear hS hS2 hc hB tr hcnt hcnt' HSK HBK HK3
          obtain ⟨bi, hbi⟩ : ∃ bi, (belowV L i).length = bi := ⟨_, rfl⟩
          have HBI : Hid _ := hbi
          rw [hbi] at hb64
          rw [hbi]
          clear hbi
          go_wp2_with fail
          refine hG.mono ?_
          rintro e wg ⟨rfl, bg⟩
          obtain ⟨wh, hwh⟩ : ∃ wh, wg.alloc (.cells #[.string a.nm, .int .i64 a.pa, .int .i64 a.sh, .bool a.cl, .int .u64 0] 39) = wh := ⟨_, rfl⟩
          have bh : Below wg.heap.size wg wh := by rw [← hwh]; exact (Below.refl _ wg).alloc (Nat.le_refl _) _
          have yh : wh.heap[wg.heap.size]? = some (.cells #[.string a.nm, .int .i64 a.pa, .int .i64 a.sh, .bool a.cl, .int .u64 0] 39 (0, 0)) := by rw [← hwh]; exact heap_alloc_new wg _
          have HWH : Hid _ := hwh
          clear hwh
          have bgh := bg.trans (bh.mono bg.size)
          have b2h : Below w2.heap.size w2 wh := HB3.out.trans (bgh.mono HB3.out.size)
          have th := Tree.below T2.out b2h
          have hF := tfind th (hwf.small' ha)
          rw [find_at hwf ha] at hF
          simp only [Option.getD_some, Option.isSome_some] at hF
          have hBi := tbelow th hwf (i : Int)
          rw [belowZ_nat hlt, HBI.out] at hBi
          obtain ⟨⟨q0, q1, q2, q3, q4⟩, _⟩ := cells5 yh
          have HS4 : Hid _ := SeenAt.below HS3.out bgh
          have HB4 : Hid _ := b2h
          obtain ⟨di, d1, d2, d3⟩ := dep_nat hwf hlt
          have v2' : ¬ a.sh < 1 := by omega
          have v3' : ¬ (4096 : Int) < a.sh := by omega
          have d2' : ¬ (4 : Int) < di := by omega
          clear th bg bh bgh b2h HS3 HB3 hG
          go_wp2_with fail
          rw [HWH.out]
          refine hF.mono ?_
          rintro e wy ⟨rfl, rfl⟩
          go_wp2_with fail
          refine hBi.mono ?_
          rintro e wB ⟨vB, rfl, rB, bB⟩
          obtain ⟨aoB, cB, rfl⟩ := sl_shape rB
          have HS5 : Hid _ := SeenAt.below HS4.out bB
          have HB5 : Hid _ := HB4.out.trans (bB.mono HB4.out.size)
          obtain ⟨⟨r0, r1, r2, r3, r4⟩, _⟩ := cells5 ((bB.block _ (Array.getElem?_eq_some_iff.1 yh).1).trans yh)
          have hDi := tdepth (Tree.below T2.out HB5.out) hwf (i : Int)
          rw [d1] at hDi
          clear rB hF hBi HS4 HB4
          go_wp2_with fail
          refine hDi.mono ?_
          rintro e wy ⟨rfl, rfl⟩
          go_wp2
          go_roundg (L.length - (i + 1))
          case measure => omega
          case rel => exact ⟨i + 1, by omega, rfl, HS5.out, HB5.out⟩
    · obtain rfl : i = L.length := by omega
      have hS2 : SeenAt wr gs L.length (fun k => if k < L.length then (if k = 0 then 0 else 1) else 0) := by
        obtain ⟨cur, h1, h2, h3⟩ := hS
        exact ⟨cur, h1, h2, fun k hk => by rw [h3 k hk, seen_end hwf hk]; simp [hk]⟩
      have hfin : Below w.heap.size w wr := b12.trans (hB.mono (Nat.le_trans b1.size b2.size))
      have HS : Hid _ := hS2
      clear hS hB
      go_wp2_with fail
      go_loopg [14] (L.length - 1) (fun gk p w' => ∃ k : Nat, 0 < k ∧ k + gk = L.length ∧ p = .int .i64 k ∧ wr = w')
      case atStart => exact ⟨1, by omega, by omega, rfl, rfl⟩
      case round =>
        obtain ⟨k, hk0, hk, rfl, rfl⟩ := hrel
        by_cases hkl : k < L.length
        · have hkl' : (k : Int) < L.length := by omega
          have z1 := (SeenAt.cell HS.out hkl).1
          have hk1 : ¬ k = 0 := by omega
          rw [if_pos hkl, if_neg hk1] at z1
          go_wp2
          go_roundg (L.length - (k + 1))
          case measure => omega
          case rel => exact ⟨k + 1, by omega, by omega, rfl, rfl⟩
        · have hkl' : ¬ (k : Int) < L.length := by omega
          have z1 := (SeenAt.cell HS.out hpos).1
          rw [if_pos hpos, if_pos rfl] at z1
          go_wp2
          go_ret
          exact ⟨rfl, hfin⟩
end Go.Proofs.Ythkahbjcncbcfaa
