/-
  Package tree: Below, Contains.
-/
import Derived.Test.YthkahbjcncbcfaaPgK
namespace Go.Proofs.Ythkahbjcncbcfaa
open Go.RowKit Tr

namespace Tr
def kidB (l : List Ac) (n j : Nat) : Bool := decide ((l[j]?.map (·.pa)) = some (n : Int))
theorem kidB_iff {l : List Ac} {n j : Nat} : kidB l n j = true ↔ j ∈ kidsV l n := by
  rw [mem_kids]
  unfold kidB
  cases h : l[j]? with
  | none => simp
  | some a => simp
theorem kidB_lt {l : List Ac} {n j : Nat} (h : kidB l n j = true) : j < l.length := by
  obtain ⟨a, ha, _⟩ := mem_kids.1 (kidB_iff.1 h)
  exact (List.getElem?_eq_some_iff.1 ha).1
theorem range_sorted (n : Nat) (p : Nat → Bool) : ((List.range n).filter p).Pairwise (· < ·) := List.Pairwise.filter _ List.pairwise_lt_range
theorem kids_sorted (l : List Ac) (n : Nat) : (kidsV l n).Pairwise (· < ·) := range_sorted _ _
theorem below_sorted (l : List Ac) (n : Nat) : (belowV l n).Pairwise (· < ·) := range_sorted _ _
theorem lt_nodup {xs : List Nat} (h : xs.Pairwise (· < ·)) : xs.Nodup := h.imp (fun h => by omega)
theorem mem_below {l : List Ac} (h : Wf l) {n j : Nat} : j ∈ belowV l n ↔ j < l.length ∧ Blw l n j := by
  unfold belowV
  rw [List.mem_filter, List.mem_range]
  refine ⟨fun ⟨h1, h2⟩ => ⟨h1, (h.bel n h1).1 h2⟩, fun ⟨h1, h2⟩ => ⟨h1, (h.bel n h1).2 h2⟩⟩
/-- What has been collected of those below n, of whose children zs are done. -/
structure BelC (l : List Ac) (n : Nat) (zs bs : List Nat) : Prop where
  nodup : bs.Nodup
  mem : ∀ j, j ∈ bs ↔ j < l.length ∧ (j = n ∨ ∃ k ∈ zs, Blw l k j)
theorem BelC.start {l : List Ac} {n : Nat} (hn : n < l.length) : BelC l n [] [n] where
  nodup := by simp
  mem j := by
    simp only [List.mem_singleton, List.not_mem_nil, false_and, exists_false, or_false]
    exact ⟨fun h => ⟨h ▸ hn, h⟩, fun h => h.2⟩
theorem BelC.step {l : List Ac} (h : Wf l) {n : Nat} (hn : n < l.length) {zs bs : List Nat} (hz : ∀ k ∈ zs, k ∈ kidsV l n) (c : BelC l n zs bs) {k : Nat} (hk : k ∈ kidsV l n) (hkz : k ∉ zs) : BelC l n (zs ++ [k]) (bs ++ belowV l k) where
  nodup := by
    rw [List.nodup_append]
    refine ⟨c.nodup, lt_nodup (below_sorted l k), fun x hx y hy e => ?_⟩
    subst e
    obtain ⟨h1, h2⟩ := (mem_below h).1 hy
    obtain ⟨_, h3⟩ := (c.mem x).1 hx
    rcases h3 with rfl | ⟨k', hk', h3⟩
    · exact (below_kid h hk h1 h2).2 rfl
    · exact hkz (below_one h (hz k' hk') hk hn h1 h3 h2 ▸ hk')
  mem j := by
    rw [List.mem_append, c.mem j, mem_below h]
    refine ⟨fun hh => ?_, fun ⟨h1, h2⟩ => ?_⟩
    · rcases hh with ⟨h1, h2 | ⟨k', hk', h2⟩⟩ | ⟨h1, h2⟩
      · exact ⟨h1, .inl h2⟩
      · exact ⟨h1, .inr ⟨k', by simp [hk'], h2⟩⟩
      · exact ⟨h1, .inr ⟨k, by simp, h2⟩⟩
    · rcases h2 with h2 | ⟨k', hk', h2⟩
      · exact .inl ⟨h1, .inl h2⟩
      · simp at hk'
        rcases hk' with hk' | rfl
        · exact .inl ⟨h1, .inr ⟨k', hk', h2⟩⟩
        · exact .inr ⟨h1, h2⟩
theorem BelC.done {l : List Ac} (h : Wf l) {n : Nat} {zs bs : List Nat} (hz : ∀ k, k ∈ zs ↔ k ∈ kidsV l n) (c : BelC l n zs bs) : (belowV l n).Perm bs := by
  refine (List.perm_ext_iff_of_nodup (lt_nodup (below_sorted l n)) c.nodup).2 (fun j => ?_)
  rw [mem_below h, c.mem j]
  refine ⟨fun ⟨h1, h2⟩ => ⟨h1, ?_⟩, fun ⟨h1, h2⟩ => ⟨h1, ?_⟩⟩
  · by_cases e : j = n
    · exact .inl e
    · obtain ⟨k, hk, hb⟩ := below_split h h1 h2 e
      exact .inr ⟨k, (hz k).2 hk, hb⟩
  · rcases h2 with rfl | ⟨k, hk, hb⟩
    · exact below_self _ _
    · exact (below_kid h ((hz k).1 hk) h1 hb).1
end Tr
theorem ints_src {w : World} {B : Nat} {v : Value} {xs : List Nat} (h : w.ownsRow B 3 1 v xs.length (ints xs)) : ∃ ao c, v = .slice ao xs.length c ∧ (ao = none → xs.length = 0 ∧ c = 0) ∧ ∀ ad, ao = some ad → ∀ j u, (ints xs)[j]? = some u → w.cell? (ad.add j) = some u := by
  rcases h.2 with ⟨rfl, h0⟩ | ⟨g, cap, cur, rfl, r⟩
  · exact ⟨none, 0, by rw [h0], fun _ => ⟨h0, rfl⟩, fun ad e => by cases e⟩
  · refine ⟨_, cap, rfl, fun e => (by cases e), fun ad e => ?_⟩
    cases e
    exact h.cells (g := g) rfl
theorem ints_one (xs : List Nat) : ∀ u ∈ ints xs, u.oneCell' = true := by
  intro u hu
  obtain ⟨k, _, rfl⟩ := List.mem_map.1 hu
  rfl
theorem ints_len (xs : List Nat) : (ints xs).length = xs.length := by simp [ints]

set_option maxHeartbeats 2000000 in
set_option maxRecDepth 20000 in
theorem pbelow {t : Nat} {v : Value} {m : Nat} {kv : Value} {ks : List Nat} {l : List Ac} (hw : Wf l) : ∀ (f : Nat) {W : World} (_ : PT W t v m kv ks l (kidB l)) {n d : Nat} (_ : Dep l d n) (_ : n < l.length) (_ : 4 < d + f),
    Calls Try.prog 22 #[.pointer (some ⟨t, 0, none⟩), .int .i64 n] W fun e w' => ∃ v, e = .returned v ∧ w'.ownsRow W.heap.size 3 1 v (belowV l n).length (ints (belowV l n)) ∧ Below W.heap.size W w' := by
  intro f
  induction f with
  | zero =>
    intro W h n d hd hn hf
    obtain ⟨d', h1, h2⟩ := hw.deep n hn
    have := dep_uniq hd h2
    omega
  | succ f ih =>
  intro W h n d hd hn hf
  have hh := phas_any h n
  have hth : thereB l (n : Int) = true := by simp [thereB, hn]
  rw [hth] at hh
  obtain ⟨Wa, hWa⟩ : ∃ Wa, W.alloc (.cells #[.int .i64 (n : Int)] 3) = Wa := ⟨_, rfl⟩
  have bA : Below W.heap.size W Wa := by rw [← hWa]; exact (Below.refl _ W).alloc (Nat.le_refl _) _
  have rA : Wa.ownsRow W.heap.size 3 1 (.slice (some ⟨W.heap.size, 0, none⟩) 1 1) [n].length (ints [n]) := by
    rw [← hWa]
    exact ⟨rfl, .inr ⟨W.heap.size, 1, #[.int .i64 (n : Int)], rfl, Nat.le_refl _, heap_alloc_new W _, Nat.le_refl _, by decide, rfl, rfl⟩⟩
  have hA := h.below bA
  obtain ⟨k, hk⟩ : ∃ k, ks[n]? = some k := ⟨_, List.getElem?_eq_getElem (by rw [h.klen]; exact hn)⟩
  obtain ⟨D, hD1, hD2⟩ := hA.kids n k hk
  obtain ⟨ao, c, rfl, _, _, c2, _⟩ := hA.cells
  obtain ⟨kg, kc, rfl, e0, _⟩ := hA.kcell hk
  have hn' : (n : Int) < l.length := by omega
  have hlen := hw.len
  obtain ⟨i0, hi0, hz0, hz1, hz2⟩ := info_parts Try.inf3
  have hAs := bA.size
  have HD2 : Hid _ := hD2
  have HT : Hid _ := h
  have BA : Hid _ := bA
  have RA : Hid (Wa.ownsRow W.heap.size 3 1 (.slice (some ⟨W.heap.size, 0, none⟩) 1 1) [n].length (ints [n])) := rA
  clear h hth hk hD2 hA bA rA
  go_enter Try.func22, Try.ntmps22
  go_wp2_with fail
  refine hh.mono ?_
  rintro e w1 ⟨rfl, rfl⟩
  go_wp2_with (first
    | (at_range; refine wpList_range_own _ rfl _ 72 rfl 3 74 keyedI Try.underlying72 _ k 64 D rfl hD1 ?_; intro w0 hrg0 hg0 hs0))
  go_frame
  go_loopw [5] (fun p wr => ∃ (left : Lit → Bool) (cnt : Nat) (zs bs : List Nat) (q : Value), q = p ∧ wr.ranges Try.prog 3 unitElem k Wa.heap.size 64 D left cnt ∧ wr.ownsRow W.heap.size 3 1 q bs.length (ints bs) ∧ Coll (kidB l n) left zs ∧ BelC l n zs bs ∧ Below W.heap.size W wr)
    (fun _ wr => wr.rangeLeft k Wa.heap.size)
  case atStart => exact ⟨_, _, [], [n], _, rfl, hrg0, row_of RA.out (fun j hj => hg0.block j (World.ownsRow.lt RA.out j hj).2 (by simp)), Coll.start HD2.out, BelC.start hn, BA.out.grown hg0 BA.out.size (fun j e => by cases e)⟩
  case round =>
    obtain ⟨left, cnt, zs, bs, q, hq, hrg, hrow, hC, hBC, hB⟩ := hrel
    subst hq
    have hbl : bs.length ≤ 64 := len64 hBC.nodup (fun j hj => Nat.lt_of_lt_of_le ((hBC.mem j).1 hj).1 hlen)
    have tq := own_tag hrow
    have hrne : ∀ j, q.ownBlock = some j → j ≠ Wa.heap.size ∧ j ≠ k := fun j hj => by
      obtain ⟨cs, hc⟩ := tq j hj
      refine ⟨fun e => iter_tag hrg _ _ _ (e ▸ hc), fun e => ?_⟩
      obtain ⟨es, c, hm⟩ := map_tag hrg.owns
      rw [e, hm] at hc
      cases hc
    have hm0 : wr.rangeLeft k Wa.heap.size = cnt := hrg.left_eq
    have HC : Hid _ := hC
    have HBC : Hid _ := hBC
    have HB : Hid _ := hB
    clear hC hB tq hBC
    go_wp2_with (first
      | (at_next; refine next_set rfl _ rfl k Wa.heap.size 64 D left cnt rfl hrg ?_ ?_))
    · intro hc0 hl0
      have hmem := HC.out.done hl0
      have hperm := HBC.out.done hw (fun j => by rw [hmem j, kidB_iff])
      have hso := sort_any hrow hbl hperm ((below_sorted l n).imp (fun h => by omega))
      clear hrg hmem hperm hl0 hc0 hm0
      go_wp2_with fail
      refine hso.mono ?_
      rintro e w3 ⟨rfl, hr3, hg3⟩
      go_wp2
      go_ret
      exact ⟨q, rfl, hr3, HB.out.grown hg3 HB.out.size (fun j e => (hrow.lt j e).1)⟩
    · intro x w2 cnt2 hlx hrg2 hlt hg2 hs2 hen
      obtain ⟨j, rfl, hPj, hnz, hC2⟩ := HC.out.step hlx
      have hjk := kidB_iff.1 hPj
      have hjl := kidB_lt hPj
      have hBC2 := HBC.out.step hw hn (fun i hi => kidB_iff.1 ((HC.out.mem i).1 hi).1) hjk hnz
      have hrow2 : w2.ownsRow W.heap.size 3 1 q bs.length (ints bs) := row_of hrow (fun i hi => hg2.block i (hrow.lt i hi).2 (fun e => (hrne i hi).1 (Option.some.inj e)))
      have hB2 : Below W.heap.size W w2 := HB.out.grown hg2 HB.out.size (fun i e => by cases e; exact hAs)
      have hrec := ih (HT.out.below hB2) (kid_dep hw hjk hd) hjl (by omega)
      have HR2 : Hid (w2.ranges Try.prog 3 unitElem k Wa.heap.size 64 D (fun z => left z && !z.sameKey (.int .i64 (j : Int))) cnt2) := hrg2
      have HC2 : Hid _ := hC2
      have HBC2 : Hid _ := hBC2
      have HB2 : Hid _ := hB2
      have hbl2 : (belowV l j).length ≤ 64 := len64 (lt_nodup (below_sorted l j)) (fun i hi => Nat.lt_of_lt_of_le ((mem_below hw).1 hi).1 hlen)
      clear hrow hrg hlx hC2 hrg2 hB2 hs2 hBC2 ih
      go_wp2_with (first
        | (go_at_call 22; refine hrec.mono ?_; rintro e w3 ⟨v3, rfl, hr3, hb3⟩; obtain ⟨ao3, c3, rfl, hn3, hs3⟩ := ints_src hr3; have hrow3 := row_kept hrow2 hb3; have HS3 : Hid _ := hs3; have HN3 : Hid _ := hn3; clear hs3 hn3 hr3)
        | (at_builtin; refine wpList_append_any rfl (.tmp 25) (.tmp 28) 50 rfl W.heap.size 3 i0 _ 1 8 Try.underlying50 hi0 hz0 hz1 hz2 rfl (by decide) q bs.length (ints bs) rfl hrow3 ao3 (belowV l j).length c3 (ints (belowV l j)) rfl HN3.out ?_ HS3.out (ints_one _) ?_ ?_ ?_ ?_; (rw [ints_len]; omega); exact (Nat.le_trans (m := 35184372088832) (by omega) (by decide)); omega; exact (Nat.le_trans HB2.out.size hb3.size); intro v' w5 hown hgr))
      have hrg3 : w3.ranges Try.prog 3 unitElem k Wa.heap.size 64 D (fun z => left z && !z.sameKey (.int .i64 (j : Int))) cnt2 := World.ranges.kept (row := none) HR2.out ⟨hb3.os, hb3.tape, hb3.output, hb3.size, fun i hi _ => hb3.block i hi⟩ (by simp) (by simp)
      have hrg5 := hrg3.kept hgr (fun e => (hrne k e.symm).2 rfl) (fun e => (hrne _ e.symm).1 rfl)
      go_roundw
      case rel => exact ⟨_, cnt2, zs ++ [j], bs ++ belowV l j, v', rfl, hrg5, by simpa [ints] using hown, HC2.out, HBC2.out, (HB2.out.trans (hb3.mono HB2.out.size)).grown hgr (Nat.le_trans HB2.out.size hb3.size) (fun i e => (hrow2.lt i e).1)⟩
      case measure => rw [hrg5.left_eq, hm0]; exact hlt
end Go.Proofs.Ythkahbjcncbcfaa
