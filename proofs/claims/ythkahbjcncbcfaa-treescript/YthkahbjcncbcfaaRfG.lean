/-
  Layer 6's reference: Shares, Close.
-/
import Derived.Test.YthkahbjcncbcfaaRfF
namespace Go.Proofs.Ythkahbjcncbcfaa
open Go.RowKit Tr

/-- Of the blocks that were there only those of K may have turned. -/
structure Chg (K : Nat → Prop) (w w' : World) : Prop where
  os : w'.os = w.os
  tape : w'.tape = w.tape
  output : w'.output = w.output
  size : w.heap.size ≤ w'.heap.size
  block : ∀ k, k < w.heap.size → ¬ K k → w'.heap[k]? = w.heap[k]?
theorem Chg.refl (K : Nat → Prop) (w : World) : Chg K w w := ⟨rfl, rfl, rfl, Nat.le_refl _, fun _ _ _ => rfl⟩
theorem Chg.of_gr {w w' : World} {r : Option Nat} (h : w.grownBy w' r) {K : Nat → Prop} (hK : ∀ k, r = some k → K k ∨ w.heap.size ≤ k) : Chg K w w' :=
  ⟨h.os, h.tape, h.output, h.size, fun k hk hn => h.block k hk (fun e => by rcases hK k e.symm with h | h; exact hn h; omega)⟩
theorem Chg.of_below {w w' : World} (h : Below w.heap.size w w') (K : Nat → Prop) : Chg K w w' := ⟨h.os, h.tape, h.output, h.size, fun k hk _ => h.block k hk⟩
theorem Chg.trans {K K' : Nat → Prop} {w w1 w2 : World} (h : Chg K w w1) (k : Chg K' w1 w2) (hK : ∀ i, i < w.heap.size → K' i → K i) : Chg K w w2 :=
  ⟨k.os.trans h.os, k.tape.trans h.tape, k.output.trans h.output, Nat.le_trans h.size k.size, fun i hi hn => (k.block i (Nat.lt_of_lt_of_le hi h.size) (fun e => hn (hK i hi e))).trans (h.block i hi hn)⟩
theorem Chg.mono {K K' : Nat → Prop} {w w1 : World} (h : Chg K w w1) (hK : ∀ i, i < w.heap.size → K i → K' i) : Chg K' w w1 := ⟨h.os, h.tape, h.output, h.size, fun i hi hn => h.block i hi (fun e => hn (hK i hi e))⟩
theorem Chg.cell {K : Nat → Prop} {w w1 : World} (h : Chg K w w1) {a : Addr} {v : Value} (hc : w.cell? a = some v) (hK : ¬ K a.block) : w1.cell? a = some v :=
  (World.cell?_of_block (h.block a.block (World.block_lt_of_cell? w a hc) hK)).trans hc
theorem Chg.setCell {K : Nat → Prop} {w w1 : World} (h : Chg K w w1) (p : Addr) (v : Value) (hK : K p.block ∨ w.heap.size ≤ p.block) : Chg K w (w1.setCell p v) :=
  ⟨h.os, h.tape, h.output, by rw [World.size_setCell]; exact h.size, fun i hi hn => by
    rw [Below.heap_setCell _ _ _ _ (fun e => by subst e; rcases hK with k | k; exact hn k; omega)]
    exact h.block i hi hn⟩
theorem Chg.alloc {K : Nat → Prop} {w w1 : World} (h : Chg K w w1) (o : Obj) : Chg K w (w1.alloc o) :=
  ⟨h.os, h.tape, h.output, by rw [World.size_alloc]; have := h.size; omega, fun i hi hn => (Below.heap_alloc _ _ _ (Nat.lt_of_lt_of_le hi h.size)).trans (h.block i hi hn)⟩
theorem Chg.drew {K : Nat → Prop} {w w1 : World} (h : Chg K w w1) : Chg K w w1.drew := ⟨h.os, h.tape, h.output, h.size, h.block⟩
theorem Chg.below {K : Nat → Prop} {w0 w w1 : World} {B : Nat} (h : Chg K w w1) (hb : Below B w0 w) (hB : B ≤ w.heap.size) (hK : ∀ i, K i → B ≤ i) : Below B w0 w1 :=
  hb.trans ⟨h.os, h.tape, h.output, h.size, fun k hk => h.block k (by omega) (fun e => by have := hK k e; omega)⟩

/-- The blocks of a tree. -/
def RefK (d : Nat) (v : Value) (j : Nat) : Prop := j = d ∨ v.ownBlock = some j
theorem flatA_pa : ∀ (l : List Ac) (n : Nat) (a : Ac) (x : Int), l[n]? = some a → (flatA l).set (n * 5 + 1) (.int .i64 x) = flatA (l.set n { a with pa := x })
  | [], n, a, x, h => by simp at h
  | b :: l, 0, a, x, h => by simp at h; subst h; rfl
  | b :: l, n + 1, a, x, h => by
    have := flatA_pa l n a x (by simpa using h)
    rw [show (n + 1) * 5 + 1 = n * 5 + 1 + 1 + 1 + 1 + 1 + 1 by omega]
    simp only [flatA, List.set_cons_succ, this]
theorem flatA_sh : ∀ (l : List Ac) (n : Nat) (a : Ac) (x : Int), l[n]? = some a → (flatA l).set (n * 5 + 2) (.int .i64 x) = flatA (l.set n { a with sh := x })
  | [], n, a, x, h => by simp at h
  | b :: l, 0, a, x, h => by simp at h; subst h; rfl
  | b :: l, n + 1, a, x, h => by
    have := flatA_sh l n a x (by simpa using h)
    rw [show (n + 1) * 5 + 2 = n * 5 + 2 + 1 + 1 + 1 + 1 + 1 by omega]
    simp only [flatA, List.set_cons_succ, this]
theorem flatA_cl : ∀ (l : List Ac) (n : Nat) (a : Ac) (x : Bool), l[n]? = some a → (flatA l).set (n * 5 + 3) (.bool x) = flatA (l.set n { a with cl := x })
  | [], n, a, x, h => by simp at h
  | b :: l, 0, a, x, h => by simp at h; subst h; rfl
  | b :: l, n + 1, a, x, h => by
    have := flatA_cl l n a x (by simpa using h)
    rw [show (n + 1) * 5 + 3 = n * 5 + 3 + 1 + 1 + 1 + 1 + 1 by omega]
    simp only [flatA, List.set_cons_succ, this]
/-- One cell of the list is written. -/
theorem RefO.set {B : Nat} {W : World} {d : Nat} {v : Value} {l l' : List Ac} {g k : Nat} {x : Value} (h : RefO B W d v l) (hg : v.ownBlock = some g) (hf : (flatA l).set k x = flatA l') (hl : l'.length = l.length) :
    RefO B (W.setCell ⟨g, k, none⟩ x) d v l' ∧ Chg (RefK d v) W (W.setCell ⟨g, k, none⟩ x) := by
  have hr := h.row
  rcases hr.2 with ⟨rfl, _⟩ | ⟨g', cap, cur, rfl, hb, hgg, h1, h2, h3, h4⟩
  · simp [Value.ownBlock] at hg
  · simp [Value.ownBlock] at hg
    subst hg
    have hne : d ≠ g' := fun e => by subst e; have := h.blk; rw [hgg] at this; cases this
    have e1 := heap_setCell_same W g' k cur 39 x hgg
    refine ⟨⟨?_, ⟨?_, .inr ⟨g', cap, _, by rw [hl], hb, e1, by rw [hl]; exact h1, h2, by simpa using h3, ?_⟩⟩, h.lo⟩, (Chg.refl _ W).setCell _ _ (.inl (.inr rfl))⟩
    · rw [Below.heap_setCell _ _ _ _ (by simpa using hne)]; exact h.blk
    · rw [← hf, List.length_set, hl]; exact hr.1
    · rw [Array.toList_setIfInBounds, hl, List.take_set, h4, hf]
theorem RefO.cells {B : Nat} {W : World} {d : Nat} {v : Value} {l : List Ac} {n : Nat} {a : Ac} (h : RefO B W d v l) (ha : l[n]? = some a) : ∃ g c, v = .slice (some ⟨g, 0, none⟩) l.length c ∧ AcAt W g (n * 5) a ∧ ∀ k, W.frozen? ⟨g, k, none⟩ = false := by
  have hk := (List.getElem?_eq_some_iff.1 ha).1
  rcases h.row.2 with ⟨_, h0⟩ | ⟨g, cap, cur, rfl, hb, hg, h1, h2, h3, h4⟩
  · omega
  · refine ⟨g, cap, rfl, ?_, fun k => frozen_at hg⟩
    obtain ⟨e0, e1, e2, e3, e4⟩ := flatA_at l n a ha
    rw [← h4, List.getElem?_take_of_lt (by omega), Array.getElem?_toList] at e0 e1 e2 e3 e4
    exact ⟨cells_at hg e0, cells_at hg e1, cells_at hg e2, cells_at hg e3, cells_at hg e4⟩
theorem RefO.cell {B : Nat} {W : World} {d : Nat} {v : Value} {l : List Ac} (h : RefO B W d v l) : W.cell? ⟨d, 0, none⟩ = some v := cells_at h.blk rfl

set_option maxHeartbeats 2000000 in
set_option maxRecDepth 20000 in
theorem rshares_any {B : Nat} {w : World} {d : Nat} {v : Value} {l : List Ac} (hT : RefO B w d v l) (hn : l.length * 48 ≤ 140737488355328) (s : ByteArray) (sh : Int) :
    Calls Try.prog 38 #[.pointer (some ⟨d, 0, none⟩), .string s, .int .i64 sh] w fun e w' => e = .returned (.int .i64 (sharesV l s sh).1) ∧ RefO B w' d v (sharesV l s sh).2 ∧ Chg (RefK d v) w w' := by
  have hk := known_any hT.ref hn s
  obtain ⟨⟨n, er⟩, hkv⟩ : ∃ p, knownV l s = p := ⟨_, rfl⟩
  rw [hkv] at hk
  simp only at hk
  by_cases he : er = 0
  · subst he
    obtain ⟨hf, hn0⟩ := known_some hkv
    obtain ⟨⟨a, ha, _⟩, _⟩ := find_some hf
    have hnl := (List.getElem?_eq_some_iff.1 ha).1
    by_cases hsh : okSh sh = false
    · have hv : sharesV l s sh = (63, l) := by unfold sharesV; rw [hkv]; simp [hsh]
      rw [hv]
      by_cases s1 : sh < 1
      · go_enter Try.func38, Try.ntmps38
        go_wp2_with fail
        refine hk.mono ?_
        rintro e w1 ⟨rfl, b1⟩
        go_wp2
        go_ret
        exact ⟨rfl, hT.below b1, Chg.of_below b1 _⟩
      · have s2 : 4096 < sh := by
          simp [okSh] at hsh
          omega
        go_enter Try.func38, Try.ntmps38
        go_wp2_with fail
        refine hk.mono ?_
        rintro e w1 ⟨rfl, b1⟩
        go_wp2
        go_ret
        exact ⟨rfl, hT.below b1, Chg.of_below b1 _⟩
    · have hv : sharesV l s sh = (0, l.set n { a with sh := sh }) := by unfold sharesV; rw [hkv]; simp [hsh, ha]
      rw [hv]
      obtain ⟨s1, s2⟩ : 1 ≤ sh ∧ sh ≤ 4096 := by simpa [okSh] using hsh
      go_enter Try.func38, Try.ntmps38
      go_wp2_with fail
      refine hk.mono ?_
      rintro e w1 ⟨rfl, b1⟩
      have hT1 := hT.below b1
      obtain ⟨g, c, rfl, hac, hfr⟩ := hT1.cells ha
      have c0 := hT1.cell
      obtain ⟨d0, d1, d2, d3, d4⟩ := hac
      have hS := hT1.set (g := g) rfl (flatA_sh l n a sh ha) (by simp)
      have hnl' : (n : Int) < l.length := by omega
      have HS : Hid _ := hS
      clear hS hT1
      go_wp2
      go_ret
      exact ⟨rfl, HS.out.1, (Chg.of_below b1 _).trans HS.out.2 (fun _ _ h => h)⟩
  · have hv : sharesV l s sh = (er, l) := by
      unfold sharesV
      rw [hkv]
      split
      · rename_i heq
        cases heq
        exact absurd rfl he
      · rename_i heq
        cases heq
        rfl
    rw [hv]
    go_enter Try.func38, Try.ntmps38
    go_wp2_with fail
    refine hk.mono ?_
    rintro e w1 ⟨rfl, b1⟩
    go_wp2
    go_ret
    exact ⟨rfl, hT.below b1, Chg.of_below b1 _⟩
end Go.Proofs.Ythkahbjcncbcfaa
