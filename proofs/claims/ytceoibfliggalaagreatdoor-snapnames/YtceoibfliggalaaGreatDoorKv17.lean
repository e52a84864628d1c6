/-
  TEXTS: PgR, LdX, LdB.
-/
import Derived.Test.YtceoibfliggalaaGreatDoorKv16
namespace Go.Proofs.YtceoibfliggalaaGreatDoor
open Go.RowKit Tr
set_option maxRecDepth 20000 in
set_option maxHeartbeats 1000000 in
theorem root_any (w : World) : Calls Tryz.prog 100 #[] w fun e w' => e = .returned (acV rootAc) ∧ Below w.heap.size w w' := by
 go_enter Tryz.func100, Tryz.ntmps100
 go_wp2
 exact bodyPost_ret (v := acV rootAc) (by simp [results, Tryz.results100, go_sem, acV, rootAc, rootName]) rfl ⟨rfl, (Below.refl _ w).alloc (Nat.le_refl _) _⟩
set_option maxRecDepth 20000 in
set_option maxHeartbeats 1000000 in
theorem isRoot_any (a : Ac) (w : World) : Calls Tryz.prog 135 #[acV a] w fun e w' => e = .returned (.bool (isRoot a)) ∧ Below w.heap.size w w' := by
 have hr := fun w1 => root_any w1
 obtain ⟨nm, pa, sh, cl, us⟩ := a
 unfold acV at hr ⊢
 simp only [rootAc] at hr
 unfold isRoot
 simp only
 obtain ⟨wb, hwb⟩ : ∃ wb, w.alloc (.cells #[.string nm, .int .i64 pa, .int .i64 sh, .bool cl, .int .u64 0] 52) = wb := ⟨_, rfl⟩
 have y := heap_alloc_new w (.cells #[.string nm, .int .i64 pa, .int .i64 sh, .bool cl, .int .u64 0] 52)
 have bb : Below w.heap.size w wb := by rw [← hwb]; exact (Below.refl _ w).alloc (Nat.le_refl _) _
 rw [hwb] at y
 obtain ⟨⟨z0, z1, z2, z3, z4⟩, _⟩ := cells5 y
 have hlt : w.heap.size < wb.heap.size := (Array.getElem?_eq_some_iff.1 y).1
 have HY : Hid _ := y
 clear y
 have fin : ∀ w1, Below wb.drew.heap.size wb.drew w1 → Below w.heap.size w w1 := fun w1 b => bb.trans (⟨b.os, b.tape, b.output, b.size, fun k hk => b.block k (Nat.lt_of_lt_of_le hk bb.size)⟩ : Below w.heap.size wb w1)
 have kp : ∀ w1, Below wb.drew.heap.size wb.drew w1 → (w1.cell? ⟨w.heap.size, 0, none⟩ = some (.string nm) ∧ w1.cell? ⟨w.heap.size, 1, none⟩ = some (.int .i64 pa) ∧ w1.cell? ⟨w.heap.size, 2, none⟩ = some (.int .i64 sh) ∧ w1.cell? ⟨w.heap.size, 3, none⟩ = some (.bool cl) ∧ w1.cell? ⟨w.heap.size, 4, none⟩ = some (.int .u64 0)) := fun w1 b => (cells5 ((b.block _ hlt).trans HY.out)).1
 have FIN : Hid _ := fin
 have KP : Hid _ := kp
 clear fin kp
 by_cases h1 : nm = rootName
 ·have f1 : (nm.toList == rootName.toList) = true := ba_eq h1
  by_cases h2 : pa = -1
  ·by_cases h3 : sh = 1
   ·rw [decide_eq_true h1, decide_eq_true h2, decide_eq_true h3]
    have f2 : (pa == -1) = true := by simp [h2]
    have f3 : (sh == 1) = true := by simp [h3]
    clear h1 h2 h3
    cases cl with
    | true =>
     go_enter Tryz.func135, Tryz.ntmps135
     go_wp2_with fail
     go_region_with (first | (go_at_call 100; refine (hr _).mono ?_; rintro e w1 ⟨rfl, b1⟩; obtain ⟨x0, x1, x2, x3, x4⟩ := KP.out _ b1))
     all_goals (go_wp2; go_ret)
     all_goals exact ⟨rfl, FIN.out _ b1⟩
    | false =>
     go_enter Tryz.func135, Tryz.ntmps135
     go_wp2_with fail
     go_region_with (first | (go_at_call 100; refine (hr _).mono ?_; rintro e w1 ⟨rfl, b1⟩; obtain ⟨x0, x1, x2, x3, x4⟩ := KP.out _ b1))
     all_goals (go_wp2; go_ret)
     all_goals exact ⟨rfl, FIN.out _ b1⟩
   ·have f2 : (pa == -1) = true := by simp [h2]
    have f3 : (sh == 1) = false := by simp [h3]
    rw [decide_eq_true h1, decide_eq_true h2, decide_eq_false h3]
    clear h1 h2 h3
    go_enter Tryz.func135, Tryz.ntmps135
    go_wp2_with fail
    go_region_with (first | (go_at_call 100; refine (hr _).mono ?_; rintro e w1 ⟨rfl, b1⟩; obtain ⟨x0, x1, x2, x3, x4⟩ := KP.out _ b1))
    all_goals (go_wp2; go_ret)
    all_goals exact ⟨rfl, FIN.out _ b1⟩
  ·have f2 : (pa == -1) = false := by simp [h2]
   rw [decide_eq_true h1, decide_eq_false h2]
   clear h1 h2
   go_enter Tryz.func135, Tryz.ntmps135
   go_wp2_with fail
   go_region_with (first | (go_at_call 100; refine (hr _).mono ?_; rintro e w1 ⟨rfl, b1⟩; obtain ⟨x0, x1, x2, x3, x4⟩ := KP.out _ b1))
   all_goals (go_wp2; go_ret)
   all_goals exact ⟨rfl, FIN.out _ b1⟩
 ·have f1 : (nm.toList == rootName.toList) = false := ba_ne h1
  rw [decide_eq_false h1]
  clear h1
  go_enter Tryz.func135, Tryz.ntmps135
  go_wp2_with fail
  go_region_with (first | (go_at_call 100; refine (hr _).mono ?_; rintro e w1 ⟨rfl, b1⟩; obtain ⟨x0, x1, x2, x3, x4⟩ := KP.out _ b1))
  all_goals (go_wp2; go_ret)
  all_goals exact ⟨rfl, FIN.out _ b1⟩
end Go.Proofs.YtceoibfliggalaaGreatDoor
namespace Go.Proofs.YtceoibfliggalaaGreatDoor
open Go.RowKit Tr
namespace Tr
def kidB (l : List Ac) (n j : Nat) : Bool := decide ((l[j]?.map (·.pa)) = some (n : Int))
theorem kidB_iff {l : List Ac} {n j : Nat} : kidB l n j = true ↔ j ∈ kidsV l n := by
 rw [mem_kids]
 unfold kidB
 cases h : l[j]? with
 | none => simp
 | some a => simp
theorem kidB_lt {l : List Ac} {n j : Nat} (h : kidB l n j = true) : j < l.length := by
 obtain ⟨a, ha, _⟩ := mem_kids.1 (kidB_iff.1 h)
 exact (List.getElem?_eq_some_iff.1 ha).1
end Tr
end Go.Proofs.YtceoibfliggalaaGreatDoor
namespace Go.Proofs.YtceoibfliggalaaGreatDoor
open Go.RowKit Tr
set_option maxRecDepth 20000 in
theorem nmD_none : NmD (.map [] : DataW Unit) [] := fun s => ⟨rfl, fun k h => (by cases h)⟩
theorem kidB_root : ∀ i j, kidB [rootAc] i j = false := by
 intro i j
 unfold kidB
 cases j with
 | zero => simp [rootAc]
 | succ j => simp
set_option maxHeartbeats 2000000 in
set_option maxRecDepth 20000 in
theorem pnew_any (w : World) : Calls Tryz.prog 42 #[] w fun e w' => ∃ t v m kv ks, e = .returned (.pointer (some ⟨t, 0, none⟩)) ∧ PT w' t v m kv ks [rootAc] (kidB [rootAc]) ∧ (∀ j, PK t v m kv ks j → w.heap.size ≤ j) ∧ Below w.heap.size w w' := by
 have hmm := @run_makeMap Tryz.prog
 obtain ⟨w1, hw1⟩ : ∃ w1, (w.alloc (.map #[] 0)).alloc (.cells #[.slice none 0 0, .map (some w.heap.size), .slice none 0 0] 142) = w1 := ⟨_, rfl⟩
 have b1 : Below w.heap.size w w1 := by rw [← hw1]; exact ((Below.refl _ w).alloc (Nat.le_refl _) _).alloc (by simp) _
 have p1 : PT w1 (w.heap.size + 1) (.slice none 0 0) w.heap.size (.slice none 0 0) [] [] (kidB [rootAc]) := by
  rw [← hw1]
  refine ⟨?_, World.ownsRow_nil _ _ _ _, ⟨.map [], ?_, nmD_none⟩, World.ownsRow_nil _ _ _ _, rfl, fun i k h => (by simp at h), List.nodup_nil, by simp⟩
  ·have := heap_alloc_new (w.alloc (.map #[] 0)) (.cells #[.slice none 0 0, .map (some w.heap.size), .slice none 0 0] 142)
   rwa [World.size_alloc] at this
  ·exact (World.ownsMap_made w Tryz.prog 9 (plainElem Tryz.prog 3)).alloc _
 have HB : Hid _ := b1
 have HP : Hid _ := p1
 clear b1 p1
 go_enter Tryz.func42, Tryz.ntmps42
 go_wp2_with fail
 refine (root_any w1).mono ?_
 rintro e w2 ⟨rfl, b2⟩
 have hlay := lay_any (HP.out.below b2) rootAc (by decide) rfl (by decide) (fun j => kidB_root _ j)
 go_wp2_with fail
 refine hlay.mono ?_
 rintro e w3 ⟨rfl, v', kv', k', p3, c3, n3⟩
 have HP3 : Hid _ := p3
 have HC3 : Hid _ := c3
 have HN3 : Hid _ := n3
 clear p3 c3 n3
 go_wp2
 go_ret
 have hs1 := HB.out.size
 have hs2 := b2.size
 have hlo : ∀ j, PK (w.heap.size + 1) (.slice none 0 0) w.heap.size (.slice none 0 0) [] j → w.heap.size ≤ j := by
  rintro j (rfl | h | rfl | h | h)
  ·omega
  ·simp [Value.ownBlock] at h
  ·omega
  ·simp [Value.ownBlock] at h
  ·cases h
 refine ⟨_, _, _, _, _, rfl, HP3.out, fun j hj => ?_, ?_⟩
 ·rcases HN3.out j hj with h | h
  ·exact hlo j h
  ·omega
 ·exact HC3.out.below (HB.out.trans (b2.mono HB.out.size)) (Nat.le_trans hs1 hs2) hlo
end Go.Proofs.YtceoibfliggalaaGreatDoor
namespace Go.Proofs.YtceoibfliggalaaGreatDoor
open Go.RowKit Tr
def Ext (S : Nat → Prop) (n j : Nat) : Prop := S j ∨ n ≤ j
section
variable {S : Nat → Prop} {w : World} {t : Nat} {l : List Ac}
set_option maxRecDepth 20000 in
theorem tnew (w : World) : Calls Tryz.prog 42 #[] w fun e w' => ∃ t, e = .returned (.pointer (some ⟨t, 0, none⟩)) ∧ Tree (fun j => w.heap.size ≤ j) w' t [rootAc] (kidB [rootAc]) ∧ Below w.heap.size w w' :=
 (pnew_any w).mono fun _ _ ⟨t, v, m, kv, ks, he, h1, h2, h3⟩ => ⟨t, he, ⟨v, m, kv, ks, h1, h2⟩, h3⟩
end
theorem Tree.ext {B : Nat} {n : Nat} {W : World} {t : Nat} {l : List Ac} {K : Nat → Nat → Bool} (h : Tree (Ext (fun j => B ≤ j) n) W t l K) (hB : B ≤ n) : Tree (fun j => B ≤ j) W t l K :=
 h.mono (fun j _ hj => by rcases hj with hj | hj; exact hj; exact Nat.le_trans hB hj)
theorem Chg.lo {B : Nat} {w w' : World} (h : Chg (fun j => B ≤ j) w w') (hB : B ≤ w.heap.size) : Below B w w' := h.below (Below.refl _ w) hB (fun _ hi => hi)
end Go.Proofs.YtceoibfliggalaaGreatDoor
namespace Go.Proofs.YtceoibfliggalaaGreatDoor
open Go.RowKit Tr
section
variable {S : Nat → Prop} {w : World} {t : Nat} {l : List Ac} {K : Nat → Nat → Bool}
set_option maxRecDepth 20000 in
theorem tlay (h : Tree S w t l K) (a : Ac) (hs : a.nm.size ≤ maxLen) (hf : findV l a.nm = none) (hl : l.length < 64) (hK : ∀ j, K l.length j = false) :
  Calls Tryz.prog 99 #[.pointer (some ⟨t, 0, none⟩), acV a] w fun e w' => e = .returned (.int .i64 l.length) ∧ Tree (Ext S w.heap.size) w' t (l ++ [plainAc a]) K ∧ Chg S w w' := by
 obtain ⟨v, m, kv, ks, h1, h2⟩ := h
 refine (lay_any h1 a hs hf hl hK).mono ?_
 rintro e w' ⟨rfl, v', kv', k', g1, g2, g3⟩
 refine ⟨rfl, ⟨v', m, kv', ks ++ [k'], g1, fun j hj => ?_⟩, g2.mono (fun i _ hi => h2 i hi)⟩
 rcases g3 j hj with h | h
 ·exact .inl (h2 j h)
 ·exact .inr h
set_option maxRecDepth 20000 in
theorem trefuses (h : Tree S w t l K) {s : ByteArray} (hs : s.size ≤ maxLen) (kn : Bool) (sh : Int) :
  Calls Tryz.prog 136 #[.pointer (some ⟨t, 0, none⟩), .string s, .bool kn, .int .i64 sh] w fun e w' => e = .returned (.int .i64 (refV l s kn sh)) ∧ w = w' := by
 obtain ⟨v, m, kv, ks, h1, h2⟩ := h
 exact refuses_any h1 hs kn sh
set_option maxRecDepth 20000 in
theorem thang (h : Tree S w t l K) {n p : Nat} (hl : l.length ≤ 64) (hn : n < l.length) (hp : p < l.length) (h64 : ∀ j, K p j = true → j < 64) :
  Calls Tryz.prog 138 #[.pointer (some ⟨t, 0, none⟩), .int .i64 n, .int .i64 p] w fun e w' => e = .returned (.tuple #[]) ∧ Tree S w' t (mvV l n p) (hangK K n p) ∧ Chg S w w' := by
 obtain ⟨v, m, kv, ks, h1, h2⟩ := h
 refine (hang_any h1 hl hn hp h64).mono ?_
 rintro e w' ⟨rfl, g1, g2⟩
 exact ⟨rfl, ⟨v, m, kv, ks, g1, h2⟩, g2.mono (fun i _ hi => h2 i hi)⟩
end
namespace Tr
theorem plain_find (l : List Ac) (s : ByteArray) : findV (l.map plainAc) s = findV l s := by
 induction l with
 | nil => rfl
 | cons a l ih =>
  show (if (plainAc a).nm = s then some 0 else (findV (l.map plainAc) s).map (· + 1)) = _
  rw [ih]
  rfl
theorem find_take {l : List Ac} {i : Nat} {a : Ac} (h : l[i]? = some a) : findV l a.nm ≠ some i ↔ (findV (l.take i) a.nm).isSome = true := by
 induction l generalizing i with
 | nil => simp at h
 | cons b l ih =>
  cases i with
  | zero =>
   simp at h
   subst h
   simp [findV]
  | succ i =>
   have h' : l[i]? = some a := by simpa using h
   have := ih h'
   simp only [List.take_succ_cons, findV]
   by_cases e : b.nm = a.nm
   ·simp [e]
   ·rw [if_neg e, if_neg e]
    cases hf : findV l a.nm with
    | none =>
     rw [hf] at this
     simp at this
     simp [this]
    | some k =>
     rw [hf] at this
     simp at this
     simp [this]
theorem rowE_ref {l : List Ac} {i : Nat} {a : Ac} (h : l[i]? = some a) : rowE l i a = refV ((l.take i).map plainAc) a.nm (decide (0 ≤ a.pa) && decide (a.pa < l.length)) a.sh := by
 unfold rowE refV
 rw [plain_find]
 have h1 := find_take h
 by_cases c1 : okName a.nm = false
 ·simp [c1]
 ·rw [if_neg c1, if_neg c1]
  by_cases c2 : findV l a.nm ≠ some i
  ·rw [if_pos c2, if_pos (h1.1 c2)]
  ·rw [if_neg c2, if_neg (fun h => c2 (h1.2 h))]
   by_cases c3 : a.pa < 0 ∨ (l.length : Int) ≤ a.pa
   ·rw [if_pos c3, if_pos]
    simp
    omega
   ·have hk : (decide (0 ≤ a.pa) && decide (a.pa < (l.length : Int))) = true := by
     simp
     omega
    rw [if_neg c3, hk]
    simp
theorem rowE_no {l : List Ac} {i : Nat} {a : Ac} (h : l[i]? = some a) (he : rowE l i a = 0) : okName a.nm = true ∧ findV ((l.take i).map plainAc) a.nm = none ∧ 0 ≤ a.pa ∧ a.pa < (l.length : Int) := by
 unfold rowE at he
 by_cases c1 : okName a.nm = false
 ·simp [c1] at he
 ·rw [if_neg c1] at he
  by_cases c2 : findV l a.nm ≠ some i
  ·rw [if_pos c2] at he
   simp at he
  ·rw [if_neg c2] at he
   by_cases c3 : a.pa < 0 ∨ (l.length : Int) ≤ a.pa
   ·rw [if_pos c3] at he
    simp at he
   ·refine ⟨by simpa using c1, ?_, by omega, by omega⟩
    rw [plain_find]
    cases hf : findV (l.take i) a.nm with
    | none => rfl
    | some k => exact absurd ((find_take h).2 (by rw [hf]; rfl)) c2
theorem rows_at {l : List Ac} {i : Nat} {a : Ac} (h : l[i]? = some a) (f : Nat) : rowsE l (f + 1) i = if rowE l i a = 0 then rowsE l f (i + 1) else rowE l i a := by
 simp only [rowsE, h]
theorem rows_end {l : List Ac} {i : Nat} (h : l.length ≤ i) : ∀ f, rowsE l f i = 0
 | 0 => rfl
 | f + 1 => by simp only [rowsE, List.getElem?_eq_none h]
theorem steps_depth {l : List Ac} (h : ∀ k, k < l.length → up l k < l.length) {n : Nat} (hn : n < l.length) : depN l l.length n = depthV l n := by
 cases hd : depthV l n with
 | some d =>
  obtain ⟨h1, _⟩ := depN_dep hd
  exact dep_depN h1 (dep_lt h hn h1)
 | none =>
  cases hd2 : depN l l.length n with
  | none => rfl
  | some d =>
   obtain ⟨h1, h2⟩ := depN_dep hd2
   have : depthV l n = some d := dep_depN h1 (by omega)
   rw [hd] at this
   cases this
theorem deep_at {l : List Ac} {i : Nat} (h : i < l.length) (f : Nat) : deepE l (f + 1) i = match depthV l i with
  | none => 67
  | some d => if 4 < d then 64 else deepE l f (i + 1) := by
 have : ¬ l.length ≤ i := by omega
 show (if l.length ≤ i then (0 : Int) else _) = _
 rw [if_neg this]
 cases depthV l i <;> rfl
theorem deep_end {l : List Ac} {i : Nat} (h : l.length ≤ i) : ∀ f, deepE l f i = 0
 | 0 => rfl
 | f + 1 => by simp only [deepE, if_pos h]
set_option maxRecDepth 20000 in
theorem deep_zero {l : List Ac} (h : 0 < l.length) (f : Nat) : deepE l (f + 1) 0 = deepE l f 1 := by
 rw [deep_at h]
 have : depthV l 0 = some 0 := by unfold depthV depN; simp
 rw [this]
 simp
set_option maxRecDepth 20000 in
theorem deep_more {l : List Ac} : ∀ {f i}, l.length ≤ f + i → deepE l (f + 1) i = deepE l f i
 | 0, i, h => by rw [deep_end (by omega), deep_end (by omega)]
 | f + 1, i, h => by
  by_cases hi : i < l.length
  ·rw [deep_at hi, deep_at hi, deep_more (f := f) (i := i + 1) (by omega)]
  ·rw [deep_end (by omega), deep_end (by omega)]
end Tr
set_option maxHeartbeats 2000000 in
set_option maxRecDepth 20000 in
theorem misplaced_any {w : World} {ao : Option Addr} {l : List Ac} {c : Nat} (hA : AcsAt w ao l) (hn : l.length * 48 ≤ 140737488355328) (hp : PaOk l) (hu : ∀ k, k < l.length → up l k < l.length) :
  Calls Tryz.prog 137 #[.slice ao l.length c] w fun e w' => e = .returned (.int .i64 (deepE l l.length 0)) ∧ w = w' := by
 obtain ⟨q, hq⟩ : ∃ q, l.length = q := ⟨_, rfl⟩
 have hst : ∀ n, n < q → Calls Tryz.prog 167 #[.slice ao q c, .int .i64 n] w fun e w' => e = .returned (.tuple #[.int .i64 (stepsI (depthV l n)).1, .bool (stepsI (depthV l n)).2]) ∧ w = w' := fun n hnq => by
  have := steps_any (c := c) hA hn hp (n := n) (by omega)
  rw [steps_depth hu (by omega), hq] at this
  exact this
 have HST : Hid _ := hst
 have HQ : Hid (l.length = q) := hq
 rw [hq] at hn ⊢
 clear hA hp hu hst
 go_enter Tryz.func137, Tryz.ntmps137
 go_wp2
 go_loopg [8] q (fun gk p wr => ∃ j : Nat, j + gk = q ∧ p = .int .i64 j ∧ w = wr ∧ deepE l q 0 = deepE l gk j)
 case atStart => exact ⟨0, by omega, rfl, rfl, rfl⟩
 case round =>
  obtain ⟨j, hj, rfl, rfl, hinv⟩ := hrel
  by_cases hlt : j < q
  ·have hlt' : (j : Int) < q := by omega
   obtain ⟨f, rfl⟩ : ∃ f, gk = f + 1 := ⟨gk - 1, by omega⟩
   rw [deep_at (by rw [HQ.out]; exact hlt)] at hinv
   have hs := HST.out j hlt
   clear hq
   cases hd : depthV l j with
   | none =>
    rw [hd] at hinv hs
    simp only [stepsI] at hs
    have HI : Hid (deepE l q 0 = 67) := hinv
    clear hinv
    go_wp2_with fail
    refine hs.mono ?_
    rintro e wx ⟨rfl, rfl⟩
    go_wp2
    go_ret
    exact ⟨by rw [HI.out]; rfl, rfl⟩
   | some d =>
    rw [hd] at hinv hs
    simp only [stepsI] at hs
    by_cases h4 : 4 < d
    ·have h4' : (4 : Int) < d := by omega
     have HI : Hid (deepE l q 0 = 64) := show deepE l q 0 = 64 by rw [hinv]; simp [h4]
     clear hinv
     go_wp2_with fail
     refine hs.mono ?_
     rintro e wx ⟨rfl, rfl⟩
     go_wp2
     go_ret
     exact ⟨by rw [HI.out]; rfl, rfl⟩
    ·have h4' : ¬ (4 : Int) < d := by omega
     have HI : Hid (deepE l q 0 = deepE l f (j + 1)) := show deepE l q 0 = deepE l f (j + 1) by rw [hinv]; simp [h4]
     clear hinv
     go_wp2_with fail
     refine hs.mono ?_
     rintro e wx ⟨rfl, rfl⟩
     go_wp2
     go_roundg f
     case measure => omega
     case rel => exact ⟨j + 1, by omega, rfl, rfl, HI.out⟩
  ·obtain rfl : j = q := by omega
   have HI : Hid (deepE l j 0 = 0) := show deepE l j 0 = 0 by rw [hinv]; exact deep_end (by rw [HQ.out]; exact Nat.le_refl _) _
   clear hinv
   go_wp2
   go_ret
   exact ⟨by rw [HI.out]; rfl, rfl⟩
end Go.Proofs.YtceoibfliggalaaGreatDoor
namespace Go.Proofs.YtceoibfliggalaaGreatDoor
open Go.RowKit Tr
def LoadP (w : World) (l : List Ac) (e : Ending) (w' : World) : Prop :=
 (loadE l = 0 → ∃ t, e = .returned (.tuple #[.pointer (some ⟨t, 0, none⟩), .int .i64 0]) ∧ Tree (fun j => w.heap.size ≤ j) w' t (l.map plainAc) (kidB (l.map plainAc))) ∧ (loadE l ≠ 0 → e = .returned (.tuple #[.pointer none, .int .i64 (loadE l)])) ∧ Below w.heap.size w w'
theorem LoadP.no {w w' : World} {l : List Ac} {k : Int} (h : loadE l = k) (hk : k ≠ 0) (b : Below w.heap.size w w') : LoadP w l (.returned (.tuple #[.pointer none, .int .i64 k])) w' :=
 ⟨fun e => absurd (h.symm.trans e) hk, fun _ => by rw [h], b⟩
theorem kidB_none : kidB [rootAc] = fun _ _ => false := by
 funext i j
 exact kidB_root i j
namespace Tr
theorem take_plain {l : List Ac} {i : Nat} {a : Ac} (h : l[i]? = some a) : (l.take (i + 1)).map plainAc = (l.take i).map plainAc ++ [plainAc a] := by
 rw [List.take_add_one, h]
 simp
def kidN (l : List Ac) (n : Nat) : Nat → Nat → Bool := fun i j => decide (0 < j ∧ j < n) && kidB l i j
theorem kidN_start (l : List Ac) : kidN l 1 = fun _ _ => false := by
 funext i j
 unfold kidN
 have : ¬ (0 < j ∧ j < 1) := by omega
 rw [decide_eq_false this]
 rfl
theorem kidN_step {l : List Ac} {n p : Nat} {a : Ac} (hn : 0 < n) (ha : l[n]? = some a) (hp : a.pa = p) : hangK (kidN l n) n p = kidN l (n + 1) := by
 funext i j
 unfold hangK kidN
 by_cases e : j = n
 ·subst e
  have h1 : decide (0 < j ∧ j < j) = false := by simp
  have h2 : decide (0 < j ∧ j < j + 1) = true := by simp [hn]
  rw [h1, h2]
  unfold kidB
  rw [ha]
  simp only [Bool.false_and, beq_self_eq_true, Bool.or_true, Option.map_some, hp, Bool.true_and]
  by_cases h3 : i = p
  ·simp [h3]
  ·simp [h3]
   omega
 ·have h1 : (j == n) = false := by simp [e]
  have h2 : decide (0 < j ∧ j < n + 1) = decide (0 < j ∧ j < n) := by
   congr 1
   simp only [eq_iff_iff]
   omega
  rw [h1, h2]
  split
  ·rename_i h3
   rw [h3]
   simp
  ·rfl
set_option maxRecDepth 20000 in
theorem kidN_end {l : List Ac} {n : Nat} (hn : l.length ≤ n) (h0 : ∀ a, l[0]? = some a → a.pa < 0) : kidN l n = kidB l := by
 funext i j
 unfold kidN
 cases hk : kidB l i j with
 | false => simp
 | true =>
  have hj := kidB_lt hk
  have : 0 < j := by
   by_cases e : j = 0
   ·subst e
    obtain ⟨a, ha, hp⟩ := mem_kids.1 (kidB_iff.1 hk)
    have := h0 a ha
    omega
   ·omega
  simp [this]
  omega
end Tr
set_option maxHeartbeats 8000000 in
set_option maxRecDepth 20000 in
theorem pload_any {w : World} {ao : Option Addr} {l : List Ac} {c : Nat} (hA : AcsAt w ao l) (hs : ∀ a ∈ l, a.nm.size ≤ maxLen) (hn : l.length * 48 ≤ 281474976710656) (hc : l.length ≤ c) :
  Calls Tryz.prog 90 #[.slice ao l.length c] w (LoadP w l) := by
 cases hl0 : l[0]? with
 | none =>
  have hl : l = [] := by
   cases l with
   | nil => rfl
   | cons a l => simp at hl0
  subst hl
  simp only [List.length_nil]
  have HE : Hid (loadE [] = 66) := show loadE [] = 66 from rfl
  clear hA hs hl0
  go_enter Tryz.func90, Tryz.ntmps90
  go_wp2
  go_ret2
  exact LoadP.no HE.out (by decide) (Below.refl _ _)
 | some a0 =>
  obtain ⟨g, o, hg, hcl⟩ := hA
  have hpos : 0 < l.length := (List.getElem?_eq_some_iff.1 hl0).1
  obtain rfl := hg hpos
  obtain ⟨Q, hQ⟩ : ∃ Q, l.length = Q := ⟨_, rfl⟩
  have HQ : Hid (l.length = Q) := hQ
  rw [hQ] at hpos hn hc ⊢
  have hz : ((Q : Int) == 0) = false := by simp; omega
  obtain ⟨d0, d1, d2, d3, d4⟩ := hcl 0 a0 hl0
  simp only [Nat.zero_mul, Nat.add_zero] at d0 d1 d2 d3 d4
  have hir := isRoot_any a0 w
  simp only [acV] at hir
  cases hr : isRoot a0 with
  | false =>
   rw [hr] at hir
   have HE : Hid (loadE l = 66) := show loadE l = 66 by unfold loadE; rw [hl0]; simp [hr]
   clear hcl hg hl0 hr hs hQ
   go_enter Tryz.func90, Tryz.ntmps90
   go_wp2_with fail
   refine hir.mono ?_
   rintro e w1 ⟨rfl, b1⟩
   go_wp2
   go_ret2
   exact LoadP.no HE.out (by decide) b1
  | true =>
   rw [hr] at hir
   by_cases h64 : 64 < Q
   ·have h64' : (64 : Int) < Q := by omega
    have HE : Hid (loadE l = 65) := show loadE l = 65 by unfold loadE; rw [hl0]; simp [hr, HQ.out, h64]
    clear hcl hg hl0 hr hs h64 hQ
    go_enter Tryz.func90, Tryz.ntmps90
    go_wp2_with fail
    refine hir.mono ?_
    rintro e w1 ⟨rfl, b1⟩
    go_wp2
    go_ret2
    exact LoadP.no HE.out (by decide) b1
   ·have h64' : ¬ (64 : Int) < Q := by omega
    have hE : loadE l = if rowsE l Q 1 ≠ 0 then rowsE l Q 1 else deepE l Q 1 := by unfold loadE; rw [hl0, HQ.out]; simp [hr, h64]
    have hra : plainAc a0 = rootAc := by
     simp [isRoot] at hr
     obtain ⟨⟨⟨r1, r2⟩, r3⟩, r4⟩ := hr
     unfold plainAc rootAc
     rw [r1, r2, r3, r4]
    have HE : Hid _ := hE
    have HCL : Hid _ := hcl
    clear hE hcl hg hQ
    go_enter Tryz.func90, Tryz.ntmps90
    go_wp2_with fail
    refine hir.mono ?_
    rintro e w1 ⟨rfl, b1⟩
    have hnw := tnew w1
    go_wp2_with fail
    refine hnw.mono ?_
    rintro e w2 ⟨t, rfl, t2, b2⟩
    have b12 := b1.trans (b2.mono b1.size)
    rw [kidB_none] at t2
    have T2 : Hid (Tree (fun j => w.heap.size ≤ j) w2 t [rootAc] (fun _ _ => false)) := t2.mono (fun j _ hj => Nat.le_trans b1.size hj)
    clear t2 hnw hir
    go_upto_region 6 with fail
    obtain ⟨q, hq⟩ : ∃ q, Q = q + 1 := ⟨Q - 1, by omega⟩
    have HQ1 : Hid (Q = q + 1) := hq
    go_cut [26, 27, 28] (fun p26 p27 p28 wc => ∃ oo cc, p26 = .slice (some ⟨g, oo, none⟩) q cc ∧ p27 = .int .i64 (q : Int) ∧ p28 = .int .i64 0 ∧ w2 = wc ∧ (0 < q → oo = o + 5))
    case first =>
     have hq1 : Q - 1 = q := by omega
     clear hq
     by_cases hc1 : c = 1
     ·subst hc1
      obtain rfl : Q = 1 := by omega
      obtain rfl : q = 0 := by omega
      go_wp2
      go_meet
      exact ⟨_, _, rfl, rfl, rfl, rfl, fun h => by omega⟩
     ·have hc2 : ¬ c ≤ 1 := by omega
      go_wp2
      all_goals go_meet
      all_goals exact ⟨_, _, rfl, rfl, rfl, rfl, fun _ => rfl⟩
    case rest =>
     obtain ⟨oo, cc, rfl, rfl, rfl, rfl, hoo⟩ := hcut
     have HOO : Hid _ := hoo
     have hQ64 : Q ≤ 64 := by omega
     have hq63 : q < 64 := by omega
     clear hoo hq h64
     go_wp2_with fail
     go_loopg [28] q (fun gk p wr => ∃ j : Nat, j + gk = q ∧ p = .int .i64 j ∧ Tree (fun j => w.heap.size ≤ j) wr t ((l.take (j + 1)).map plainAc) (fun _ _ => false) ∧ Below w.heap.size w wr ∧ rowsE l Q 1 = rowsE l (gk + 1) (j + 1) ∧ ∀ i a, 0 < i → i ≤ j → l[i]? = some a → rowE l i a = 0)
     case atStart =>
      refine ⟨0, by omega, rfl, ?_, b12, by rw [HQ1.out], fun i a h1 h2 => by omega⟩
      have : (l.take (0 + 1)).map plainAc = [rootAc] := by rw [take_plain hl0, hra]; rfl
      rw [this]
      exact T2.out
     case round =>
      obtain ⟨j, hj, rfl, tr, hb, hro, hok⟩ := hrel
      by_cases hlt : j < q
      ·have hlt' : (j : Int) < q := by omega
       obtain ⟨a, ha⟩ : ∃ a, l[j + 1]? = some a := ⟨_, List.getElem?_eq_getElem (by rw [HQ.out, HQ1.out]; omega)⟩
       have hac := HCL.out (j + 1) a ha
       rw [show o + (j + 1) * 5 = oo + j * 5 by rw [HOO.out (by omega)]; omega] at hac
       obtain ⟨x0, x1, x2, x3, x4⟩ : AcAt wr g (oo + j * 5) a := by
        have k : ∀ {x : Addr} {u : Value}, w.cell? x = some u → wr.cell? x = some u := fun hx => (hb.cell (World.block_lt_of_cell? w _ hx)).trans hx
        exact ⟨k hac.nm, k hac.pa, k hac.sh, k hac.cl, k hac.us⟩
       rw [rows_at ha] at hro
       obtain ⟨wb, hwb⟩ : ∃ wb, wr.alloc (.cells #[.string a.nm, .int .i64 a.pa, .int .i64 a.sh, .bool a.cl, .int .u64 a.us] 52) = wb := ⟨_, rfl⟩
       have bb : Below wr.heap.size wr wb := by rw [← hwb]; exact (Below.refl _ wr).alloc (Nat.le_refl _) _
       have yb : wb.heap[wr.heap.size]? = some (.cells #[.string a.nm, .int .i64 a.pa, .int .i64 a.sh, .bool a.cl, .int .u64 a.us] 52 (0, 0)) := by rw [← hwb]; exact heap_alloc_new wr _
       have tb := tr.below bb
       have bw := hb.trans (bb.mono hb.size)
       have hnm := hs a (List.mem_of_getElem? ha)
       have hrf := trefuses tb hnm (decide (0 ≤ a.pa) && decide (a.pa < (Q : Int))) a.sh
       have hre := rowE_ref ha
       rw [HQ.out] at hre
       rw [← hre] at hrf
       have TB : Hid (Tree (fun j => w.heap.size ≤ j) wb t ((l.take (j + 1)).map plainAc) (fun _ _ => false)) := tb
       have BW : Hid _ := bw
       have HWB : Hid _ := hwb
       have HRO : Hid _ := hro
       have HOK : Hid _ := hok
       obtain ⟨⟨y0, y1, y2, y3, y4⟩, _⟩ := cells5 yb
       clear tr hb hac hro hok bb tb bw hwb hre hl0
       go_upto_region 9 with fail
       rw [HWB.out]
       go_cut [7] (fun v wc => v = .bool (decide (0 ≤ a.pa) && decide (a.pa < (Q : Int))) ∧ wb = wc)
       case first =>
        by_cases p0 : 0 ≤ a.pa
        ·by_cases p1 : a.pa < (Q : Int)
         ·go_wp2
          go_meet
          exact ⟨by simp [p0, p1], rfl⟩
         ·go_wp2
          go_meet
          exact ⟨by simp; omega, rfl⟩
        ·go_wp2
         go_meet
         exact ⟨by simp; omega, rfl⟩
       case rest =>
        obtain ⟨rfl, rfl⟩ := hcut
        by_cases he : rowE l (j + 1) a = 0
        ·obtain ⟨k1, k2, k3, k4⟩ := rowE_no ha he
         have hly := tlay TB.out a hnm k2 (by rw [List.length_map, List.length_take]; omega) (fun _ => rfl)
         rw [← take_plain ha] at hly
         simp only [acV] at hly
         rw [he] at hrf
         have HR2 : Hid (rowsE l Q 1 = rowsE l gk (j + 2)) := show rowsE l Q 1 = rowsE l gk (j + 2) by rw [HRO.out]; simp [he]
         have HO2 : Hid (∀ i a, 0 < i → i ≤ j + 1 → l[i]? = some a → rowE l i a = 0) := fun i b h1 h2 hb => by
          by_cases e : i = j + 1
          ·subst e
           rw [ha] at hb
           cases hb
           exact he
          ·exact HOK.out i b h1 (by omega) hb
         clear HRO HOK k1 k2 k3 k4
         go_wp2_with fail
         refine hrf.mono ?_
         rintro e wx ⟨rfl, rfl⟩
         go_wp2_with fail
         refine hly.mono ?_
         rintro e wy ⟨rfl, ty, cy⟩
         have TY : Hid (Tree (fun j => w.heap.size ≤ j) wy t ((l.take (j + 1 + 1)).map plainAc) (fun _ _ => false)) := Tree.ext ty BW.out.size
         have BY : Hid _ := BW.out.trans (cy.lo BW.out.size)
         clear ty cy hrf hly
         go_wp2
         go_roundg (q - (j + 1))
         case measure => omega
         case rel =>
          refine ⟨j + 1, by omega, rfl, TY.out, BY.out, ?_, HO2.out⟩
          rw [HR2.out, show q - (j + 1) + 1 = gk by omega]
        ·have HEE : Hid (loadE l = rowE l (j + 1) a) := show loadE l = rowE l (j + 1) a by
          rw [HE.out, HRO.out]
          simp [he]
         obtain ⟨er, her⟩ : ∃ er, rowE l (j + 1) a = er := ⟨_, rfl⟩
         rw [her] at hrf he HEE
         have he' : (er == 0) = false := by simp [he]
         clear HRO HOK her HE
         go_wp2_with fail
         refine hrf.mono ?_
         rintro e wx ⟨rfl, rfl⟩
         go_wp2
         go_ret2
         exact LoadP.no HEE.out he BW.out
      ·obtain rfl : j = q := by omega
       rw [List.take_of_length_le (by rw [HQ.out, HQ1.out]; exact Nat.le_refl _)] at tr
       have hr0 : rowsE l Q 1 = 0 := by
        rw [hro]
        exact rows_end (by rw [HQ.out, HQ1.out]; exact Nat.le_refl _) _
       have hpao : PaOk l := fun k a ha hk => by
        have := rowE_no ha (hok k a hk (by have := (List.getElem?_eq_some_iff.1 ha).1; rw [HQ.out, HQ1.out] at this; omega) ha)
        exact ⟨this.2.2.1, this.2.2.2⟩
       have hup : ∀ k, k < l.length → up l k < l.length := fun k hk => by
        obtain ⟨a, ha⟩ : ∃ a, l[k]? = some a := ⟨_, List.getElem?_eq_getElem hk⟩
        rw [up_of ha]
        by_cases h0 : 0 < k
        ·have := hpao k a ha h0
         omega
        ·obtain rfl : k = 0 := by omega
         rw [hl0] at ha
         cases ha
         have : a0.pa = -1 := by
          simp [isRoot] at hr
          exact hr.1.1.2
         rw [this]
         exact hk
       have hAr : AcsAt wr (some ⟨g, o, none⟩) l := ⟨g, o, fun _ => rfl, fun k a ha => by
        have hac := HCL.out k a ha
        have kk : ∀ {x : Addr} {u : Value}, w.cell? x = some u → wr.cell? x = some u := fun hx => (hb.cell (World.block_lt_of_cell? w _ hx)).trans hx
        exact ⟨kk hac.nm, kk hac.pa, kk hac.sh, kk hac.cl, kk hac.us⟩⟩
       have hmp := misplaced_any (c := c) hAr (by rw [HQ.out]; omega) hpao hup
       rw [HQ.out] at hmp
       have hdd : deepE l Q 0 = deepE l Q 1 := by
        rw [HQ1.out, deep_zero (by rw [HQ.out]; exact hpos), deep_more (by rw [HQ.out, HQ1.out]; omega)]
       rw [hdd] at hmp
       have HEE : Hid (loadE l = deepE l Q 1) := show loadE l = deepE l Q 1 by rw [HE.out]; simp [hr0]
       have TR : Hid (Tree (fun j => w.heap.size ≤ j) wr t (l.map plainAc) (fun _ _ => false)) := tr
       have HPA : Hid _ := hpao
       have HB : Hid _ := hb
       clear tr hb hro hok hr0 hup hAr hdd HE hpao
       by_cases he : deepE l Q 1 = 0
       ·rw [he] at hmp
        have h00 : ∀ a, (l.map plainAc)[0]? = some a → a.pa < 0 := fun a ha => by
         have hz0 : (l.map plainAc)[0]? = some (plainAc a0) := by simp [hl0]
         rw [hz0, hra] at ha
         cases ha
         decide
        have H00 : Hid _ := h00
        have HL0 : Hid (loadE l = 0) := HEE.out.trans he
        clear h00 HEE hl0
        go_wp2_with fail
        refine hmp.mono ?_
        rintro e wx ⟨rfl, rfl⟩
        go_wp2_with fail
        go_loopg [10] j (fun gk p wv => ∃ n : Nat, 0 < n ∧ n + gk = Q ∧ p = .int .i64 n ∧ Tree (fun j => w.heap.size ≤ j) wv t (l.map plainAc) (kidN (l.map plainAc) n) ∧ Below w.heap.size w wv)
        case atStart => exact ⟨1, by omega, by rw [HQ1.out]; omega, rfl, by rw [kidN_start]; exact TR.out, HB.out⟩
        case round =>
         obtain ⟨n, hn0, hng, rfl, tv, hbv⟩ := hrel
         by_cases hnl : n < Q
         ·have hnl' : (n : Int) < Q := by omega
          obtain ⟨a, ha⟩ : ∃ a, l[n]? = some a := ⟨_, List.getElem?_eq_getElem (by rw [HQ.out]; exact hnl)⟩
          obtain ⟨p0, p1⟩ := HPA.out n a ha hn0
          rw [HQ.out] at p1
          obtain ⟨pq, hpq⟩ : ∃ pq : Nat, a.pa = pq := ⟨a.pa.toNat, by omega⟩
          have ha' : (l.map plainAc)[n]? = some (plainAc a) := by simp [ha]
          have hll : (l.map plainAc).length = Q := by rw [List.length_map]; exact HQ.out
          have hhg := thang tv (n := n) (p := pq) (by rw [hll]; exact hQ64) (by rw [hll]; exact hnl) (by rw [hll]; omega) (fun j hj => by
           unfold kidN at hj
           simp at hj
           omega)
          have hms : mvV (l.map plainAc) n (pq : Int) = l.map plainAc := by rw [← hpq]; exact mv_self (a := plainAc a) ha'
          rw [hms, kidN_step hn0 ha' hpq] at hhg
          have x1 : wr.cell? ⟨g, o + n * 5 + 1, none⟩ = some (.int .i64 (pq : Int)) := by
           have hx := (HCL.out n a ha).pa
           rw [hpq] at hx
           exact (hbv.cell (World.block_lt_of_cell? w _ hx)).trans hx
          have BV : Hid _ := hbv
          clear tv hbv ha ha' hll hms hpq p0 p1
          go_wp2_with fail
          refine hhg.mono ?_
          rintro e wz ⟨rfl, tz, cz⟩
          have TZ : Hid (Tree (fun j => w.heap.size ≤ j) wz t (l.map plainAc) (kidN (l.map plainAc) (n + 1))) := tz
          have BZ : Hid _ := BV.out.trans (cz.lo BV.out.size)
          clear tz cz hhg
          go_wp2
          go_roundg (Q - (n + 1))
          case measure => omega
          case rel => exact ⟨n + 1, by omega, by omega, rfl, TZ.out, BZ.out⟩
         ·have hnl' : ¬ (n : Int) < Q := by omega
          have TF : Hid (Tree (fun j => w.heap.size ≤ j) wr t (l.map plainAc) (kidB (l.map plainAc))) := show Tree (fun j => w.heap.size ≤ j) wr t (l.map plainAc) (kidB (l.map plainAc)) by
           rw [← kidN_end (l := l.map plainAc) (n := n) (by rw [List.length_map, HQ.out]; omega) H00.out]
           exact tv
          clear tv
          go_wp2
          go_ret2
          exact ⟨fun _ => ⟨t, rfl, TF.out⟩, fun h => absurd HL0.out h, hbv⟩
       ·obtain ⟨er, her⟩ : ∃ er, deepE l Q 1 = er := ⟨_, rfl⟩
        rw [her] at hmp he HEE
        have he' : (er == 0) = false := by simp [he]
        clear her hl0
        go_wp2_with fail
        refine hmp.mono ?_
        rintro e wx ⟨rfl, rfl⟩
        go_wp2
        go_ret2
        exact LoadP.no HEE.out he HB.out
end Go.Proofs.YtceoibfliggalaaGreatDoor
