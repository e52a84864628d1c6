/-
  Package tree: Below, Contains.
  Package tree: New; maps.Clone.
  The program's calls over sets of blocks; among; shown.
  Package tree: misplaced; what Load asks.
-/
import Derived.Test.YtioldijdmefljaaGreatDoorPgH
import Derived.Test.YtioldijdmefljaaGreatDoorPgR
namespace Go.Proofs.YtioldijdmefljaaGreatDoor
open Go.RowKit Tr

namespace Tr
def kidB (l : List Ac) (n j : Nat) : Bool := decide ((l[j]?.map (·.pa)) = some (n : Int))
theorem kidB_iff {l : List Ac} {n j : Nat} : kidB l n j = true ↔ j ∈ kidsV l n := by
  rw [mem_kids]
  unfold kidB
  cases h : l[j]? with
  | none => simp
  | some a => simp
theorem kidB_lt {l : List Ac} {n j : Nat} (h : kidB l n j = true) : j < l.length := by
  obtain ⟨a, ha, _⟩ := mem_kids.1 (kidB_iff.1 h)
  exact (List.getElem?_eq_some_iff.1 ha).1
end Tr
end Go.Proofs.YtioldijdmefljaaGreatDoor
namespace Go.Proofs.YtioldijdmefljaaGreatDoor
open Go.RowKit Tr

set_option maxRecDepth 20000 in
theorem nmD_none : NmD (.map [] : DataW Unit) [] := fun s => ⟨rfl, fun k h => (by cases h)⟩
theorem kidB_root : ∀ i j, kidB [rootAc] i j = false := by
  intro i j
  unfold kidB
  cases j with
  | zero => simp [rootAc]
  | succ j => simp
set_option maxHeartbeats 2000000 in
set_option maxRecDepth 20000 in
theorem pnew_any (w : World) : Calls Tryz.prog 69 #[] w fun e w' => ∃ t v m kv ks, e = .returned (.pointer (some ⟨t, 0, none⟩)) ∧ PT w' t v m kv ks [rootAc] (kidB [rootAc]) ∧ (∀ j, PK t v m kv ks j → w.heap.size ≤ j) ∧ Below w.heap.size w w' := by
  have hmm := @run_makeMap Tryz.prog
  obtain ⟨w1, hw1⟩ : ∃ w1, (w.alloc (.map #[] 0)).alloc (.cells #[.slice none 0 0, .map (some w.heap.size), .slice none 0 0] 134) = w1 := ⟨_, rfl⟩
  have b1 : Below w.heap.size w w1 := by rw [← hw1]; exact ((Below.refl _ w).alloc (Nat.le_refl _) _).alloc (by simp) _
  have p1 : PT w1 (w.heap.size + 1) (.slice none 0 0) w.heap.size (.slice none 0 0) [] [] (kidB [rootAc]) := by
    rw [← hw1]
    refine ⟨?_, World.ownsRow_nil _ _ _ _, ⟨.map [], ?_, nmD_none⟩, World.ownsRow_nil _ _ _ _, rfl, fun i k h => (by simp at h), List.nodup_nil, by simp⟩
    · have := heap_alloc_new (w.alloc (.map #[] 0)) (.cells #[.slice none 0 0, .map (some w.heap.size), .slice none 0 0] 134)
      rwa [World.size_alloc] at this
    · exact (World.ownsMap_made w Tryz.prog 9 (plainElem Tryz.prog 3)).alloc _
  have HB : Hid _ := b1
  have HP : Hid _ := p1
  clear b1 p1
  go_enter Tryz.func69, Tryz.ntmps69
  go_wp2_with fail
  refine (root_any w1).mono ?_
  rintro e w2 ⟨rfl, b2⟩
  have hlay := lay_any (HP.out.below b2) rootAc (by decide) rfl (by decide) (fun j => kidB_root _ j)
  go_wp2_with fail
  refine hlay.mono ?_
  rintro e w3 ⟨rfl, v', kv', k', p3, c3, n3⟩
  have HP3 : Hid _ := p3
  have HC3 : Hid _ := c3
  have HN3 : Hid _ := n3
  clear p3 c3 n3
  go_wp2
  go_ret
  have hs1 := HB.out.size
  have hs2 := b2.size
  have hlo : ∀ j, PK (w.heap.size + 1) (.slice none 0 0) w.heap.size (.slice none 0 0) [] j → w.heap.size ≤ j := by
    rintro j (rfl | h | rfl | h | h)
    · omega
    · simp [Value.ownBlock] at h
    · omega
    · simp [Value.ownBlock] at h
    · cases h
  refine ⟨_, _, _, _, _, rfl, HP3.out, fun j hj => ?_, ?_⟩
  · rcases HN3.out j hj with h | h
    · exact hlo j h
    · omega
  · exact HC3.out.below (HB.out.trans (b2.mono HB.out.size)) (Nat.le_trans hs1 hs2) hlo
end Go.Proofs.YtioldijdmefljaaGreatDoor
namespace Go.Proofs.YtioldijdmefljaaGreatDoor
open Go.RowKit Tr

def Ext (S : Nat → Prop) (n j : Nat) : Prop := S j ∨ n ≤ j
section
variable {S : Nat → Prop} {w : World} {t : Nat} {l : List Ac}
set_option maxRecDepth 20000 in
theorem tnew (w : World) : Calls Tryz.prog 69 #[] w fun e w' => ∃ t, e = .returned (.pointer (some ⟨t, 0, none⟩)) ∧ Tree (fun j => w.heap.size ≤ j) w' t [rootAc] (kidB [rootAc]) ∧ Below w.heap.size w w' :=
  (pnew_any w).mono fun _ _ ⟨t, v, m, kv, ks, he, h1, h2, h3⟩ => ⟨t, he, ⟨v, m, kv, ks, h1, h2⟩, h3⟩
end
theorem Tree.ext {B : Nat} {n : Nat} {W : World} {t : Nat} {l : List Ac} {K : Nat → Nat → Bool} (h : Tree (Ext (fun j => B ≤ j) n) W t l K) (hB : B ≤ n) : Tree (fun j => B ≤ j) W t l K :=
  h.mono (fun j _ hj => by rcases hj with hj | hj; exact hj; exact Nat.le_trans hB hj)
theorem Chg.lo {B : Nat} {w w' : World} (h : Chg (fun j => B ≤ j) w w') (hB : B ≤ w.heap.size) : Below B w w' := h.below (Below.refl _ w) hB (fun _ hi => hi)

namespace Tr
end Tr
end Go.Proofs.YtioldijdmefljaaGreatDoor
namespace Go.Proofs.YtioldijdmefljaaGreatDoor
open Go.RowKit Tr

section
variable {S : Nat → Prop} {w : World} {t : Nat} {l : List Ac} {K : Nat → Nat → Bool}
set_option maxRecDepth 20000 in
theorem tlay (h : Tree S w t l K) (a : Ac) (hs : a.nm.size ≤ maxLen) (hf : findV l a.nm = none) (hl : l.length < 64) (hK : ∀ j, K l.length j = false) :
    Calls Tryz.prog 71 #[.pointer (some ⟨t, 0, none⟩), acV a] w fun e w' => e = .returned (.int .i64 l.length) ∧ Tree (Ext S w.heap.size) w' t (l ++ [plainAc a]) K ∧ Chg S w w' := by
  obtain ⟨v, m, kv, ks, h1, h2⟩ := h
  refine (lay_any h1 a hs hf hl hK).mono ?_
  rintro e w' ⟨rfl, v', kv', k', g1, g2, g3⟩
  refine ⟨rfl, ⟨v', m, kv', ks ++ [k'], g1, fun j hj => ?_⟩, g2.mono (fun i _ hi => h2 i hi)⟩
  rcases g3 j hj with h | h
  · exact .inl (h2 j h)
  · exact .inr h
set_option maxRecDepth 20000 in
theorem trefuses (h : Tree S w t l K) {s : ByteArray} (hs : s.size ≤ maxLen) (kn : Bool) (sh : Int) :
    Calls Tryz.prog 70 #[.pointer (some ⟨t, 0, none⟩), .string s, .bool kn, .int .i64 sh] w fun e w' => e = .returned (.int .i64 (refV l s kn sh)) ∧ w = w' := by
  obtain ⟨v, m, kv, ks, h1, h2⟩ := h
  exact refuses_any h1 hs kn sh
set_option maxRecDepth 20000 in
theorem thang (h : Tree S w t l K) {n p : Nat} (hl : l.length ≤ 64) (hn : n < l.length) (hp : p < l.length) (h64 : ∀ j, K p j = true → j < 64) :
    Calls Tryz.prog 73 #[.pointer (some ⟨t, 0, none⟩), .int .i64 n, .int .i64 p] w fun e w' => e = .returned (.tuple #[]) ∧ Tree S w' t (mvV l n p) (hangK K n p) ∧ Chg S w w' := by
  obtain ⟨v, m, kv, ks, h1, h2⟩ := h
  refine (hang_any h1 hl hn hp h64).mono ?_
  rintro e w' ⟨rfl, g1, g2⟩
  exact ⟨rfl, ⟨v, m, kv, ks, g1, h2⟩, g2.mono (fun i _ hi => h2 i hi)⟩
end
namespace Tr
theorem plain_find (l : List Ac) (s : ByteArray) : findV (l.map plainAc) s = findV l s := by
  induction l with
  | nil => rfl
  | cons a l ih =>
    show (if (plainAc a).nm = s then some 0 else (findV (l.map plainAc) s).map (· + 1)) = _
    rw [ih]
    rfl
theorem find_take {l : List Ac} {i : Nat} {a : Ac} (h : l[i]? = some a) : findV l a.nm ≠ some i ↔ (findV (l.take i) a.nm).isSome = true := by
  induction l generalizing i with
  | nil => simp at h
  | cons b l ih =>
    cases i with
    | zero =>
      simp at h
      subst h
      simp [findV]
    | succ i =>
      have h' : l[i]? = some a := by simpa using h
      have := ih h'
      simp only [List.take_succ_cons, findV]
      by_cases e : b.nm = a.nm
      · simp [e]
      · rw [if_neg e, if_neg e]
        cases hf : findV l a.nm with
        | none =>
          rw [hf] at this
          simp at this
          simp [this]
        | some k =>
          rw [hf] at this
          simp at this
          simp [this]
theorem rowE_ref {l : List Ac} {i : Nat} {a : Ac} (h : l[i]? = some a) : rowE l i a = refV ((l.take i).map plainAc) a.nm (decide (0 ≤ a.pa) && decide (a.pa < l.length)) a.sh := by
  unfold rowE refV
  rw [plain_find]
  have h1 := find_take h
  by_cases c1 : okName a.nm = false
  · simp [c1]
  · rw [if_neg c1, if_neg c1]
    by_cases c2 : findV l a.nm ≠ some i
    · rw [if_pos c2, if_pos (h1.1 c2)]
    · rw [if_neg c2, if_neg (fun h => c2 (h1.2 h))]
      by_cases c3 : a.pa < 0 ∨ (l.length : Int) ≤ a.pa
      · rw [if_pos c3, if_pos]
        simp
        omega
      · have hk : (decide (0 ≤ a.pa) && decide (a.pa < (l.length : Int))) = true := by
          simp
          omega
        rw [if_neg c3, hk]
        simp
theorem rowE_no {l : List Ac} {i : Nat} {a : Ac} (h : l[i]? = some a) (he : rowE l i a = 0) : okName a.nm = true ∧ findV ((l.take i).map plainAc) a.nm = none ∧ 0 ≤ a.pa ∧ a.pa < (l.length : Int) := by
  unfold rowE at he
  by_cases c1 : okName a.nm = false
  · simp [c1] at he
  · rw [if_neg c1] at he
    by_cases c2 : findV l a.nm ≠ some i
    · rw [if_pos c2] at he
      simp at he
    · rw [if_neg c2] at he
      by_cases c3 : a.pa < 0 ∨ (l.length : Int) ≤ a.pa
      · rw [if_pos c3] at he
        simp at he
      · refine ⟨by simpa using c1, ?_, by omega, by omega⟩
        rw [plain_find]
        cases hf : findV (l.take i) a.nm with
        | none => rfl
        | some k => exact absurd ((find_take h).2 (by rw [hf]; rfl)) c2
theorem rows_at {l : List Ac} {i : Nat} {a : Ac} (h : l[i]? = some a) (f : Nat) : rowsE l (f + 1) i = if rowE l i a = 0 then rowsE l f (i + 1) else rowE l i a := by
  simp only [rowsE, h]
theorem rows_end {l : List Ac} {i : Nat} (h : l.length ≤ i) : ∀ f, rowsE l f i = 0
  | 0 => rfl
  | f + 1 => by simp only [rowsE, List.getElem?_eq_none h]
/-- The steps to the root, so many at most. -/
theorem steps_depth {l : List Ac} (h : ∀ k, k < l.length → up l k < l.length) {n : Nat} (hn : n < l.length) : depN l l.length n = depthV l n := by
  cases hd : depthV l n with
  | some d =>
    obtain ⟨h1, _⟩ := depN_dep hd
    exact dep_depN h1 (dep_lt h hn h1)
  | none =>
    cases hd2 : depN l l.length n with
    | none => rfl
    | some d =>
      obtain ⟨h1, h2⟩ := depN_dep hd2
      have : depthV l n = some d := dep_depN h1 (by omega)
      rw [hd] at this
      cases this
theorem deep_at {l : List Ac} {i : Nat} (h : i < l.length) (f : Nat) : deepE l (f + 1) i = match depthV l i with
    | none => 67
    | some d => if 4 < d then 64 else deepE l f (i + 1) := by
  have : ¬ l.length ≤ i := by omega
  show (if l.length ≤ i then (0 : Int) else _) = _
  rw [if_neg this]
  cases depthV l i <;> rfl
theorem deep_end {l : List Ac} {i : Nat} (h : l.length ≤ i) : ∀ f, deepE l f i = 0
  | 0 => rfl
  | f + 1 => by simp only [deepE, if_pos h]
set_option maxRecDepth 20000 in
theorem deep_zero {l : List Ac} (h : 0 < l.length) (f : Nat) : deepE l (f + 1) 0 = deepE l f 1 := by
  rw [deep_at h]
  have : depthV l 0 = some 0 := by unfold depthV depN; simp
  rw [this]
  simp
set_option maxRecDepth 20000 in
theorem deep_more {l : List Ac} : ∀ {f i}, l.length ≤ f + i → deepE l (f + 1) i = deepE l f i
  | 0, i, h => by rw [deep_end (by omega), deep_end (by omega)]
  | f + 1, i, h => by
    by_cases hi : i < l.length
    · rw [deep_at hi, deep_at hi, deep_more (f := f) (i := i + 1) (by omega)]
    · rw [deep_end (by omega), deep_end (by omega)]
end Tr
set_option maxHeartbeats 2000000 in
set_option maxRecDepth 20000 in
theorem misplaced_any {w : World} {ao : Option Addr} {l : List Ac} {c : Nat} (hA : AcsAt w ao l) (hn : l.length * 48 ≤ 140737488355328) (hp : PaOk l) (hu : ∀ k, k < l.length → up l k < l.length) :
    Calls Tryz.prog 72 #[.slice ao l.length c] w fun e w' => e = .returned (.int .i64 (deepE l l.length 0)) ∧ w = w' := by
  obtain ⟨q, hq⟩ : ∃ q, l.length = q := ⟨_, rfl⟩
  have hst : ∀ n, n < q → Calls Tryz.prog 99 #[.slice ao q c, .int .i64 n] w fun e w' => e = .returned (.tuple #[.int .i64 (stepsI (depthV l n)).1, .bool (stepsI (depthV l n)).2]) ∧ w = w' := fun n hnq => by
    have := steps_any (c := c) hA hn hp (n := n) (by omega)
    rw [steps_depth hu (by omega), hq] at this
    exact this
  have HST : Hid _ := hst
  have HQ : Hid (l.length = q) := hq
  rw [hq] at hn ⊢
  clear hA hp hu hst
  go_enter Tryz.func72, Tryz.ntmps72
  go_wp2
  go_loopg [8] q (fun gk p wr => ∃ j : Nat, j + gk = q ∧ p = .int .i64 j ∧ w = wr ∧ deepE l q 0 = deepE l gk j)
  case atStart => exact ⟨0, by omega, rfl, rfl, rfl⟩
  case round =>
    obtain ⟨j, hj, rfl, rfl, hinv⟩ := hrel
    by_cases hlt : j < q
    · have hlt' : (j : Int) < q := by omega
      obtain ⟨f, rfl⟩ : ∃ f, gk = f + 1 := ⟨gk - 1, by omega⟩
      rw [deep_at (by rw [HQ.out]; exact hlt)] at hinv
      have hs := HST.out j hlt
      clear hq
      cases hd : depthV l j with
      | none =>
        rw [hd] at hinv hs
        simp only [stepsI] at hs
        have HI : Hid (deepE l q 0 = 67) := hinv
        clear hinv
        go_wp2_with fail
        refine hs.mono ?_
        rintro e wx ⟨rfl, rfl⟩
        go_wp2
        go_ret
        exact ⟨by rw [HI.out]; rfl, rfl⟩
      | some d =>
        rw [hd] at hinv hs
        simp only [stepsI] at hs
        by_cases h4 : 4 < d
        · have h4' : (4 : Int) < d := by omega
          have HI : Hid (deepE l q 0 = 64) := show deepE l q 0 = 64 by rw [hinv]; simp [h4]
          clear hinv
          go_wp2_with fail
          refine hs.mono ?_
          rintro e wx ⟨rfl, rfl⟩
          go_wp2
          go_ret
          exact ⟨by rw [HI.out]; rfl, rfl⟩
        · have h4' : ¬ (4 : Int) < d := by omega
          have HI : Hid (deepE l q 0 = deepE l f (j + 1)) := show deepE l q 0 = deepE l f (j + 1) by rw [hinv]; simp [h4]
          clear hinv
          go_wp2_with fail
          refine hs.mono ?_
          rintro e wx ⟨rfl, rfl⟩
          go_wp2
          go_roundg f
          case measure => omega
          case rel => exact ⟨j + 1, by omega, rfl, rfl, HI.out⟩
    · obtain rfl : j = q := by omega
      have HI : Hid (deepE l j 0 = 0) := show deepE l j 0 = 0 by rw [hinv]; exact deep_end (by rw [HQ.out]; exact Nat.le_refl _) _
      clear hinv
      go_wp2
      go_ret
      exact ⟨by rw [HI.out]; rfl, rfl⟩
end Go.Proofs.YtioldijdmefljaaGreatDoor
