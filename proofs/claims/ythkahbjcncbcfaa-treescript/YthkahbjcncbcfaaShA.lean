/-
  The program's calls over sets of blocks; among; shown.
-/
import Derived.Test.YthkahbjcncbcfaaPgO
import Derived.Test.YthkahbjcncbcfaaLwA
namespace Go.Proofs.Ythkahbjcncbcfaa
open Go.RowKit Tr

def Ext (S : Nat → Prop) (n j : Nat) : Prop := S j ∨ n ≤ j
theorem Mod.tree {S : Nat → Prop} {w w' : World} {t : Nat} {v : Value} {m : Nat} {kv : Value} {ks : List Nat} {l' : List Ac} (h : Mod w w' t v m kv ks l') (hS : ∀ j, PK t v m kv ks j → S j) : Tree (Ext S w.heap.size) w' t l' (kidB l') ∧ Chg S w w' := by
  obtain ⟨v', kv', ks', h1, h2, h3⟩ := h
  refine ⟨⟨v', m, kv', ks', h1, fun j hj => ?_⟩, h2.mono (fun i _ hi => hS i hi)⟩
  rcases h3 j hj with h | h
  · exact .inl (hS j h)
  · exact .inr h
section
variable {S : Nat → Prop} {w : World} {t : Nat} {l : List Ac}
theorem tadd (h : Tree S w t l (kidB l)) (hw : Wf l) {nm pn : ByteArray} (hs : nm.size ≤ maxLen) (hp : pn.size ≤ maxLen) (sh : Int) :
    Calls Try.prog 28 #[.pointer (some ⟨t, 0, none⟩), .string nm, .string pn, .int .i64 sh] w fun e w' => e = .returned (.tuple #[.int .i64 (addV l nm pn sh).1, .int .i64 (addV l nm pn sh).2.1]) ∧ Tree (Ext S w.heap.size) w' t (addV l nm pn sh).2.2 (kidB (addV l nm pn sh).2.2) ∧ Chg S w w' := by
  obtain ⟨v, m, kv, ks, h1, h2⟩ := h
  exact (padd_any h1 hw hs hp sh).mono fun e w' ⟨he, hm⟩ => ⟨he, hm.tree h2⟩
theorem tshares (h : Tree S w t l (kidB l)) {s : ByteArray} (hs : s.size ≤ maxLen) (sh : Int) :
    Calls Try.prog 37 #[.pointer (some ⟨t, 0, none⟩), .string s, .int .i64 sh] w fun e w' => e = .returned (.int .i64 (sharesV l s sh).1) ∧ Tree (Ext S w.heap.size) w' t (sharesV l s sh).2 (kidB (sharesV l s sh).2) ∧ Chg S w w' := by
  obtain ⟨v, m, kv, ks, h1, h2⟩ := h
  exact (pshare_any h1 hs sh).mono fun e w' ⟨he, hm⟩ => ⟨he, hm.tree h2⟩
theorem tclose (h : Tree S w t l (kidB l)) {s : ByteArray} (hs : s.size ≤ maxLen) :
    Calls Try.prog 40 #[.pointer (some ⟨t, 0, none⟩), .string s] w fun e w' => e = .returned (.int .i64 (closeV l s).1) ∧ Tree (Ext S w.heap.size) w' t (closeV l s).2 (kidB (closeV l s).2) ∧ Chg S w w' := by
  obtain ⟨v, m, kv, ks, h1, h2⟩ := h
  exact (pclose_any h1 hs).mono fun e w' ⟨he, hm⟩ => ⟨he, hm.tree h2⟩
theorem tmove (h : Tree S w t l (kidB l)) (hw : Wf l) {nm pn : ByteArray} (hs : nm.size ≤ maxLen) (hp : pn.size ≤ maxLen) :
    Calls Try.prog 27 #[.pointer (some ⟨t, 0, none⟩), .string nm, .string pn] w fun e w' => e = .returned (.int .i64 (moveV l nm pn).1) ∧ Tree (Ext S w.heap.size) w' t (moveV l nm pn).2 (kidB (moveV l nm pn).2) ∧ Chg S w w' := by
  obtain ⟨v, m, kv, ks, h1, h2⟩ := h
  exact (pmove_any h1 hw hs hp).mono fun e w' ⟨he, hm⟩ => ⟨he, hm.tree h2⟩
theorem tnew (w : World) : Calls Try.prog 9 #[] w fun e w' => ∃ t, e = .returned (.pointer (some ⟨t, 0, none⟩)) ∧ Tree (fun j => w.heap.size ≤ j) w' t [rootAc] (kidB [rootAc]) ∧ Below w.heap.size w w' :=
  (pnew_any w).mono fun _ _ ⟨t, v, m, kv, ks, he, h1, h2, h3⟩ => ⟨t, he, ⟨v, m, kv, ks, h1, h2⟩, h3⟩
theorem tlen (h : Tree S w t l (kidB l)) : Calls Try.prog 21 #[.pointer (some ⟨t, 0, none⟩)] w fun e w' => e = .returned (.int .i64 l.length) ∧ w = w' := by
  obtain ⟨v, m, kv, ks, h1, h2⟩ := h
  exact plen_any h1
theorem tfind (h : Tree S w t l (kidB l)) {s : ByteArray} (hs : s.size ≤ maxLen) : Calls Try.prog 26 #[.pointer (some ⟨t, 0, none⟩), .string s] w fun e w' => e = .returned (.tuple #[.int .i64 ((findV l s).getD 0 : Nat), .bool (findV l s).isSome]) ∧ w = w' := by
  obtain ⟨v, m, kv, ks, h1, h2⟩ := h
  exact pfind_any h1 hs
theorem tdepth (h : Tree S w t l (kidB l)) (hw : Wf l) (n : Int) : Calls Try.prog 24 #[.pointer (some ⟨t, 0, none⟩), .int .i64 n] w fun e w' => e = .returned (.int .i64 (depZ l n)) ∧ w = w' := by
  obtain ⟨v, m, kv, ks, h1, h2⟩ := h
  exact pdepth_any h1 hw n
theorem tget (h : Tree S w t l (kidB l)) (hw : Wf l) (n : Int) : Calls Try.prog 25 #[.pointer (some ⟨t, 0, none⟩), .int .i64 n] w fun e w' => e = .returned (getA l n) ∧ Below w.heap.size w w' := by
  obtain ⟨v, m, kv, ks, h1, h2⟩ := h
  exact pget_any h1 (by have := hw.len; omega) n
theorem tkids (h : Tree S w t l (kidB l)) (hw : Wf l) (n : Int) : Calls Try.prog 23 #[.pointer (some ⟨t, 0, none⟩), .int .i64 n] w fun e w' => ∃ v, e = .returned v ∧ w'.ownsRow w.heap.size 3 1 v (kidsZ l n).length (ints (kidsZ l n)) ∧ Below w.heap.size w w' := by
  obtain ⟨v, m, kv, ks, h1, h2⟩ := h
  exact pkids_any h1 hw n
theorem tbelow (h : Tree S w t l (kidB l)) (hw : Wf l) (n : Int) : Calls Try.prog 22 #[.pointer (some ⟨t, 0, none⟩), .int .i64 n] w fun e w' => ∃ v, e = .returned v ∧ w'.ownsRow w.heap.size 3 1 v (belowZ l n).length (ints (belowZ l n)) ∧ Below w.heap.size w w' := by
  obtain ⟨v, m, kv, ks, h1, h2⟩ := h
  exact pbelow_any h1 hw n
theorem tlist (h : Tree S w t l (kidB l)) (hw : Wf l) : Calls Try.prog 20 #[.pointer (some ⟨t, 0, none⟩)] w fun e w' => ∃ v, e = .returned v ∧ w'.ownsRow w.heap.size 39 5 v l.length (flatA l) ∧ Below w.heap.size w w' := by
  obtain ⟨v, m, kv, ks, h1, h2⟩ := h
  exact plist_any h1 (by have := hw.len; omega) (fun e => by have := hw.pos; rw [e] at this; simp at this)
theorem tclone (h : Tree S w t l (kidB l)) (hw : Wf l) : Calls Try.prog 12 #[.pointer (some ⟨t, 0, none⟩)] w fun e w' => ∃ t', e = .returned (.pointer (some ⟨t', 0, none⟩)) ∧ Tree (fun j => w.heap.size ≤ j) w' t' l (kidB l) ∧ Below w.heap.size w w' := by
  obtain ⟨v, m, kv, ks, h1, h2⟩ := h
  exact (pclone_any h1 hw.len (fun e => by have := hw.pos; rw [e] at this; simp at this)).mono fun _ _ ⟨t', v', m', kv', ks', he, g1, g2, g3⟩ => ⟨t', he, ⟨v', m', kv', ks', g1, g2⟩, g3⟩
end
theorem Tree.ext {B : Nat} {n : Nat} {W : World} {t : Nat} {l : List Ac} {K : Nat → Nat → Bool} (h : Tree (Ext (fun j => B ≤ j) n) W t l K) (hB : B ≤ n) : Tree (fun j => B ≤ j) W t l K :=
  h.mono (fun j _ hj => by rcases hj with hj | hj; exact hj; exact Nat.le_trans hB hj)
theorem Chg.lo {B : Nat} {w w' : World} (h : Chg (fun j => B ≤ j) w w') (hB : B ≤ w.heap.size) : Below B w w' := h.below (Below.refl _ w) hB (fun _ hi => hi)

namespace Tr
theorem wf_new : Wf [rootAc] where
  root := rfl
  len := by decide
  row i a h hi := by
    cases i with
    | zero => omega
    | succ i => simp at h
  uniq i j a b ha hb _ := by
    cases i with
    | zero =>
      cases j with
      | zero => rfl
      | succ j => simp at hb
    | succ i => simp at ha
  deep i hi := by
    cases i with
    | zero => exact ⟨0, by decide, rfl⟩
    | succ i => simp at hi
def amgV (i n : Int) : Int := if i.tmod n < 0 then i.tmod n + n else i.tmod n
theorem tmod_lo (i n : Int) (h : 1 ≤ n) : -n < i.tmod n ∧ i.tmod n < n := by
  refine ⟨?_, Int.tmod_lt_of_pos i (by omega)⟩
  have h1 := Int.tmod_lt_of_pos (-i) (show 0 < n by omega)
  rw [Int.neg_tmod] at h1
  omega
theorem amgV_in (i n : Int) (h : 1 ≤ n) : 0 ≤ amgV i n ∧ amgV i n < n := by
  have := tmod_lo i n h
  unfold amgV
  split <;> omega
def sA : ByteArray := ⟨#[97]⟩
def sB : ByteArray := ⟨#[98]⟩
def shL1 : List Ac := [rootAc, ⟨sA, 0, 3, false, 0⟩]
def shL2 : List Ac := [rootAc, ⟨sA, 0, 3, false, 0⟩, ⟨sB, 1, 1, false, 0⟩]
theorem sh1 : addV [rootAc] sA rootName 3 = (1, 0, shL1) := by kernel_rfl
theorem sh2 : addV shL1 sB sA 1 = (2, 0, shL2) := by kernel_rfl
theorem sh3 : addV shL2 sA rootName 1 = (0, 61, shL2) := by kernel_rfl
theorem sh4 : belowZ shL2 1 = [1, 2] := by kernel_rfl
theorem sh5 : moveV shL2 sA sB = (67, shL2) := by kernel_rfl
theorem sh6 : depZ shL2 2 = 2 := by kernel_rfl
theorem shW1 : Wf shL1 := by
  have := wf_new.addV sA rootName 3
  rw [sh1] at this
  exact this
theorem shW2 : Wf shL2 := by
  have := shW1.addV sB sA 1
  rw [sh2] at this
  exact this
end Tr
theorem among_any (i n : Int) (w : World) (h1 : 1 ≤ n) (h2 : n ≤ 1000) : Calls Try.prog 11 #[.int .i64 i, .int .i64 n] w fun e w' => e = .returned (.int .i64 (amgV i n)) ∧ w = w' := by
  obtain ⟨t1, t2⟩ := tmod_lo i n h1
  by_cases h0 : i.tmod n < 0
  · have e0 : amgV i n = i.tmod n + n := by unfold amgV; rw [if_pos h0]
    rw [e0]
    go_enter Try.func11, Try.ntmps11
    go_wp2
    go_ret
    exact ⟨rfl, rfl⟩
  · have e0 : amgV i n = i.tmod n := by unfold amgV; rw [if_neg h0]
    rw [e0]
    go_enter Try.func11, Try.ntmps11
    go_wp2
    go_ret
    exact ⟨rfl, rfl⟩
theorem row_ints {w : World} {B : Nat} {v : Value} {xs : List Nat} (h : w.ownsRow B 3 1 v xs.length (ints xs)) : IntsAt w v xs := by
  obtain ⟨ao, c, rfl, h1, h2⟩ := ints_src h
  rcases h.2 with ⟨_, h0⟩ | ⟨g, cap, cur, hv, r⟩
  · exact ⟨ao, c, 0, rfl, fun h => (by omega), fun k x hx => by have := (List.getElem?_eq_some_iff.1 hx).1; omega⟩
  · simp at hv
    obtain ⟨rfl, _⟩ := hv
    refine ⟨_, c, g, rfl, fun _ => rfl, fun k x hx => ?_⟩
    have := h2 _ rfl k (.int .i64 (x : Int)) (by simp [ints, hx])
    have ha : (⟨g, 0, none⟩ : Addr).add k = ⟨g, k, none⟩ := by unfold Addr.add; split <;> simp_all
    rw [ha] at this
    exact this
end Go.Proofs.Ythkahbjcncbcfaa
