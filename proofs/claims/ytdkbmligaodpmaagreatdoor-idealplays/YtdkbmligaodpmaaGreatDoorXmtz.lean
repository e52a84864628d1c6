/-
 THE PLAIN MATHEMATICS OF LAYER 13 (share): shares, sums, effective usages, powers. No Go in sight.
 THE PLAIN MATHEMATICS OF LAYER 13 (share): sums, effective usages, powers, factors; more used is not better. No Go in sight.
 THE PLAIN MATHEMATICS OF LAYER 16 (ideal): a power of one half moves less than its exponent does. No Go in sight.
 THE PLAIN MATHEMATICS OF LAYER 16 (ideal): sums along what is below, two bounds, what is between them. No Go in sight.
 THE PLAIN MATHEMATICS OF LAYER 10 (decay): a Half is not above the chord; so nobody has more than K periods' worth. No Go in sight.
 THE PLAIN MATHEMATICS OF LAYER 16 (ideal): charges and fades tick by tick: usages that are rounded down beside the two bounds. No Go in sight.
-/
import Derived.Test.YtdkbmligaodpmaaGreatDoorTrMz
import Derived.Test.YtdkbmligaodpmaaGreatDoorMthz
namespace Go.Proofs.YtdkbmligaodpmaaGreatDoor.Tr
open Wd

def Wu (l : List Ac) : Prop := Wf (l.map plainAc)
def shOf (l : List Ac) (n : Nat) : Int := match l[n]? with
 | some a => a.sh
 | none => 0
def usOf (l : List Ac) (n : Nat) : Int := match l[n]? with
 | some a => a.us
 | none => 0
theorem sh_of {l : List Ac} {n : Nat} {a : Ac} (h : l[n]? = some a) : shOf l n = a.sh := by unfold shOf; rw [h]
theorem us_of {l : List Ac} {n : Nat} {a : Ac} (h : l[n]? = some a) : usOf l n = a.us := by unfold usOf; rw [h]
theorem up_plain (l : List Ac) (n : Nat) : up (l.map plainAc) n = up l n := by
 unfold up
 rw [List.getElem?_map]
 cases l[n]? <;> rfl
theorem sh_plain (l : List Ac) (n : Nat) : shOf (l.map plainAc) n = shOf l n := by
 unfold shOf
 rw [List.getElem?_map]
 cases l[n]? <;> rfl
theorem dep_plain {l : List Ac} : ∀ {d n}, Dep (l.map plainAc) d n ↔ Dep l d n
 | 0, _ => Iff.rfl
 | d + 1, n => by
  show (n ≠ 0 ∧ Dep (l.map plainAc) d (up (l.map plainAc) n)) ↔ (n ≠ 0 ∧ Dep l d (up l n))
  rw [up_plain, dep_plain]
theorem kids_plain (l : List Ac) (n : Nat) : kidsV (l.map plainAc) n = kidsV l n := by
 unfold kidsV
 rw [List.length_map]
 refine List.filter_congr (fun i _ => ?_)
 rw [List.getElem?_map]
 cases l[i]? <;> rfl
theorem bel_plain {l : List Ac} {n : Nat} : ∀ {s k}, Bel (l.map plainAc) n s k ↔ Bel l n s k
 | 0, _ => Iff.rfl
 | s + 1, k => by
  show (k ≠ n ∧ k ≠ 0 ∧ Bel (l.map plainAc) n s (up (l.map plainAc) k)) ↔ (k ≠ n ∧ k ≠ 0 ∧ Bel l n s (up l k))
  rw [up_plain, bel_plain]
theorem blw_plain {l : List Ac} {n k : Nat} : Blw (l.map plainAc) n k ↔ Blw l n k := ⟨fun ⟨s, h⟩ => ⟨s, bel_plain.1 h⟩, fun ⟨s, h⟩ => ⟨s, bel_plain.2 h⟩⟩

section
variable {l : List Ac} {n k j : Nat} {a : Ac}
theorem Wu.len (h : Wu l) : l.length ≤ 64 := by have := Wf.len h; rwa [List.length_map] at this
theorem Wu.pos (h : Wu l) : 0 < l.length := by have := Wf.pos h; rwa [List.length_map] at this
theorem Wu.root (h : Wu l) : ∃ a, l[0]? = some a ∧ a.pa = -1 ∧ a.sh = 1 := by
 have h0 := Wf.root h
 rw [List.getElem?_map] at h0
 cases ha : l[0]? with
 | none => rw [ha] at h0; cases h0
 | some a =>
  rw [ha] at h0
  simp only [Option.map_some, Option.some.injEq] at h0
  refine ⟨a, rfl, ?_, ?_⟩
  ·have : (plainAc a).pa = rootAc.pa := by rw [h0]
   exact this
  ·have : (plainAc a).sh = rootAc.sh := by rw [h0]
   exact this
theorem Wu.row (h : Wu l) (ha : l[n]? = some a) (hn : 0 < n) : 0 ≤ a.pa ∧ a.pa < (l.length : Int) ∧ 1 ≤ a.sh ∧ a.sh ≤ 4096 := by
 have := Wf.row h n (plainAc a) (by simp [ha]) hn
 obtain ⟨_, h1, h2, h3, _⟩ := this
 rw [List.length_map] at h2
 unfold okSh at h3
 simp at h3
 exact ⟨h1, h2, h3.1, h3.2⟩
theorem Wu.up_lt (h : Wu l) (hn : n < l.length) : up l n < l.length := by
 have := Wf.up_lt h (n := n) (by rwa [List.length_map])
 rwa [up_plain, List.length_map] at this
theorem Wu.deep (h : Wu l) (hn : n < l.length) : ∃ d, d ≤ 4 ∧ Dep l d n := by
 obtain ⟨d, h1, h2⟩ := Wf.deep h n (by rwa [List.length_map])
 exact ⟨d, h1, dep_plain.1 h2⟩
theorem Wu.kid (h : Wu l) (hk : k ∈ kidsV l n) : k ≠ 0 ∧ k < l.length ∧ up l k = n := by
 rw [← kids_plain] at hk
 have := kid_pos h hk
 rwa [List.length_map, up_plain] at this
theorem Wu.kid_of (h : Wu l) (h0 : k ≠ 0) (hk : k < l.length) : k ∈ kidsV l (up l k) := by
 have := Tr.kid_of h h0 (by rwa [List.length_map])
 rwa [kids_plain, up_plain] at this
theorem Wu.kid_dep (h : Wu l) {d : Nat} (hk : k ∈ kidsV l n) (hd : Dep l d n) : Dep l (d + 1) k := by
 rw [← kids_plain] at hk
 exact dep_plain.1 (Tr.kid_dep h hk (dep_plain.2 hd))
theorem Wu.sh (h : Wu l) (hn : n < l.length) : 1 ≤ shOf l n ∧ shOf l n ≤ 4096 := by
 obtain ⟨a, ha⟩ : ∃ a, l[n]? = some a := ⟨_, List.getElem?_eq_getElem hn⟩
 rw [sh_of ha]
 by_cases h0 : 0 < n
 ·have := h.row ha h0; omega
 ·obtain rfl : n = 0 := by omega
  obtain ⟨b, hb, _, h1⟩ := h.root
  rw [ha] at hb; cases hb
  omega
def dOf (l : List Ac) (n : Nat) : Nat := (depN l 5 n).getD 0
theorem Wu.dOf (h : Wu l) (hn : n < l.length) : Dep l (dOf l n) n ∧ Tr.dOf l n ≤ 4 := by
 obtain ⟨d, h1, h2⟩ := h.deep hn
 have := dep_depN h2 (f := 5) (by omega)
 unfold Tr.dOf
 rw [this]
 exact ⟨h2, h1⟩
theorem dOf_of {d : Nat} (hd : Dep l d n) (h4 : d ≤ 4) : dOf l n = d := by
 unfold dOf
 rw [dep_depN hd (f := 5) (by omega)]
 rfl
theorem dOf_zero (l : List Ac) : dOf l 0 = 0 := dOf_of (d := 0) rfl (by omega)
theorem Wu.dOf_up (h : Wu l) (hn : n < l.length) (h0 : n ≠ 0) : Tr.dOf l n = Tr.dOf l (up l n) + 1 := by
 obtain ⟨h1, h2⟩ := h.dOf hn
 cases hd : Tr.dOf l n with
 | zero => rw [hd] at h1; exact absurd h1 h0
 | succ d =>
  rw [hd] at h1
  rw [dOf_of h1.2 (by omega)]
theorem Wu.up_ne (h : Wu l) (hn : n < l.length) (h0 : n ≠ 0) : up l n ≠ n := fun e => by
 have := h.dOf_up hn h0
 rw [e] at this
 omega
end

def togN (l : List Ac) (p : Int) : Nat → Int
 | 0 => 0
 | k + 1 => togN l p k + (match l[k]? with
  | some a => if a.pa = p then a.sh else 0
  | none => 0)
def tog (l : List Ac) (p : Nat) : Int := togN l p l.length
def kidP (l : List Ac) (p : Nat) (k : Nat) : List Nat := (List.range k).filter fun i => decide ((l[i]?.map (·.pa)) = some (p : Int))
theorem kidP_yes {l : List Ac} {p k : Nat} {a : Ac} (h : l[k]? = some a) (e : a.pa = p) : kidP l p (k + 1) = kidP l p k ++ [k] := by
 unfold kidP
 rw [List.range_succ, List.filter_append]
 congr 1
 simp [h, e]
theorem kidP_no {l : List Ac} {p k : Nat} {a : Ac} (h : l[k]? = some a) (e : a.pa ≠ p) : kidP l p (k + 1) = kidP l p k := by
 unfold kidP
 rw [List.range_succ, List.filter_append]
 have : List.filter (fun i => decide ((l[i]?.map (·.pa)) = some (p : Int))) [k] = [] := by simp [h, e]
 rw [this, List.append_nil]
theorem togN_yes {l : List Ac} {p : Int} {k : Nat} {a : Ac} (h : l[k]? = some a) (e : a.pa = p) : togN l p (k + 1) = togN l p k + a.sh := by
 simp only [togN, h, if_pos e]
theorem togN_no {l : List Ac} {p : Int} {k : Nat} {a : Ac} (h : l[k]? = some a) (e : a.pa ≠ p) : togN l p (k + 1) = togN l p k := by
 simp only [togN, h, if_neg e, Int.add_zero]
theorem togN_plain (l : List Ac) (p : Int) : ∀ k, togN (l.map plainAc) p k = togN l p k
 | 0 => rfl
 | k + 1 => by
  simp only [togN]
  rw [togN_plain l p k, List.getElem?_map]
  cases l[k]? <;> rfl
theorem tog_plain (l : List Ac) (p : Nat) : tog (l.map plainAc) p = tog l p := by
 unfold tog
 rw [List.length_map, togN_plain]
def ShOk (l : List Ac) : Prop := ∀ (n : Nat) (a : Ac), l[n]? = some a → 1 ≤ a.sh ∧ a.sh ≤ 4096
theorem Wu.shOk {l : List Ac} (h : Wu l) : ShOk l := fun n a ha => by
 have := h.sh (List.getElem?_eq_some_iff.1 ha).1
 rwa [sh_of ha] at this
theorem togN_bounds {l : List Ac} (h : ShOk l) (p : Nat) : ∀ k, ((kidP l p k).length : Int) ≤ togN l p k ∧ togN l p k ≤ 4096 * (kidP l p k).length
 | 0 => by simp [togN, kidP]
 | k + 1 => by
  have ih := togN_bounds h p k
  cases hk : l[k]? with
  | none =>
   have e1 : togN l p (k + 1) = togN l p k := by simp only [togN, hk, Int.add_zero]
   have e2 : kidP l p (k + 1) = kidP l p k := by
    unfold kidP
    rw [List.range_succ, List.filter_append]
    have : List.filter (fun i => decide ((l[i]?.map (·.pa)) = some (p : Int))) [k] = [] := by simp [hk]
    rw [this, List.append_nil]
   rw [e1, e2]; exact ih
  | some a =>
   have ha := h k a hk
   by_cases e : a.pa = p
   ·rw [togN_yes hk e, kidP_yes hk e, List.length_append]
    simp only [List.length_cons, List.length_nil]
    omega
   ·rw [togN_no hk e, kidP_no hk e]; exact ih
theorem kidP_le (l : List Ac) (p k : Nat) : (kidP l p k).length ≤ k := by
 unfold kidP
 refine Nat.le_trans (List.length_filter_le _ _) ?_
 rw [List.length_range]
 exact Nat.le_refl _
theorem togN_word {l : List Ac} (h : Wu l) (p : Nat) {k : Nat} (hk : k ≤ 64) : 0 ≤ togN l p k ∧ togN l p k ≤ 262144 := by
 have h1 := togN_bounds h.shOk p k
 have h2 := kidP_le l p k
 omega
theorem tog_word {l : List Ac} (h : Wu l) (p : Nat) : 0 ≤ tog l p ∧ tog l p ≤ 262144 := togN_word h p h.len
theorem togN_mem {l : List Ac} (h : ShOk l) {p n : Nat} {a : Ac} (ha : l[n]? = some a) (e : a.pa = p) : ∀ {k}, n < k → a.sh ≤ togN l p k
 | 0, hk => by omega
 | k + 1, hk => by
  by_cases ek : n = k
  ·subst ek
   rw [togN_yes ha e]
   have := (togN_bounds h p n).1
   omega
  ·have ih := togN_mem h ha e (k := k) (by omega)
   cases hk' : l[k]? with
   | none => simp only [togN, hk', Int.add_zero]; exact ih
   | some b =>
    have hb := h k b hk'
    by_cases e' : b.pa = p
    ·rw [togN_yes hk' e']; omega
    ·rw [togN_no hk' e']; exact ih
theorem sh_tog {l : List Ac} (h : Wu l) {n : Nat} (hn : n < l.length) (h0 : n ≠ 0) : 1 ≤ shOf l n ∧ shOf l n ≤ tog l (up l n) := by
 obtain ⟨a, ha⟩ : ∃ a, l[n]? = some a := ⟨_, List.getElem?_eq_getElem hn⟩
 have h1 := h.row ha (by omega)
 have h2 := up_of ha
 have := togN_mem h.shOk ha (p := up l n) (by rw [h2]; omega) hn
 rw [sh_of ha]
 exact ⟨h1.2.2.1, this⟩

def numZ (l : List Ac) : Nat → Nat → Int
 | 0, _ => 1
 | d + 1, n => numZ l d (up l n) * shOf l n
def denZ (l : List Ac) : Nat → Nat → Int
 | 0, _ => 1
 | d + 1, n => denZ l d (up l n) * tog l (up l n)
def numV (l : List Ac) (n : Nat) : Int := numZ l (dOf l n) n
def denV (l : List Ac) (n : Nat) : Int := denZ l (dOf l n) n
theorem num_root (l : List Ac) : numV l 0 = 1 := by unfold numV; rw [dOf_zero]; rfl
theorem den_root (l : List Ac) : denV l 0 = 1 := by unfold denV; rw [dOf_zero]; rfl
theorem num_up {l : List Ac} (h : Wu l) {n : Nat} (hn : n < l.length) (h0 : n ≠ 0) : numV l n = numV l (up l n) * shOf l n := by
 unfold numV
 rw [h.dOf_up hn h0]
 rfl
theorem den_up {l : List Ac} (h : Wu l) {n : Nat} (hn : n < l.length) (h0 : n ≠ 0) : denV l n = denV l (up l n) * tog l (up l n) := by
 unfold denV
 rw [h.dOf_up hn h0]
 rfl
def anc (l : List Ac) : Nat → Nat → List Nat
 | 0, _ => []
 | d + 1, n => up l n :: anc l d (up l n)
def prodL (f : Nat → Nat) : List Nat → Nat
 | [] => 1
 | a :: m => prodL f m * f a
def pow4096 : Nat → Int
 | 0 => 1
 | d + 1 => pow4096 d * 4096
theorem num_bounds {l : List Ac} (h : Wu l) : ∀ {d n}, n < l.length → Dep l d n → 1 ≤ numZ l d n ∧ numZ l d n ≤ denZ l d n ∧ numZ l d n ≤ pow4096 d ∧ denZ l d n ≤ pow4096 d * prodL (fun p => (kidsV l p).length) (anc l d n)
 | 0, _, _, _ => by simp [numZ, denZ, pow4096, prodL, anc]
 | d + 1, n, hn, hd => by
  obtain ⟨i1, i2, i3, i4⟩ := num_bounds h (h.up_lt hn) hd.2
  obtain ⟨s1, s2⟩ := sh_tog h hn hd.1
  have s3 := (h.sh hn).2
  have s4 : tog l (up l n) ≤ 4096 * (kidsV l (up l n)).length := (togN_bounds h.shOk (up l n) l.length).2
  simp only [numZ, denZ, pow4096, anc, prodL]
  refine ⟨?_, ?_, ?_, ?_⟩
  ·calc (1 : Int) = 1 * 1 := rfl
    _ ≤ numZ l d (up l n) * shOf l n := Int.mul_le_mul i1 s1 (by omega) (by omega)
  ·exact Int.mul_le_mul i2 s2 (by omega) (by omega)
  ·exact Int.mul_le_mul i3 s3 (by omega) (by omega)
  ·have hp : (0 : Int) ≤ pow4096 d := by omega
   refine Int.le_trans (Int.mul_le_mul i4 s4 (by omega) (Int.mul_nonneg hp (Int.natCast_nonneg _))) ?_
   rw [Int.natCast_mul]
   have : ∀ a b c d : Int, a * b * (c * d) = a * c * (b * d) := fun a b c d => by
    rw [Int.mul_assoc, Int.mul_assoc, ← Int.mul_assoc b c d, Int.mul_comm b c, Int.mul_assoc c b d]
   rw [this]
   exact Int.le_refl _
theorem anc_dep {l : List Ac} : ∀ {d n}, Dep l d n → ∀ p ∈ anc l d n, ∃ e, e < d ∧ Dep l e p
 | 0, _, _, _, hp => by cases hp
 | d + 1, n, hd, p, hp => by
  rcases List.mem_cons.1 hp with rfl | hp
  ·exact ⟨d, by omega, hd.2⟩
  ·obtain ⟨e, h1, h2⟩ := anc_dep hd.2 p hp
   exact ⟨e, by omega, h2⟩
theorem anc_nodup {l : List Ac} : ∀ {d n}, Dep l d n → (anc l d n).Nodup
 | 0, _, _ => List.nodup_nil
 | d + 1, n, hd => by
  refine List.nodup_cons.2 ⟨fun hp => ?_, anc_nodup hd.2⟩
  obtain ⟨e, h1, h2⟩ := anc_dep hd.2 _ hp
  have := dep_uniq h2 hd.2
  omega
theorem sumL_le {α : Type} {f g : α → Nat} {l : List α} (h : ∀ a ∈ l, f a ≤ g a) : sumL f l ≤ sumL g l := by
 induction l with
 | nil => exact Nat.le_refl _
 | cons a l ih =>
  simp only [sumL]
  have h1 := h a (by simp)
  have h2 := ih (fun b hb => h b (by simp [hb]))
  omega
theorem sumL_most {l : List Nat} (hn : l.Nodup) {p : Nat → Bool} (hu : ∀ j ∈ l, ∀ k ∈ l, p j = true → p k = true → j = k) : sumL (fun a => if p a then 1 else 0) l ≤ 1 := by
 by_cases h : ∃ k ∈ l, p k = true
 ·obtain ⟨k, hk, hp⟩ := h
  exact Nat.le_of_eq (sumL_one hn hk hp (fun j hj hpj => hu j hj k hk hpj hp))
 ·rw [sumL_congr (g := fun _ => 0) (fun a ha => if_neg (fun x => h ⟨a, ha, x⟩)), sumL_zero]
  omega
theorem kids_sum {l : List Ac} (h : Wu l) {ps : List Nat} (hps : ps.Nodup) : sumL (fun p => (kidsV l p).length) ps ≤ 63 := by
 have e1 : ∀ p, (kidsV l p).length = sumL (fun i => if decide ((l[i]?.map (·.pa)) = some (p : Int)) then 1 else 0) (List.range l.length) := fun p => len_filter _ _
 rw [sumL_congr (g := fun p : Nat => sumL (fun i => if decide ((l[i]?.map (·.pa)) = some (p : Int)) then 1 else 0) (List.range l.length)) (fun p _ => e1 p), sumL_swap]
 have e2 : sumL (fun i => sumL (fun p : Nat => if decide ((l[i]?.map (·.pa)) = some (p : Int)) then 1 else 0) ps) (List.range l.length) ≤ sumL (fun i => if decide (i ≠ 0) then 1 else 0) (List.range l.length) := by
  refine sumL_le (fun i _ => ?_)
  by_cases hi : i = 0
  ·subst hi
   obtain ⟨a, ha, hpa, _⟩ := h.root
   have : sumL (fun p : Nat => if decide ((l[0]?.map (·.pa)) = some (p : Int)) then 1 else 0) ps = 0 := by
    rw [sumL_congr (g := fun _ => 0) (fun p _ => if_neg (by
     rw [ha]
     simp [hpa])), sumL_zero]
   rw [this]
   exact Nat.zero_le _
  ·have : (if decide (i ≠ 0) = true then 1 else 0) = 1 := by simp [hi]
   rw [this]
   refine sumL_most hps (fun p _ q _ hp hq => ?_)
   simp only [decide_eq_true_eq] at hp hq
   rw [hp] at hq
   injection hq with hq
   omega
 refine Nat.le_trans e2 ?_
 have hpos := h.pos
 have hlen := h.len
 obtain ⟨m, hm⟩ : ∃ m, l.length = m + 1 := ⟨l.length - 1, by omega⟩
 rw [hm, List.range_succ_eq_map]
 simp only [sumL]
 have : ∀ (xs : List Nat), sumL (fun i => if decide (i ≠ 0) = true then 1 else 0) xs ≤ xs.length := fun xs => by
  induction xs with
  | nil => exact Nat.le_refl _
  | cons a xs ih =>
   simp only [sumL, List.length_cons]
   split <;> omega
 have := this (List.map Nat.succ (List.range m))
 rw [List.length_map, List.length_range] at this
 simp only [ne_eq, not_true_eq_false, decide_false, Bool.false_eq_true, if_false, Nat.zero_add]
 simp only [ne_eq] at this
 omega
theorem four_mul (x y : Nat) : 4 * (x * y) ≤ (x + y) * (x + y) := by
 rcases Nat.le_total x y with h | h
 ·obtain ⟨t, rfl⟩ := Nat.exists_eq_add_of_le h
  have e1 : x * (x + t) = x * x + x * t := Nat.mul_add _ _ _
  have e2 : (x + (x + t)) * (x + (x + t)) = 4 * (x * x) + 4 * (x * t) + t * t := by
   have : x + (x + t) = 2 * x + t := by omega
   rw [this, Nat.mul_add, Nat.add_mul, Nat.add_mul, Nat.mul_mul_mul_comm, Nat.mul_comm t (2 * x), Nat.mul_assoc 2 x t]
   omega
  omega
 ·obtain ⟨t, rfl⟩ := Nat.exists_eq_add_of_le h
  have e1 : (y + t) * y = y * y + y * t := by rw [Nat.add_mul, Nat.mul_comm t y]
  have e2 : (y + t + y) * (y + t + y) = 4 * (y * y) + 4 * (y * t) + t * t := by
   have : y + t + y = 2 * y + t := by omega
   rw [this, Nat.mul_add, Nat.add_mul, Nat.add_mul, Nat.mul_mul_mul_comm, Nat.mul_comm t (2 * y), Nat.mul_assoc 2 y t]
   omega
  omega
theorem four_prod {a b c e : Nat} (h : a + b + c + e ≤ 63) : a * b * (c * e) < 65536 := by
 have h1 := four_mul a b
 have h2 := four_mul c e
 have h3 := four_mul (a + b) (c + e)
 have h4 : (a + b + (c + e)) * (a + b + (c + e)) ≤ 63 * 63 := Nat.mul_le_mul (by omega) (by omega)
 have h5 : 4 * (a * b) * (4 * (c * e)) ≤ (a + b) * (a + b) * ((c + e) * (c + e)) := Nat.mul_le_mul h1 h2
 have h6 : 4 * (a * b) * (4 * (c * e)) = 16 * (a * b * (c * e)) := by rw [Nat.mul_mul_mul_comm]
 have h7 : (a + b) * (a + b) * ((c + e) * (c + e)) = (a + b) * (c + e) * ((a + b) * (c + e)) := Nat.mul_mul_mul_comm _ _ _ _
 have h8 : (a + b) * (c + e) ≤ 992 := by omega
 have h9 : (a + b) * (c + e) * ((a + b) * (c + e)) ≤ 992 * 992 := Nat.mul_le_mul h8 h8
 omega
theorem den_word {l : List Ac} (h : Wu l) {n : Nat} (hn : n < l.length) : 1 ≤ numV l n ∧ numV l n ≤ denV l n ∧ numV l n ≤ 281474976710656 ∧ denV l n < 18446744073709551616 := by
 obtain ⟨hd, h4⟩ := h.dOf hn
 obtain ⟨b1, b2, b3, b4⟩ := num_bounds h hn hd
 have hs := kids_sum h (anc_nodup hd)
 unfold numV denV
 revert hd h4 b1 b2 b3 b4 hs
 generalize dOf l n = d
 intro hd h4 b1 b2 b3 b4 hs
 have p0 : pow4096 0 = 1 := rfl
 have p1 : pow4096 1 = 4096 := rfl
 have p2 : pow4096 2 = 16777216 := rfl
 have p3 : pow4096 3 = 68719476736 := rfl
 have p4 : pow4096 4 = 281474976710656 := rfl
 have key : prodL (fun p => (kidsV l p).length) (anc l d n) < 65536 := by
  match d, h4 with
  | 0, _ => simp [anc, prodL]
  | 1, _ =>
   simp only [anc, prodL, sumL] at hs ⊢
   omega
  | 2, _ =>
   simp only [anc, prodL, sumL] at hs ⊢
   have := four_prod (a := (kidsV l (up l (up l n))).length) (b := (kidsV l (up l n)).length) (c := 0) (e := 0) (by omega)
   have := four_mul (kidsV l (up l (up l n))).length (kidsV l (up l n)).length
   have h9 := Nat.mul_le_mul (show (kidsV l (up l (up l n))).length + (kidsV l (up l n)).length ≤ 63 by omega) (show (kidsV l (up l (up l n))).length + (kidsV l (up l n)).length ≤ 63 by omega)
   rw [Nat.one_mul]
   omega
  | 3, _ =>
   simp only [anc, prodL, sumL] at hs ⊢
   generalize (kidsV l (up l (up l (up l n)))).length = x at *
   generalize (kidsV l (up l (up l n))).length = y at *
   generalize (kidsV l (up l n)).length = z at *
   have h9 : x * y * z ≤ 63 * 63 * 16 ∨ z > 16 := by
    by_cases hz : z ≤ 16
    ·exact .inl (Nat.mul_le_mul (Nat.mul_le_mul (by omega) (by omega)) hz)
    ·exact .inr (by omega)
   rw [Nat.one_mul]
   rcases h9 with h9 | h9
   ·omega
   ·have hxy := four_mul x y
    have h10 := Nat.mul_le_mul (show x + y ≤ 46 by omega) (show x + y ≤ 46 by omega)
    have h11 : x * y * z ≤ 529 * 63 := Nat.mul_le_mul (by omega) (by omega)
    omega
  | 4, _ =>
   simp only [anc, prodL, sumL] at hs ⊢
   rw [Nat.one_mul, Nat.mul_assoc]
   exact four_prod (by omega)
  | k + 5, h4 => omega
 have hp : pow4096 d ≤ 281474976710656 ∧ 0 ≤ pow4096 d := by
  match d, h4 with
  | 0, _ => omega
  | 1, _ => omega
  | 2, _ => omega
  | 3, _ => omega
  | 4, _ => omega
  | k + 5, h4 => omega
 refine ⟨b1, b2, by omega, ?_⟩
 have : pow4096 d * (prodL (fun p => (kidsV l p).length) (anc l d n) : Int) ≤ 281474976710656 * 65535 := Int.mul_le_mul hp.1 (by omega) (by omega) (by omega)
 omega
end Go.Proofs.YtdkbmligaodpmaaGreatDoor.Tr
namespace Go.Proofs.YtdkbmligaodpmaaGreatDoor.Tr
open Wd Ld

def UsOk (l : List Ac) : Prop := ∀ (n : Nat) (a : Ac), l[n]? = some a → Word a.us
theorem us_word {l : List Ac} (h : UsOk l) (n : Nat) : Word (usOf l n) := by
 unfold usOf
 cases ha : l[n]? with
 | none => exact (⟨by decide, by decide⟩ : Word 0)
 | some a => exact h n a ha
def addS (a b : Int) : Int := narV (a + b)
theorem addS_word {a b : Int} (ha : Word a) (hb : Word b) : Word (addS a b) := nar_word (by obtain ⟨_, _⟩ := ha; obtain ⟨_, _⟩ := hb; omega)
theorem addS_ge {a b : Int} (ha : Word a) (hb : Word b) : a ≤ addS a b ∧ b ≤ addS a b := by
 obtain ⟨_, _⟩ := ha; obtain ⟨_, _⟩ := hb
 unfold addS narV
 split <;> omega
theorem addS_mono {a b c d : Int} (h1 : a ≤ c) (h2 : b ≤ d) : addS a b ≤ addS c d := nar_mono (by omega)
def sumTo (f : Nat → Int) (s : Int) (ks : List Nat) : Int := ks.foldl (fun s k => addS s (f k)) s
theorem sumTo_word {f : Nat → Int} : ∀ {ks : List Nat} {s : Int}, Word s → (∀ k ∈ ks, Word (f k)) → Word (sumTo f s ks)
 | [], _, hs, _ => hs
 | k :: ks, _, hs, hf => sumTo_word (ks := ks) (addS_word hs (hf k (by simp))) (fun j hj => hf j (by simp [hj]))
theorem sumTo_ge {f : Nat → Int} : ∀ {ks : List Nat} {s : Int}, Word s → (∀ k ∈ ks, Word (f k)) → s ≤ sumTo f s ks ∧ ∀ k ∈ ks, f k ≤ sumTo f s ks
 | [], _, _, _ => ⟨Int.le_refl _, fun _ h => by cases h⟩
 | k :: ks, s, hs, hf => by
  have hk := hf k (by simp)
  obtain ⟨h1, h2⟩ := sumTo_ge (ks := ks) (addS_word hs hk) (fun j hj => hf j (by simp [hj]))
  obtain ⟨h3, h4⟩ := addS_ge hs hk
  refine ⟨Int.le_trans h3 h1, fun j hj => ?_⟩
  rcases List.mem_cons.1 hj with rfl | hj
  ·exact Int.le_trans h4 h1
  ·exact h2 j hj
theorem sumTo_mono {f g : Nat → Int} : ∀ {ks : List Nat} {s t : Int}, s ≤ t → (∀ k ∈ ks, f k ≤ g k) → sumTo f s ks ≤ sumTo g t ks
 | [], _, _, h, _ => h
 | k :: ks, _, _, h, hf => sumTo_mono (ks := ks) (addS_mono h (hf k (by simp))) (fun j hj => hf j (by simp [hj]))
theorem sumTo_congr {f g : Nat → Int} : ∀ {ks : List Nat} {s : Int}, (∀ k ∈ ks, f k = g k) → sumTo f s ks = sumTo g s ks
 | [], _, _ => rfl
 | k :: ks, s, hf => by
  show sumTo f (addS s (f k)) ks = sumTo g (addS s (g k)) ks
  rw [hf k (by simp)]
  exact sumTo_congr (fun j hj => hf j (by simp [hj]))
theorem sumTo_last (f : Nat → Int) (s : Int) (ks : List Nat) (k : Nat) : sumTo f s (ks ++ [k]) = addS (sumTo f s ks) (f k) := by
 unfold sumTo
 rw [List.foldl_append]
 rfl
def sm (l : List Ac) : Nat → Nat → Int
 | 0, n => usOf l n
 | f + 1, n => sumTo (sm l f) (usOf l n) (kidsV l n)
def sumV (l : List Ac) (n : Nat) : Int := sm l 5 n
theorem sm_any {l : List Ac} (h : Wu l) : ∀ {f g n d}, n < l.length → Dep l d n → 4 < d + f → 4 < d + g → sm l f n = sm l g n
 | 0, _, n, d, hn, hd, hf, _ => by
  obtain ⟨e, h1, h2⟩ := h.deep hn
  have := dep_uniq hd h2
  omega
 | f + 1, 0, n, d, hn, hd, _, hg => by
  obtain ⟨e, h1, h2⟩ := h.deep hn
  have := dep_uniq hd h2
  omega
 | f + 1, g + 1, n, d, hn, hd, hf, hg => by
  refine sumTo_congr (fun k hk => ?_)
  exact sm_any h (h.kid hk).2.1 (h.kid_dep hk hd) (by omega) (by omega)
theorem sum_kids {l : List Ac} (h : Wu l) {n : Nat} (hn : n < l.length) : sumV l n = sumTo (sumV l) (usOf l n) (kidsV l n) := by
 show sumTo (sm l 4) (usOf l n) (kidsV l n) = _
 refine sumTo_congr (fun k hk => ?_)
 obtain ⟨d, h1, h2⟩ := h.deep hn
 exact sm_any h (h.kid hk).2.1 (h.kid_dep hk h2) (by omega) (by omega)
theorem sm_word {l : List Ac} (hu : UsOk l) : ∀ f n, Word (sm l f n)
 | 0, n => us_word hu n
 | f + 1, n => sumTo_word (us_word hu n) (fun k _ => sm_word hu f k)
theorem sum_word {l : List Ac} (hu : UsOk l) (n : Nat) : Word (sumV l n) := sm_word hu 5 n
theorem sum_falls {l : List Ac} (h : Wu l) (hu : UsOk l) {n : Nat} (hn : n < l.length) (h0 : n ≠ 0) : sumV l n ≤ sumV l (up l n) := by
 rw [sum_kids h (h.up_lt hn)]
 exact (sumTo_ge (us_word hu _) (fun k _ => sum_word hu k)).2 n (h.kid_of h0 hn)
theorem sum_root {l : List Ac} (h : Wu l) (hu : UsOk l) : ∀ {d n}, n < l.length → Dep l d n → sumV l n ≤ sumV l 0
 | 0, _, _, hd => by rw [show _ = 0 from hd]; exact Int.le_refl _
 | d + 1, n, hn, hd => Int.le_trans (sum_falls h hu hn hd.1) (sum_root h hu (h.up_lt hn) hd.2)
def wV (l : List Ac) (fl : Int) : Int := if sumV l 0 < fl then fl else sumV l 0
theorem w_word {l : List Ac} (hu : UsOk l) {fl : Int} (hf : Word fl) : Word (wV l fl) := by
 unfold wV
 split
 ·exact hf
 ·exact sum_word hu 0
theorem sum_w {l : List Ac} (h : Wu l) (hu : UsOk l) (fl : Int) {n : Nat} (hn : n < l.length) : sumV l n ≤ wV l fl := by
 obtain ⟨d, _, hd⟩ := h.deep hn
 have := sum_root h hu hn hd
 unfold wV
 split <;> omega
def uV (l : List Ac) (w : Int) (n : Nat) : Int := sumV l n * 9223372036854775808 / w
def efZ (l : List Ac) (w : Int) : Nat → Nat → Int
 | 0, n => uV l w n
 | d + 1, n => uV l w n + (efZ l w d (up l n) - uV l w n) * shOf l n / tog l (up l n)
def efV (l : List Ac) (w : Int) (n : Nat) : Int := efZ l w (dOf l n) n
theorem ef_root (l : List Ac) (w : Int) : efV l w 0 = uV l w 0 := by unfold efV; rw [dOf_zero]; rfl
theorem ef_up {l : List Ac} (h : Wu l) (w : Int) {n : Nat} (hn : n < l.length) (h0 : n ≠ 0) : efV l w n = uV l w n + (efV l w (up l n) - uV l w n) * shOf l n / tog l (up l n) := by
 unfold efV
 rw [h.dOf_up hn h0]
 rfl
theorem u_word {l : List Ac} (hu : UsOk l) {w : Int} (hw : Word w) {n : Nat} (hn : sumV l n ≤ w) : 0 ≤ uV l w n ∧ uV l w n ≤ 9223372036854775808 := by
 have hs := sum_word hu n
 obtain ⟨h1, h2⟩ := hs
 obtain ⟨h3, h4⟩ := hw
 unfold uV
 refine ⟨Int.ediv_nonneg (by omega) h3, ?_⟩
 by_cases e : w = 0
 ·subst e; simp
 ·have hp : 0 < w := by omega
  refine Int.le_trans (Int.ediv_le_ediv hp (Int.mul_le_mul_of_nonneg_right hn (by omega))) ?_
  rw [Int.mul_comm, Int.mul_ediv_cancel _ e]
  exact Int.le_refl _
theorem u_falls {l : List Ac} (h : Wu l) (hu : UsOk l) {w : Int} (hw : Word w) {n : Nat} (hn : n < l.length) (h0 : n ≠ 0) : uV l w n ≤ uV l w (up l n) := by
 have hs := sum_falls h hu hn h0
 obtain ⟨h3, h4⟩ := hw
 unfold uV
 by_cases e : w = 0
 ·subst e; simp
 ·exact Int.ediv_le_ediv (by omega) (Int.mul_le_mul_of_nonneg_right hs (by omega))
theorem part_of {x s t : Int} (hx : 0 ≤ x) (hs : 1 ≤ s) (ht : s ≤ t) : 0 ≤ x * s / t ∧ x * s / t ≤ x := by
 have htp : 0 < t := by omega
 refine ⟨Int.ediv_nonneg (Int.mul_nonneg hx (by omega)) (by omega), ?_⟩
 refine Int.le_trans (Int.ediv_le_ediv htp (Int.mul_le_mul_of_nonneg_left ht hx)) ?_
 rw [Int.mul_ediv_cancel _ (by omega)]
 exact Int.le_refl _
theorem ef_bounds {l : List Ac} (h : Wu l) (hu : UsOk l) {w : Int} (hw : Word w) (hsw : ∀ n, n < l.length → sumV l n ≤ w) : ∀ {d n}, n < l.length → Dep l d n → uV l w n ≤ efV l w n ∧ efV l w n ≤ 9223372036854775808
 | 0, n, hn, hd => by
  obtain rfl : n = 0 := hd
  rw [ef_root]
  exact ⟨Int.le_refl _, (u_word hu hw (hsw 0 hn)).2⟩
 | d + 1, n, hn, hd => by
  obtain ⟨i1, i2⟩ := ef_bounds h hu hw hsw (h.up_lt hn) hd.2
  have h1 := u_falls h hu hw hn hd.1
  obtain ⟨s1, s2⟩ := sh_tog h hn hd.1
  obtain ⟨p1, p2⟩ := part_of (x := efV l w (up l n) - uV l w n) (by omega) s1 s2
  rw [ef_up h w hn hd.1]
  omega
structure WOk (l : List Ac) (w : Int) : Prop where
 word : Word w
 most : ∀ n, n < l.length → sumV l n ≤ w
theorem wOk {l : List Ac} (h : Wu l) (hu : UsOk l) {fl : Int} (hf : Word fl) : WOk l (wV l fl) := ⟨w_word hu hf, fun _ hn => sum_w h hu fl hn⟩
theorem ef_word {l : List Ac} (h : Wu l) (hu : UsOk l) {w : Int} (hw : WOk l w) {n : Nat} (hn : n < l.length) : 0 ≤ uV l w n ∧ uV l w n ≤ efV l w n ∧ efV l w n ≤ 9223372036854775808 := by
 obtain ⟨d, _, hd⟩ := h.deep hn
 have := ef_bounds h hu hw.word hw.most hn hd
 exact ⟨(u_word hu hw.word (hw.most n hn)).1, this.1, this.2⟩
theorem ef_falls {l : List Ac} (h : Wu l) (hu : UsOk l) {w : Int} (hw : WOk l w) {n : Nat} (hn : n < l.length) (h0 : n ≠ 0) : uV l w n ≤ efV l w (up l n) ∧ efV l w n ≤ efV l w (up l n) := by
 have h1 := u_falls h hu hw.word hn h0
 have h2 := ef_word h hu hw (h.up_lt hn)
 obtain ⟨s1, s2⟩ := sh_tog h hn h0
 obtain ⟨p1, p2⟩ := part_of (x := efV l w (up l n) - uV l w n) (by omega) s1 s2
 rw [ef_up h w hn h0]
 omega
def atN (n d : Int) : Int := if n * 4096 < d then 1 else n
def atD (n d : Int) : Int := if n * 4096 < d then 4096 else d
def cl (x b : Int) : Int := (x + (b - 1)) / b
theorem cl_cl {x a b : Int} (ha : 0 < a) : cl (cl x a) b = cl x (a * b) := by
 unfold cl
 have e1 : (x + (a - 1)) / a + (b - 1) = (x + (a * b - 1)) / a := by
  have : x + (a * b - 1) = x + (a - 1) + (b - 1) * a := by
   rw [Int.sub_mul, Int.mul_comm b a]
   omega
  rw [this, Int.add_mul_ediv_right _ _ (by omega)]
 rw [e1, Int.ediv_ediv, if_neg (fun h => by omega), Int.sub_zero]
theorem cl_swap {x a b : Int} (ha : 0 < a) (hb : 0 < b) : cl (cl x a) b = cl (cl x b) a := by rw [cl_cl ha, cl_cl hb, Int.mul_comm]
theorem cl_rem {x b : Int} (hb : 0 < b) : cl x b = if x % b = 0 then x / b else x / b + 1 := by
 have e := Int.mul_ediv_add_emod x b
 have h1 := Int.emod_nonneg x (show b ≠ 0 by omega)
 have h2 := Int.emod_lt_of_pos x hb
 unfold cl
 by_cases h : x % b = 0
 ·rw [if_pos h]
  have : x + (b - 1) = (b - 1) + x / b * b := by rw [Int.mul_comm]; omega
  rw [this, Int.add_mul_ediv_right _ _ (by omega), Int.ediv_eq_zero_of_lt (by omega) (by omega)]
  omega
 ·rw [if_neg h]
  have : x + (b - 1) = (x % b - 1) + (x / b + 1) * b := by rw [Int.add_mul, Int.mul_comm (x / b)]; omega
  rw [this, Int.add_mul_ediv_right _ _ (by omega), Int.ediv_eq_zero_of_lt (by omega) (by omega)]
  omega
theorem cl_mono {x y b : Int} (hb : 0 < b) (h : x ≤ y) : cl x b ≤ cl y b := Int.ediv_le_ediv hb (by omega)
theorem cl_nonneg {x b : Int} (hx : 0 ≤ x) (hb : 0 < b) : 0 ≤ cl x b := Int.ediv_nonneg (by omega) (by omega)
theorem cl_le {x b : Int} (hx : 0 ≤ x) (hb : 0 < b) : cl x b ≤ x := by
 unfold cl
 have : x + (b - 1) < (x + 1) * b := by
  rw [Int.add_mul, Int.one_mul]
  have : x * 1 ≤ x * b := Int.mul_le_mul_of_nonneg_left (by omega) hx
  omega
 have := Int.ediv_lt_of_lt_mul hb this
 omega
theorem cl_pos {x b : Int} (hx : 1 ≤ x) (hb : 0 < b) : 1 ≤ cl x b := by
 unfold cl
 refine Int.le_ediv_of_mul_le hb (by omega)
theorem cl_zero {b : Int} (hb : 0 < b) : cl 0 b = 0 := by
 unfold cl
 exact Int.ediv_eq_zero_of_lt (by omega) (by omega)
def rawP (e n d : Int) : Int := cl (cl (e * atD n d) 2147483648) (atN n d)
def powV (e n d : Int) : Int := narV (rawP e n d)
theorem at_pos {n d : Int} (hn : 1 ≤ n) (hd : n ≤ d) (h : d < 18446744073709551616) : 1 ≤ atN n d ∧ 1 ≤ atD n d ∧ atD n d < 18446744073709551616 := by
 unfold atN atD
 split <;> omega
theorem prod_bound {e d : Int} (he : 0 ≤ e) (he' : e ≤ 9223372036854775808) (hd : 1 ≤ d) (hd' : d < 18446744073709551616) : 0 ≤ e * d ∧ e * d ≤ 170141183460469231722463931679029329920 := by
 refine ⟨Int.mul_nonneg he (by omega), ?_⟩
 exact Int.le_trans (Int.mul_le_mul he' (show d ≤ 18446744073709551615 by omega) (by omega) (by omega)) (by decide)
theorem raw_nonneg {e n d : Int} (he : 0 ≤ e) (hn : 1 ≤ n) (hd : n ≤ d) (h : d < 18446744073709551616) : 0 ≤ rawP e n d := by
 obtain ⟨h1, h2, _⟩ := at_pos hn hd h
 exact cl_nonneg (cl_nonneg (Int.mul_nonneg he (by omega)) (by omega)) (by omega)
theorem pow_word {e n d : Int} (he : 0 ≤ e) (hn : 1 ≤ n) (hd : n ≤ d) (h : d < 18446744073709551616) : Word (powV e n d) := nar_word (raw_nonneg he hn hd h)
theorem pow_zero {n d : Int} (hn : 1 ≤ n) (hd : n ≤ d) (h : d < 18446744073709551616) : powV 0 n d = 0 := by
 obtain ⟨h1, h2, _⟩ := at_pos hn hd h
 unfold powV rawP
 rw [Int.zero_mul, cl_zero (by omega), cl_zero (by omega)]
 rfl
theorem pow_pos {e n d : Int} (he : 1 ≤ e) (hn : 1 ≤ n) (hd : n ≤ d) (h : d < 18446744073709551616) : 1 ≤ powV e n d := by
 obtain ⟨h1, h2, _⟩ := at_pos hn hd h
 have : 1 ≤ rawP e n d := cl_pos (cl_pos (by
  have := Int.mul_le_mul he h2 (by omega) (by omega)
  omega) (by omega)) (by omega)
 unfold powV narV
 split <;> omega
def facV (l : List Ac) (w : Int) (n : Nat) : Int := ((halfN (powV (efV l w n) (numV l n) (denV l n)).toNat : Nat) : Int)
section
variable {l : List Ac} {w : Int} {n : Nat}
end

/- MORE USED IS NOT BETTER. -/
def Alike (l m : List Ac) : Prop := l.map plainAc = m.map plainAc
section
variable {l m : List Ac}
theorem Alike.len (h : Alike l m) : l.length = m.length := by have := congrArg List.length h; simpa using this
theorem Alike.up (h : Alike l m) (n : Nat) : up l n = up m n := by rw [← up_plain, h, up_plain]
theorem Alike.sh (h : Alike l m) (n : Nat) : shOf l n = shOf m n := by rw [← sh_plain, h, sh_plain]
theorem Alike.tog (h : Alike l m) (n : Nat) : Tr.tog l n = Tr.tog m n := by rw [← tog_plain, h, tog_plain]
theorem Alike.kids (h : Alike l m) (n : Nat) : kidsV l n = kidsV m n := by rw [← kids_plain, h, kids_plain]
theorem Alike.wu (h : Alike l m) (hw : Wu l) : Wu m := by unfold Wu at *; rw [← h]; exact hw
theorem Alike.dep (h : Alike l m) (f n : Nat) : depN l f n = depN m f n := by
 induction f generalizing n with
 | zero => rfl
 | succ f ih => simp only [depN]; rw [h.up, ih]
theorem Alike.dOf (h : Alike l m) (n : Nat) : Tr.dOf l n = Tr.dOf m n := by unfold Tr.dOf; rw [h.dep]
theorem Alike.numZ (h : Alike l m) : ∀ d n, Tr.numZ l d n = Tr.numZ m d n
 | 0, _ => rfl
 | d + 1, n => by simp only [Tr.numZ]; rw [h.up, h.sh, h.numZ d]
theorem Alike.denZ (h : Alike l m) : ∀ d n, Tr.denZ l d n = Tr.denZ m d n
 | 0, _ => rfl
 | d + 1, n => by simp only [Tr.denZ]; rw [h.up, h.tog, h.denZ d]
theorem Alike.num (h : Alike l m) (n : Nat) : numV l n = numV m n := by unfold numV; rw [h.dOf, h.numZ]
theorem Alike.den (h : Alike l m) (n : Nat) : denV l n = denV m n := by unfold denV; rw [h.dOf, h.denZ]
theorem Alike.sm (h : Alike l m) (hus : ∀ n, usOf l n ≤ usOf m n) : ∀ f n, Tr.sm l f n ≤ Tr.sm m f n
 | 0, n => hus n
 | f + 1, n => by
  simp only [Tr.sm]
  rw [h.kids]
  exact sumTo_mono (hus n) (fun k _ => h.sm hus f k)
theorem Alike.sum (h : Alike l m) (hus : ∀ n, usOf l n ≤ usOf m n) (n : Nat) : sumV l n ≤ sumV m n := h.sm hus 5 n
theorem part_mono {u v x y s t : Int} (hs : 1 ≤ s) (ht : s ≤ t) (huv : u ≤ v) (hxy : x ≤ y) : u + (x - u) * s / t ≤ v + (y - v) * s / t := by
 have htp : 0 < t := by omega
 have e1 : u + (x - u) * s / t = ((x - u) * s + u * t) / t := by rw [Int.add_mul_ediv_right _ _ (by omega)]; omega
 have e2 : v + (y - v) * s / t = ((y - v) * s + v * t) / t := by rw [Int.add_mul_ediv_right _ _ (by omega)]; omega
 rw [e1, e2]
 refine Int.ediv_le_ediv htp ?_
 have a1 : (x - u) * s + u * t = x * s + u * (t - s) := by rw [Int.sub_mul, Int.mul_sub]; omega
 have a2 : (y - v) * s + v * t = y * s + v * (t - s) := by rw [Int.sub_mul, Int.mul_sub]; omega
 rw [a1, a2]
 exact Int.add_le_add (Int.mul_le_mul_of_nonneg_right hxy (by omega)) (Int.mul_le_mul_of_nonneg_right huv (by omega))
end
def usN (l : List Ac) (k : Nat) : Nat := (usOf l k).toNat
end Go.Proofs.YtdkbmligaodpmaaGreatDoor.Tr
namespace Go.Proofs.YtdkbmligaodpmaaGreatDoor.Ld

theorem pow_more (m : Nat) : ∀ k : Nat, m ^ (k + 1) + (k + 1) * m ^ k ≤ (m + 1) ^ (k + 1)
 | 0 => by simp
 | k + 1 => by
  have ih := pow_more m k
  have e1 : (m + 1) ^ (k + 1 + 1) = (m + 1) ^ (k + 1) * m + (m + 1) ^ (k + 1) := by rw [Nat.pow_succ (m + 1) (k + 1), Nat.mul_add, Nat.mul_one]
  have e2 := Nat.mul_le_mul_right m ih
  have e3 : (m ^ (k + 1) + (k + 1) * m ^ k) * m = m ^ (k + 1 + 1) + (k + 1) * m ^ (k + 1) := by
   rw [Nat.add_mul, ← Nat.pow_succ, Nat.mul_assoc, ← Nat.pow_succ]
  have e4 : (k + 1 + 1) * m ^ (k + 1) = (k + 1) * m ^ (k + 1) + m ^ (k + 1) := by rw [Nat.add_mul (k + 1) 1, Nat.one_mul]
  have e5 : m ^ (k + 1) ≤ (m + 1) ^ (k + 1) := Nat.pow_le_pow_left (by omega) _
  omega
theorem twice_pow {m K : Nat} (h : m ≤ K) (hK : 0 < K) : 2 * m ^ K ≤ (m + 1) ^ K := by
 obtain ⟨k, rfl⟩ : ∃ k, K = k + 1 := ⟨K - 1, by omega⟩
 have h1 := pow_more m k
 have h2 : m * m ^ k ≤ (k + 1) * m ^ k := Nat.mul_le_mul_right _ h
 have h3 : m ^ (k + 1) = m * m ^ k := by rw [Nat.pow_succ, Nat.mul_comm]
 omega
theorem less_pow {K : Nat} (hK : 0 < K) : ∀ d, d ≤ K → (K - d) ^ K * 2 ^ d ≤ K ^ K
 | 0, _ => by simp
 | d + 1, h => by
  have ih := less_pow hK d (by omega)
  have h1 := twice_pow (m := K - (d + 1)) (K := K) (by omega) hK
  rw [show K - (d + 1) + 1 = K - d by omega] at h1
  refine Nat.le_trans ?_ ih
  rw [Nat.pow_succ, Nat.mul_comm (2 ^ d) 2, ← Nat.mul_assoc]
  refine Nat.mul_le_mul_right _ ?_
  omega
theorem lip_core {x y d K D : Nat} (hK : 0 < K) (hd : d ≤ K) (hx : x ≤ D) (h : x ^ K ≤ y ^ K * 2 ^ d) : x * K ≤ y * K + d * D := by
 have h1 := less_pow hK d hd
 have h2 : (x * (K - d)) ^ K ≤ (y * K) ^ K := by
  rw [Nat.mul_pow, Nat.mul_pow]
  calc x ^ K * (K - d) ^ K ≤ y ^ K * 2 ^ d * (K - d) ^ K := Nat.mul_le_mul_right _ h
   _ = y ^ K * ((K - d) ^ K * 2 ^ d) := by rw [Nat.mul_assoc, Nat.mul_comm (2 ^ d)]
   _ ≤ y ^ K * K ^ K := Nat.mul_le_mul_left _ h1
 have h3 := le_of_pow (by omega) h2
 have h4 : x * K = x * (K - d) + x * d := by rw [← Nat.mul_add]; congr 1; omega
 have h5 : x * d ≤ d * D := by rw [Nat.mul_comm]; exact Nat.mul_le_mul_left _ hx
 omega
theorem half_lip {e f : Nat} (h : e ≤ f) : halfN e ≤ uppN f + (f - e) * 2147483648 := by
 have ht := half_top e
 by_cases hd : 4294967296 ≤ f - e
 ·have : 4294967296 * 2147483648 ≤ (f - e) * 2147483648 := Nat.mul_le_mul_right _ hd
  omega
 ·obtain ⟨K, hK⟩ : ∃ K, K = 2 ^ 32 := ⟨_, rfl⟩
  have h1 := half_low e hK
  have h2 := half_upp f hK
  have hK2 : K = 4294967296 := hK.trans (by decide)
  clear hK
  obtain ⟨d, hd'⟩ : ∃ d, f = e + d := ⟨f - e, by omega⟩
  subst hd'
  rw [show e + d - e = d by omega] at hd ⊢
  have h3 : halfN e ^ K * 2 ^ e ≤ uppN (e + d) ^ K * 2 ^ d * 2 ^ e := by
   refine Nat.le_trans h1 (Nat.le_trans h2 ?_)
   rw [Nat.pow_add, Nat.mul_assoc, Nat.mul_comm (2 ^ e)]
   exact Nat.le_refl _
  have h4 := Nat.le_of_mul_le_mul_right h3 (Nat.pow_pos (by omega))
  have h5 := lip_core (by omega) (by omega) ht h4
  rw [hK2] at h5
  clear h1 h2 h3 h4
  omega
theorem upp_top (e : Nat) : uppN e ≤ 9223372036854775808 := by unfold uppN; omega
theorem upp_gap (e : Nat) : uppN e ≤ halfN e + 81 := by unfold uppN; omega
end Go.Proofs.YtdkbmligaodpmaaGreatDoor.Ld
namespace Go.Proofs.YtdkbmligaodpmaaGreatDoor.Tr
open Wd Ld

/- SUMS THAT STAND STILL. -/
theorem nar_nar {a b : Int} (ha : 0 ≤ a) : narV (a + narV b) = narV (a + b) := by
 unfold narV
 by_cases h1 : b < 18446744073709551616
 ·rw [if_pos h1]
 ·rw [if_neg h1]
  split <;> split <;> omega
theorem nar_left {a b : Int} (hb : 0 ≤ b) : narV (narV a + b) = narV (a + b) := by
 rw [Int.add_comm, nar_nar hb, Int.add_comm]
theorem nar_nonneg {a : Int} (ha : 0 ≤ a) : 0 ≤ narV a := (nar_word ha).1
theorem nar_gap {a b c : Int} (h : a ≤ b + c) (hc : 0 ≤ c) : narV a ≤ narV b + c := by
 unfold narV
 split <;> split <;> omega
theorem nar_small {a : Int} (h : a < 18446744073709551616) : narV a = a := if_pos h
def sumI (f : Nat → Int) : List Nat → Int
 | [] => 0
 | k :: ks => f k + sumI f ks
theorem sumI_nonneg {f : Nat → Int} : ∀ {ks : List Nat}, (∀ k ∈ ks, 0 ≤ f k) → 0 ≤ sumI f ks
 | [], _ => Int.le_refl _
 | k :: ks, h => by
  have h1 := h k (by simp)
  have h2 := sumI_nonneg (ks := ks) (fun j hj => h j (by simp [hj]))
  simp only [sumI]
  omega
theorem sumTo_nar {f : Nat → Int} : ∀ {ks : List Nat} {s : Int}, Word s → (∀ k ∈ ks, 0 ≤ f k) → sumTo f s ks = narV (s + sumI f ks)
 | [], s, hs, _ => by
  simp only [sumI, Int.add_zero]
  rw [nar_small hs.2]
  rfl
 | k :: ks, s, hs, hf => by
  have h1 := hf k (by simp)
  have hs0 := hs.1
  have ih := sumTo_nar (ks := ks) (s := addS s (f k)) (nar_word (by omega)) (fun j hj => hf j (by simp [hj]))
  have h2 := sumI_nonneg (ks := ks) (fun j hj => hf j (by simp [hj]))
  show sumTo f (addS s (f k)) ks = _
  rw [ih]
  unfold addS
  rw [nar_left h2]
  simp only [sumI]
  rw [Int.add_assoc]
theorem nar_sum {g : Nat → Int} : ∀ {ks : List Nat} {s : Int}, 0 ≤ s → (∀ k ∈ ks, 0 ≤ g k) → narV (s + sumI (fun k => narV (g k)) ks) = narV (s + sumI g ks)
 | [], _, _, _ => rfl
 | k :: ks, s, hs, hg => by
  have h1 := hg k (by simp)
  have hn := nar_nonneg h1
  have h3 := sumI_nonneg (f := fun k => narV (g k)) (ks := ks) (fun j hj => nar_nonneg (hg j (by simp [hj])))
  have ih := nar_sum (ks := ks) (s := s + g k) (by omega) (fun j hj => hg j (by simp [hj]))
  simp only [sumI]
  rw [← Int.add_assoc, ← Int.add_assoc, ← ih, Int.add_right_comm s (narV (g k)), nar_nar (by omega), Int.add_right_comm s _ (g k)]
theorem sumI_nat (g : Nat → Nat) : ∀ ks : List Nat, sumI (fun k => (g k : Int)) ks = ((sumL g ks : Nat) : Int)
 | [] => rfl
 | k :: ks => by
  simp only [sumI, sumL]
  rw [sumI_nat g ks]
  omega
theorem sumI_congr {f g : Nat → Int} : ∀ {ks : List Nat}, (∀ k ∈ ks, f k = g k) → sumI f ks = sumI g ks
 | [], _ => rfl
 | k :: ks, h => by
  simp only [sumI]
  rw [h k (by simp), sumI_congr (ks := ks) (fun j hj => h j (by simp [hj]))]
theorem sumI_more {f g : Nat → Int} {c : Int} : ∀ {ks : List Nat}, (∀ k ∈ ks, f k ≤ g k + c) → sumI f ks ≤ sumI g ks + c * ks.length
 | [], _ => by simp [sumI]
 | k :: ks, h => by
  simp only [sumI, List.length_cons]
  have h1 := h k (by simp)
  have h2 := sumI_more (ks := ks) (fun j hj => h j (by simp [hj]))
  rw [Int.natCast_add, Int.mul_add]
  omega
theorem sumL_filter (g : Nat → Nat) (p : Nat → Bool) : ∀ l : List Nat, sumL g (l.filter p) = sumL (fun a => if p a then g a else 0) l
 | [] => rfl
 | a :: l => by
  cases h : p a with
  | true => rw [List.filter_cons_of_pos h]; simp only [sumL, h, if_true, sumL_filter g p l]
  | false => rw [List.filter_cons_of_neg (by simp [h])]; simp only [sumL, h, sumL_filter g p l]; simp
theorem sumL_if (p : Nat → Bool) (c : Nat) : ∀ l : List Nat, sumL (fun a => if p a then c else 0) l = c * sumL (fun a => if p a then 1 else 0) l
 | [] => rfl
 | a :: l => by
  simp only [sumL]
  rw [sumL_if p c l, Nat.mul_add]
  cases p a <;> simp
theorem below_sum {l : List Ac} (h : Wf l) {n : Nat} (hn : n < l.length) (g : Nat → Nat) : sumL g (belowV l n) = g n + sumL (fun k => sumL g (belowV l k)) (kidsV l n) := by
 have e1 : ∀ k, sumL g (belowV l k) = sumL (fun j => if belN l k l.length j then g j else 0) (List.range l.length) := fun k => sumL_filter _ _ _
 rw [e1 n, sumL_congr (g := fun k => sumL (fun j => if belN l k l.length j then g j else 0) (List.range l.length)) (fun k _ => e1 k), sumL_swap]
 have e2 : sumL (fun j => if (j == n) then g j else 0) (List.range l.length) = g n := by
  have e3 : sumL (fun j => if (j == n) then g j else 0) (List.range l.length) = sumL (fun j => if (j == n) then g n else 0) (List.range l.length) := sumL_congr (fun j _ => by
   by_cases e : j = n
   ·subst e; rfl
   ·simp [e])
  rw [e3, sumL_if (fun j => j == n), sumL_one (p := fun j => j == n) (range_nodup _) (List.mem_range.2 hn) (by simp) (fun j _ hj => by simpa using hj), Nat.mul_one]
 have main : sumL (fun j => if belN l n l.length j then g j else 0) (List.range l.length) = sumL (fun j => if (j == n) then g j else 0) (List.range l.length) + sumL (fun b => sumL (fun a => if belN l a l.length b then g b else 0) (kidsV l n)) (List.range l.length) := by
  rw [← sumL_add]
  refine sumL_congr (fun j hj => ?_)
  have hjl := List.mem_range.1 hj
  have hkn : (kidsV l n).Nodup := (range_nodup _).filter _
  by_cases hb : Blw l n j
  ·rw [if_pos ((h.bel n hjl).2 hb)]
   by_cases e : j = n
   ·have z : sumL (fun a => if belN l a l.length j then g j else 0) (kidsV l n) = 0 := by
     rw [sumL_congr (g := fun _ => 0) (fun k hk => if_neg (fun x => (below_kid h hk hjl ((h.bel k hjl).1 x)).2 e)), sumL_zero]
    rw [z]
    simp [e]
   ·obtain ⟨k, hk, hbk⟩ := below_split h hjl hb e
    rw [sumL_if (fun a => belN l a l.length j), sumL_one (p := fun k => belN l k l.length j) hkn hk ((h.bel k hjl).2 hbk) (fun k' hk' hb' => below_one h hk' hk hn hjl ((h.bel k' hjl).1 hb') hbk)]
    simp [e]
  ·rw [if_neg (fun x => hb ((h.bel n hjl).1 x))]
   have z : sumL (fun a => if belN l a l.length j then g j else 0) (kidsV l n) = 0 := by
    rw [sumL_congr (g := fun _ => 0) (fun k hk => if_neg (fun x => hb (below_kid h hk hjl ((h.bel k hjl).1 x)).1)), sumL_zero]
   have : ¬ (j == n) = true := by
    intro e
    rw [beq_iff_eq] at e
    exact hb (e ▸ below_self _ j)
   rw [z, if_neg this]
 rw [main, e2]
def bwV (l : List Ac) (n : Nat) : List Nat := belowV (l.map plainAc) n
theorem bw_kids {l : List Ac} (h : Wu l) {n : Nat} (hn : n < l.length) (g : Nat → Nat) : sumL g (bwV l n) = g n + sumL (fun k => sumL g (bwV l k)) (kidsV l n) := by
 have := below_sum h (n := n) (by rwa [List.length_map]) g
 rwa [kids_plain] at this
theorem bw_len (l : List Ac) (n : Nat) : (bwV l n).length ≤ l.length := by
 unfold bwV belowV
 refine Nat.le_trans (List.length_filter_le _ _) ?_
 rw [List.length_range, List.length_map]
 exact Nat.le_refl _
theorem bw_lt {l : List Ac} {n j : Nat} (h : j ∈ bwV l n) : j < l.length := by
 unfold bwV belowV at h
 have := List.mem_range.1 (List.mem_filter.1 h).1
 rwa [List.length_map] at this
theorem us_nat {l : List Ac} (hu : UsOk l) (n : Nat) : usOf l n = ((usN l n : Nat) : Int) := by have := (us_word hu n).1; unfold usN; omega
theorem sm_bw {l : List Ac} (h : Wu l) (hu : UsOk l) : ∀ {f n d}, n < l.length → Dep l d n → 4 < d + f → sm l f n = narV (sumI (usOf l) (bwV l n))
 | 0, n, d, hn, hd, hf => by
  obtain ⟨e, h1, h2⟩ := h.deep hn
  have := dep_uniq hd h2
  omega
 | f + 1, n, d, hn, hd, hf => by
  have e0 : ∀ k, sumI (usOf l) (bwV l k) = ((sumL (usN l) (bwV l k) : Nat) : Int) := fun k => by
   rw [sumI_congr (g := fun j => ((usN l j : Nat) : Int)) (fun j _ => us_nat hu j), sumI_nat]
  have e1 : sm l (f + 1) n = sumTo (fun k => narV (sumI (usOf l) (bwV l k))) (usOf l n) (kidsV l n) := by
   show sumTo (sm l f) (usOf l n) (kidsV l n) = _
   exact sumTo_congr (fun k hk => sm_bw h hu (h.kid hk).2.1 (h.kid_dep hk hd) (by omega))
  have hg : ∀ k, 0 ≤ sumI (usOf l) (bwV l k) := fun k => sumI_nonneg (fun j _ => (us_word hu j).1)
  rw [e1, sumTo_nar (us_word hu n) (fun k _ => nar_nonneg (hg k)), nar_sum (us_word hu n).1 (fun k _ => hg k)]
  congr 1
  rw [e0 n, bw_kids h hn, sumI_congr (g := fun k => ((sumL (usN l) (bwV l k) : Nat) : Int)) (fun k _ => e0 k), sumI_nat, us_nat hu n]
  omega
theorem sum_bw {l : List Ac} (h : Wu l) (hu : UsOk l) {n : Nat} (hn : n < l.length) : sumV l n = narV (sumI (usOf l) (bwV l n)) := by
 obtain ⟨d, h1, h2⟩ := h.deep hn
 exact sm_bw h hu hn h2 (by omega)
theorem sum_to {l : List Ac} (h : Wu l) (hu : UsOk l) {n : Nat} (hn : n < l.length) : sumTo (usOf l) 0 (bwV l n) = sumV l n := by
 rw [sum_bw h hu hn, sumTo_nar ⟨by decide, by decide⟩ (fun k _ => (us_word hu k).1), Int.zero_add]

/- USAGES LAID OVER ACCOUNTS. -/
def withU (l : List Ac) (us : List Int) : List Ac := List.zipWith (fun a u => { a with us := u }) l us
theorem withU_len {l : List Ac} {us : List Int} (h : us.length = l.length) : (withU l us).length = l.length := by
 unfold withU
 rw [List.length_zipWith, h, Nat.min_self]
theorem withU_get {l : List Ac} {us : List Int} {n : Nat} {a : Ac} {u : Int} (ha : l[n]? = some a) (hu : us[n]? = some u) : (withU l us)[n]? = some { a with us := u } := by
 unfold withU
 rw [List.getElem?_zipWith, ha, hu]
theorem withU_alike : ∀ {l : List Ac} {us : List Int}, us.length = l.length → Alike l (withU l us)
 | [], [], _ => rfl
 | a :: l, u :: us, h => by
  have ih := withU_alike (l := l) (us := us) (by simpa using h)
  show plainAc a :: l.map plainAc = plainAc { a with us := u } :: (withU l us).map plainAc
  rw [ih]
  rfl
theorem withU_us {l : List Ac} {us : List Int} (h : us.length = l.length) {n : Nat} {u : Int} (hu : us[n]? = some u) : usOf (withU l us) n = u := by
 have hn : n < l.length := by rw [← h]; exact (List.getElem?_eq_some_iff.1 hu).1
 exact us_of (withU_get (List.getElem?_eq_getElem hn) hu)
theorem withU_ok {l : List Ac} {us : List Int} (h : us.length = l.length) (hw : ∀ u ∈ us, Word u) : UsOk (withU l us) := fun n a ha => by
 have hn : n < us.length := by
  have := (List.getElem?_eq_some_iff.1 ha).1
  rw [withU_len h] at this
  omega
 have hu : us[n]? = some us[n] := List.getElem?_eq_getElem hn
 have := withU_us h hu
 rw [us_of ha] at this
 rw [this]
 exact hw _ (List.getElem_mem hn)
theorem Alike.trans {l m k : List Ac} (h1 : Alike l m) (h2 : Alike m k) : Alike l k := Eq.trans h1 h2
theorem Alike.symm {l m : List Ac} (h1 : Alike l m) : Alike m l := Eq.symm h1
theorem Alike.bw {l m : List Ac} (h : Alike l m) (n : Nat) : bwV l n = bwV m n := by unfold bwV; rw [h]
theorem plain_alike (l : List Ac) : Alike l (l.map plainAc) := by
 show l.map plainAc = (l.map plainAc).map plainAc
 rw [List.map_map]
 exact List.map_congr_left (fun a _ => rfl)

/- THE UPPER SIDE. -/
def uH (l : List Ac) (w : Int) (n : Nat) : Int := if cl (sumV l n * 9223372036854775808) w ≤ 9223372036854775808 then cl (sumV l n * 9223372036854775808) w else 9223372036854775808
def ehZ (l : List Ac) (w : Int) : Nat → Nat → Int
 | 0, n => uH l w n
 | d + 1, n => uH l w n + cl ((ehZ l w d (up l n) - uH l w n) * shOf l n) (tog l (up l n))
def ehV (l : List Ac) (w : Int) (n : Nat) : Int := ehZ l w (dOf l n) n
theorem eh_root (l : List Ac) (w : Int) : ehV l w 0 = uH l w 0 := by unfold ehV; rw [dOf_zero]; rfl
theorem eh_up {l : List Ac} (h : Wu l) (w : Int) {n : Nat} (hn : n < l.length) (h0 : n ≠ 0) : ehV l w n = uH l w n + cl ((ehV l w (up l n) - uH l w n) * shOf l n) (tog l (up l n)) := by
 unfold ehV
 rw [h.dOf_up hn h0]
 rfl
theorem uH_word {l : List Ac} (hu : UsOk l) {w : Int} (hw : 0 < w) (n : Nat) : 0 ≤ uH l w n ∧ uH l w n ≤ 9223372036854775808 := by
 have hs := (sum_word hu n).1
 have := cl_nonneg (x := sumV l n * 9223372036854775808) (by omega) hw
 unfold uH
 split <;> omega
theorem uH_falls {l : List Ac} (h : Wu l) (hu : UsOk l) {w : Int} (hw : 0 < w) {n : Nat} (hn : n < l.length) (h0 : n ≠ 0) : uH l w n ≤ uH l w (up l n) := by
 have hs := sum_falls h hu hn h0
 have := cl_mono hw (Int.mul_le_mul_of_nonneg_right hs (show (0 : Int) ≤ 9223372036854775808 by omega))
 unfold uH
 split <;> split <;> omega
theorem cl_part {x s t : Int} (hx : 0 ≤ x) (hs : 1 ≤ s) (ht : s ≤ t) : 0 ≤ cl (x * s) t ∧ cl (x * s) t ≤ x := by
 have htp : 0 < t := by omega
 refine ⟨cl_nonneg (Int.mul_nonneg hx (by omega)) htp, ?_⟩
 refine Int.le_trans (cl_mono htp (Int.mul_le_mul_of_nonneg_left ht hx)) ?_
 unfold cl
 have : (x * t + (t - 1)) / t = x := by
  rw [Int.add_comm, Int.add_mul_ediv_right _ _ (by omega), Int.ediv_eq_zero_of_lt (by omega) (by omega)]
  omega
 omega
theorem eh_bounds {l : List Ac} (h : Wu l) (hu : UsOk l) {w : Int} (hw : 0 < w) : ∀ {d n}, n < l.length → Dep l d n → uH l w n ≤ ehV l w n ∧ ehV l w n ≤ 9223372036854775808
 | 0, n, hn, hd => by
  obtain rfl : n = 0 := hd
  rw [eh_root]
  exact ⟨Int.le_refl _, (uH_word hu hw 0).2⟩
 | d + 1, n, hn, hd => by
  obtain ⟨i1, i2⟩ := eh_bounds h hu hw (h.up_lt hn) hd.2
  have h1 := uH_falls h hu hw hn hd.1
  obtain ⟨s1, s2⟩ := sh_tog h hn hd.1
  obtain ⟨p1, p2⟩ := cl_part (x := ehV l w (up l n) - uH l w n) (by omega) s1 s2
  rw [eh_up h w hn hd.1]
  omega
theorem eh_word {l : List Ac} (h : Wu l) (hu : UsOk l) {w : Int} (hw : 0 < w) {n : Nat} (hn : n < l.length) : 0 ≤ uH l w n ∧ uH l w n ≤ ehV l w n ∧ ehV l w n ≤ 9223372036854775808 := by
 obtain ⟨d, _, hd⟩ := h.deep hn
 have := eh_bounds h hu hw hn hd
 exact ⟨(uH_word hu hw n).1, this.1, this.2⟩
theorem eh_falls {l : List Ac} (h : Wu l) (hu : UsOk l) {w : Int} (hw : 0 < w) {n : Nat} (hn : n < l.length) (h0 : n ≠ 0) : uH l w n ≤ ehV l w (up l n) := by
 have h1 := uH_falls h hu hw hn h0
 have h2 := eh_word h hu hw (h.up_lt hn)
 omega
def rawD (e n d : Int) : Int := e * atD n d / 2147483648 / atN n d
def pdV (e n d : Int) : Int := narV (rawD e n d)
theorem cl_ge {x b : Int} (hb : 0 < b) : x ≤ cl x b * b ∧ x / b ≤ cl x b := by
 unfold cl
 have e := Int.lt_mul_ediv_self_add (x := x + (b - 1)) hb
 rw [Int.mul_comm] at e
 exact ⟨by omega, Int.ediv_le_ediv hb (by omega)⟩
theorem cl_lt {x b : Int} (hb : 0 < b) : cl x b * b < x + b := by
 unfold cl
 have e := Int.mul_ediv_self_le (x := x + (b - 1)) (k := b) (by omega)
 rw [Int.mul_comm] at e
 omega
theorem cl_of {x b q : Int} (hb : 0 < b) (h : x ≤ q * b) : cl x b ≤ q := by
 unfold cl
 have : x + (b - 1) < (q + 1) * b := by rw [Int.add_mul]; omega
 have := Int.ediv_lt_of_lt_mul hb this
 omega
theorem cl_add {x y b : Int} (hb : 0 < b) : cl (x + y) b ≤ cl x b + cl y b := by
 refine cl_of hb ?_
 rw [Int.add_mul]
 have := (cl_ge (x := x) hb).1
 have := (cl_ge (x := y) hb).1
 omega
theorem raw_le {e f n d : Int} (hn : 1 ≤ n) (hd : n ≤ d) (h : d < 18446744073709551616) (hef : e ≤ f) : rawD e n d ≤ rawP f n d := by
 obtain ⟨h1, h2, _⟩ := at_pos hn hd h
 unfold rawD rawP
 have a1 := Int.mul_le_mul_of_nonneg_right hef (show 0 ≤ atD n d by omega)
 have a2 : e * atD n d / 2147483648 ≤ cl (f * atD n d) 2147483648 := Int.le_trans (Int.ediv_le_ediv (by omega) a1) (cl_ge (by omega)).2
 exact Int.le_trans (Int.ediv_le_ediv (by omega) a2) (cl_ge (by omega)).2
theorem rawD_nonneg {e n d : Int} (he : 0 ≤ e) (hn : 1 ≤ n) (hd : n ≤ d) (h : d < 18446744073709551616) : 0 ≤ rawD e n d := by
 obtain ⟨h1, h2, _⟩ := at_pos hn hd h
 exact Int.ediv_nonneg (Int.ediv_nonneg (Int.mul_nonneg he (by omega)) (by omega)) (by omega)
theorem pd_word {e n d : Int} (he : 0 ≤ e) (hn : 1 ≤ n) (hd : n ≤ d) (h : d < 18446744073709551616) : Word (pdV e n d) := nar_word (rawD_nonneg he hn hd h)

/- THE TWO SIDES. -/
structure Side (l m : List Ac) : Prop where
 alike : Alike l m
 wu : Wu l
 ul : UsOk l
 um : UsOk m
 le : ∀ n, usOf l n ≤ usOf m n
section
variable {l m : List Ac} {fl : Int} {n : Nat}
theorem Side.wm (s : Side l m) : Wu m := s.alike.wu s.wu
theorem Side.w (s : Side l m) : wV l fl ≤ wV m fl := by
 have := s.alike.sum s.le 0
 unfold wV
 split <;> split <;> omega
theorem Side.lt (s : Side l m) (hn : n < l.length) : n < m.length := by rw [← s.alike.len]; exact hn
theorem w_ge (l : List Ac) (fl : Int) : fl ≤ wV l fl := by unfold wV; split <;> omega
theorem Side.sumw (s : Side l m) (hn : n < l.length) : sumV l n ≤ wV m fl := Int.le_trans (s.alike.sum s.le n) (sum_w s.wm s.um fl (s.lt hn))
theorem Side.u (s : Side l m) (hf : 0 < fl) (hn : n < l.length) : uV l (wV m fl) n ≤ uH m (wV l fl) n := by
 have hw := w_ge l fl
 have hwm := w_ge m fl
 have h1 := s.alike.sum s.le n
 have h2 := s.sumw (fl := fl) hn
 have h3 := s.w (fl := fl)
 have h4 := (sum_word s.ul n).1
 have h5 := (sum_word s.um n).1
 have a1 : uV l (wV m fl) n ≤ 9223372036854775808 := by
  unfold uV
  refine Int.le_trans (Int.ediv_le_ediv (by omega) (Int.mul_le_mul_of_nonneg_right h2 (by omega))) ?_
  rw [Int.mul_comm, Int.mul_ediv_cancel _ (by omega)]
  exact Int.le_refl _
 have a2 : uV l (wV m fl) n ≤ cl (sumV m n * 9223372036854775808) (wV l fl) := by
  unfold uV
  refine Int.le_trans ?_ (cl_ge (by omega)).2
  refine (Int.le_ediv_iff_mul_le (by omega)).2 ?_
  have b1 := Int.mul_ediv_self_le (x := sumV l n * 9223372036854775808) (k := wV m fl) (by omega)
  have b0 : 0 ≤ sumV l n * 9223372036854775808 / wV m fl := Int.ediv_nonneg (by omega) (by omega)
  have b2 := Int.mul_le_mul_of_nonneg_left h3 b0
  rw [Int.mul_comm] at b1
  omega
 unfold uH
 split <;> omega
theorem Side.ef (s : Side l m) (hf : 0 < fl) : ∀ {d n}, n < l.length → Dep l d n → efV l (wV m fl) n ≤ ehV m (wV l fl) n
 | 0, n, hn, hd => by
  obtain rfl : n = 0 := hd
  rw [ef_root, eh_root]
  exact s.u hf hn
 | d + 1, n, hn, hd => by
  have ih := s.ef hf (s.wu.up_lt hn) hd.2
  obtain ⟨s1, s2⟩ := sh_tog s.wu hn hd.1
  rw [ef_up s.wu _ hn hd.1, eh_up s.wm _ (s.lt hn) hd.1, ← s.alike.sh, ← s.alike.up, ← s.alike.tog]
  refine Int.le_trans (part_mono s1 s2 (s.u hf hn) ih) ?_
  have := (cl_ge (x := (ehV m (wV l fl) (up l n) - uH m (wV l fl) n) * shOf l n) (b := tog l (up l n)) (by omega)).2
  omega
theorem Side.wok (s : Side l m) (hfw : Word fl) : WOk l (wV m fl) := ⟨w_word s.um hfw, fun _ hn => s.sumw hn⟩
def xLo (l m : List Ac) (fl : Int) (n : Nat) : Nat := (pdV (efV l (wV m fl) n) (numV l n) (denV l n)).toNat
def xHi (l m : List Ac) (fl : Int) (n : Nat) : Nat := (powV (ehV m (wV l fl) n) (numV l n) (denV l n)).toNat
theorem Side.x (s : Side l m) (hf : 0 < fl) (hn : n < l.length) : xLo l m fl n ≤ xHi l m fl n := by
 obtain ⟨d, _, hd⟩ := s.wu.deep hn
 obtain ⟨d1, d2, d3, d4⟩ := den_word s.wu hn
 have := nar_mono (raw_le d1 d2 d4 (s.ef hf hn hd))
 unfold xLo xHi pdV powV
 omega
def fLo (l m : List Ac) (fl : Int) (n : Nat) : Nat := halfN (xHi l m fl n)
def fHi (l m : List Ac) (fl : Int) (n : Nat) : Nat := uppN (xLo l m fl n)
theorem Side.f (s : Side l m) (hf : 0 < fl) (hn : n < l.length) : fLo l m fl n ≤ fHi l m fl n :=
 Nat.le_trans (half_falls (s.x hf hn)) (half_upper _)
end
end Go.Proofs.YtdkbmligaodpmaaGreatDoor.Tr
namespace Go.Proofs.YtdkbmligaodpmaaGreatDoor.Ld

theorem sq_mean {a b : Nat} (h : b + 1 = a) : 4 * (a * b) ≤ (2 * a - 1) * (2 * a - 1) := by
 subst h
 rw [show 2 * (b + 1) - 1 = 2 * b + 1 by omega]
 have e1 : (b + 1) * b = b * b + b := by rw [Nat.add_mul]; omega
 have e2 : (2 * b + 1) * (2 * b + 1) = 4 * (b * b) + 4 * b + 1 := by
  rw [Nat.mul_add, Nat.add_mul, Nat.mul_one, Nat.one_mul, Nat.mul_mul_mul_comm]; omega
 rw [e1, e2]
 omega
theorem chord (k : Nat) : ∀ e, e ≤ 2 ^ k → (2 * 2 ^ k) ^ 2 ^ k ≤ 2 ^ e * (2 * 2 ^ k - e) ^ 2 ^ k := by
 induction k with
 | zero =>
  intro e he
  have : e = 0 ∨ e = 1 := by simp at he; omega
  rcases this with rfl | rfl <;> decide
 | succ k ih =>
  intro e he
  have hN : 2 ^ (k + 1) = 2 * 2 ^ k := by rw [Nat.pow_succ, Nat.mul_comm]
  rw [hN] at he ⊢
  generalize 2 ^ k = N at *
  have hsq : ∀ x : Nat, x ^ (2 * N) = (x * x) ^ N := fun x => by rw [Nat.pow_mul, Nat.pow_two]
  have dbl : ∀ x : Nat, (2 * x) ^ (2 * N) = 4 ^ N * (x ^ N * x ^ N) := fun x => by
   rw [hsq, Nat.mul_mul_mul_comm, Nat.mul_pow (2 * 2), Nat.mul_pow x]
  rcases Nat.mod_two_eq_zero_or_one e with h2 | h2
  ·obtain ⟨d, rfl⟩ : ∃ d, e = 2 * d := ⟨e / 2, by omega⟩
   have h := ih d (by omega)
   have e1 : 2 * (2 * N) - 2 * d = 2 * (2 * N - d) := by omega
   rw [e1, dbl, dbl, Nat.mul_left_comm (2 ^ (2 * d))]
   refine Nat.mul_le_mul_left _ ?_
   rw [Nat.two_mul d, Nat.pow_add 2 d d, Nat.mul_mul_mul_comm]
   exact Nat.mul_le_mul h h
  ·obtain ⟨d, rfl⟩ : ∃ d, e = 2 * d + 1 := ⟨e / 2, by omega⟩
   have ha := ih d (by omega)
   have hb := ih (d + 1) (by omega)
   have hm := sq_mean (a := 2 * N - d) (b := 2 * N - (d + 1)) (by omega)
   have e1 : 2 * (2 * N) - (2 * d + 1) = 2 * (2 * N - d) - 1 := by omega
   rw [e1, dbl, hsq]
   have h3 := Nat.pow_le_pow_left hm N
   rw [Nat.mul_pow, Nat.mul_pow (2 * N - d)] at h3
   have h4 := Nat.mul_le_mul ha hb
   rw [Nat.mul_mul_mul_comm (2 ^ d), ← Nat.pow_add 2 d (d + 1), show d + (d + 1) = 2 * d + 1 by omega] at h4
   refine Nat.le_trans ?_ (Nat.mul_le_mul_left _ h3)
   rw [Nat.mul_left_comm (2 ^ (2 * d + 1))]
   exact Nat.mul_le_mul_left _ h4
theorem half_chord {e : Nat} (he : e ≤ 4294967296) : halfN e * 8589934592 ≤ 9223372036854775808 * (8589934592 - e) := by
 have h1 := half_low e (K := 2 ^ 32) rfl
 have h2 := chord 32 e he
 have hK : (2 : Nat) ^ 32 ≠ 0 := by decide
 rw [show 2 * 2 ^ 32 = 8589934592 from by decide] at h2
 generalize 2 ^ 32 = K at *
 refine le_of_pow hK ?_
 rw [Nat.mul_pow, Nat.mul_pow]
 calc halfN e ^ K * 8589934592 ^ K ≤ halfN e ^ K * (2 ^ e * (8589934592 - e) ^ K) := Nat.mul_le_mul_left _ h2
  _ = halfN e ^ K * 2 ^ e * (8589934592 - e) ^ K := by rw [Nat.mul_assoc]
  _ ≤ 9223372036854775808 ^ K * (8589934592 - e) ^ K := Nat.mul_le_mul_right _ h1
theorem half_below {e : Nat} (he : 4294967296 ≤ e) : halfN e ≤ 4611686018427387904 := by
 have h := half_falls he
 have h0 : halfN 4294967296 = 4611686018427387904 := by have := half_whole (n := 1) (by decide); simpa using this
 omega
def kN (e : Nat) : Nat := if (8589934592 + e - 1) / e < 2 then 2 else (8589934592 + e - 1) / e
theorem k_two (e : Nat) : 2 ≤ kN e := by unfold kN; split <;> omega
theorem k_mul {e : Nat} (he : 0 < e) : 8589934592 ≤ kN e * e := by
 have h := Nat.div_add_mod (8589934592 + e - 1) e
 have hm := Nat.mod_lt (8589934592 + e - 1) he
 have h2 : 8589934592 ≤ (8589934592 + e - 1) / e * e := by rw [Nat.mul_comm]; omega
 have h3 : (8589934592 + e - 1) / e ≤ kN e := by unfold kN; split <;> omega
 exact Nat.le_trans h2 (Nat.mul_le_mul_right _ h3)
theorem k_room {e : Nat} (he : 0 < e) : 9223372036854775808 + kN e * halfN e ≤ kN e * 9223372036854775808 := by
 by_cases h : e ≤ 4294967296
 ·have h1 := half_chord h
  have h2 := k_mul he
  have h7 := k_two e
  have h3 : kN e * (halfN e * 8589934592) ≤ kN e * (9223372036854775808 * (8589934592 - e)) := Nat.mul_le_mul_left _ h1
  have h4 : kN e * (9223372036854775808 * (8589934592 - e)) = 9223372036854775808 * (kN e * 8589934592 - kN e * e) := by
   rw [Nat.mul_left_comm, Nat.mul_sub]
  have h5 : kN e * (halfN e * 8589934592) = kN e * halfN e * 8589934592 := by rw [Nat.mul_assoc]
  rw [h4, h5] at h3
  generalize kN e * halfN e = x at *
  generalize kN e * e = y at *
  generalize kN e = k at *
  have h6 : 9223372036854775808 * (k * 8589934592 - y) ≤ 9223372036854775808 * (k * 8589934592 - 8589934592) := Nat.mul_le_mul_left _ (by omega)
  omega
 ·have h1 := half_below (e := e) (by omega)
  have h2 := k_two e
  have h3 : kN e * halfN e ≤ kN e * 4611686018427387904 := Nat.mul_le_mul_left _ h1
  generalize kN e * halfN e = x at *
  omega
end Go.Proofs.YtdkbmligaodpmaaGreatDoor.Ld
namespace Go.Proofs.YtdkbmligaodpmaaGreatDoor.Tr
open Wd Ld Cg

structure Bd where
 lo : Int
 hi : Int
structure Bd.Ok (b : Bd) : Prop where
 b0 : 0 ≤ b.lo
 b1 : b.lo ≤ b.hi
 b2 : b.hi ≤ top
def chB (b : Bd) (n : Int) : Bd := ⟨Wd.addV b.lo (n * 18446744073709551616), Wd.addV b.hi (n * 18446744073709551616)⟩
def fdB (f s : Int) (b : Bd) : Bd := ⟨b.lo * f / 9223372036854775808, cl (b.hi * s) 9223372036854775808⟩
def zeB : Bd := ⟨0, 0⟩
theorem ze_ok : zeB.Ok := ⟨by decide, by decide, by decide⟩
theorem Bd.Ok.lon {b : Bd} (h : b.Ok) : Num b.lo := ⟨h.b0, Int.le_trans h.b1 h.b2⟩
theorem Bd.Ok.hin {b : Bd} (h : b.Ok) : Num b.hi := ⟨Int.le_trans h.b0 h.b1, h.b2⟩
theorem addV_cases (x m : Int) : (x + m ≤ top ∧ Wd.addV x m = x + m) ∨ (top < x + m ∧ Wd.addV x m = top) := by
 by_cases h : x + m ≤ top
 ·exact .inl ⟨h, if_pos h⟩
 ·exact .inr ⟨by omega, if_neg h⟩
theorem ch_ok {b : Bd} (h : b.Ok) {n : Int} (hn : 0 ≤ n) : (chB b n).Ok := by
 have h0 := h.b0; have h1 := h.b1; have h2 := h.b2
 have e : (0 : Int) ≤ top := by decide
 have a1 := addV_cases b.lo (n * 18446744073709551616)
 have a2 := addV_cases b.hi (n * 18446744073709551616)
 refine ⟨?_, ?_, ?_⟩ <;> simp only [chB] <;> omega
theorem fd_ok {b : Bd} (h : b.Ok) {f s : Int} (hf : 0 ≤ f) (hfs : f ≤ s) (hs : s ≤ 9223372036854775808) : (fdB f s b).Ok := by
 have h0 := h.b0; have h1 := h.b1; have h2 := h.b2
 have m1 : b.lo * f ≤ b.hi * s := Int.mul_le_mul h1 hfs hf (by omega)
 have m0 : 0 ≤ b.lo * f := Int.mul_nonneg h0 hf
 refine ⟨Int.ediv_nonneg m0 (by omega), ?_, ?_⟩
 ·exact Int.le_trans (Int.ediv_le_ediv (by omega) m1) (cl_ge (by omega)).2
 ·refine Int.le_trans (cl_of (q := b.hi) (by omega) ?_) h2
  exact Int.mul_le_mul_of_nonneg_left hs (by omega)
def loS (b : Bd) : Int := narV (b.lo / 4294967296)
def hiS (b : Bd) : Int := narV (cl b.hi 4294967296)
theorem lo_short {b : Bd} (h : b.Ok) : Word (loS b) := nar_word (Int.ediv_nonneg h.b0 (by omega))
theorem hi_short {b : Bd} (h : b.Ok) : Word (hiS b) := nar_word (cl_nonneg (Int.le_trans h.b0 h.b1) (by omega))
theorem short_le {b : Bd} (h : b.Ok) : loS b ≤ hiS b := nar_mono (Int.le_trans (Int.ediv_le_ediv (by omega) h.b1) (cl_ge (by omega)).2)

/- THE TICKS. -/
def pkV (c n : Int) : Int := (if c < 0 then -(c + 1) else c) % n
theorem pk_box {c n : Int} (hn : 0 < n) : 0 ≤ pkV c n ∧ pkV c n < n := ⟨Int.emod_nonneg _ (by omega), Int.emod_lt_of_pos _ hn⟩
def chU (u n : Int) : Int := narV (u + n * 4294967296)
def fdU (f u : Int) : Int := u * f / 9223372036854775808
structure Tk where
 left : Int
 us : List Int
 bs : List Bd
def acV (many : Nat) (a : Int) : Nat := 1 + (pkV a (many - 1)).toNat
def stK (many : Nat) (s : Tk) (p : Int × Int) : Tk :=
 if many ≤ 1 then s else
  { left := s.left - pkV p.2 (s.left + 1), us := s.us.set (acV many p.1) (chU (s.us.getD (acV many p.1) 0) (pkV p.2 (s.left + 1))), bs := s.bs.set (acV many p.1) (chB (s.bs.getD (acV many p.1) zeB) (pkV p.2 (s.left + 1))) }
def inA (many : Nat) (ps : List (Int × Int)) (s : Tk) : Nat → Tk
 | 0 => s
 | k + 1 => stK many (inA many ps s k) (ps.getD k (0, 0))
def frs (c : Cf) : Int := ((halfN (eZ c).toNat : Nat) : Int)
def snd (c : Cf) : Int := ((uppN (eZ c).toNat : Nat) : Int)
def fdT (c : Cf) (s : Tk) : Tk := { s with us := s.us.map (fdU (frs c)), bs := s.bs.map (fdB (frs c) (snd c)) }
def tkV (c : Cf) (many : Nat) (t : Nat) (ps : List (Int × Int)) (s : Tk) : Tk :=
 if ((t : Int) + 1) % c.period = 0 then fdT c (inA many ps { s with left := c.nodes } ps.length) else inA many ps { s with left := c.nodes } ps.length
def tkA (c : Cf) (many : Nat) (h : List (List (Int × Int))) : Nat → Tk
 | 0 => { left := c.nodes, us := List.replicate many 0, bs := List.replicate many zeB }
 | t + 1 => tkV c many t (h.getD t []) (tkA c many h t)
structure Nr (K B u : Int) (b : Bd) : Prop where
 u0 : 0 ≤ u
 ub : u ≤ B
 lo : u * 4294967296 ≤ b.lo
 hi : b.lo ≤ u * 4294967296 + K * 4294967296
 ok : b.Ok
theorem Nr.more {K B B' u : Int} {b : Bd} (h : Nr K B u b) (hb : B ≤ B') : Nr K B' u b := ⟨h.u0, Int.le_trans h.ub hb, h.lo, h.hi, h.ok⟩
theorem Nr.charge {K B u n : Int} {b : Bd} (h : Nr K B u b) (hK : K ≤ 4294967296) (hB : B + n * 4294967296 ≤ 9223372036854775808) (hn : 0 ≤ n) : Nr K (B + n * 4294967296) (chU u n) (chB b n) := by
 have h0 := h.u0; have h1 := h.ub; have h2 := h.lo; have h3 := h.hi
 have e1 : chU u n = u + n * 4294967296 := nar_small (by omega)
 have e2 : (chB b n).lo = b.lo + n * 18446744073709551616 := if_pos (by unfold top; omega)
 refine ⟨by omega, by omega, by omega, by omega, ch_ok h.ok hn⟩
theorem gap_core {u lo f K D E : Int} (hD : 0 < D) (hE : 0 ≤ E) (hf : 0 ≤ f) (hr : D + K * f ≤ K * D) (h1 : u * E ≤ lo) (h2 : lo ≤ u * E + K * E) : u * f / D * E ≤ lo * f / D ∧ lo * f / D ≤ u * f / D * E + K * E := by
 have a1 := Int.mul_ediv_self_le (x := u * f) (k := D) (by omega)
 have a2 := Int.lt_mul_ediv_self_add (x := u * f) hD
 have a3 : u * E * f ≤ lo * f := Int.mul_le_mul_of_nonneg_right h1 hf
 have a4 : lo * f ≤ (u * E + K * E) * f := Int.mul_le_mul_of_nonneg_right h2 hf
 have e1 : u * E * f = u * f * E := by rw [Int.mul_assoc, Int.mul_comm E f, ← Int.mul_assoc]
 have e2 : (u * E + K * E) * f = u * f * E + K * f * E := by
  rw [Int.add_mul, e1, Int.mul_assoc K E f, Int.mul_comm E f, ← Int.mul_assoc]
 generalize u * f / D = q at *
 constructor
 ·refine (Int.le_ediv_iff_mul_le hD).2 ?_
  have b1 := Int.mul_le_mul_of_nonneg_right a1 hE
  have b2 : q * E * D = D * q * E := by rw [Int.mul_comm (q * E) D, ← Int.mul_assoc]
  omega
 ·have b1 : u * f * E ≤ (D * q + D) * E := Int.mul_le_mul_of_nonneg_right (by omega) hE
  have b3 : (D + K * f) * E ≤ K * D * E := Int.mul_le_mul_of_nonneg_right hr hE
  have b4 : lo * f ≤ (q * E + K * E) * D := by
   have c1 : (D * q + D) * E = D * q * E + D * E := Int.add_mul _ _ _
   have c2 : (D + K * f) * E = D * E + K * f * E := Int.add_mul _ _ _
   have c3 : (q * E + K * E) * D = D * q * E + K * D * E := by
    rw [Int.add_mul, Int.mul_comm (q * E) D, ← Int.mul_assoc, Int.mul_assoc K E D, Int.mul_comm E D, ← Int.mul_assoc]
   omega
  have b5 := Int.ediv_le_ediv hD b4
  rwa [Int.mul_ediv_cancel _ (by omega)] at b5
theorem Nr.fade {K B B' u f s : Int} {b : Bd} (h : Nr K B u b) (hr : 9223372036854775808 + K * f ≤ K * 9223372036854775808) (hf : 0 ≤ f) (hfs : f ≤ s) (hs : s ≤ 9223372036854775808) (hB : B * f ≤ B' * 9223372036854775808) :
  Nr K B' (fdU f u) (fdB f s b) := by
 have h0 := h.u0
 obtain ⟨g1, g2⟩ := gap_core (E := 4294967296) (D := 9223372036854775808) (by omega) (by omega) hf hr h.lo h.hi
 refine ⟨Int.ediv_nonneg (Int.mul_nonneg h0 hf) (by omega), ?_, g1, g2, fd_ok h.ok hf hfs hs⟩
 have := Int.ediv_le_ediv (c := 9223372036854775808) (by omega) (Int.le_trans (Int.mul_le_mul_of_nonneg_right h.ub hf) hB)
 rwa [Int.mul_ediv_cancel _ (by omega)] at this
structure All (K B : Int) (many : Nat) (s : Tk) : Prop where
 lu : s.us.length = many
 lb : s.bs.length = many
 nr : ∀ (a : Nat) (u : Int) (b : Bd), s.us[a]? = some u → s.bs[a]? = some b → Nr K B u b
theorem All.more {K B B' : Int} {many : Nat} {s : Tk} (h : All K B many s) (hb : B ≤ B') : All K B' many s := ⟨h.lu, h.lb, fun a u b h1 h2 => (h.nr a u b h1 h2).more hb⟩
theorem ac_box {many : Nat} {a : Int} (hm : ¬ many ≤ 1) : 1 ≤ acV many a ∧ acV many a < many := by
 have := pk_box (c := a) (n := (many : Int) - 1) (by omega)
 unfold acV
 omega
theorem All.step {K B N : Int} {many : Nat} {s : Tk} (h : All K (B + (N - s.left) * 4294967296) many s) (hl : 0 ≤ s.left) (hK : K ≤ 4294967296) (hB : B + N * 4294967296 ≤ 9223372036854775808) (p : Int × Int) :
  All K (B + (N - (stK many s p).left) * 4294967296) many (stK many s p) ∧ 0 ≤ (stK many s p).left ∧ (stK many s p).left ≤ s.left := by
 unfold stK
 by_cases hm : many ≤ 1
 ·rw [if_pos hm]; exact ⟨h, hl, Int.le_refl _⟩
 ·rw [if_neg hm]
  obtain ⟨p0, p1⟩ := pk_box (c := p.2) (n := s.left + 1) (by omega)
  obtain ⟨a0, a1⟩ := ac_box (a := p.1) hm
  generalize pkV p.2 (s.left + 1) = n at *
  generalize acV many p.1 = a at *
  refine ⟨⟨by simp [h.lu], by simp [h.lb], fun j u b hu hb => ?_⟩, by simp only; omega, by simp only; omega⟩
  simp only at hu hb ⊢
  have hau : a < s.us.length := by rw [h.lu]; exact a1
  have hab : a < s.bs.length := by rw [h.lb]; exact a1
  by_cases e : j = a
  ·subst e
   rw [List.getElem?_set_self hau] at hu
   rw [List.getElem?_set_self hab] at hb
   obtain rfl := Option.some.inj hu
   obtain rfl := Option.some.inj hb
   rw [List.getD_eq_getElem?_getD, List.getD_eq_getElem?_getD, List.getElem?_eq_getElem hau, List.getElem?_eq_getElem hab]
   have := (h.nr j _ _ (List.getElem?_eq_getElem hau) (List.getElem?_eq_getElem hab)).charge (n := n) hK (by omega) p0
   refine this.more ?_
   omega
  ·rw [List.getElem?_set_ne (fun x => e x.symm)] at hu hb
   exact (h.nr j u b hu hb).more (by omega)
theorem All.inner {K B N : Int} {many : Nat} {s : Tk} (h : All K B many s) (hs : s.left = N) (hN : 0 ≤ N) (hK : K ≤ 4294967296) (hB : B + N * 4294967296 ≤ 9223372036854775808) (ps : List (Int × Int)) :
  ∀ k, All K (B + (N - (inA many ps s k).left) * 4294967296) many (inA many ps s k) ∧ 0 ≤ (inA many ps s k).left ∧ (inA many ps s k).left ≤ N
 | 0 => ⟨h.more (by simp only [inA]; omega), by simp only [inA]; omega, by simp only [inA]; omega⟩
 | k + 1 => by
  obtain ⟨i1, i2, i3⟩ := All.inner h hs hN hK hB ps k
  obtain ⟨j1, j2, j3⟩ := i1.step i2 hK hB (ps.getD k (0, 0))
  exact ⟨j1, j2, Int.le_trans j3 i3⟩
theorem All.fade {K B B' : Int} {c : Cf} {many : Nat} {s : Tk} (h : All K B many s) (hr : 9223372036854775808 + K * frs c ≤ K * 9223372036854775808) (hB : B * frs c ≤ B' * 9223372036854775808) : All K B' many (fdT c s) := by
 have hf : 0 ≤ frs c := Int.natCast_nonneg _
 have hfs : frs c ≤ snd c := Int.ofNat_le.2 (half_upper _)
 have hs : snd c ≤ 9223372036854775808 := by have := upp_top (eZ c).toNat; unfold snd; omega
 refine ⟨by simp [fdT, h.lu], by simp [fdT, h.lb], fun a u b hu hb => ?_⟩
 simp only [fdT, List.getElem?_map] at hu hb
 obtain ⟨u0, hu0, rfl⟩ := Option.map_eq_some_iff.1 hu
 obtain ⟨b0, hb0, rfl⟩ := Option.map_eq_some_iff.1 hb
 exact (h.nr a u0 b0 hu0 hb0).fade hr hf hfs hs hB
theorem k_nat {c : Cf} (r : Rng c) : kZ c = ((kN (eZ c).toNat : Nat) : Int) := by
 have he := e_box r
 obtain ⟨e, h⟩ := Int.eq_ofNat_of_zero_le (show 0 ≤ eZ c by omega)
 unfold kZ kN upZ
 rw [h] at he ⊢
 rw [Int.toNat_natCast]
 have e1 : ((8589934592 : Int) + (e : Int) - 1) / (e : Int) = (((8589934592 + e - 1) / e : Nat) : Int) := by
  rw [Int.natCast_ediv]
  congr 1
  omega
 rw [e1]
 split <;> split <;> omega
theorem k_roomZ {c : Cf} (r : Rng c) : 9223372036854775808 + kZ c * frs c ≤ kZ c * 9223372036854775808 := by
 have he := e_box r
 have h := k_room (e := (eZ c).toNat) (by omega)
 rw [k_nat r]
 unfold frs
 have := Int.ofNat_le.2 h
 rw [Int.natCast_add, Int.natCast_mul, Int.natCast_mul] at this
 exact this
def bdT (c : Cf) (t : Nat) : Int := ((kZ c - 1) * cZ c + (t : Int) % c.period * c.nodes) * 4294967296
theorem All.tick {c : Cf} (r : Rng c) (hm : mZ c ≤ 2147483648) {many t : Nat} {s : Tk} (h : All (kZ c) (bdT c t) many s) (ps : List (Int × Int)) : All (kZ c) (bdT c (t + 1)) many (tkV c many t ps s) := by
 have hk := k_box r
 have hc := c_box r
 have hp0 := r.p0
 have hn0 := r.n0
 have hmb := Int.emod_nonneg (t : Int) (show c.period ≠ 0 by omega)
 have hml := Int.emod_lt_of_pos (t : Int) (show 0 < c.period by omega)
 have hC : (t : Int) % c.period * c.nodes + c.nodes ≤ cZ c := by
  have : ((t : Int) % c.period + 1) * c.nodes ≤ c.period * c.nodes := Int.mul_le_mul_of_nonneg_right (by omega) (by omega)
  rw [Int.add_mul, Int.mul_comm c.period] at this
  unfold cZ
  omega
 have hM : (kZ c - 1) * cZ c + cZ c = mZ c := by
  unfold mZ
  rw [Int.sub_mul, Int.mul_comm (kZ c)]
  omega
 have hB : bdT c t + c.nodes * 4294967296 ≤ 9223372036854775808 := by unfold bdT; omega
 have h0 : All (kZ c) (bdT c t) many { s with left := c.nodes } := ⟨h.lu, h.lb, h.nr⟩
 obtain ⟨i1, i2, i3⟩ := h0.inner (N := c.nodes) rfl (by omega) (by omega) hB ps ps.length
 have i4 : All (kZ c) (bdT c t + c.nodes * 4294967296) many (inA many ps { s with left := c.nodes } ps.length) := i1.more (by omega)
 unfold tkV
 split
 ·rename_i hf
  have hr := k_roomZ r
  refine i4.fade hr ?_
  have e1 : ((t + 1 : Nat) : Int) % c.period = 0 := by rw [Int.natCast_add]; exact hf
  have e2 : bdT c (t + 1) = (kZ c - 1) * cZ c * 4294967296 := by unfold bdT; rw [e1, Int.zero_mul, Int.add_zero]
  rw [e2]
  have e3 : bdT c t + c.nodes * 4294967296 ≤ mZ c * 4294967296 := by unfold bdT; omega
  have hf0 : 0 ≤ frs c := Int.natCast_nonneg _
  refine Int.le_trans (Int.mul_le_mul_of_nonneg_right e3 hf0) ?_
  have e4 : kZ c * frs c ≤ (kZ c - 1) * 9223372036854775808 := by omega
  have e5 := Int.mul_le_mul_of_nonneg_left e4 (show 0 ≤ cZ c * 4294967296 by omega)
  have e6 : mZ c * 4294967296 * frs c = cZ c * 4294967296 * (kZ c * frs c) := by
   unfold mZ
   rw [Int.mul_assoc (cZ c) (kZ c), Int.mul_comm (kZ c) 4294967296, ← Int.mul_assoc, Int.mul_assoc]
  have e7 : cZ c * 4294967296 * ((kZ c - 1) * 9223372036854775808) = (kZ c - 1) * cZ c * 4294967296 * 9223372036854775808 := by
   rw [← Int.mul_assoc, Int.mul_comm (cZ c * 4294967296), ← Int.mul_assoc]
  omega
 ·rename_i hf
  refine i4.more ?_
  have e1 : ((t + 1 : Nat) : Int) % c.period = (t : Int) % c.period + 1 := by
   rw [Int.natCast_add]
   have e2 := Int.mul_ediv_add_emod (t : Int) c.period
   have hlt : (t : Int) % c.period + 1 < c.period := by
    refine Int.lt_of_not_ge fun e => hf ?_
    have e3 : (t : Int) + 1 = c.period + c.period * ((t : Int) / c.period) := by omega
    rw [e3, Int.add_mul_emod_self_left, Int.emod_self]
   have e3 : (t : Int) + (1 : Nat) = ((t : Int) % c.period + 1) + c.period * ((t : Int) / c.period) := by omega
   rw [e3, Int.add_mul_emod_self_left, Int.emod_eq_of_lt (by omega) hlt]
  unfold bdT
  rw [e1, Int.add_mul ((t : Int) % c.period)]
  omega
theorem All.at {c : Cf} (r : Rng c) (hm : mZ c ≤ 2147483648) (many : Nat) (h : List (List (Int × Int))) : ∀ t, All (kZ c) (bdT c t) many (tkA c many h t)
 | 0 => by
  have hk := k_box r
  have hc := c_box r
  have hB : 0 ≤ bdT c 0 := by
   have := Int.mul_nonneg (show 0 ≤ kZ c - 1 by omega) (show 0 ≤ cZ c by omega)
   unfold bdT
   simp only [Int.natCast_zero, Int.zero_emod, Int.zero_mul]
   omega
  refine ⟨List.length_replicate, List.length_replicate, fun a u b hu hb => ?_⟩
  simp only [tkA, List.getElem?_replicate] at hu hb
  split at hu
  ·rename_i ha
   rw [if_pos ha] at hb
   obtain rfl := Option.some.inj hu
   obtain rfl := Option.some.inj hb
   exact ⟨Int.le_refl _, hB, by decide, by simp only [zeB]; omega, ze_ok⟩
  ·cases hu
 | t + 1 => (All.at r hm many h t).tick r hm _
end Go.Proofs.YtdkbmligaodpmaaGreatDoor.Tr
