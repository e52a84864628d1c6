/-
  THE PLAIN MATHEMATICS OF LAYER 13 (share): shares, sums, effective usages, powers. No Go in sight.
  THE PLAIN MATHEMATICS OF LAYER 13 (share): sums, effective usages, powers, factors; more used is not better. No Go in sight.
-/
import Derived.Test.YtjgllfpnmmopdaaGreatDoorTrM
import Derived.Test.YtjgllfpnmmopdaaGreatDoorMth
namespace Go.Proofs.YtjgllfpnmmopdaaGreatDoor.Tr
open Wd

/-- A list that is a tree's, whatever the usages are. -/
def Wu (l : List Ac) : Prop := Wf (l.map plainAc)
def shOf (l : List Ac) (n : Nat) : Int := match l[n]? with
  | some a => a.sh
  | none => 0
def usOf (l : List Ac) (n : Nat) : Int := match l[n]? with
  | some a => a.us
  | none => 0
theorem sh_of {l : List Ac} {n : Nat} {a : Ac} (h : l[n]? = some a) : shOf l n = a.sh := by unfold shOf; rw [h]
theorem us_of {l : List Ac} {n : Nat} {a : Ac} (h : l[n]? = some a) : usOf l n = a.us := by unfold usOf; rw [h]
theorem up_plain (l : List Ac) (n : Nat) : up (l.map plainAc) n = up l n := by
  unfold up
  rw [List.getElem?_map]
  cases l[n]? <;> rfl
theorem sh_plain (l : List Ac) (n : Nat) : shOf (l.map plainAc) n = shOf l n := by
  unfold shOf
  rw [List.getElem?_map]
  cases l[n]? <;> rfl
theorem dep_plain {l : List Ac} : ∀ {d n}, Dep (l.map plainAc) d n ↔ Dep l d n
  | 0, _ => Iff.rfl
  | d + 1, n => by
    show (n ≠ 0 ∧ Dep (l.map plainAc) d (up (l.map plainAc) n)) ↔ (n ≠ 0 ∧ Dep l d (up l n))
    rw [up_plain, dep_plain]
theorem kids_plain (l : List Ac) (n : Nat) : kidsV (l.map plainAc) n = kidsV l n := by
  unfold kidsV
  rw [List.length_map]
  refine List.filter_congr (fun i _ => ?_)
  rw [List.getElem?_map]
  cases l[i]? <;> rfl
theorem bel_plain {l : List Ac} {n : Nat} : ∀ {s k}, Bel (l.map plainAc) n s k ↔ Bel l n s k
  | 0, _ => Iff.rfl
  | s + 1, k => by
    show (k ≠ n ∧ k ≠ 0 ∧ Bel (l.map plainAc) n s (up (l.map plainAc) k)) ↔ (k ≠ n ∧ k ≠ 0 ∧ Bel l n s (up l k))
    rw [up_plain, bel_plain]
theorem blw_plain {l : List Ac} {n k : Nat} : Blw (l.map plainAc) n k ↔ Blw l n k := ⟨fun ⟨s, h⟩ => ⟨s, bel_plain.1 h⟩, fun ⟨s, h⟩ => ⟨s, bel_plain.2 h⟩⟩

section
variable {l : List Ac} {n k j : Nat} {a : Ac}
theorem Wu.len (h : Wu l) : l.length ≤ 64 := by have := Wf.len h; rwa [List.length_map] at this
theorem Wu.pos (h : Wu l) : 0 < l.length := by have := Wf.pos h; rwa [List.length_map] at this
theorem Wu.root (h : Wu l) : ∃ a, l[0]? = some a ∧ a.pa = -1 ∧ a.sh = 1 := by
  have h0 := Wf.root h
  rw [List.getElem?_map] at h0
  cases ha : l[0]? with
  | none => rw [ha] at h0; cases h0
  | some a =>
    rw [ha] at h0
    simp only [Option.map_some, Option.some.injEq] at h0
    refine ⟨a, rfl, ?_, ?_⟩
    · have : (plainAc a).pa = rootAc.pa := by rw [h0]
      exact this
    · have : (plainAc a).sh = rootAc.sh := by rw [h0]
      exact this
theorem Wu.row (h : Wu l) (ha : l[n]? = some a) (hn : 0 < n) : 0 ≤ a.pa ∧ a.pa < (l.length : Int) ∧ 1 ≤ a.sh ∧ a.sh ≤ 4096 := by
  have := Wf.row h n (plainAc a) (by simp [ha]) hn
  obtain ⟨_, h1, h2, h3, _⟩ := this
  rw [List.length_map] at h2
  unfold okSh at h3
  simp at h3
  exact ⟨h1, h2, h3.1, h3.2⟩
theorem Wu.up_lt (h : Wu l) (hn : n < l.length) : up l n < l.length := by
  have := Wf.up_lt h (n := n) (by rwa [List.length_map])
  rwa [up_plain, List.length_map] at this
theorem Wu.deep (h : Wu l) (hn : n < l.length) : ∃ d, d ≤ 4 ∧ Dep l d n := by
  obtain ⟨d, h1, h2⟩ := Wf.deep h n (by rwa [List.length_map])
  exact ⟨d, h1, dep_plain.1 h2⟩
theorem Wu.kid (h : Wu l) (hk : k ∈ kidsV l n) : k ≠ 0 ∧ k < l.length ∧ up l k = n := by
  rw [← kids_plain] at hk
  have := kid_pos h hk
  rwa [List.length_map, up_plain] at this
theorem Wu.kid_of (h : Wu l) (h0 : k ≠ 0) (hk : k < l.length) : k ∈ kidsV l (up l k) := by
  have := Tr.kid_of h h0 (by rwa [List.length_map])
  rwa [kids_plain, up_plain] at this
theorem Wu.kid_dep (h : Wu l) {d : Nat} (hk : k ∈ kidsV l n) (hd : Dep l d n) : Dep l (d + 1) k := by
  rw [← kids_plain] at hk
  exact dep_plain.1 (Tr.kid_dep h hk (dep_plain.2 hd))
theorem Wu.sh (h : Wu l) (hn : n < l.length) : 1 ≤ shOf l n ∧ shOf l n ≤ 4096 := by
  obtain ⟨a, ha⟩ : ∃ a, l[n]? = some a := ⟨_, List.getElem?_eq_getElem hn⟩
  rw [sh_of ha]
  by_cases h0 : 0 < n
  · have := h.row ha h0; omega
  · obtain rfl : n = 0 := by omega
    obtain ⟨b, hb, _, h1⟩ := h.root
    rw [ha] at hb; cases hb
    omega
/-- How deep. -/
def dOf (l : List Ac) (n : Nat) : Nat := (depN l 5 n).getD 0
theorem Wu.dOf (h : Wu l) (hn : n < l.length) : Dep l (dOf l n) n ∧ Tr.dOf l n ≤ 4 := by
  obtain ⟨d, h1, h2⟩ := h.deep hn
  have := dep_depN h2 (f := 5) (by omega)
  unfold Tr.dOf
  rw [this]
  exact ⟨h2, h1⟩
theorem dOf_of {d : Nat} (hd : Dep l d n) (h4 : d ≤ 4) : dOf l n = d := by
  unfold dOf
  rw [dep_depN hd (f := 5) (by omega)]
  rfl
theorem dOf_zero (l : List Ac) : dOf l 0 = 0 := dOf_of (d := 0) rfl (by omega)
theorem Wu.dOf_up (h : Wu l) (hn : n < l.length) (h0 : n ≠ 0) : Tr.dOf l n = Tr.dOf l (up l n) + 1 := by
  obtain ⟨h1, h2⟩ := h.dOf hn
  cases hd : Tr.dOf l n with
  | zero => rw [hd] at h1; exact absurd h1 h0
  | succ d =>
    rw [hd] at h1
    rw [dOf_of h1.2 (by omega)]
theorem Wu.up_ne (h : Wu l) (hn : n < l.length) (h0 : n ≠ 0) : up l n ≠ n := fun e => by
  have := h.dOf_up hn h0
  rw [e] at this
  omega
end

/-- The shares of those among the first k that have this parent. -/
def togN (l : List Ac) (p : Int) : Nat → Int
  | 0 => 0
  | k + 1 => togN l p k + (match l[k]? with
    | some a => if a.pa = p then a.sh else 0
    | none => 0)
def tog (l : List Ac) (p : Nat) : Int := togN l p l.length
/-- Those among the first k that have this parent. -/
def kidP (l : List Ac) (p : Nat) (k : Nat) : List Nat := (List.range k).filter fun i => decide ((l[i]?.map (·.pa)) = some (p : Int))
theorem kidP_all (l : List Ac) (p : Nat) : kidP l p l.length = kidsV l p := rfl
theorem kidP_yes {l : List Ac} {p k : Nat} {a : Ac} (h : l[k]? = some a) (e : a.pa = p) : kidP l p (k + 1) = kidP l p k ++ [k] := by
  unfold kidP
  rw [List.range_succ, List.filter_append]
  congr 1
  simp [h, e]
theorem kidP_no {l : List Ac} {p k : Nat} {a : Ac} (h : l[k]? = some a) (e : a.pa ≠ p) : kidP l p (k + 1) = kidP l p k := by
  unfold kidP
  rw [List.range_succ, List.filter_append]
  have : List.filter (fun i => decide ((l[i]?.map (·.pa)) = some (p : Int))) [k] = [] := by simp [h, e]
  rw [this, List.append_nil]
theorem togN_yes {l : List Ac} {p : Int} {k : Nat} {a : Ac} (h : l[k]? = some a) (e : a.pa = p) : togN l p (k + 1) = togN l p k + a.sh := by
  simp only [togN, h, if_pos e]
theorem togN_no {l : List Ac} {p : Int} {k : Nat} {a : Ac} (h : l[k]? = some a) (e : a.pa ≠ p) : togN l p (k + 1) = togN l p k := by
  simp only [togN, h, if_neg e, Int.add_zero]
theorem togN_plain (l : List Ac) (p : Int) : ∀ k, togN (l.map plainAc) p k = togN l p k
  | 0 => rfl
  | k + 1 => by
    simp only [togN]
    rw [togN_plain l p k, List.getElem?_map]
    cases l[k]? <;> rfl
theorem tog_plain (l : List Ac) (p : Nat) : tog (l.map plainAc) p = tog l p := by
  unfold tog
  rw [List.length_map, togN_plain]
/-- The share of each between 1 and 4096. -/
def ShOk (l : List Ac) : Prop := ∀ (n : Nat) (a : Ac), l[n]? = some a → 1 ≤ a.sh ∧ a.sh ≤ 4096
theorem Wu.shOk {l : List Ac} (h : Wu l) : ShOk l := fun n a ha => by
  have := h.sh (List.getElem?_eq_some_iff.1 ha).1
  rwa [sh_of ha] at this
theorem togN_bounds {l : List Ac} (h : ShOk l) (p : Nat) : ∀ k, ((kidP l p k).length : Int) ≤ togN l p k ∧ togN l p k ≤ 4096 * (kidP l p k).length
  | 0 => by simp [togN, kidP]
  | k + 1 => by
    have ih := togN_bounds h p k
    cases hk : l[k]? with
    | none =>
      have e1 : togN l p (k + 1) = togN l p k := by simp only [togN, hk, Int.add_zero]
      have e2 : kidP l p (k + 1) = kidP l p k := by
        unfold kidP
        rw [List.range_succ, List.filter_append]
        have : List.filter (fun i => decide ((l[i]?.map (·.pa)) = some (p : Int))) [k] = [] := by simp [hk]
        rw [this, List.append_nil]
      rw [e1, e2]; exact ih
    | some a =>
      have ha := h k a hk
      by_cases e : a.pa = p
      · rw [togN_yes hk e, kidP_yes hk e, List.length_append]
        simp only [List.length_cons, List.length_nil]
        omega
      · rw [togN_no hk e, kidP_no hk e]; exact ih
theorem kidP_le (l : List Ac) (p k : Nat) : (kidP l p k).length ≤ k := by
  unfold kidP
  refine Nat.le_trans (List.length_filter_le _ _) ?_
  rw [List.length_range]
  exact Nat.le_refl _
theorem togN_word {l : List Ac} (h : Wu l) (p : Nat) {k : Nat} (hk : k ≤ 64) : 0 ≤ togN l p k ∧ togN l p k ≤ 262144 := by
  have h1 := togN_bounds h.shOk p k
  have h2 := kidP_le l p k
  omega
theorem tog_word {l : List Ac} (h : Wu l) (p : Nat) : 0 ≤ tog l p ∧ tog l p ≤ 262144 := togN_word h p h.len
/-- One's share is in its parent's sum. -/
theorem togN_mem {l : List Ac} (h : ShOk l) {p n : Nat} {a : Ac} (ha : l[n]? = some a) (e : a.pa = p) : ∀ {k}, n < k → a.sh ≤ togN l p k
  | 0, hk => by omega
  | k + 1, hk => by
    by_cases ek : n = k
    · subst ek
      rw [togN_yes ha e]
      have := (togN_bounds h p n).1
      omega
    · have ih := togN_mem h ha e (k := k) (by omega)
      cases hk' : l[k]? with
      | none => simp only [togN, hk', Int.add_zero]; exact ih
      | some b =>
        have hb := h k b hk'
        by_cases e' : b.pa = p
        · rw [togN_yes hk' e']; omega
        · rw [togN_no hk' e']; exact ih
theorem sh_tog {l : List Ac} (h : Wu l) {n : Nat} (hn : n < l.length) (h0 : n ≠ 0) : 1 ≤ shOf l n ∧ shOf l n ≤ tog l (up l n) := by
  obtain ⟨a, ha⟩ : ∃ a, l[n]? = some a := ⟨_, List.getElem?_eq_getElem hn⟩
  have h1 := h.row ha (by omega)
  have h2 := up_of ha
  have := togN_mem h.shOk ha (p := up l n) (by rw [h2]; omega) hn
  rw [sh_of ha]
  exact ⟨h1.2.2.1, this⟩

/-- A share's two numbers, d deep. -/
def numZ (l : List Ac) : Nat → Nat → Int
  | 0, _ => 1
  | d + 1, n => numZ l d (up l n) * shOf l n
def denZ (l : List Ac) : Nat → Nat → Int
  | 0, _ => 1
  | d + 1, n => denZ l d (up l n) * tog l (up l n)
def numV (l : List Ac) (n : Nat) : Int := numZ l (dOf l n) n
def denV (l : List Ac) (n : Nat) : Int := denZ l (dOf l n) n
theorem num_root (l : List Ac) : numV l 0 = 1 := by unfold numV; rw [dOf_zero]; rfl
theorem den_root (l : List Ac) : denV l 0 = 1 := by unfold denV; rw [dOf_zero]; rfl
theorem num_up {l : List Ac} (h : Wu l) {n : Nat} (hn : n < l.length) (h0 : n ≠ 0) : numV l n = numV l (up l n) * shOf l n := by
  unfold numV
  rw [h.dOf_up hn h0]
  rfl
theorem den_up {l : List Ac} (h : Wu l) {n : Nat} (hn : n < l.length) (h0 : n ≠ 0) : denV l n = denV l (up l n) * tog l (up l n) := by
  unfold denV
  rw [h.dOf_up hn h0]
  rfl
/-- The way up. -/
def anc (l : List Ac) : Nat → Nat → List Nat
  | 0, _ => []
  | d + 1, n => up l n :: anc l d (up l n)
def prodL (f : Nat → Nat) : List Nat → Nat
  | [] => 1
  | a :: m => prodL f m * f a
def pow4096 : Nat → Int
  | 0 => 1
  | d + 1 => pow4096 d * 4096
theorem num_bounds {l : List Ac} (h : Wu l) : ∀ {d n}, n < l.length → Dep l d n → 1 ≤ numZ l d n ∧ numZ l d n ≤ denZ l d n ∧ numZ l d n ≤ pow4096 d ∧ denZ l d n ≤ pow4096 d * prodL (fun p => (kidsV l p).length) (anc l d n)
  | 0, _, _, _ => by simp [numZ, denZ, pow4096, prodL, anc]
  | d + 1, n, hn, hd => by
    obtain ⟨i1, i2, i3, i4⟩ := num_bounds h (h.up_lt hn) hd.2
    obtain ⟨s1, s2⟩ := sh_tog h hn hd.1
    have s3 := (h.sh hn).2
    have s4 : tog l (up l n) ≤ 4096 * (kidsV l (up l n)).length := (togN_bounds h.shOk (up l n) l.length).2
    simp only [numZ, denZ, pow4096, anc, prodL]
    refine ⟨?_, ?_, ?_, ?_⟩
    · calc (1 : Int) = 1 * 1 := rfl
        _ ≤ numZ l d (up l n) * shOf l n := Int.mul_le_mul i1 s1 (by omega) (by omega)
    · exact Int.mul_le_mul i2 s2 (by omega) (by omega)
    · exact Int.mul_le_mul i3 s3 (by omega) (by omega)
    · have hp : (0 : Int) ≤ pow4096 d := by omega
      refine Int.le_trans (Int.mul_le_mul i4 s4 (by omega) (Int.mul_nonneg hp (Int.natCast_nonneg _))) ?_
      rw [Int.natCast_mul]
      have : ∀ a b c d : Int, a * b * (c * d) = a * c * (b * d) := fun a b c d => by
        rw [Int.mul_assoc, Int.mul_assoc, ← Int.mul_assoc b c d, Int.mul_comm b c, Int.mul_assoc c b d]
      rw [this]
      exact Int.le_refl _
theorem anc_dep {l : List Ac} : ∀ {d n}, Dep l d n → ∀ p ∈ anc l d n, ∃ e, e < d ∧ Dep l e p
  | 0, _, _, _, hp => by cases hp
  | d + 1, n, hd, p, hp => by
    rcases List.mem_cons.1 hp with rfl | hp
    · exact ⟨d, by omega, hd.2⟩
    · obtain ⟨e, h1, h2⟩ := anc_dep hd.2 p hp
      exact ⟨e, by omega, h2⟩
theorem anc_nodup {l : List Ac} : ∀ {d n}, Dep l d n → (anc l d n).Nodup
  | 0, _, _ => List.nodup_nil
  | d + 1, n, hd => by
    refine List.nodup_cons.2 ⟨fun hp => ?_, anc_nodup hd.2⟩
    obtain ⟨e, h1, h2⟩ := anc_dep hd.2 _ hp
    have := dep_uniq h2 hd.2
    omega
theorem sumL_le {α : Type} {f g : α → Nat} {l : List α} (h : ∀ a ∈ l, f a ≤ g a) : sumL f l ≤ sumL g l := by
  induction l with
  | nil => exact Nat.le_refl _
  | cons a l ih =>
    simp only [sumL]
    have h1 := h a (by simp)
    have h2 := ih (fun b hb => h b (by simp [hb]))
    omega
theorem sumL_most {l : List Nat} (hn : l.Nodup) {p : Nat → Bool} (hu : ∀ j ∈ l, ∀ k ∈ l, p j = true → p k = true → j = k) : sumL (fun a => if p a then 1 else 0) l ≤ 1 := by
  by_cases h : ∃ k ∈ l, p k = true
  · obtain ⟨k, hk, hp⟩ := h
    exact Nat.le_of_eq (sumL_one hn hk hp (fun j hj hpj => hu j hj k hk hpj hp))
  · rw [sumL_congr (g := fun _ => 0) (fun a ha => if_neg (fun x => h ⟨a, ha, x⟩)), sumL_zero]
    omega
/-- The children of several ones are together not more than all but the root. -/
theorem kids_sum {l : List Ac} (h : Wu l) {ps : List Nat} (hps : ps.Nodup) : sumL (fun p => (kidsV l p).length) ps ≤ 63 := by
  have e1 : ∀ p, (kidsV l p).length = sumL (fun i => if decide ((l[i]?.map (·.pa)) = some (p : Int)) then 1 else 0) (List.range l.length) := fun p => len_filter _ _
  rw [sumL_congr (g := fun p : Nat => sumL (fun i => if decide ((l[i]?.map (·.pa)) = some (p : Int)) then 1 else 0) (List.range l.length)) (fun p _ => e1 p), sumL_swap]
  have e2 : sumL (fun i => sumL (fun p : Nat => if decide ((l[i]?.map (·.pa)) = some (p : Int)) then 1 else 0) ps) (List.range l.length) ≤ sumL (fun i => if decide (i ≠ 0) then 1 else 0) (List.range l.length) := by
    refine sumL_le (fun i _ => ?_)
    by_cases hi : i = 0
    · subst hi
      obtain ⟨a, ha, hpa, _⟩ := h.root
      have : sumL (fun p : Nat => if decide ((l[0]?.map (·.pa)) = some (p : Int)) then 1 else 0) ps = 0 := by
        rw [sumL_congr (g := fun _ => 0) (fun p _ => if_neg (by
          rw [ha]
          simp [hpa])), sumL_zero]
      rw [this]
      exact Nat.zero_le _
    · have : (if decide (i ≠ 0) = true then 1 else 0) = 1 := by simp [hi]
      rw [this]
      refine sumL_most hps (fun p _ q _ hp hq => ?_)
      simp only [decide_eq_true_eq] at hp hq
      rw [hp] at hq
      injection hq with hq
      omega
  refine Nat.le_trans e2 ?_
  have hpos := h.pos
  have hlen := h.len
  obtain ⟨m, hm⟩ : ∃ m, l.length = m + 1 := ⟨l.length - 1, by omega⟩
  rw [hm, List.range_succ_eq_map]
  simp only [sumL]
  have : ∀ (xs : List Nat), sumL (fun i => if decide (i ≠ 0) = true then 1 else 0) xs ≤ xs.length := fun xs => by
    induction xs with
    | nil => exact Nat.le_refl _
    | cons a xs ih =>
      simp only [sumL, List.length_cons]
      split <;> omega
  have := this (List.map Nat.succ (List.range m))
  rw [List.length_map, List.length_range] at this
  simp only [ne_eq, not_true_eq_false, decide_false, Bool.false_eq_true, if_false, Nat.zero_add]
  simp only [ne_eq] at this
  omega
theorem four_mul (x y : Nat) : 4 * (x * y) ≤ (x + y) * (x + y) := by
  rcases Nat.le_total x y with h | h
  · obtain ⟨t, rfl⟩ := Nat.exists_eq_add_of_le h
    have e1 : x * (x + t) = x * x + x * t := Nat.mul_add _ _ _
    have e2 : (x + (x + t)) * (x + (x + t)) = 4 * (x * x) + 4 * (x * t) + t * t := by
      have : x + (x + t) = 2 * x + t := by omega
      rw [this, Nat.mul_add, Nat.add_mul, Nat.add_mul, Nat.mul_mul_mul_comm, Nat.mul_comm t (2 * x), Nat.mul_assoc 2 x t]
      omega
    omega
  · obtain ⟨t, rfl⟩ := Nat.exists_eq_add_of_le h
    have e1 : (y + t) * y = y * y + y * t := by rw [Nat.add_mul, Nat.mul_comm t y]
    have e2 : (y + t + y) * (y + t + y) = 4 * (y * y) + 4 * (y * t) + t * t := by
      have : y + t + y = 2 * y + t := by omega
      rw [this, Nat.mul_add, Nat.add_mul, Nat.add_mul, Nat.mul_mul_mul_comm, Nat.mul_comm t (2 * y), Nat.mul_assoc 2 y t]
      omega
    omega
theorem four_prod {a b c e : Nat} (h : a + b + c + e ≤ 63) : a * b * (c * e) < 65536 := by
  have h1 := four_mul a b
  have h2 := four_mul c e
  have h3 := four_mul (a + b) (c + e)
  have h4 : (a + b + (c + e)) * (a + b + (c + e)) ≤ 63 * 63 := Nat.mul_le_mul (by omega) (by omega)
  have h5 : 4 * (a * b) * (4 * (c * e)) ≤ (a + b) * (a + b) * ((c + e) * (c + e)) := Nat.mul_le_mul h1 h2
  have h6 : 4 * (a * b) * (4 * (c * e)) = 16 * (a * b * (c * e)) := by rw [Nat.mul_mul_mul_comm]
  have h7 : (a + b) * (a + b) * ((c + e) * (c + e)) = (a + b) * (c + e) * ((a + b) * (c + e)) := Nat.mul_mul_mul_comm _ _ _ _
  have h8 : (a + b) * (c + e) ≤ 992 := by omega
  have h9 : (a + b) * (c + e) * ((a + b) * (c + e)) ≤ 992 * 992 := Nat.mul_le_mul h8 h8
  omega
theorem den_word {l : List Ac} (h : Wu l) {n : Nat} (hn : n < l.length) : 1 ≤ numV l n ∧ numV l n ≤ denV l n ∧ numV l n ≤ 281474976710656 ∧ denV l n < 18446744073709551616 := by
  obtain ⟨hd, h4⟩ := h.dOf hn
  obtain ⟨b1, b2, b3, b4⟩ := num_bounds h hn hd
  have hs := kids_sum h (anc_nodup hd)
  unfold numV denV
  revert hd h4 b1 b2 b3 b4 hs
  generalize dOf l n = d
  intro hd h4 b1 b2 b3 b4 hs
  have p0 : pow4096 0 = 1 := rfl
  have p1 : pow4096 1 = 4096 := rfl
  have p2 : pow4096 2 = 16777216 := rfl
  have p3 : pow4096 3 = 68719476736 := rfl
  have p4 : pow4096 4 = 281474976710656 := rfl
  have key : prodL (fun p => (kidsV l p).length) (anc l d n) < 65536 := by
    match d, h4 with
    | 0, _ => simp [anc, prodL]
    | 1, _ =>
      simp only [anc, prodL, sumL] at hs ⊢
      omega
    | 2, _ =>
      simp only [anc, prodL, sumL] at hs ⊢
      have := four_prod (a := (kidsV l (up l (up l n))).length) (b := (kidsV l (up l n)).length) (c := 0) (e := 0) (by omega)
      have := four_mul (kidsV l (up l (up l n))).length (kidsV l (up l n)).length
      have h9 := Nat.mul_le_mul (show (kidsV l (up l (up l n))).length + (kidsV l (up l n)).length ≤ 63 by omega) (show (kidsV l (up l (up l n))).length + (kidsV l (up l n)).length ≤ 63 by omega)
      rw [Nat.one_mul]
      omega
    | 3, _ =>
      simp only [anc, prodL, sumL] at hs ⊢
      generalize (kidsV l (up l (up l (up l n)))).length = x at *
      generalize (kidsV l (up l (up l n))).length = y at *
      generalize (kidsV l (up l n)).length = z at *
      have h9 : x * y * z ≤ 63 * 63 * 16 ∨ z > 16 := by
        by_cases hz : z ≤ 16
        · exact .inl (Nat.mul_le_mul (Nat.mul_le_mul (by omega) (by omega)) hz)
        · exact .inr (by omega)
      rw [Nat.one_mul]
      rcases h9 with h9 | h9
      · omega
      · have hxy := four_mul x y
        have h10 := Nat.mul_le_mul (show x + y ≤ 46 by omega) (show x + y ≤ 46 by omega)
        have h11 : x * y * z ≤ 529 * 63 := Nat.mul_le_mul (by omega) (by omega)
        omega
    | 4, _ =>
      simp only [anc, prodL, sumL] at hs ⊢
      rw [Nat.one_mul, Nat.mul_assoc]
      exact four_prod (by omega)
    | k + 5, h4 => omega
  have hp : pow4096 d ≤ 281474976710656 ∧ 0 ≤ pow4096 d := by
    match d, h4 with
    | 0, _ => omega
    | 1, _ => omega
    | 2, _ => omega
    | 3, _ => omega
    | 4, _ => omega
    | k + 5, h4 => omega
  refine ⟨b1, b2, by omega, ?_⟩
  have : pow4096 d * (prodL (fun p => (kidsV l p).length) (anc l d n) : Int) ≤ 281474976710656 * 65535 := Int.mul_le_mul hp.1 (by omega) (by omega) (by omega)
  omega
/-- A share is not above its parent's. -/
theorem share_falls {l : List Ac} (h : Wu l) {n : Nat} (hn : n < l.length) (h0 : n ≠ 0) : numV l n * denV l (up l n) ≤ numV l (up l n) * denV l n := by
  rw [num_up h hn h0, den_up h hn h0]
  obtain ⟨s1, s2⟩ := sh_tog h hn h0
  obtain ⟨b1, b2, _, _⟩ := den_word h (h.up_lt hn)
  rw [Int.mul_assoc, Int.mul_comm (shOf l n)]
  exact Int.mul_le_mul_of_nonneg_left (Int.mul_le_mul_of_nonneg_left s2 (by omega)) (by omega)
end Go.Proofs.YtjgllfpnmmopdaaGreatDoor.Tr
namespace Go.Proofs.YtjgllfpnmmopdaaGreatDoor.Tr
open Wd Ld

/-- All usages are words. -/
def UsOk (l : List Ac) : Prop := ∀ (n : Nat) (a : Ac), l[n]? = some a → Word a.us
theorem us_word {l : List Ac} (h : UsOk l) (n : Nat) : Word (usOf l n) := by
  unfold usOf
  cases ha : l[n]? with
  | none => exact (⟨by decide, by decide⟩ : Word 0)
  | some a => exact h n a ha
def addS (a b : Int) : Int := narV (a + b)
theorem addS_word {a b : Int} (ha : Word a) (hb : Word b) : Word (addS a b) := nar_word (by obtain ⟨_, _⟩ := ha; obtain ⟨_, _⟩ := hb; omega)
theorem addS_ge {a b : Int} (ha : Word a) (hb : Word b) : a ≤ addS a b ∧ b ≤ addS a b := by
  obtain ⟨_, _⟩ := ha; obtain ⟨_, _⟩ := hb
  unfold addS narV
  split <;> omega
theorem addS_le (a b : Int) : addS a b ≤ a + b := by unfold addS narV; split <;> omega
theorem addS_mono {a b c d : Int} (h1 : a ≤ c) (h2 : b ≤ d) : addS a b ≤ addS c d := nar_mono (by omega)
/-- A sum along a list of accounts. -/
def sumTo (f : Nat → Int) (s : Int) (ks : List Nat) : Int := ks.foldl (fun s k => addS s (f k)) s
theorem sumTo_word {f : Nat → Int} : ∀ {ks : List Nat} {s : Int}, Word s → (∀ k ∈ ks, Word (f k)) → Word (sumTo f s ks)
  | [], _, hs, _ => hs
  | k :: ks, _, hs, hf => sumTo_word (ks := ks) (addS_word hs (hf k (by simp))) (fun j hj => hf j (by simp [hj]))
theorem sumTo_ge {f : Nat → Int} : ∀ {ks : List Nat} {s : Int}, Word s → (∀ k ∈ ks, Word (f k)) → s ≤ sumTo f s ks ∧ ∀ k ∈ ks, f k ≤ sumTo f s ks
  | [], _, _, _ => ⟨Int.le_refl _, fun _ h => by cases h⟩
  | k :: ks, s, hs, hf => by
    have hk := hf k (by simp)
    obtain ⟨h1, h2⟩ := sumTo_ge (ks := ks) (addS_word hs hk) (fun j hj => hf j (by simp [hj]))
    obtain ⟨h3, h4⟩ := addS_ge hs hk
    refine ⟨Int.le_trans h3 h1, fun j hj => ?_⟩
    rcases List.mem_cons.1 hj with rfl | hj
    · exact Int.le_trans h4 h1
    · exact h2 j hj
theorem sumTo_mono {f g : Nat → Int} : ∀ {ks : List Nat} {s t : Int}, s ≤ t → (∀ k ∈ ks, f k ≤ g k) → sumTo f s ks ≤ sumTo g t ks
  | [], _, _, h, _ => h
  | k :: ks, _, _, h, hf => sumTo_mono (ks := ks) (addS_mono h (hf k (by simp))) (fun j hj => hf j (by simp [hj]))
theorem sumTo_congr {f g : Nat → Int} : ∀ {ks : List Nat} {s : Int}, (∀ k ∈ ks, f k = g k) → sumTo f s ks = sumTo g s ks
  | [], _, _ => rfl
  | k :: ks, s, hf => by
    show sumTo f (addS s (f k)) ks = sumTo g (addS s (g k)) ks
    rw [hf k (by simp)]
    exact sumTo_congr (fun j hj => hf j (by simp [hj]))
theorem sumTo_last (f : Nat → Int) (s : Int) (ks : List Nat) (k : Nat) : sumTo f s (ks ++ [k]) = addS (sumTo f s ks) (f k) := by
  unfold sumTo
  rw [List.foldl_append]
  rfl
/-- An account's sum, so many steps down at most. -/
def sm (l : List Ac) : Nat → Nat → Int
  | 0, n => usOf l n
  | f + 1, n => sumTo (sm l f) (usOf l n) (kidsV l n)
def sumV (l : List Ac) (n : Nat) : Int := sm l 5 n
theorem sm_any {l : List Ac} (h : Wu l) : ∀ {f g n d}, n < l.length → Dep l d n → 4 < d + f → 4 < d + g → sm l f n = sm l g n
  | 0, _, n, d, hn, hd, hf, _ => by
    obtain ⟨e, h1, h2⟩ := h.deep hn
    have := dep_uniq hd h2
    omega
  | f + 1, 0, n, d, hn, hd, _, hg => by
    obtain ⟨e, h1, h2⟩ := h.deep hn
    have := dep_uniq hd h2
    omega
  | f + 1, g + 1, n, d, hn, hd, hf, hg => by
    refine sumTo_congr (fun k hk => ?_)
    exact sm_any h (h.kid hk).2.1 (h.kid_dep hk hd) (by omega) (by omega)
theorem sum_kids {l : List Ac} (h : Wu l) {n : Nat} (hn : n < l.length) : sumV l n = sumTo (sumV l) (usOf l n) (kidsV l n) := by
  show sumTo (sm l 4) (usOf l n) (kidsV l n) = _
  refine sumTo_congr (fun k hk => ?_)
  obtain ⟨d, h1, h2⟩ := h.deep hn
  exact sm_any h (h.kid hk).2.1 (h.kid_dep hk h2) (by omega) (by omega)
theorem sm_word {l : List Ac} (hu : UsOk l) : ∀ f n, Word (sm l f n)
  | 0, n => us_word hu n
  | f + 1, n => sumTo_word (us_word hu n) (fun k _ => sm_word hu f k)
theorem sum_word {l : List Ac} (hu : UsOk l) (n : Nat) : Word (sumV l n) := sm_word hu 5 n
theorem sum_falls {l : List Ac} (h : Wu l) (hu : UsOk l) {n : Nat} (hn : n < l.length) (h0 : n ≠ 0) : sumV l n ≤ sumV l (up l n) := by
  rw [sum_kids h (h.up_lt hn)]
  exact (sumTo_ge (us_word hu _) (fun k _ => sum_word hu k)).2 n (h.kid_of h0 hn)
theorem sum_root {l : List Ac} (h : Wu l) (hu : UsOk l) : ∀ {d n}, n < l.length → Dep l d n → sumV l n ≤ sumV l 0
  | 0, _, _, hd => by rw [show _ = 0 from hd]; exact Int.le_refl _
  | d + 1, n, hn, hd => Int.le_trans (sum_falls h hu hn hd.1) (sum_root h hu (h.up_lt hn) hd.2)
/-- What counts as the whole. -/
def wV (l : List Ac) (fl : Int) : Int := if sumV l 0 < fl then fl else sumV l 0
theorem w_word {l : List Ac} (hu : UsOk l) {fl : Int} (hf : Word fl) : Word (wV l fl) := by
  unfold wV
  split
  · exact hf
  · exact sum_word hu 0
theorem sum_w {l : List Ac} (h : Wu l) (hu : UsOk l) (fl : Int) {n : Nat} (hn : n < l.length) : sumV l n ≤ wV l fl := by
  obtain ⟨d, _, hd⟩ := h.deep hn
  have := sum_root h hu hn hd
  unfold wV
  split <;> omega
def uV (l : List Ac) (w : Int) (n : Nat) : Int := sumV l n * 9223372036854775808 / w
/-- An effective usage, d deep. -/
def efZ (l : List Ac) (w : Int) : Nat → Nat → Int
  | 0, n => uV l w n
  | d + 1, n => uV l w n + (efZ l w d (up l n) - uV l w n) * shOf l n / tog l (up l n)
def efV (l : List Ac) (w : Int) (n : Nat) : Int := efZ l w (dOf l n) n
theorem ef_root (l : List Ac) (w : Int) : efV l w 0 = uV l w 0 := by unfold efV; rw [dOf_zero]; rfl
theorem ef_up {l : List Ac} (h : Wu l) (w : Int) {n : Nat} (hn : n < l.length) (h0 : n ≠ 0) : efV l w n = uV l w n + (efV l w (up l n) - uV l w n) * shOf l n / tog l (up l n) := by
  unfold efV
  rw [h.dOf_up hn h0]
  rfl
theorem u_word {l : List Ac} (hu : UsOk l) {w : Int} (hw : Word w) {n : Nat} (hn : sumV l n ≤ w) : 0 ≤ uV l w n ∧ uV l w n ≤ 9223372036854775808 := by
  have hs := sum_word hu n
  obtain ⟨h1, h2⟩ := hs
  obtain ⟨h3, h4⟩ := hw
  unfold uV
  refine ⟨Int.ediv_nonneg (by omega) h3, ?_⟩
  by_cases e : w = 0
  · subst e; simp
  · have hp : 0 < w := by omega
    refine Int.le_trans (Int.ediv_le_ediv hp (Int.mul_le_mul_of_nonneg_right hn (by omega))) ?_
    rw [Int.mul_comm, Int.mul_ediv_cancel _ e]
    exact Int.le_refl _
theorem u_falls {l : List Ac} (h : Wu l) (hu : UsOk l) {w : Int} (hw : Word w) {n : Nat} (hn : n < l.length) (h0 : n ≠ 0) : uV l w n ≤ uV l w (up l n) := by
  have hs := sum_falls h hu hn h0
  obtain ⟨h3, h4⟩ := hw
  unfold uV
  by_cases e : w = 0
  · subst e; simp
  · exact Int.ediv_le_ediv (by omega) (Int.mul_le_mul_of_nonneg_right hs (by omega))
/-- A part of what is left, s of t. -/
theorem part_of {x s t : Int} (hx : 0 ≤ x) (hs : 1 ≤ s) (ht : s ≤ t) : 0 ≤ x * s / t ∧ x * s / t ≤ x := by
  have htp : 0 < t := by omega
  refine ⟨Int.ediv_nonneg (Int.mul_nonneg hx (by omega)) (by omega), ?_⟩
  refine Int.le_trans (Int.ediv_le_ediv htp (Int.mul_le_mul_of_nonneg_left ht hx)) ?_
  rw [Int.mul_ediv_cancel _ (by omega)]
  exact Int.le_refl _
theorem ef_bounds {l : List Ac} (h : Wu l) (hu : UsOk l) {w : Int} (hw : Word w) (hsw : ∀ n, n < l.length → sumV l n ≤ w) : ∀ {d n}, n < l.length → Dep l d n → uV l w n ≤ efV l w n ∧ efV l w n ≤ 9223372036854775808
  | 0, n, hn, hd => by
    obtain rfl : n = 0 := hd
    rw [ef_root]
    exact ⟨Int.le_refl _, (u_word hu hw (hsw 0 hn)).2⟩
  | d + 1, n, hn, hd => by
    obtain ⟨i1, i2⟩ := ef_bounds h hu hw hsw (h.up_lt hn) hd.2
    have h1 := u_falls h hu hw hn hd.1
    obtain ⟨s1, s2⟩ := sh_tog h hn hd.1
    obtain ⟨p1, p2⟩ := part_of (x := efV l w (up l n) - uV l w n) (by omega) s1 s2
    rw [ef_up h w hn hd.1]
    omega
/-- The whole is a word, and no sum is above it. -/
structure WOk (l : List Ac) (w : Int) : Prop where
  word : Word w
  most : ∀ n, n < l.length → sumV l n ≤ w
theorem wOk {l : List Ac} (h : Wu l) (hu : UsOk l) {fl : Int} (hf : Word fl) : WOk l (wV l fl) := ⟨w_word hu hf, fun _ hn => sum_w h hu fl hn⟩
theorem ef_word {l : List Ac} (h : Wu l) (hu : UsOk l) {w : Int} (hw : WOk l w) {n : Nat} (hn : n < l.length) : 0 ≤ uV l w n ∧ uV l w n ≤ efV l w n ∧ efV l w n ≤ 9223372036854775808 := by
  obtain ⟨d, _, hd⟩ := h.deep hn
  have := ef_bounds h hu hw.word hw.most hn hd
  exact ⟨(u_word hu hw.word (hw.most n hn)).1, this.1, this.2⟩
theorem ef_falls {l : List Ac} (h : Wu l) (hu : UsOk l) {w : Int} (hw : WOk l w) {n : Nat} (hn : n < l.length) (h0 : n ≠ 0) : uV l w n ≤ efV l w (up l n) ∧ efV l w n ≤ efV l w (up l n) := by
  have h1 := u_falls h hu hw.word hn h0
  have h2 := ef_word h hu hw (h.up_lt hn)
  obtain ⟨s1, s2⟩ := sh_tog h hn h0
  obtain ⟨p1, p2⟩ := part_of (x := efV l w (up l n) - uV l w n) (by omega) s1 s2
  rw [ef_up h w hn h0]
  omega
/-- A share as it counts. -/
def atN (n d : Int) : Int := if n * 4096 < d then 1 else n
def atD (n d : Int) : Int := if n * 4096 < d then 4096 else d
/-- Rounded up. -/
def cl (x b : Int) : Int := (x + (b - 1)) / b
theorem cl_cl {x a b : Int} (ha : 0 < a) : cl (cl x a) b = cl x (a * b) := by
  unfold cl
  have e1 : (x + (a - 1)) / a + (b - 1) = (x + (a * b - 1)) / a := by
    have : x + (a * b - 1) = x + (a - 1) + (b - 1) * a := by
      rw [Int.sub_mul, Int.mul_comm b a]
      omega
    rw [this, Int.add_mul_ediv_right _ _ (by omega)]
  rw [e1, Int.ediv_ediv, if_neg (fun h => by omega), Int.sub_zero]
theorem cl_swap {x a b : Int} (ha : 0 < a) (hb : 0 < b) : cl (cl x a) b = cl (cl x b) a := by rw [cl_cl ha, cl_cl hb, Int.mul_comm]
theorem cl_rem {x b : Int} (hb : 0 < b) : cl x b = if x % b = 0 then x / b else x / b + 1 := by
  have e := Int.mul_ediv_add_emod x b
  have h1 := Int.emod_nonneg x (show b ≠ 0 by omega)
  have h2 := Int.emod_lt_of_pos x hb
  unfold cl
  by_cases h : x % b = 0
  · rw [if_pos h]
    have : x + (b - 1) = (b - 1) + x / b * b := by rw [Int.mul_comm]; omega
    rw [this, Int.add_mul_ediv_right _ _ (by omega), Int.ediv_eq_zero_of_lt (by omega) (by omega)]
    omega
  · rw [if_neg h]
    have : x + (b - 1) = (x % b - 1) + (x / b + 1) * b := by rw [Int.add_mul, Int.mul_comm (x / b)]; omega
    rw [this, Int.add_mul_ediv_right _ _ (by omega), Int.ediv_eq_zero_of_lt (by omega) (by omega)]
    omega
theorem cl_mono {x y b : Int} (hb : 0 < b) (h : x ≤ y) : cl x b ≤ cl y b := Int.ediv_le_ediv hb (by omega)
theorem cl_nonneg {x b : Int} (hx : 0 ≤ x) (hb : 0 < b) : 0 ≤ cl x b := Int.ediv_nonneg (by omega) (by omega)
theorem cl_le {x b : Int} (hx : 0 ≤ x) (hb : 0 < b) : cl x b ≤ x := by
  unfold cl
  have : x + (b - 1) < (x + 1) * b := by
    rw [Int.add_mul, Int.one_mul]
    have : x * 1 ≤ x * b := Int.mul_le_mul_of_nonneg_left (by omega) hx
    omega
  have := Int.ediv_lt_of_lt_mul hb this
  omega
theorem cl_pos {x b : Int} (hx : 1 ≤ x) (hb : 0 < b) : 1 ≤ cl x b := by
  unfold cl
  refine Int.le_ediv_of_mul_le hb (by omega)
theorem cl_zero {b : Int} (hb : 0 < b) : cl 0 b = 0 := by
  unfold cl
  exact Int.ediv_eq_zero_of_lt (by omega) (by omega)
/-- A power, before it is cut. -/
def rawP (e n d : Int) : Int := cl (cl (e * atD n d) 2147483648) (atN n d)
def powV (e n d : Int) : Int := narV (rawP e n d)
theorem at_pos {n d : Int} (hn : 1 ≤ n) (hd : n ≤ d) (h : d < 18446744073709551616) : 1 ≤ atN n d ∧ 1 ≤ atD n d ∧ atD n d < 18446744073709551616 := by
  unfold atN atD
  split <;> omega
theorem prod_bound {e d : Int} (he : 0 ≤ e) (he' : e ≤ 9223372036854775808) (hd : 1 ≤ d) (hd' : d < 18446744073709551616) : 0 ≤ e * d ∧ e * d ≤ 170141183460469231722463931679029329920 := by
  refine ⟨Int.mul_nonneg he (by omega), ?_⟩
  exact Int.le_trans (Int.mul_le_mul he' (show d ≤ 18446744073709551615 by omega) (by omega) (by omega)) (by decide)
theorem raw_nonneg {e n d : Int} (he : 0 ≤ e) (hn : 1 ≤ n) (hd : n ≤ d) (h : d < 18446744073709551616) : 0 ≤ rawP e n d := by
  obtain ⟨h1, h2, _⟩ := at_pos hn hd h
  exact cl_nonneg (cl_nonneg (Int.mul_nonneg he (by omega)) (by omega)) (by omega)
theorem pow_word {e n d : Int} (he : 0 ≤ e) (hn : 1 ≤ n) (hd : n ≤ d) (h : d < 18446744073709551616) : Word (powV e n d) := nar_word (raw_nonneg he hn hd h)
theorem pow_mono {e e' n d : Int} (hn : 1 ≤ n) (hd : n ≤ d) (h : d < 18446744073709551616) (hee : e ≤ e') : powV e n d ≤ powV e' n d := by
  obtain ⟨h1, h2, _⟩ := at_pos hn hd h
  exact nar_mono (cl_mono (by omega) (cl_mono (by omega) (Int.mul_le_mul_of_nonneg_right hee (by omega))))
theorem pow_zero {n d : Int} (hn : 1 ≤ n) (hd : n ≤ d) (h : d < 18446744073709551616) : powV 0 n d = 0 := by
  obtain ⟨h1, h2, _⟩ := at_pos hn hd h
  unfold powV rawP
  rw [Int.zero_mul, cl_zero (by omega), cl_zero (by omega)]
  rfl
theorem pow_pos {e n d : Int} (he : 1 ≤ e) (hn : 1 ≤ n) (hd : n ≤ d) (h : d < 18446744073709551616) : 1 ≤ powV e n d := by
  obtain ⟨h1, h2, _⟩ := at_pos hn hd h
  have : 1 ≤ rawP e n d := cl_pos (cl_pos (by
    have := Int.mul_le_mul he h2 (by omega) (by omega)
    omega) (by omega)) (by omega)
  unfold powV narV
  split <;> omega
/-- A factor. -/
def facV (l : List Ac) (w : Int) (n : Nat) : Int := ((halfN (powV (efV l w n) (numV l n) (denV l n)).toNat : Nat) : Int)
theorem half_lt {e : Nat} (he : 0 < e) : halfN e < 9223372036854775808 := by
  have h1 := half_top e
  by_cases h : halfN e = 9223372036854775808
  · exfalso
    obtain ⟨K, hK⟩ : ∃ K, K = 2 ^ 32 := ⟨_, rfl⟩
    have h2 := half_low e hK
    rw [h] at h2
    clear hK
    obtain ⟨f, rfl⟩ : ∃ f, e = f + 1 := ⟨e - 1, by omega⟩
    have h3 : 0 < 9223372036854775808 ^ K := Nat.pow_pos (by omega)
    have h4 : 2 ≤ 2 ^ (f + 1) := by rw [Nat.pow_succ]; have := Nat.pow_pos (n := f) (show 0 < 2 by omega); omega
    have h5 := Nat.mul_le_mul (Nat.le_refl (9223372036854775808 ^ K)) h4
    generalize 9223372036854775808 ^ K = P at *
    omega
  · omega
theorem half_none : halfN 0 = 9223372036854775808 := by
  have := half_whole (n := 0) (by omega)
  rw [Nat.zero_mul] at this
  rw [this]
section
variable {l : List Ac} {w : Int} {n : Nat}
theorem fac_one (h : Wu l) (hu : UsOk l) (hw : WOk l w) (hn : n < l.length) : 0 ≤ facV l w n ∧ facV l w n ≤ 9223372036854775808 ∧ (facV l w n = 9223372036854775808 ↔ efV l w n = 0) := by
  obtain ⟨h1, h2, h3⟩ := ef_word h hu hw hn
  obtain ⟨d1, d2, d3, d4⟩ := den_word h hn
  refine ⟨Int.natCast_nonneg _, by have := half_top (powV (efV l w n) (numV l n) (denV l n)).toNat; unfold facV; omega, fun e => ?_, fun e => ?_⟩
  · by_cases h0 : efV l w n = 0
    · exact h0
    · exfalso
      have hp := pow_pos (e := efV l w n) (by omega) d1 d2 d4
      have := half_lt (e := (powV (efV l w n) (numV l n) (denV l n)).toNat) (by omega)
      unfold facV at e
      omega
  · unfold facV
    rw [e, pow_zero d1 d2 d4]
    show ((halfN 0 : Nat) : Int) = _
    rw [half_none]
    rfl
theorem fac_word (h : Wu l) (hu : UsOk l) (hw : WOk l w) (hn : n < l.length) : Word (facV l w n) := by
  have := fac_one h hu hw hn
  exact ⟨this.1, by omega⟩
end

/- MORE USED IS NOT BETTER. -/
/-- The same accounts but for the usages. -/
def Alike (l m : List Ac) : Prop := l.map plainAc = m.map plainAc
section
variable {l m : List Ac}
theorem Alike.len (h : Alike l m) : l.length = m.length := by have := congrArg List.length h; simpa using this
theorem Alike.up (h : Alike l m) (n : Nat) : up l n = up m n := by rw [← up_plain, h, up_plain]
theorem Alike.sh (h : Alike l m) (n : Nat) : shOf l n = shOf m n := by rw [← sh_plain, h, sh_plain]
theorem Alike.tog (h : Alike l m) (n : Nat) : Tr.tog l n = Tr.tog m n := by rw [← tog_plain, h, tog_plain]
theorem Alike.kids (h : Alike l m) (n : Nat) : kidsV l n = kidsV m n := by rw [← kids_plain, h, kids_plain]
theorem Alike.wu (h : Alike l m) (hw : Wu l) : Wu m := by unfold Wu at *; rw [← h]; exact hw
theorem Alike.dep (h : Alike l m) (f n : Nat) : depN l f n = depN m f n := by
  induction f generalizing n with
  | zero => rfl
  | succ f ih => simp only [depN]; rw [h.up, ih]
theorem Alike.dOf (h : Alike l m) (n : Nat) : Tr.dOf l n = Tr.dOf m n := by unfold Tr.dOf; rw [h.dep]
theorem Alike.numZ (h : Alike l m) : ∀ d n, Tr.numZ l d n = Tr.numZ m d n
  | 0, _ => rfl
  | d + 1, n => by simp only [Tr.numZ]; rw [h.up, h.sh, h.numZ d]
theorem Alike.denZ (h : Alike l m) : ∀ d n, Tr.denZ l d n = Tr.denZ m d n
  | 0, _ => rfl
  | d + 1, n => by simp only [Tr.denZ]; rw [h.up, h.tog, h.denZ d]
theorem Alike.num (h : Alike l m) (n : Nat) : numV l n = numV m n := by unfold numV; rw [h.dOf, h.numZ]
theorem Alike.den (h : Alike l m) (n : Nat) : denV l n = denV m n := by unfold denV; rw [h.dOf, h.denZ]
theorem Alike.sm (h : Alike l m) (hus : ∀ n, usOf l n ≤ usOf m n) : ∀ f n, Tr.sm l f n ≤ Tr.sm m f n
  | 0, n => hus n
  | f + 1, n => by
    simp only [Tr.sm]
    rw [h.kids]
    exact sumTo_mono (hus n) (fun k _ => h.sm hus f k)
theorem Alike.sum (h : Alike l m) (hus : ∀ n, usOf l n ≤ usOf m n) (n : Nat) : sumV l n ≤ sumV m n := h.sm hus 5 n
/-- u and s of t of what is above it: more with more. -/
theorem part_mono {u v x y s t : Int} (hs : 1 ≤ s) (ht : s ≤ t) (huv : u ≤ v) (hxy : x ≤ y) : u + (x - u) * s / t ≤ v + (y - v) * s / t := by
  have htp : 0 < t := by omega
  have e1 : u + (x - u) * s / t = ((x - u) * s + u * t) / t := by rw [Int.add_mul_ediv_right _ _ (by omega)]; omega
  have e2 : v + (y - v) * s / t = ((y - v) * s + v * t) / t := by rw [Int.add_mul_ediv_right _ _ (by omega)]; omega
  rw [e1, e2]
  refine Int.ediv_le_ediv htp ?_
  have a1 : (x - u) * s + u * t = x * s + u * (t - s) := by rw [Int.sub_mul, Int.mul_sub]; omega
  have a2 : (y - v) * s + v * t = y * s + v * (t - s) := by rw [Int.sub_mul, Int.mul_sub]; omega
  rw [a1, a2]
  exact Int.add_le_add (Int.mul_le_mul_of_nonneg_right hxy (by omega)) (Int.mul_le_mul_of_nonneg_right huv (by omega))
theorem Alike.u (h : Alike l m) (hus : ∀ n, usOf l n ≤ usOf m n) {w : Int} (hw : 0 ≤ w) (n : Nat) : uV l w n ≤ uV m w n := by
  unfold uV
  by_cases e : w = 0
  · subst e; simp
  · exact Int.ediv_le_ediv (by omega) (Int.mul_le_mul_of_nonneg_right (h.sum hus n) (by omega))
theorem Alike.ef (h : Alike l m) (hwu : Wu l) (hus : ∀ n, usOf l n ≤ usOf m n) {w : Int} (hw : 0 ≤ w) : ∀ {d n}, n < l.length → Dep l d n → efV l w n ≤ efV m w n
  | 0, n, hn, hd => by
    obtain rfl : n = 0 := hd
    rw [ef_root, ef_root]
    exact h.u hus hw 0
  | d + 1, n, hn, hd => by
    have ih := h.ef hwu hus hw (hwu.up_lt hn) hd.2
    obtain ⟨s1, s2⟩ := sh_tog hwu hn hd.1
    rw [ef_up hwu w hn hd.1, ef_up (h.wu hwu) w (by rw [← h.len]; exact hn) hd.1, ← h.sh, ← h.up, ← h.tog]
    exact part_mono s1 s2 (h.u hus hw n) ih
theorem Alike.fac (h : Alike l m) (hwu : Wu l) (hus : ∀ n, usOf l n ≤ usOf m n) {w : Int} (hw : 0 ≤ w) {n : Nat} (hn : n < l.length) : facV m w n ≤ facV l w n := by
  obtain ⟨d, _, hd⟩ := hwu.deep hn
  have h1 := h.ef hwu hus hw hn hd
  obtain ⟨d1, d2, d3, d4⟩ := den_word hwu hn
  have h2 := pow_mono d1 d2 d4 h1
  unfold facV
  rw [← h.num, ← h.den]
  exact Int.ofNat_le.2 (half_falls (by omega))
end
/-- All usages together. -/
def usN (l : List Ac) (k : Nat) : Nat := (usOf l k).toNat
theorem sm_below {l : List Ac} (h : Wu l) (hu : UsOk l) : ∀ {f n d}, n < l.length → Dep l d n → sm l f n ≤ ((sumL (fun j => if belN (l.map plainAc) n (l.map plainAc).length j then usN l j else 0) (List.range l.length) : Nat) : Int) := by
  have hself : ∀ {n}, n < l.length → ∀ ks : List Nat, ks.Nodup → n ∉ ks → ∀ g : Nat → Nat, True := fun _ _ _ _ _ => trivial
  clear hself
  intro f
  induction f with
  | zero =>
    intro n d hn hd
    show usOf l n ≤ _
    have hin : n ∈ List.range l.length := List.mem_range.2 hn
    have key : ∀ xs : List Nat, n ∈ xs → usN l n ≤ sumL (fun j => if belN (l.map plainAc) n (l.map plainAc).length j then usN l j else 0) xs := fun xs => by
      induction xs with
      | nil => intro hx; cases hx
      | cons x xs ih =>
        intro hx
        simp only [sumL]
        rcases List.mem_cons.1 hx with rfl | hx
        · have : belN (l.map plainAc) n (l.map plainAc).length n = true := (Wf.bel h n (by rwa [List.length_map])).2 (below_self _ _)
          rw [if_pos this]
          omega
        · have := ih hx
          omega
    have := key _ hin
    have := (us_word hu n).1
    unfold usN at *
    omega
  | succ f ih =>
    intro n d hn hd
    have hkn : (kidsV l n).Nodup := (range_nodup _).filter _
    have step : ∀ ks : List Nat, (∀ k ∈ ks, k ∈ kidsV l n) → ∀ s : Int, sumTo (sm l f) s ks ≤ s + ((sumL (fun k => sumL (fun j => if belN (l.map plainAc) k (l.map plainAc).length j then usN l j else 0) (List.range l.length)) ks : Nat) : Int) := fun ks => by
      induction ks with
      | nil => intro _ s; simp [sumTo, sumL]
      | cons k ks ihk =>
        intro hk s
        have h1 := ihk (fun j hj => hk j (by simp [hj])) (addS s (sm l f k))
        have h2 := addS_le s (sm l f k)
        have hkk := hk k (by simp)
        have h3 := ih (h.kid hkk).2.1 (h.kid_dep hkk hd)
        show sumTo (sm l f) (addS s (sm l f k)) ks ≤ _
        simp only [sumL]
        omega
    have h1 := step (kidsV l n) (fun _ hk => hk) (usOf l n)
    show sumTo (sm l f) (usOf l n) (kidsV l n) ≤ _
    refine Int.le_trans h1 ?_
    rw [sumL_swap]
    have e2 : sumL (fun j => if (j == n) then usN l j else 0) (List.range l.length) = usN l n := by
      have key : ∀ xs : List Nat, xs.Nodup → n ∈ xs → sumL (fun j => if (j == n) then usN l j else 0) xs = usN l n := fun xs => by
        induction xs with
        | nil => intro _ hx; cases hx
        | cons x xs ihx =>
          intro hnd hx
          rw [List.nodup_cons] at hnd
          simp only [sumL]
          by_cases e : x = n
          · subst e
            rw [sumL_congr (g := fun _ => 0) (fun b hb => by
              have : ¬ (b == x) = true := fun y => hnd.1 (by rw [← (beq_iff_eq.1 y)]; exact hb)
              rw [if_neg this]), sumL_zero]
            simp
          · rw [ihx hnd.2 (by rcases List.mem_cons.1 hx with h | h; exact absurd h.symm e; exact h)]
            simp [e]
      exact key _ (range_nodup _) (List.mem_range.2 hn)
    have hun : usOf l n = ((usN l n : Nat) : Int) := by have := (us_word hu n).1; unfold usN; omega
    rw [hun, ← e2, ← Int.natCast_add, ← sumL_add]
    refine Int.ofNat_le.2 (sumL_le (fun j hj => ?_))
    have hjl := List.mem_range.1 hj
    have hjl' : j < (l.map plainAc).length := by rwa [List.length_map]
    have hnl' : n < (l.map plainAc).length := by rwa [List.length_map]
    by_cases hb : Blw (l.map plainAc) n j
    · rw [if_pos ((Wf.bel h n hjl').2 hb)]
      by_cases e : j = n
      · have z : sumL (fun a => if belN (l.map plainAc) a (l.map plainAc).length j then usN l j else 0) (kidsV l n) = 0 := by
          rw [sumL_congr (g := fun _ => 0) (fun k hk => if_neg (fun x => (below_kid h (by rw [kids_plain]; exact hk) hjl' ((Wf.bel h k hjl').1 x)).2 e)), sumL_zero]
        rw [z]
        split <;> omega
      · have z : sumL (fun a => if belN (l.map plainAc) a (l.map plainAc).length j then usN l j else 0) (kidsV l n) ≤ usN l j := by
          have key : ∀ ks : List Nat, ks.Nodup → (∀ k ∈ ks, k ∈ kidsV l n) → sumL (fun a => if belN (l.map plainAc) a (l.map plainAc).length j then usN l j else 0) ks ≤ usN l j := fun ks => by
            induction ks with
            | nil => intro _ _; exact Nat.zero_le _
            | cons k ks ihk =>
              intro hnd hks
              rw [List.nodup_cons] at hnd
              simp only [sumL]
              by_cases hb1 : belN (l.map plainAc) k (l.map plainAc).length j = true
              · rw [if_pos hb1, sumL_congr (g := fun _ => 0) (fun b hbm => if_neg (fun x => by
                  have hkb := below_one h (by rw [kids_plain]; exact hks b (by simp [hbm])) (by rw [kids_plain]; exact hks k (by simp)) hnl' hjl' ((Wf.bel h b hjl').1 x) ((Wf.bel h k hjl').1 hb1)
                  exact hnd.1 (by rw [← hkb]; exact hbm))), sumL_zero]
                omega
              · rw [if_neg hb1]
                have := ihk hnd.2 (fun b hbm => hks b (by simp [hbm]))
                omega
          exact key _ hkn (fun _ hk => hk)
        have : ¬ (j == n) = true := by simp [e]
        rw [if_neg this]
        omega
    · have z : sumL (fun a => if belN (l.map plainAc) a (l.map plainAc).length j then usN l j else 0) (kidsV l n) = 0 := by
        rw [sumL_congr (g := fun _ => 0) (fun k hk => if_neg (fun x => hb (below_kid h (by rw [kids_plain]; exact hk) hjl' ((Wf.bel h k hjl').1 x)).1)), sumL_zero]
      have : ¬ (j == n) = true := by
        intro e
        rw [beq_iff_eq] at e
        exact hb (e ▸ below_self _ j)
      rw [z, if_neg this]
      exact Nat.zero_le _
/-- The root's sum is not above all usages together. -/
theorem root_all {l : List Ac} (h : Wu l) (hu : UsOk l) : sumV l 0 ≤ ((sumL (usN l) (List.range l.length) : Nat) : Int) := by
  refine Int.le_trans (sm_below h hu (d := 0) h.pos rfl) (Int.ofNat_le.2 (sumL_le (fun j _ => ?_)))
  split <;> omega
/-- Where all together is not above the floor, the floor is the whole. -/
theorem w_floor {l : List Ac} (h : Wu l) (hu : UsOk l) {fl : Int} (hs : ((sumL (usN l) (List.range l.length) : Nat) : Int) ≤ fl) : wV l fl = fl := by
  have := root_all h hu
  unfold wV
  split <;> omega
end Go.Proofs.YtjgllfpnmmopdaaGreatDoor.Tr
