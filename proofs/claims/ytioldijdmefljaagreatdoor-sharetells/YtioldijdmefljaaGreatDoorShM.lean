/-
  THE PLAIN MATHEMATICS OF LAYER 13 (share): shares, sums, effective usages, powers. No Go in sight.
-/
import Derived.Test.YtioldijdmefljaaGreatDoorTrM
import Derived.Test.YtioldijdmefljaaGreatDoorMth
namespace Go.Proofs.YtioldijdmefljaaGreatDoor.Tr
open Wd

/-- A list that is a tree's, whatever the usages are. -/
def Wu (l : List Ac) : Prop := Wf (l.map plainAc)
def shOf (l : List Ac) (n : Nat) : Int := match l[n]? with
  | some a => a.sh
  | none => 0
def usOf (l : List Ac) (n : Nat) : Int := match l[n]? with
  | some a => a.us
  | none => 0
theorem sh_of {l : List Ac} {n : Nat} {a : Ac} (h : l[n]? = some a) : shOf l n = a.sh := by unfold shOf; rw [h]
theorem us_of {l : List Ac} {n : Nat} {a : Ac} (h : l[n]? = some a) : usOf l n = a.us := by unfold usOf; rw [h]
theorem up_plain (l : List Ac) (n : Nat) : up (l.map plainAc) n = up l n := by
  unfold up
  rw [List.getElem?_map]
  cases l[n]? <;> rfl
theorem sh_plain (l : List Ac) (n : Nat) : shOf (l.map plainAc) n = shOf l n := by
  unfold shOf
  rw [List.getElem?_map]
  cases l[n]? <;> rfl
theorem dep_plain {l : List Ac} : ∀ {d n}, Dep (l.map plainAc) d n ↔ Dep l d n
  | 0, _ => Iff.rfl
  | d + 1, n => by
    show (n ≠ 0 ∧ Dep (l.map plainAc) d (up (l.map plainAc) n)) ↔ (n ≠ 0 ∧ Dep l d (up l n))
    rw [up_plain, dep_plain]
theorem kids_plain (l : List Ac) (n : Nat) : kidsV (l.map plainAc) n = kidsV l n := by
  unfold kidsV
  rw [List.length_map]
  refine List.filter_congr (fun i _ => ?_)
  rw [List.getElem?_map]
  cases l[i]? <;> rfl
theorem bel_plain {l : List Ac} {n : Nat} : ∀ {s k}, Bel (l.map plainAc) n s k ↔ Bel l n s k
  | 0, _ => Iff.rfl
  | s + 1, k => by
    show (k ≠ n ∧ k ≠ 0 ∧ Bel (l.map plainAc) n s (up (l.map plainAc) k)) ↔ (k ≠ n ∧ k ≠ 0 ∧ Bel l n s (up l k))
    rw [up_plain, bel_plain]
theorem blw_plain {l : List Ac} {n k : Nat} : Blw (l.map plainAc) n k ↔ Blw l n k := ⟨fun ⟨s, h⟩ => ⟨s, bel_plain.1 h⟩, fun ⟨s, h⟩ => ⟨s, bel_plain.2 h⟩⟩

section
variable {l : List Ac} {n k j : Nat} {a : Ac}
theorem Wu.len (h : Wu l) : l.length ≤ 64 := by have := Wf.len h; rwa [List.length_map] at this
theorem Wu.pos (h : Wu l) : 0 < l.length := by have := Wf.pos h; rwa [List.length_map] at this
theorem Wu.root (h : Wu l) : ∃ a, l[0]? = some a ∧ a.pa = -1 ∧ a.sh = 1 := by
  have h0 := Wf.root h
  rw [List.getElem?_map] at h0
  cases ha : l[0]? with
  | none => rw [ha] at h0; cases h0
  | some a =>
    rw [ha] at h0
    simp only [Option.map_some, Option.some.injEq] at h0
    refine ⟨a, rfl, ?_, ?_⟩
    · have : (plainAc a).pa = rootAc.pa := by rw [h0]
      exact this
    · have : (plainAc a).sh = rootAc.sh := by rw [h0]
      exact this
theorem Wu.row (h : Wu l) (ha : l[n]? = some a) (hn : 0 < n) : 0 ≤ a.pa ∧ a.pa < (l.length : Int) ∧ 1 ≤ a.sh ∧ a.sh ≤ 4096 := by
  have := Wf.row h n (plainAc a) (by simp [ha]) hn
  obtain ⟨_, h1, h2, h3, _⟩ := this
  rw [List.length_map] at h2
  unfold okSh at h3
  simp at h3
  exact ⟨h1, h2, h3.1, h3.2⟩
theorem Wu.up_lt (h : Wu l) (hn : n < l.length) : up l n < l.length := by
  have := Wf.up_lt h (n := n) (by rwa [List.length_map])
  rwa [up_plain, List.length_map] at this
theorem Wu.deep (h : Wu l) (hn : n < l.length) : ∃ d, d ≤ 4 ∧ Dep l d n := by
  obtain ⟨d, h1, h2⟩ := Wf.deep h n (by rwa [List.length_map])
  exact ⟨d, h1, dep_plain.1 h2⟩
theorem Wu.kid (h : Wu l) (hk : k ∈ kidsV l n) : k ≠ 0 ∧ k < l.length ∧ up l k = n := by
  rw [← kids_plain] at hk
  have := kid_pos h hk
  rwa [List.length_map, up_plain] at this
theorem Wu.kid_of (h : Wu l) (h0 : k ≠ 0) (hk : k < l.length) : k ∈ kidsV l (up l k) := by
  have := Tr.kid_of h h0 (by rwa [List.length_map])
  rwa [kids_plain, up_plain] at this
theorem Wu.kid_dep (h : Wu l) {d : Nat} (hk : k ∈ kidsV l n) (hd : Dep l d n) : Dep l (d + 1) k := by
  rw [← kids_plain] at hk
  exact dep_plain.1 (Tr.kid_dep h hk (dep_plain.2 hd))
theorem Wu.sh (h : Wu l) (hn : n < l.length) : 1 ≤ shOf l n ∧ shOf l n ≤ 4096 := by
  obtain ⟨a, ha⟩ : ∃ a, l[n]? = some a := ⟨_, List.getElem?_eq_getElem hn⟩
  rw [sh_of ha]
  by_cases h0 : 0 < n
  · have := h.row ha h0; omega
  · obtain rfl : n = 0 := by omega
    obtain ⟨b, hb, _, h1⟩ := h.root
    rw [ha] at hb; cases hb
    omega
/-- How deep. -/
def dOf (l : List Ac) (n : Nat) : Nat := (depN l 5 n).getD 0
theorem Wu.dOf (h : Wu l) (hn : n < l.length) : Dep l (dOf l n) n ∧ Tr.dOf l n ≤ 4 := by
  obtain ⟨d, h1, h2⟩ := h.deep hn
  have := dep_depN h2 (f := 5) (by omega)
  unfold Tr.dOf
  rw [this]
  exact ⟨h2, h1⟩
theorem dOf_of {d : Nat} (hd : Dep l d n) (h4 : d ≤ 4) : dOf l n = d := by
  unfold dOf
  rw [dep_depN hd (f := 5) (by omega)]
  rfl
theorem dOf_zero (l : List Ac) : dOf l 0 = 0 := dOf_of (d := 0) rfl (by omega)
theorem Wu.dOf_up (h : Wu l) (hn : n < l.length) (h0 : n ≠ 0) : Tr.dOf l n = Tr.dOf l (up l n) + 1 := by
  obtain ⟨h1, h2⟩ := h.dOf hn
  cases hd : Tr.dOf l n with
  | zero => rw [hd] at h1; exact absurd h1 h0
  | succ d =>
    rw [hd] at h1
    rw [dOf_of h1.2 (by omega)]
theorem Wu.up_ne (h : Wu l) (hn : n < l.length) (h0 : n ≠ 0) : up l n ≠ n := fun e => by
  have := h.dOf_up hn h0
  rw [e] at this
  omega
end

/-- The shares of those among the first k that have this parent. -/
def togN (l : List Ac) (p : Int) : Nat → Int
  | 0 => 0
  | k + 1 => togN l p k + (match l[k]? with
    | some a => if a.pa = p then a.sh else 0
    | none => 0)
def tog (l : List Ac) (p : Nat) : Int := togN l p l.length
/-- Those among the first k that have this parent. -/
def kidP (l : List Ac) (p : Nat) (k : Nat) : List Nat := (List.range k).filter fun i => decide ((l[i]?.map (·.pa)) = some (p : Int))
theorem kidP_all (l : List Ac) (p : Nat) : kidP l p l.length = kidsV l p := rfl
theorem kidP_yes {l : List Ac} {p k : Nat} {a : Ac} (h : l[k]? = some a) (e : a.pa = p) : kidP l p (k + 1) = kidP l p k ++ [k] := by
  unfold kidP
  rw [List.range_succ, List.filter_append]
  congr 1
  simp [h, e]
theorem kidP_no {l : List Ac} {p k : Nat} {a : Ac} (h : l[k]? = some a) (e : a.pa ≠ p) : kidP l p (k + 1) = kidP l p k := by
  unfold kidP
  rw [List.range_succ, List.filter_append]
  have : List.filter (fun i => decide ((l[i]?.map (·.pa)) = some (p : Int))) [k] = [] := by simp [h, e]
  rw [this, List.append_nil]
theorem togN_yes {l : List Ac} {p : Int} {k : Nat} {a : Ac} (h : l[k]? = some a) (e : a.pa = p) : togN l p (k + 1) = togN l p k + a.sh := by
  simp only [togN, h, if_pos e]
theorem togN_no {l : List Ac} {p : Int} {k : Nat} {a : Ac} (h : l[k]? = some a) (e : a.pa ≠ p) : togN l p (k + 1) = togN l p k := by
  simp only [togN, h, if_neg e, Int.add_zero]
theorem togN_plain (l : List Ac) (p : Int) : ∀ k, togN (l.map plainAc) p k = togN l p k
  | 0 => rfl
  | k + 1 => by
    simp only [togN]
    rw [togN_plain l p k, List.getElem?_map]
    cases l[k]? <;> rfl
theorem tog_plain (l : List Ac) (p : Nat) : tog (l.map plainAc) p = tog l p := by
  unfold tog
  rw [List.length_map, togN_plain]
/-- The share of each between 1 and 4096. -/
def ShOk (l : List Ac) : Prop := ∀ (n : Nat) (a : Ac), l[n]? = some a → 1 ≤ a.sh ∧ a.sh ≤ 4096
theorem Wu.shOk {l : List Ac} (h : Wu l) : ShOk l := fun n a ha => by
  have := h.sh (List.getElem?_eq_some_iff.1 ha).1
  rwa [sh_of ha] at this
theorem togN_bounds {l : List Ac} (h : ShOk l) (p : Nat) : ∀ k, ((kidP l p k).length : Int) ≤ togN l p k ∧ togN l p k ≤ 4096 * (kidP l p k).length
  | 0 => by simp [togN, kidP]
  | k + 1 => by
    have ih := togN_bounds h p k
    cases hk : l[k]? with
    | none =>
      have e1 : togN l p (k + 1) = togN l p k := by simp only [togN, hk, Int.add_zero]
      have e2 : kidP l p (k + 1) = kidP l p k := by
        unfold kidP
        rw [List.range_succ, List.filter_append]
        have : List.filter (fun i => decide ((l[i]?.map (·.pa)) = some (p : Int))) [k] = [] := by simp [hk]
        rw [this, List.append_nil]
      rw [e1, e2]; exact ih
    | some a =>
      have ha := h k a hk
      by_cases e : a.pa = p
      · rw [togN_yes hk e, kidP_yes hk e, List.length_append]
        simp only [List.length_cons, List.length_nil]
        omega
      · rw [togN_no hk e, kidP_no hk e]; exact ih
theorem kidP_le (l : List Ac) (p k : Nat) : (kidP l p k).length ≤ k := by
  unfold kidP
  refine Nat.le_trans (List.length_filter_le _ _) ?_
  rw [List.length_range]
  exact Nat.le_refl _
theorem togN_word {l : List Ac} (h : Wu l) (p : Nat) {k : Nat} (hk : k ≤ 64) : 0 ≤ togN l p k ∧ togN l p k ≤ 262144 := by
  have h1 := togN_bounds h.shOk p k
  have h2 := kidP_le l p k
  omega
theorem tog_word {l : List Ac} (h : Wu l) (p : Nat) : 0 ≤ tog l p ∧ tog l p ≤ 262144 := togN_word h p h.len
/-- One's share is in its parent's sum. -/
theorem togN_mem {l : List Ac} (h : ShOk l) {p n : Nat} {a : Ac} (ha : l[n]? = some a) (e : a.pa = p) : ∀ {k}, n < k → a.sh ≤ togN l p k
  | 0, hk => by omega
  | k + 1, hk => by
    by_cases ek : n = k
    · subst ek
      rw [togN_yes ha e]
      have := (togN_bounds h p n).1
      omega
    · have ih := togN_mem h ha e (k := k) (by omega)
      cases hk' : l[k]? with
      | none => simp only [togN, hk', Int.add_zero]; exact ih
      | some b =>
        have hb := h k b hk'
        by_cases e' : b.pa = p
        · rw [togN_yes hk' e']; omega
        · rw [togN_no hk' e']; exact ih
theorem sh_tog {l : List Ac} (h : Wu l) {n : Nat} (hn : n < l.length) (h0 : n ≠ 0) : 1 ≤ shOf l n ∧ shOf l n ≤ tog l (up l n) := by
  obtain ⟨a, ha⟩ : ∃ a, l[n]? = some a := ⟨_, List.getElem?_eq_getElem hn⟩
  have h1 := h.row ha (by omega)
  have h2 := up_of ha
  have := togN_mem h.shOk ha (p := up l n) (by rw [h2]; omega) hn
  rw [sh_of ha]
  exact ⟨h1.2.2.1, this⟩

/-- A share's two numbers, d deep. -/
def numZ (l : List Ac) : Nat → Nat → Int
  | 0, _ => 1
  | d + 1, n => numZ l d (up l n) * shOf l n
def denZ (l : List Ac) : Nat → Nat → Int
  | 0, _ => 1
  | d + 1, n => denZ l d (up l n) * tog l (up l n)
def numV (l : List Ac) (n : Nat) : Int := numZ l (dOf l n) n
def denV (l : List Ac) (n : Nat) : Int := denZ l (dOf l n) n
theorem num_root (l : List Ac) : numV l 0 = 1 := by unfold numV; rw [dOf_zero]; rfl
theorem den_root (l : List Ac) : denV l 0 = 1 := by unfold denV; rw [dOf_zero]; rfl
theorem num_up {l : List Ac} (h : Wu l) {n : Nat} (hn : n < l.length) (h0 : n ≠ 0) : numV l n = numV l (up l n) * shOf l n := by
  unfold numV
  rw [h.dOf_up hn h0]
  rfl
theorem den_up {l : List Ac} (h : Wu l) {n : Nat} (hn : n < l.length) (h0 : n ≠ 0) : denV l n = denV l (up l n) * tog l (up l n) := by
  unfold denV
  rw [h.dOf_up hn h0]
  rfl
/-- The way up. -/
def anc (l : List Ac) : Nat → Nat → List Nat
  | 0, _ => []
  | d + 1, n => up l n :: anc l d (up l n)
def prodL (f : Nat → Nat) : List Nat → Nat
  | [] => 1
  | a :: m => prodL f m * f a
def pow4096 : Nat → Int
  | 0 => 1
  | d + 1 => pow4096 d * 4096
theorem num_bounds {l : List Ac} (h : Wu l) : ∀ {d n}, n < l.length → Dep l d n → 1 ≤ numZ l d n ∧ numZ l d n ≤ denZ l d n ∧ numZ l d n ≤ pow4096 d ∧ denZ l d n ≤ pow4096 d * prodL (fun p => (kidsV l p).length) (anc l d n)
  | 0, _, _, _ => by simp [numZ, denZ, pow4096, prodL, anc]
  | d + 1, n, hn, hd => by
    obtain ⟨i1, i2, i3, i4⟩ := num_bounds h (h.up_lt hn) hd.2
    obtain ⟨s1, s2⟩ := sh_tog h hn hd.1
    have s3 := (h.sh hn).2
    have s4 : tog l (up l n) ≤ 4096 * (kidsV l (up l n)).length := (togN_bounds h.shOk (up l n) l.length).2
    simp only [numZ, denZ, pow4096, anc, prodL]
    refine ⟨?_, ?_, ?_, ?_⟩
    · calc (1 : Int) = 1 * 1 := rfl
        _ ≤ numZ l d (up l n) * shOf l n := Int.mul_le_mul i1 s1 (by omega) (by omega)
    · exact Int.mul_le_mul i2 s2 (by omega) (by omega)
    · exact Int.mul_le_mul i3 s3 (by omega) (by omega)
    · have hp : (0 : Int) ≤ pow4096 d := by omega
      refine Int.le_trans (Int.mul_le_mul i4 s4 (by omega) (Int.mul_nonneg hp (Int.natCast_nonneg _))) ?_
      rw [Int.natCast_mul]
      have : ∀ a b c d : Int, a * b * (c * d) = a * c * (b * d) := fun a b c d => by
        rw [Int.mul_assoc, Int.mul_assoc, ← Int.mul_assoc b c d, Int.mul_comm b c, Int.mul_assoc c b d]
      rw [this]
      exact Int.le_refl _
theorem anc_dep {l : List Ac} : ∀ {d n}, Dep l d n → ∀ p ∈ anc l d n, ∃ e, e < d ∧ Dep l e p
  | 0, _, _, _, hp => by cases hp
  | d + 1, n, hd, p, hp => by
    rcases List.mem_cons.1 hp with rfl | hp
    · exact ⟨d, by omega, hd.2⟩
    · obtain ⟨e, h1, h2⟩ := anc_dep hd.2 p hp
      exact ⟨e, by omega, h2⟩
theorem anc_nodup {l : List Ac} : ∀ {d n}, Dep l d n → (anc l d n).Nodup
  | 0, _, _ => List.nodup_nil
  | d + 1, n, hd => by
    refine List.nodup_cons.2 ⟨fun hp => ?_, anc_nodup hd.2⟩
    obtain ⟨e, h1, h2⟩ := anc_dep hd.2 _ hp
    have := dep_uniq h2 hd.2
    omega
theorem sumL_le {α : Type} {f g : α → Nat} {l : List α} (h : ∀ a ∈ l, f a ≤ g a) : sumL f l ≤ sumL g l := by
  induction l with
  | nil => exact Nat.le_refl _
  | cons a l ih =>
    simp only [sumL]
    have h1 := h a (by simp)
    have h2 := ih (fun b hb => h b (by simp [hb]))
    omega
theorem sumL_most {l : List Nat} (hn : l.Nodup) {p : Nat → Bool} (hu : ∀ j ∈ l, ∀ k ∈ l, p j = true → p k = true → j = k) : sumL (fun a => if p a then 1 else 0) l ≤ 1 := by
  by_cases h : ∃ k ∈ l, p k = true
  · obtain ⟨k, hk, hp⟩ := h
    exact Nat.le_of_eq (sumL_one hn hk hp (fun j hj hpj => hu j hj k hk hpj hp))
  · rw [sumL_congr (g := fun _ => 0) (fun a ha => if_neg (fun x => h ⟨a, ha, x⟩)), sumL_zero]
    omega
/-- The children of several ones are together not more than all but the root. -/
theorem kids_sum {l : List Ac} (h : Wu l) {ps : List Nat} (hps : ps.Nodup) : sumL (fun p => (kidsV l p).length) ps ≤ 63 := by
  have e1 : ∀ p, (kidsV l p).length = sumL (fun i => if decide ((l[i]?.map (·.pa)) = some (p : Int)) then 1 else 0) (List.range l.length) := fun p => len_filter _ _
  rw [sumL_congr (g := fun p : Nat => sumL (fun i => if decide ((l[i]?.map (·.pa)) = some (p : Int)) then 1 else 0) (List.range l.length)) (fun p _ => e1 p), sumL_swap]
  have e2 : sumL (fun i => sumL (fun p : Nat => if decide ((l[i]?.map (·.pa)) = some (p : Int)) then 1 else 0) ps) (List.range l.length) ≤ sumL (fun i => if decide (i ≠ 0) then 1 else 0) (List.range l.length) := by
    refine sumL_le (fun i _ => ?_)
    by_cases hi : i = 0
    · subst hi
      obtain ⟨a, ha, hpa, _⟩ := h.root
      have : sumL (fun p : Nat => if decide ((l[0]?.map (·.pa)) = some (p : Int)) then 1 else 0) ps = 0 := by
        rw [sumL_congr (g := fun _ => 0) (fun p _ => if_neg (by
          rw [ha]
          simp [hpa])), sumL_zero]
      rw [this]
      exact Nat.zero_le _
    · have : (if decide (i ≠ 0) = true then 1 else 0) = 1 := by simp [hi]
      rw [this]
      refine sumL_most hps (fun p _ q _ hp hq => ?_)
      simp only [decide_eq_true_eq] at hp hq
      rw [hp] at hq
      injection hq with hq
      omega
  refine Nat.le_trans e2 ?_
  have hpos := h.pos
  have hlen := h.len
  obtain ⟨m, hm⟩ : ∃ m, l.length = m + 1 := ⟨l.length - 1, by omega⟩
  rw [hm, List.range_succ_eq_map]
  simp only [sumL]
  have : ∀ (xs : List Nat), sumL (fun i => if decide (i ≠ 0) = true then 1 else 0) xs ≤ xs.length := fun xs => by
    induction xs with
    | nil => exact Nat.le_refl _
    | cons a xs ih =>
      simp only [sumL, List.length_cons]
      split <;> omega
  have := this (List.map Nat.succ (List.range m))
  rw [List.length_map, List.length_range] at this
  simp only [ne_eq, not_true_eq_false, decide_false, Bool.false_eq_true, if_false, Nat.zero_add]
  simp only [ne_eq] at this
  omega
theorem four_mul (x y : Nat) : 4 * (x * y) ≤ (x + y) * (x + y) := by
  rcases Nat.le_total x y with h | h
  · obtain ⟨t, rfl⟩ := Nat.exists_eq_add_of_le h
    have e1 : x * (x + t) = x * x + x * t := Nat.mul_add _ _ _
    have e2 : (x + (x + t)) * (x + (x + t)) = 4 * (x * x) + 4 * (x * t) + t * t := by
      have : x + (x + t) = 2 * x + t := by omega
      rw [this, Nat.mul_add, Nat.add_mul, Nat.add_mul, Nat.mul_mul_mul_comm, Nat.mul_comm t (2 * x), Nat.mul_assoc 2 x t]
      omega
    omega
  · obtain ⟨t, rfl⟩ := Nat.exists_eq_add_of_le h
    have e1 : (y + t) * y = y * y + y * t := by rw [Nat.add_mul, Nat.mul_comm t y]
    have e2 : (y + t + y) * (y + t + y) = 4 * (y * y) + 4 * (y * t) + t * t := by
      have : y + t + y = 2 * y + t := by omega
      rw [this, Nat.mul_add, Nat.add_mul, Nat.add_mul, Nat.mul_mul_mul_comm, Nat.mul_comm t (2 * y), Nat.mul_assoc 2 y t]
      omega
    omega
theorem four_prod {a b c e : Nat} (h : a + b + c + e ≤ 63) : a * b * (c * e) < 65536 := by
  have h1 := four_mul a b
  have h2 := four_mul c e
  have h3 := four_mul (a + b) (c + e)
  have h4 : (a + b + (c + e)) * (a + b + (c + e)) ≤ 63 * 63 := Nat.mul_le_mul (by omega) (by omega)
  have h5 : 4 * (a * b) * (4 * (c * e)) ≤ (a + b) * (a + b) * ((c + e) * (c + e)) := Nat.mul_le_mul h1 h2
  have h6 : 4 * (a * b) * (4 * (c * e)) = 16 * (a * b * (c * e)) := by rw [Nat.mul_mul_mul_comm]
  have h7 : (a + b) * (a + b) * ((c + e) * (c + e)) = (a + b) * (c + e) * ((a + b) * (c + e)) := Nat.mul_mul_mul_comm _ _ _ _
  have h8 : (a + b) * (c + e) ≤ 992 := by omega
  have h9 : (a + b) * (c + e) * ((a + b) * (c + e)) ≤ 992 * 992 := Nat.mul_le_mul h8 h8
  omega
theorem den_word {l : List Ac} (h : Wu l) {n : Nat} (hn : n < l.length) : 1 ≤ numV l n ∧ numV l n ≤ denV l n ∧ numV l n ≤ 281474976710656 ∧ denV l n < 18446744073709551616 := by
  obtain ⟨hd, h4⟩ := h.dOf hn
  obtain ⟨b1, b2, b3, b4⟩ := num_bounds h hn hd
  have hs := kids_sum h (anc_nodup hd)
  unfold numV denV
  revert hd h4 b1 b2 b3 b4 hs
  generalize dOf l n = d
  intro hd h4 b1 b2 b3 b4 hs
  have p0 : pow4096 0 = 1 := rfl
  have p1 : pow4096 1 = 4096 := rfl
  have p2 : pow4096 2 = 16777216 := rfl
  have p3 : pow4096 3 = 68719476736 := rfl
  have p4 : pow4096 4 = 281474976710656 := rfl
  have key : prodL (fun p => (kidsV l p).length) (anc l d n) < 65536 := by
    match d, h4 with
    | 0, _ => simp [anc, prodL]
    | 1, _ =>
      simp only [anc, prodL, sumL] at hs ⊢
      omega
    | 2, _ =>
      simp only [anc, prodL, sumL] at hs ⊢
      have := four_prod (a := (kidsV l (up l (up l n))).length) (b := (kidsV l (up l n)).length) (c := 0) (e := 0) (by omega)
      have := four_mul (kidsV l (up l (up l n))).length (kidsV l (up l n)).length
      have h9 := Nat.mul_le_mul (show (kidsV l (up l (up l n))).length + (kidsV l (up l n)).length ≤ 63 by omega) (show (kidsV l (up l (up l n))).length + (kidsV l (up l n)).length ≤ 63 by omega)
      rw [Nat.one_mul]
      omega
    | 3, _ =>
      simp only [anc, prodL, sumL] at hs ⊢
      generalize (kidsV l (up l (up l (up l n)))).length = x at *
      generalize (kidsV l (up l (up l n))).length = y at *
      generalize (kidsV l (up l n)).length = z at *
      have h9 : x * y * z ≤ 63 * 63 * 16 ∨ z > 16 := by
        by_cases hz : z ≤ 16
        · exact .inl (Nat.mul_le_mul (Nat.mul_le_mul (by omega) (by omega)) hz)
        · exact .inr (by omega)
      rw [Nat.one_mul]
      rcases h9 with h9 | h9
      · omega
      · have hxy := four_mul x y
        have h10 := Nat.mul_le_mul (show x + y ≤ 46 by omega) (show x + y ≤ 46 by omega)
        have h11 : x * y * z ≤ 529 * 63 := Nat.mul_le_mul (by omega) (by omega)
        omega
    | 4, _ =>
      simp only [anc, prodL, sumL] at hs ⊢
      rw [Nat.one_mul, Nat.mul_assoc]
      exact four_prod (by omega)
    | k + 5, h4 => omega
  have hp : pow4096 d ≤ 281474976710656 ∧ 0 ≤ pow4096 d := by
    match d, h4 with
    | 0, _ => omega
    | 1, _ => omega
    | 2, _ => omega
    | 3, _ => omega
    | 4, _ => omega
    | k + 5, h4 => omega
  refine ⟨b1, b2, by omega, ?_⟩
  have : pow4096 d * (prodL (fun p => (kidsV l p).length) (anc l d n) : Int) ≤ 281474976710656 * 65535 := Int.mul_le_mul hp.1 (by omega) (by omega) (by omega)
  omega
/-- A share is not above its parent's. -/
theorem share_falls {l : List Ac} (h : Wu l) {n : Nat} (hn : n < l.length) (h0 : n ≠ 0) : numV l n * denV l (up l n) ≤ numV l (up l n) * denV l n := by
  rw [num_up h hn h0, den_up h hn h0]
  obtain ⟨s1, s2⟩ := sh_tog h hn h0
  obtain ⟨b1, b2, _, _⟩ := den_word h (h.up_lt hn)
  rw [Int.mul_assoc, Int.mul_comm (shOf l n)]
  exact Int.mul_le_mul_of_nonneg_left (Int.mul_le_mul_of_nonneg_left s2 (by omega)) (by omega)
end Go.Proofs.YtioldijdmefljaaGreatDoor.Tr
