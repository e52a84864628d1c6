/-
  The plain mathematics of layer 8: names, numbers, lines cut at blanks. No Go in sight.
-/
namespace Go.Proofs.YtokpcpmkilikaaaDoor.Vb

abbrev Bs := List UInt8
def okByte (c : UInt8) : Bool := (decide (97 ≤ c.toNat) && decide (c.toNat ≤ 122)) || (decide (65 ≤ c.toNat) && decide (c.toNat ≤ 90)) || (decide (48 ≤ c.toNat) && decide (c.toNat ≤ 57)) || c.toNat == 45 || c.toNat == 95
def validV (s : Bs) : Bool := decide (1 ≤ s.length) && decide (s.length ≤ 32) && s.all okByte

/-! Numbers. -/
def dig (c : UInt8) : Bool := decide (48 ≤ c.toNat) && decide (c.toNat ≤ 57)
def dv (c : UInt8) : Nat := c.toNat - 48
def numFrom : Nat → Bs → Option Nat
  | n, [] => some n
  | n, c :: r => if dig c = true then (if (9223372036854775807 - dv c) / 10 < n then none else numFrom (10 * n + dv c) r) else none
def numV (s : Bs) : Option Nat := if s.length < 1 ∨ 19 < s.length ∨ (1 < s.length ∧ s.head? = some 48) then none else numFrom 0 s
def digB (d : Nat) : UInt8 := UInt8.ofNat (48 + d)
def digV (n : Nat) : Bs := if n < 10 then [digB n] else digV (n / 10) ++ [digB (n % 10)]
  decreasing_by omega

def fold : Nat → Bs → Nat
  | n, [] => n
  | n, c :: r => fold (10 * n + dv c) r
theorem fold_ge (s : Bs) : ∀ n, n ≤ fold n s := by
  induction s with
  | nil => intro n; exact Nat.le_refl _
  | cons c r ih => intro n; exact Nat.le_trans (by omega) (ih (10 * n + dv c))
theorem fold_append (s : Bs) (c : UInt8) : ∀ n, fold n (s ++ [c]) = 10 * fold n s + dv c := by
  induction s with
  | nil => intro n; rfl
  | cons d r ih => intro n; exact ih _
theorem dv_le {c : UInt8} (h : dig c = true) : dv c ≤ 9 := by unfold dig at h; unfold dv; simp at h; omega
theorem numFrom_of (s : Bs) : ∀ n, s.all dig = true → fold n s ≤ 9223372036854775807 → numFrom n s = some (fold n s) := by
  induction s with
  | nil => intro n _ _; rfl
  | cons c r ih =>
    intro n h hl
    simp only [List.all_cons, Bool.and_eq_true] at h
    have hd := dv_le h.1
    have hf : fold n (c :: r) = fold (10 * n + dv c) r := rfl
    have hg := fold_ge r (10 * n + dv c)
    rw [hf] at hl ⊢
    unfold numFrom
    rw [if_pos h.1, if_neg (by omega)]
    exact ih _ h.2 hl
theorem numFrom_some (s : Bs) : ∀ n m, n ≤ 9223372036854775807 → numFrom n s = some m → s.all dig = true ∧ m = fold n s ∧ m ≤ 9223372036854775807 := by
  induction s with
  | nil => intro n m hn h; injection h with h; subst h; exact ⟨rfl, rfl, hn⟩
  | cons c r ih =>
    intro n m hn h
    unfold numFrom at h
    by_cases hc : dig c = true
    · have hd := dv_le hc
      rw [if_pos hc] at h
      by_cases hg : (9223372036854775807 - dv c) / 10 < n
      · rw [if_pos hg] at h; cases h
      · rw [if_neg hg] at h
        obtain ⟨h1, h2, h3⟩ := ih _ _ (by omega) h
        exact ⟨by simp [hc, h1], h2, h3⟩
    · rw [if_neg hc] at h; cases h
theorem digB_dig {d : Nat} (h : d < 10) : dig (digB d) = true ∧ dv (digB d) = d := by
  have : (digB d).toNat = 48 + d := by unfold digB; rw [UInt8.toNat_ofNat']; omega
  unfold dig dv
  rw [this]
  simp; omega
theorem digB_dv {c : UInt8} (h : dig c = true) : digB (dv c) = c := by
  unfold dig at h
  simp at h
  unfold digB dv
  rw [show 48 + (c.toNat - 48) = c.toNat by omega]
  simp
theorem digV_small {n : Nat} (h : n < 10) : digV n = [digB n] := by rw [digV, if_pos h]
theorem digV_great {n : Nat} (h : 10 ≤ n) : digV n = digV (n / 10) ++ [digB (n % 10)] := by rw [digV, if_neg (by omega)]
theorem digV_facts (n : Nat) : (digV n).all dig = true ∧ fold 0 (digV n) = n ∧ digV n ≠ [] ∧ (1 ≤ n → (digV n).head? ≠ some 48) := by
  induction n using Nat.strongRecOn with
  | _ n ih =>
    by_cases h : n < 10
    · have hb := digB_dig h
      rw [digV_small h]
      refine ⟨by simp [hb.1], ?_, by simp, fun h1 => ?_⟩
      · show 10 * 0 + dv (digB n) = n
        rw [hb.2]; omega
      · simp only [List.head?_cons, ne_eq, Option.some.injEq]
        intro e
        have h2 := hb.2
        rw [e] at h2
        have h3 : dv 48 = 0 := rfl
        omega
    · obtain ⟨h1, h2, h3, h4⟩ := ih (n / 10) (by omega)
      have hb := digB_dig (Nat.mod_lt n (show 10 > 0 by decide))
      rw [digV_great (by omega)]
      refine ⟨by simp [h1, hb.1], by rw [fold_append, h2, hb.2]; omega, by simp, fun _ => ?_⟩
      have h5 := h4 (by omega)
      cases hq : digV (n / 10) with
      | nil => exact absurd hq h3
      | cons c r => rw [hq] at h5; simpa using h5
theorem digV_length (k : Nat) : ∀ n, n < 10 ^ (k + 1) → (digV n).length ≤ k + 1 := by
  induction k with
  | zero => intro n h; rw [digV_small (by simpa using h)]; simp
  | succ k ih =>
    intro n h
    by_cases hs : n < 10
    · rw [digV_small hs]; simp
    · rw [digV_great (by omega)]
      have := ih (n / 10) (by rw [Nat.pow_succ] at h; omega)
      simp
      omega
theorem num_dig {n : Nat} (h : n ≤ 9223372036854775807) : numV (digV n) = some n := by
  obtain ⟨h1, h2, h3, h4⟩ := digV_facts n
  have hl := digV_length 18 n (by omega)
  unfold numV
  rw [if_neg, numFrom_of _ _ h1 (by rw [h2]; exact h), h2]
  rintro (hc | hc | ⟨hc, hc'⟩)
  · have : (digV n).length = 0 := by omega
    exact h3 (List.length_eq_zero_iff.1 this)
  · omega
  · refine h4 ?_ hc'
    refine Nat.one_le_iff_ne_zero.2 fun e => ?_
    subst e
    rw [digV_small (by decide)] at hc
    simp at hc
theorem fold_pos {s : Bs} (h : s.all dig = true) (h0 : s ≠ []) (h1 : s.head? ≠ some 48) : 1 ≤ fold 0 s := by
  cases s with
  | nil => exact absurd rfl h0
  | cons c r =>
    simp only [List.all_cons, Bool.and_eq_true] at h
    have hg := fold_ge r (10 * 0 + dv c)
    have hd : 1 ≤ dv c := by
      refine Nat.one_le_iff_ne_zero.2 fun e => h1 ?_
      have hb := digB_dv h.1
      rw [e] at hb
      rw [← hb]; rfl
    show 1 ≤ fold (10 * 0 + dv c) r
    omega
theorem dig_fold (k : Nat) : ∀ s : Bs, s.length = k → s.all dig = true → s ≠ [] → (1 < s.length → s.head? ≠ some 48) → digV (fold 0 s) = s := by
  induction k with
  | zero => intro s hk _ h0 _; exact absurd (List.length_eq_zero_iff.1 hk) h0
  | succ k ih =>
    intro s hk ha h0 h1
    obtain ⟨t, c, rfl⟩ : ∃ t c, s = t ++ [c] := ⟨s.dropLast, s.getLast h0, (List.dropLast_concat_getLast h0).symm⟩
    simp only [List.all_append, List.all_cons, List.all_nil, Bool.and_true, Bool.and_eq_true] at ha
    have hd := dv_le ha.2
    rw [fold_append]
    cases t with
    | nil =>
      have e0 : fold 0 ([] : Bs) = 0 := rfl
      rw [e0, Nat.mul_zero, Nat.zero_add, digV_small (by omega), digB_dv ha.2]; rfl
    | cons x r =>
      have hh : (x :: r).head? ≠ some 48 := by simpa using h1 (by simp)
      have hp := fold_pos ha.1 (by simp) hh
      have he := ih (x :: r) (by simpa using hk) ha.1 (by simp) (fun _ => hh)
      rw [digV_great (by omega), show (10 * fold 0 (x :: r) + dv c) / 10 = fold 0 (x :: r) by omega, show (10 * fold 0 (x :: r) + dv c) % 10 = dv c by omega, he, digB_dv ha.2]
theorem num_some {s : Bs} {n : Nat} (h : numV s = some n) : digV n = s ∧ n ≤ 9223372036854775807 := by
  unfold numV at h
  by_cases hc : s.length < 1 ∨ 19 < s.length ∨ (1 < s.length ∧ s.head? = some 48)
  · rw [if_pos hc] at h; cases h
  · rw [if_neg hc] at h
    obtain ⟨h1, h2, h3⟩ := numFrom_some s 0 n (by decide) h
    refine ⟨?_, h3⟩
    rw [h2]
    refine dig_fold s.length s rfl h1 (fun e => hc (.inl (by rw [e]; decide))) fun hl he => hc (.inr (.inr ⟨hl, he⟩))

/-! Lines. -/
def splitV : Bs → List Bs
  | [] => [[]]
  | c :: r => if c = 32 then [] :: splitV r else match splitV r with
    | [] => [[c]]
    | p :: ps => (c :: p) :: ps
def joinV : List Bs → Bs
  | [] => []
  | [p] => p
  | p :: q :: r => p ++ 32 :: joinV (q :: r)
theorem split_ne (s : Bs) : splitV s ≠ [] := by
  cases s with
  | nil => simp [splitV]
  | cons c r =>
    unfold splitV
    split
    · simp
    · split <;> simp
theorem join_cons (p : Bs) {l : List Bs} (h : l ≠ []) : joinV (p :: l) = p ++ 32 :: joinV l := by
  cases l with
  | nil => exact absurd rfl h
  | cons q r => rfl
theorem join_split (s : Bs) : joinV (splitV s) = s := by
  induction s with
  | nil => rfl
  | cons c r ih =>
    unfold splitV
    by_cases h : c = 32
    · rw [if_pos h, join_cons _ (split_ne r), ih, h]; rfl
    · rw [if_neg h]
      cases hs : splitV r with
      | nil => exact absurd hs (split_ne r)
      | cons p ps =>
        rw [hs] at ih
        show joinV ((c :: p) :: ps) = c :: r
        rw [← ih]
        cases ps with
        | nil => rfl
        | cons q t => rfl
theorem split_plain {p : Bs} (h : (32 : UInt8) ∉ p) : splitV p = [p] := by
  induction p with
  | nil => rfl
  | cons c r ih =>
    simp only [List.mem_cons, not_or] at h
    unfold splitV
    rw [if_neg (fun e => h.1 e.symm), ih h.2]
theorem split_cons {p : Bs} (h : (32 : UInt8) ∉ p) (s : Bs) : splitV (p ++ 32 :: s) = p :: splitV s := by
  induction p with
  | nil => show splitV (32 :: s) = _; rw [splitV, if_pos rfl]
  | cons c r ih =>
    simp only [List.mem_cons, not_or] at h
    show splitV (c :: (r ++ 32 :: s)) = _
    rw [splitV, if_neg (fun e => h.1 e.symm), ih h.2]
theorem split_join : ∀ (l : List Bs), l ≠ [] → (∀ p, p ∈ l → (32 : UInt8) ∉ p) → splitV (joinV l) = l := by
  intro l
  induction l with
  | nil => intro h; exact absurd rfl h
  | cons p l ih =>
    intro _ h
    cases l with
    | nil => exact split_plain (h p (by simp))
    | cons q r =>
      show splitV (p ++ 32 :: joinV (q :: r)) = _
      rw [split_cons (h p (by simp)), ih (by simp) (fun x hx => h x (by simp [hx]))]
theorem valid_plain {s : Bs} (h : validV s = true) : (32 : UInt8) ∉ s := by
  intro hm
  unfold validV at h
  simp only [Bool.and_eq_true] at h
  have := List.all_eq_true.1 h.2 32 hm
  revert this
  decide
theorem dig_plain (n : Nat) : (32 : UInt8) ∉ digV n := by
  intro hm
  have := List.all_eq_true.1 (digV_facts n).1 32 hm
  revert this
  decide
end Go.Proofs.YtokpcpmkilikaaaDoor.Vb
