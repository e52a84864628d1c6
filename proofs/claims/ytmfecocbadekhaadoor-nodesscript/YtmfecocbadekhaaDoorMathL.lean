/-
  PLAIN MATHEMATICS of NodesLowest: what Take leaves; what is turned twice is as it was.
-/
import Derived.Test.YtmfecocbadekhaaDoorTake
namespace Go.Proofs.YtmfecocbadekhaaDoor
namespace Nd

theorem flipF_xor (F x : Nat) (f : Nat → Int) (m : Nat) : flipF (F ^^^ x) f m = flipF F f m ^^^ x := by
  induction m with
  | zero => rfl
  | succ m ih => rw [flipF, ih, flipF, Nat.xor_assoc, Nat.xor_comm x, ← Nat.xor_assoc]
theorem flipF_twice (F : Nat) (f : Nat → Int) (m : Nat) : flipF (flipF F f m) f m = F := by
  induction m with
  | zero => rfl
  | succ m ih => rw [flipF, flipF, flipF_xor, ih, Nat.xor_assoc, Nat.xor_self, Nat.xor_zero]
theorem flipF_bit (F : Nat) (l : List Nat) (hn : l.Nodup) (m : Nat) (hm : m ≤ l.length) (k : Nat) : (flipF F (nth l) m).testBit k = (F.testBit k ^^ decide (k ∈ l.take m)) := by
  induction m with
  | zero => simp [flipF]
  | succ m ih =>
    have hlt : m < l.length := by omega
    have e : (nth l m).toNat = l[m] := by rw [nth_at l m hlt]; omega
    have hnot : l[m] ∉ l.take m := by
      intro hmem
      obtain ⟨i, hi, hx⟩ := List.mem_take_iff_getElem.1 hmem
      exact (List.pairwise_iff_getElem.1 hn) i m (by omega) hlt (by omega) hx
    have hd : decide (k ∈ l.take (m + 1)) = (decide (k ∈ l.take m) || decide (k = l[m])) := by
      rw [← Bool.decide_or]
      apply decide_eq_decide.2
      rw [List.take_succ_eq_append_getElem hlt, List.mem_append, List.mem_singleton]
    rw [flipF, Nat.testBit_xor, ih (by omega), e, Nat.testBit_two_pow, hd]
    by_cases h1 : l[m] = k
    · rw [decide_eq_true h1, decide_eq_true h1.symm, decide_eq_false (by rw [← h1]; exact hnot)]
      simp
    · rw [decide_eq_false h1, decide_eq_false (show ¬ k = l[m] from fun e => h1 e.symm)]
      simp

theorem lst_pair (F : Nat) : (lst F).Pairwise (· < ·) := frees_pair F 256
theorem lst_nodup (F : Nat) : (lst F).Nodup := (lst_pair F).imp (fun h => by omega)
theorem take_bit (F many : Nat) (h : many ≤ (lst F).length) (k : Nat) : (takeF F many).testBit k = (F.testBit k ^^ decide (k ∈ (lst F).take many)) := by
  have hl : ((lst F).take many).length = many := by simp; omega
  rw [takeF, flipF_bit F _ ((lst_nodup F).sublist (List.take_sublist ..)) many (by omega), List.take_take, Nat.min_self]
theorem lst_take (F many : Nat) (h : many ≤ (lst F).length) : lst (takeF F many) = (lst F).drop many := by
  have e1 : lst (takeF F many) = (lst F).filter fun k => !decide (k ∈ (lst F).take many) := by
    show (List.range 256).filter _ = ((List.range 256).filter _).filter _
    rw [List.filter_filter]
    apply List.filter_congr
    intro k hk
    rw [take_bit F many h]
    by_cases hm : k ∈ (lst F).take many
    · have : F.testBit k = true := ((mem_frees F 256 k).1 (List.mem_of_mem_take hm)).2
      simp [hm, this]
    · simp [hm]
  rw [e1]
  have hs : lst F = (lst F).take many ++ (lst F).drop many := (List.take_append_drop many (lst F)).symm
  have hn := lst_nodup F
  rw [hs] at hn
  have hd := (List.nodup_append.1 hn).2.2
  generalize hA : (lst F).take many = A at hs hd ⊢
  generalize hB : (lst F).drop many = B at hs hd ⊢
  rw [hs, List.filter_append]
  have ea : A.filter (fun k => !decide (k ∈ A)) = [] := by simp
  have eb : B.filter (fun k => !decide (k ∈ A)) = B := by
    rw [List.filter_eq_self]
    intro k hk
    have : k ∉ A := fun hka => hd k hka k hk rfl
    simp [this]
  rw [ea, eb, List.nil_append]

/-- Lists of nodes of a set, rising, are well made. -/
theorem setB_take (n F many : Nat) (htop : ∀ k, n ≤ k → F.testBit k = false) (m : Nat) (hm : m ≤ ((lst F).take many).length) : setB n (nth ((lst F).take many)) m = true := by
  induction m with
  | zero => rfl
  | succ m ih =>
    have hlt : m < ((lst F).take many).length := by omega
    have hmem := (mem_frees F 256 _).1 (List.mem_of_mem_take (List.getElem_mem hlt))
    have hb : ((lst F).take many)[m] < n := by
      by_cases hh : ((lst F).take many)[m] < n
      · exact hh
      · rw [htop _ (by omega)] at hmem; exact absurd hmem.2 (by simp)
    rw [setB, ih (by omega), nth_at _ m hlt]
    by_cases h0 : m = 0
    · subst h0
      simp
      simpa using hb
    · have hp := (List.pairwise_iff_getElem.1 ((lst_pair F).sublist (List.take_sublist many _))) (m - 1) m (by omega) hlt (by omega)
      rw [nth_at _ (m - 1) (by omega)]
      simp only [Bool.true_and, Bool.and_eq_true, decide_eq_true_eq, Bool.or_eq_true]
      omega
theorem allB_of (F : Nat) (f : Nat → Int) (fr : Bool) (m : Nat) (h : ∀ j, j < m → (decide (0 ≤ f j) && F.testBit (f j).toNat) = fr) : allB F f fr m = true := by
  induction m with
  | zero => rfl
  | succ m ih => rw [allB, ih (fun j hj => h j (by omega)), h m (by omega)]; simp
theorem allB_not (F : Nat) (f : Nat → Int) (fr : Bool) (m : Nat) (hm : 1 ≤ m) (h : (decide (0 ≤ f 0) && F.testBit (f 0).toNat) = !fr) : allB F f fr m = false := by
  rw [show m = 1 + (m - 1) by omega]
  apply allB_no
  simp only [allB, h]
  cases fr <;> rfl
theorem free_at (F many j : Nat) (hj : j < ((lst F).take many).length) : (decide (0 ≤ nth ((lst F).take many) j) && F.testBit (nth ((lst F).take many) j).toNat) = true := by
  have hmem := (mem_frees F 256 _).1 (List.mem_of_mem_take (List.getElem_mem hj))
  rw [nth_at _ j hj]
  simpa using hmem.2
theorem taken_at (F many j : Nat) (h : many ≤ (lst F).length) (hj : j < ((lst F).take many).length) : (decide (0 ≤ nth ((lst F).take many) j) && (takeF F many).testBit (nth ((lst F).take many) j).toNat) = false := by
  have hmem := List.getElem_mem hj
  have hf := ((mem_frees F 256 _).1 (List.mem_of_mem_take hmem)).2
  rw [nth_at _ j hj, Int.toNat_natCast, take_bit F many h, hf, decide_eq_true hmem]
  simp
/-- The four answers of NodesLowest's end. -/
theorem ends (n F many : Nat) (htop : ∀ k, n ≤ k → F.testBit k = false) (h1 : 1 ≤ many) (h : many ≤ (lst F).length) :
    turnE n (takeF F many) (nth ((lst F).take many)) many true = 21 ∧ turnF n (takeF F many) (nth ((lst F).take many)) many true = takeF F many ∧
    turnE n (takeF F many) (nth ((lst F).take many)) many false = 0 ∧ turnF n (takeF F many) (nth ((lst F).take many)) many false = F ∧
    turnE n F (nth ((lst F).take many)) many false = 21 ∧ turnF n F (nth ((lst F).take many)) many false = F ∧
    turnE n F (nth ((lst F).take many)) many true = 0 ∧ turnF n F (nth ((lst F).take many)) many true = takeF F many := by
  have hl : ((lst F).take many).length = many := by simp; omega
  have s := setB_take n F many htop many (by omega)
  have a1 : allB (takeF F many) (nth ((lst F).take many)) true many = false := allB_not _ _ _ _ h1 (taken_at F many 0 h (by omega))
  have a2 : allB (takeF F many) (nth ((lst F).take many)) false many = true := allB_of _ _ _ _ (fun j hj => taken_at F many j h (by omega))
  have a3 : allB F (nth ((lst F).take many)) false many = false := allB_not _ _ _ _ h1 (free_at F many 0 (by omega))
  have a4 : allB F (nth ((lst F).take many)) true many = true := allB_of _ _ _ _ (fun j hj => free_at F many j (by omega))
  have e : flipF (takeF F many) (nth ((lst F).take many)) many = F := flipF_twice F _ many
  simp [turnE, turnF, s, a1, a2, a3, a4, e]
  rfl
theorem eqB_of (f f' : Nat → Int) (m : Nat) (h : ∀ j, j < m → f j = f' j) : eqB f f' m = true := by
  induction m with
  | zero => rfl
  | succ m ih => rw [eqB, ih (fun j hj => h j (by omega)), h m (by omega)]; simp
theorem same_self (m : Nat) (f f' : Nat → Int) (h : ∀ j, j < m → f j = f' j) : sameB m m f f' = true := by simp [sameB, eqB_of f f' m h]
theorem nth_take (l : List Nat) (m j : Nat) (h : j < m) : nth (l.take m) j = nth l j := by simp [nth, h]
theorem nth_drop (l : List Nat) (m j : Nat) : nth (l.drop m) j = nth l (m + j) := by simp [nth]
end Nd
end Go.Proofs.YtmfecocbadekhaaDoor
