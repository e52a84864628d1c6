/-
  THE PLAIN MATHEMATICS OF ShareLaws: usages cut down so that all together is not above the floor; one of them raised by what is left.
-/
import Derived.Test.YtioldijdmefljaaDoorShN
import Derived.Test.YtioldijdmefljaaDoorLdX
namespace Go.Proofs.YtioldijdmefljaaDoor.Tr
open Wd Ld

/-- The same accounts with other usages. -/
def usL (l : List Ac) (u : Nat → Int) : List Ac := l.mapIdx fun i a => { a with us := u i }
theorem usL_len (l : List Ac) (u : Nat → Int) : (usL l u).length = l.length := by simp [usL]
theorem usL_at {l : List Ac} {u : Nat → Int} {i : Nat} {a : Ac} (h : l[i]? = some a) : (usL l u)[i]? = some { a with us := u i } := by simp [usL, h]
theorem usL_of {l : List Ac} {u : Nat → Int} {i : Nat} {a : Ac} (h : (usL l u)[i]? = some a) : ∃ b, l[i]? = some b ∧ a = { b with us := u i } := by
  simp only [usL, List.getElem?_mapIdx] at h
  cases hb : l[i]? with
  | none => rw [hb] at h; cases h
  | some b => rw [hb] at h; exact ⟨b, rfl, (Option.some.inj h).symm⟩
theorem usL_alike (l : List Ac) (u : Nat → Int) : Alike l (usL l u) := by
  unfold Alike
  apply List.ext_getElem?
  intro i
  rw [List.getElem?_map, List.getElem?_map]
  cases h : l[i]? with
  | none =>
    have : (usL l u)[i]? = none := by rw [List.getElem?_eq_none_iff, usL_len]; exact List.getElem?_eq_none_iff.1 h
    rw [this]
  | some a => rw [usL_at h]; rfl
theorem usL_us {l : List Ac} {u : Nat → Int} {i : Nat} (h : i < l.length) : usOf (usL l u) i = u i := by
  obtain ⟨a, ha⟩ : ∃ a, l[i]? = some a := ⟨_, List.getElem?_eq_getElem h⟩
  rw [us_of (usL_at ha)]
theorem usL_out {l : List Ac} {u : Nat → Int} {i : Nat} (h : ¬ i < l.length) : usOf (usL l u) i = 0 := by
  unfold usOf
  rw [List.getElem?_eq_none_iff.2 (by rw [usL_len]; omega)]
theorem usL_own (l : List Ac) : usL l (usOf l) = l := by
  apply List.ext_getElem?
  intro i
  cases h : l[i]? with
  | none => rw [List.getElem?_eq_none_iff, usL_len]; exact List.getElem?_eq_none_iff.1 h
  | some a => rw [usL_at h, us_of h]
theorem usL_congr {l : List Ac} {u v : Nat → Int} (h : ∀ i, i < l.length → u i = v i) : usL l u = usL l v := by
  apply List.ext_getElem?
  intro i
  cases hi : l[i]? with
  | none =>
    rw [List.getElem?_eq_none_iff.2 (by rw [usL_len]; exact List.getElem?_eq_none_iff.1 hi), List.getElem?_eq_none_iff.2 (by rw [usL_len]; exact List.getElem?_eq_none_iff.1 hi)]
  | some a => rw [usL_at hi, usL_at hi, h i (List.getElem?_eq_some_iff.1 hi).1]
theorem usL_ok {l : List Ac} {u : Nat → Int} (h : ∀ i, i < l.length → Word (u i)) : UsOk (usL l u) := fun i a ha => by
  obtain ⟨b, hb, rfl⟩ := usL_of ha
  exact h i (List.getElem?_eq_some_iff.1 hb).1
theorem usL_nm {l : List Ac} {u : Nat → Int} {M : Nat} (h : ∀ a ∈ l, a.nm.size ≤ M) : ∀ a ∈ usL l u, a.nm.size ≤ M := fun a ha => by
  obtain ⟨i, hi⟩ := List.getElem?_of_mem ha
  obtain ⟨b, hb, rfl⟩ := usL_of hi
  exact h b (List.mem_of_getElem? hb)
/-- Load does not look at usages. -/
theorem row_plain (l : List Ac) (i : Nat) (a : Ac) : rowE (l.map plainAc) i (plainAc a) = rowE l i a := by
  unfold rowE
  rw [plain_find, List.length_map]
  rfl
theorem rows_plain (l : List Ac) : ∀ f i, rowsE (l.map plainAc) f i = rowsE l f i
  | 0, _ => rfl
  | f + 1, i => by
    simp only [rowsE]
    rw [List.getElem?_map]
    cases l[i]? with
    | none => rfl
    | some a =>
      show (if rowE (l.map plainAc) i (plainAc a) = 0 then _ else _) = _
      rw [row_plain, rows_plain l f]
theorem depN_plain (l : List Ac) : ∀ f n, depN (l.map plainAc) f n = depN l f n
  | 0, _ => rfl
  | f + 1, n => by
    simp only [depN]
    rw [up_plain, depN_plain l f]
theorem deep_plain (l : List Ac) : ∀ f i, deepE (l.map plainAc) f i = deepE l f i
  | 0, _ => rfl
  | f + 1, i => by
    simp only [deepE]
    rw [List.length_map]
    have : depthV (l.map plainAc) i = depthV l i := by unfold depthV; rw [List.length_map, depN_plain]
    rw [this, deep_plain l f]
theorem load_plain (l : List Ac) : loadE (l.map plainAc) = loadE l := by
  unfold loadE
  rw [List.getElem?_map, List.length_map, rows_plain, deep_plain]
  cases l[0]? <;> rfl
theorem Alike.load {l m : List Ac} (h : Alike l m) : loadE m = loadE l := by rw [← load_plain m, ← h, load_plain]
/-- What is left of the floor when j usages have had theirs. -/
def rm (u : Nat → Int) (fl : Int) : Nat → Int
  | 0 => fl
  | j + 1 => rm u fl j - (if rm u fl j < u j then rm u fl j else u j)
def cutU (u : Nat → Int) (fl : Int) (j : Nat) : Int := if rm u fl j < u j then rm u fl j else u j
theorem rm_next (u : Nat → Int) (fl : Int) (j : Nat) : rm u fl (j + 1) = rm u fl j - cutU u fl j := rfl
theorem rm_box {u : Nat → Int} (hu : ∀ j, 0 ≤ u j) {fl : Int} (hf : 0 ≤ fl) : ∀ j, 0 ≤ rm u fl j ∧ rm u fl j ≤ fl
  | 0 => ⟨hf, Int.le_refl _⟩
  | j + 1 => by
    have ih := rm_box hu hf j
    have := hu j
    simp only [rm]
    split <;> omega
theorem cut_box {u : Nat → Int} (hu : ∀ j, 0 ≤ u j) {fl : Int} (hf : 0 ≤ fl) (j : Nat) : 0 ≤ cutU u fl j ∧ cutU u fl j ≤ rm u fl j ∧ cutU u fl j ≤ u j := by
  have ih := rm_box hu hf j
  have := hu j
  unfold cutU
  split <;> omega
/-- A sum of whole numbers. -/
def sI (u : Nat → Int) : Nat → Int
  | 0 => 0
  | k + 1 => sI u k + u k
theorem sI_rm {u : Nat → Int} {fl : Int} : ∀ k, sI (cutU u fl) k + rm u fl k = fl
  | 0 => by simp [sI, rm]
  | k + 1 => by
    have := sI_rm (u := u) (fl := fl) k
    simp only [sI]
    rw [rm_next]
    omega
theorem sumL_app {α : Type} (f : α → Nat) (l m : List α) : sumL f (l ++ m) = sumL f l + sumL f m := by
  induction l with
  | nil => simp [sumL]
  | cons a l ih => simp only [List.cons_append, sumL, ih]; omega
theorem sI_sum {f : Nat → Nat} {u : Nat → Int} : ∀ k, (∀ j, j < k → ((f j : Nat) : Int) = u j) → ((sumL f (List.range k) : Nat) : Int) = sI u k
  | 0, _ => rfl
  | k + 1, h => by
    have ih := sI_sum (f := f) (u := u) k (fun j hj => h j (by omega))
    rw [List.range_succ, sumL_app]
    simp only [sumL, sI]
    have := h k (by omega)
    omega
theorem sI_upd {u : Nat → Int} {i : Nat} {x : Int} : ∀ k, sI (fun j => if j = i then u j + x else u j) k = sI u k + (if i < k then x else 0)
  | 0 => by simp [sI]
  | k + 1 => by
    simp only [sI]
    rw [sI_upd k]
    by_cases e : k = i
    · subst e
      rw [if_pos rfl, if_neg (by omega), if_pos (by omega)]
      omega
    · rw [if_neg e]
      by_cases h : i < k
      · rw [if_pos h, if_pos (by omega)]; omega
      · rw [if_neg h, if_neg (by omega)]; omega
theorem all_us {l : List Ac} {u : Nat → Int} (h : ∀ i, i < l.length → 0 ≤ u i) : ((sumL (usN (usL l u)) (List.range (usL l u).length) : Nat) : Int) = sI u l.length := by
  rw [usL_len]
  refine sI_sum _ (fun j hj => ?_)
  unfold usN
  rw [usL_us hj]
  have := h j hj
  omega
/-- What the law holds against each other: before and behind. -/
def befL (l : List Ac) (fl : Int) : List Ac := usL l (cutU (usOf l) fl)
def aftL (l : List Ac) (fl : Int) (i : Nat) (x : Int) : List Ac := usL l (fun j => if j = i then cutU (usOf l) fl j + x else cutU (usOf l) fl j)
section
variable {l : List Ac} {fl x : Int} {i : Nat}
theorem us_nn (hu : UsOk l) : ∀ j, 0 ≤ usOf l j := fun j => (us_word hu j).1
theorem bef_ok (hu : UsOk l) (hf : 0 ≤ fl) : UsOk (befL l fl) := usL_ok (fun j _ => by
  have h1 := cut_box (us_nn hu) hf j
  have h2 := us_word hu j
  exact ⟨h1.1, by have := h2.2; omega⟩)
theorem aft_ok (hu : UsOk l) (hf : 0 ≤ fl) (hf2 : fl < 4611686018427387904) (hx : 0 ≤ x) (hx2 : x ≤ rm (usOf l) fl l.length) : UsOk (aftL l fl i x) := usL_ok (fun j _ => by
  have h1 := cut_box (us_nn hu) hf j
  have h3 := rm_box (us_nn hu) hf j
  have h4 := rm_box (us_nn hu) hf l.length
  show Word (if j = i then _ else _)
  split
  · exact ⟨by omega, by omega⟩
  · exact ⟨h1.1, by omega⟩)
theorem bef_w (h : Wu l) (hu : UsOk l) (hf : 0 ≤ fl) : wV (befL l fl) fl = fl := by
  refine w_floor ((usL_alike l _).wu h) (bef_ok hu hf) ?_
  have e := all_us (l := l) (fun j _ => (cut_box (us_nn hu) hf j).1)
  rw [e]
  have := sI_rm (u := usOf l) (fl := fl) l.length
  have := rm_box (us_nn hu) hf l.length
  omega
theorem aft_w (h : Wu l) (hu : UsOk l) (hf : 0 ≤ fl) (hf2 : fl < 4611686018427387904) (hi : i < l.length) (hx : 0 ≤ x) (hx2 : x ≤ rm (usOf l) fl l.length) : wV (aftL l fl i x) fl = fl := by
  refine w_floor ((usL_alike l _).wu h) (aft_ok hu hf hf2 hx hx2) ?_
  have e := all_us (l := l) (u := fun j => if j = i then cutU (usOf l) fl j + x else cutU (usOf l) fl j) (fun j _ => by
    have := (cut_box (us_nn hu) hf j).1
    show 0 ≤ (if j = i then _ else _)
    split <;> omega)
  rw [e, sI_upd, if_pos hi]
  have := sI_rm (u := usOf l) (fl := fl) l.length
  omega
theorem aft_fac (h : Wu l) (hf : 0 ≤ fl) (hx : 0 ≤ x) {n : Nat} (hn : n < l.length) : facV (aftL l fl i x) fl n ≤ facV (befL l fl) fl n := by
  have ha : Alike (befL l fl) (aftL l fl i x) := (show (befL l fl).map plainAc = _ from (usL_alike l _).symm).trans (usL_alike l _)
  refine ha.fac ((usL_alike l _).wu h) (fun j => ?_) hf (by rw [befL, usL_len]; exact hn)
  by_cases hj : j < l.length
  · rw [befL, aftL, usL_us hj, usL_us hj]
    show _ ≤ (if j = i then _ else _)
    split <;> omega
  · rw [befL, aftL, usL_out hj, usL_out hj]
    exact Int.le_refl _
end
end Go.Proofs.YtioldijdmefljaaDoor.Tr
