/-
  LAYER 12: mathematics of ledgers: what the calls answer, and what follows from it.
-/
import Derived.Test.YtegpamoglifojaaDoorMth
import Derived.RowKit
namespace Go.Proofs.YtegpamoglifojaaDoor
open Go.RowKit Wd

namespace Lg
/-- Words all. -/
def Wds (l : List Int) : Prop := ∀ u, u ∈ l → Word u
/-- One charge: so many nodes for a tick. -/
def chN (u n : Int) : Int := narV (u + narV (n * 4294967296))
def okA (l : List Int) (a : Int) : Bool := decide (0 ≤ a) && decide (a < l.length)
def ownV (l : List Int) (a : Int) : Int := if okA l a then (l[a.toNat]?).getD 0 else 0
def sumV (l : List Int) : List Int → Int → Int
  | [], s => s
  | a :: as, s => sumV l as (narV (s + ownV l a))
def fadeL (f : Int) (l : List Int) : List Int := l.map fun u => partV u f
def chgE (l : List Int) (N a n : Int) : Int := if okA l a then (if 0 ≤ n ∧ n ≤ N then 0 else 1) else 120
def chgL (l : List Int) (N a n : Int) : List Int := if okA l a = true ∧ 0 ≤ n ∧ n ≤ N then l.set a.toNat (chN ((l[a.toNat]?).getD 0) n) else l

theorem okA_iff {l : List Int} {a : Int} : okA l a = true ↔ 0 ≤ a ∧ a < l.length := by simp [okA]
theorem Wds.get {l : List Int} (h : Wds l) {k : Nat} {u : Int} (hk : l[k]? = some u) : Word u := h u (List.mem_of_getElem? hk)
theorem wd0 : Word 0 := ⟨by omega, by omega⟩
theorem own_word {l : List Int} (h : Wds l) (a : Int) : Word (ownV l a) := by
  unfold ownV
  split
  · cases hk : l[a.toNat]? with
    | none => exact wd0
    | some u => exact h.get hk
  · exact wd0
theorem chN_word {u n : Int} (hu : Word u) (hn : 0 ≤ n) : Word (chN u n) := by
  unfold chN
  have h2 : Word (narV (n * 4294967296)) := nar_word (by omega)
  have := h2.1
  have := hu.1
  exact nar_word (by omega)
theorem chg_wds {l : List Int} (h : Wds l) (N a n : Int) : Wds (chgL l N a n) := by
  unfold chgL
  split
  · rename_i hc
    intro u hu
    rcases List.mem_or_eq_of_mem_set hu with x | rfl
    · exact h u x
    · refine chN_word ?_ hc.2.1
      cases hk : l[a.toNat]? with
      | none => exact wd0
      | some u => exact h.get hk
  · exact h
theorem chg_len (l : List Int) (N a n : Int) : (chgL l N a n).length = l.length := by unfold chgL; split <;> simp
theorem fade_wds {l : List Int} {f : Int} (h : Wds l) (hf : Word f) : Wds (fadeL f l) := by
  intro u hu
  obtain ⟨x, hx, rfl⟩ := List.mem_map.1 hu
  have hx' := h x hx
  exact ⟨part_nonneg hx' hf, by have := part_le (f := f) hx'; have := hx'.2; omega⟩
theorem fade_len (l : List Int) (f : Int) : (fadeL f l).length = l.length := by simp [fadeL]
theorem sum_word {l : List Int} (h : Wds l) : ∀ (as : List Int) (s : Int), Word s → Word (sumV l as s)
  | [], _, hs => hs
  | a :: as, s, hs => sum_word h as _ (nar_word (by have := hs.1; have := (own_word h a).1; omega))
theorem sum_max {l : List Int} (h : Wds l) : ∀ as : List Int, sumV l as 18446744073709551615 = 18446744073709551615
  | [] => rfl
  | a :: as => by
    unfold sumV
    have h0 := (own_word h a).1
    have : narV (18446744073709551615 + ownV l a) = 18446744073709551615 := by unfold narV; split <;> omega
    rw [this]
    exact sum_max h as
theorem sum_drop {l as : List Int} {j : Nat} {a s : Int} (h : as[j]? = some a) : sumV l (as.drop j) s = sumV l (as.drop (j + 1)) (narV (s + ownV l a)) := by
  obtain ⟨hj, rfl⟩ := List.getElem?_eq_some_iff.1 h
  rw [List.drop_eq_getElem_cons hj]
  rfl

/-! ## Less, and raw -/
theorem chN_mono {u v n : Int} (h : u ≤ v) : chN u n ≤ chN v n := nar_mono (by omega)
theorem chN_ge {u n : Int} (hu : Word u) (hn : 0 ≤ n) : u ≤ chN u n := by
  have h2 : Word (narV (n * 4294967296)) := nar_word (by omega)
  obtain ⟨a, b⟩ := hu
  obtain ⟨c, d⟩ := h2
  unfold chN
  generalize narV (n * 4294967296) = y at *
  unfold narV
  split <;> omega
theorem chN_raw {r n : Int} (hr : 0 ≤ r) (hn : 0 ≤ n) : chN (narV (r * 4294967296)) n = narV ((r + n) * 4294967296) := by
  unfold chN narV
  split <;> split <;> split <;> split <;> omega
/-- b is nowhere more than a. -/
def Les (b a : List Int) : Prop := b.length = a.length ∧ ∀ (k : Nat) u v, a[k]? = some u → b[k]? = some v → v ≤ u
theorem les_refl (a : List Int) : Les a a := ⟨rfl, fun k u v h1 h2 => by rw [h1] at h2; cases h2; omega⟩
theorem les_fade {a b : List Int} {f : Int} (h : Les b a) (hf : Word f) : Les (fadeL f b) (fadeL f a) := by
  refine ⟨by simp [fadeL, h.1], fun k u v h1 h2 => ?_⟩
  simp only [fadeL, List.getElem?_map, Option.map_eq_some_iff] at h1 h2
  obtain ⟨x, hx, rfl⟩ := h1
  obtain ⟨y, hy, rfl⟩ := h2
  exact part_mono1 hf (h.2 k x y hx hy)
theorem les_both {a b : List Int} (h : Les b a) (N k n : Int) : Les (chgL b N k n) (chgL a N k n) := by
  have hl := h.1
  have ho : okA b k = okA a k := by unfold okA; rw [hl]
  refine ⟨by rw [chg_len, chg_len, hl], fun j u v h1 h2 => ?_⟩
  unfold chgL at h1 h2
  rw [ho] at h2
  split at h1
  · rename_i hc
    rw [if_pos hc] at h2
    obtain ⟨hk0, hk1⟩ := okA_iff.1 hc.1
    by_cases e : k.toNat = j
    · subst e
      rw [List.getElem?_set_self (by omega)] at h1 h2
      cases h1
      cases h2
      refine chN_mono ?_
      obtain ⟨x, hx⟩ : ∃ x, a[k.toNat]? = some x := ⟨_, List.getElem?_eq_getElem (by omega)⟩
      obtain ⟨y, hy⟩ : ∃ y, b[k.toNat]? = some y := ⟨_, List.getElem?_eq_getElem (by omega)⟩
      rw [hx, hy]
      exact h.2 _ x y hx hy
    · rw [List.getElem?_set_ne e] at h1 h2
      exact h.2 j u v h1 h2
  · rename_i hc
    rw [if_neg hc] at h2
    exact h.2 j u v h1 h2
theorem les_one {a b : List Int} (h : Les b a) (ha : Wds a) (N k n : Int) : Les b (chgL a N k n) := by
  have hl := h.1
  refine ⟨by rw [chg_len, hl], fun j u v h1 h2 => ?_⟩
  unfold chgL at h1
  split at h1
  · rename_i hc
    obtain ⟨hk0, hk1⟩ := okA_iff.1 hc.1
    by_cases e : k.toNat = j
    · subst e
      rw [List.getElem?_set_self (by omega)] at h1
      cases h1
      obtain ⟨x, hx⟩ : ∃ x, a[k.toNat]? = some x := ⟨_, List.getElem?_eq_getElem (by omega)⟩
      rw [hx]
      have h3 := h.2 _ x v hx h2
      have h4 := chN_ge (ha.get hx) hc.2.1
      simp only [Option.getD_some]
      omega
    · rw [List.getElem?_set_ne e] at h1
      exact h.2 j u v h1 h2
  · exact h.2 j u v h1 h2
theorem les_own {a b : List Int} (h : Les b a) (k : Int) : ownV b k ≤ ownV a k := by
  have ho : okA b k = okA a k := by unfold okA; rw [h.1]
  unfold ownV
  rw [ho]
  split
  · rename_i hc
    obtain ⟨hk0, hk1⟩ := okA_iff.1 hc
    have := h.1
    obtain ⟨x, hx⟩ : ∃ x, a[k.toNat]? = some x := ⟨_, List.getElem?_eq_getElem (by omega)⟩
    obtain ⟨y, hy⟩ : ∃ y, b[k.toNat]? = some y := ⟨_, List.getElem?_eq_getElem (by omega)⟩
    rw [hx, hy]
    exact h.2 _ x y hx hy
  · omega
theorem fade_le {l : List Int} {f : Int} (h : Wds l) {k : Nat} {u v : Int} (h1 : l[k]? = some u) (h2 : (fadeL f l)[k]? = some v) : v ≤ u := by
  simp only [fadeL, List.getElem?_map, Option.map_eq_some_iff] at h2
  obtain ⟨x, hx, rfl⟩ := h2
  rw [h1] at hx
  cases hx
  exact part_le (h.get h1)

/-! ## Apart -/
/-- Three accounts that were charged so much. -/
def tri (s : Nat → Int) : List Int := [narV (s 0 * 4294967296), narV (s 1 * 4294967296), narV (s 2 * 4294967296)]
theorem tri_wds {s : Nat → Int} (h : ∀ k, 0 ≤ s k) : Wds (tri s) := by
  intro u hu
  have h0 := h 0
  have h1 := h 1
  have h2 := h 2
  simp [tri] at hu
  rcases hu with rfl | rfl | rfl <;> exact nar_word (by omega)
theorem tri_chg {s : Nat → Int} (h : ∀ k, 0 ≤ s k) {N n : Int} {k : Nat} (hk : k < 3) (h0 : 0 ≤ n) (hn : n ≤ N) : chgL (tri s) N k n = tri (fun i => if i = k then s i + n else s i) := by
  have ho : okA (tri s) k = true := okA_iff.2 ⟨by omega, by simp [tri]; omega⟩
  unfold chgL
  rw [if_pos ⟨ho, h0, hn⟩]
  have hc : k = 0 ∨ k = 1 ∨ k = 2 := by omega
  rcases hc with rfl | rfl | rfl
  · simp [tri, chN_raw (h 0) h0]
  · simp [tri, chN_raw (h 1) h0]
  · simp [tri, chN_raw (h 2) h0]
theorem tri_own {s : Nat → Int} {k : Nat} (hk : k < 3) : ownV (tri s) k = narV (s k * 4294967296) := by
  have ho : okA (tri s) k = true := okA_iff.2 ⟨by omega, by simp [tri]; omega⟩
  unfold ownV
  rw [if_pos ho]
  have hc : k = 0 ∨ k = 1 ∨ k = 2 := by omega
  rcases hc with rfl | rfl | rfl <;> simp [tri]
/-- What an account was charged, by a list of (account, nodes). -/
def tot (k : Nat) : List (Nat × Int) → Int
  | [] => 0
  | x :: xs => (if x.1 = k then x.2 else 0) + tot k xs
theorem tot_app (k : Nat) : ∀ xs ys : List (Nat × Int), tot k (xs ++ ys) = tot k xs + tot k ys
  | [], ys => by simp [tot]
  | x :: xs, ys => by simp only [List.cons_append, tot, tot_app k xs ys]; omega
theorem tot_rev (k : Nat) : ∀ xs : List (Nat × Int), tot k xs.reverse = tot k xs
  | [] => rfl
  | x :: xs => by rw [List.reverse_cons, tot_app, tot_rev k xs]; simp only [tot]; omega
theorem tot_nonneg (k : Nat) : ∀ xs : List (Nat × Int), (∀ x, x ∈ xs → 0 ≤ x.2) → 0 ≤ tot k xs
  | [], _ => by simp [tot]
  | x :: xs, h => by
    have h1 := tot_nonneg k xs (fun y hy => h y (List.mem_cons_of_mem _ hy))
    have h2 := h x (List.mem_cons_self ..)
    unfold tot
    split <;> omega
theorem tot_take {k : Nat} {xs : List (Nat × Int)} {i : Nat} {x : Nat × Int} (h : xs[i]? = some x) : tot k (xs.take (i + 1)) = tot k (xs.take i) + (if x.1 = k then x.2 else 0) := by
  obtain ⟨hi, rfl⟩ := List.getElem?_eq_some_iff.1 h
  rw [List.take_succ_eq_append_getElem hi, tot_app]
  simp [tot]

/-! ## Raw -/
structure Jb where
  ac : Int
  nd : Int
  lm : Int
  sb : Int
  st : Int
  sr : Int
  en : Int
  sa : Option Addr
  sl : Nat
  sc : Nat
def ranZ (now : Int) (j : Jb) : Int := if j.st = 3 ∨ j.st = 4 ∨ j.st = 5 then j.en - j.sr else if j.st = 2 then now - j.sr else 0
def oneZ (acc : List Int) (now : Int) (j : Jb) : Int := if j.ac ∈ acc then j.nd * ranZ now j else 0
def rawZ (acc : List Int) (now : Int) : List Jb → Int
  | [] => 0
  | j :: js => oneZ acc now j + rawZ acc now js
/-- The same, but for whole turns. -/
def Cgr (x y : Int) : Prop := ∃ k, x = y + 18446744073709551616 * k
theorem Cgr.refl (x : Int) : Cgr x x := ⟨0, by omega⟩
theorem Cgr.symm {x y : Int} (h : Cgr x y) : Cgr y x := by obtain ⟨k, h⟩ := h; exact ⟨-k, by omega⟩
theorem Cgr.trans {x y z : Int} (h : Cgr x y) (g : Cgr y z) : Cgr x z := by obtain ⟨k, h⟩ := h; obtain ⟨m, g⟩ := g; exact ⟨k + m, by omega⟩
theorem Cgr.add {x y u v : Int} (h : Cgr x y) (g : Cgr u v) : Cgr (x + u) (y + v) := by obtain ⟨k, h⟩ := h; obtain ⟨m, g⟩ := g; exact ⟨k + m, by omega⟩
theorem Cgr.mul {x y : Int} (n : Int) (h : Cgr x y) : Cgr (n * x) (n * y) := by
  obtain ⟨k, rfl⟩ := h
  refine ⟨n * k, ?_⟩
  rw [Int.mul_add, ← Int.mul_assoc, ← Int.mul_assoc, Int.mul_comm n 18446744073709551616]
theorem wrap_cgr (x : Int) : Cgr (wrap64 x) x := by
  unfold wrap64
  refine ⟨-((x + 9223372036854775808) / 18446744073709551616), ?_⟩
  omega
theorem wrap_of {x y : Int} (h : Cgr x y) : wrap64 x = wrap64 y := by
  obtain ⟨k, rfl⟩ := h
  unfold wrap64
  omega
theorem wrap_wrap (x : Int) : wrap64 (wrap64 x) = wrap64 x := wrap_of (wrap_cgr x)
theorem wrap_add (x y : Int) : wrap64 (wrap64 x + wrap64 y) = wrap64 (x + y) := wrap_of ((wrap_cgr x).add (wrap_cgr y))
theorem wrap_one (s n d : Int) : wrap64 (wrap64 s + wrap64 (n * wrap64 d)) = wrap64 (s + n * d) :=
  wrap_of ((wrap_cgr s).add ((wrap_cgr _).trans ((wrap_cgr d).mul n)))
theorem raw_app (acc : List Int) (now : Int) : ∀ a b : List Jb, rawZ acc now (a ++ b) = rawZ acc now a + rawZ acc now b
  | [], b => by simp [rawZ]
  | j :: a, b => by simp only [List.cons_append, rawZ, raw_app acc now a b]; omega
theorem raw_snoc (acc : List Int) (now : Int) (js : List Jb) (j : Jb) : rawZ acc now (js ++ [j]) = rawZ acc now js + oneZ acc now j := by
  rw [raw_app]; simp [rawZ]
theorem raw_take {acc : List Int} {now : Int} {js : List Jb} {i : Nat} {j : Jb} (h : js[i]? = some j) : rawZ acc now (js.take (i + 1)) = rawZ acc now (js.take i) + oneZ acc now j := by
  obtain ⟨hi, rfl⟩ := List.getElem?_eq_some_iff.1 h
  rw [List.take_succ_eq_append_getElem hi, raw_snoc]
theorem raw_split {acc one other : List Int} (now : Int) (h : ∀ x, x ∈ acc ↔ (x ∈ one ∨ x ∈ other)) (h2 : ∀ x, x ∈ one → ¬ x ∈ other) : ∀ js : List Jb, rawZ acc now js = rawZ one now js + rawZ other now js
  | [] => by simp [rawZ]
  | j :: js => by
    have ih := raw_split now h h2 js
    have e : oneZ acc now j = oneZ one now j + oneZ other now j := by
      unfold oneZ
      by_cases a : j.ac ∈ one
      · rw [if_pos ((h _).2 (.inl a)), if_pos a, if_neg (h2 _ a)]; omega
      · by_cases b : j.ac ∈ other
        · rw [if_pos ((h _).2 (.inr b)), if_neg a, if_pos b]; omega
        · rw [if_neg (fun c => ((h _).1 c).elim a b), if_neg a, if_neg b]; omega
    simp only [rawZ, e, ih]
    omega
def runZ (acc : List Int) (j : Jb) : Int := if j.st = 2 ∧ j.ac ∈ acc then j.nd else 0
def runsZ (acc : List Int) : List Jb → Int
  | [] => 0
  | j :: js => runZ acc j + runsZ acc js
theorem runs_app (acc : List Int) : ∀ a b : List Jb, runsZ acc (a ++ b) = runsZ acc a + runsZ acc b
  | [], b => by simp [runsZ]
  | j :: a, b => by simp only [List.cons_append, runsZ, runs_app acc a b]; omega
theorem runs_take {acc : List Int} {js : List Jb} {i : Nat} {j : Jb} (h : js[i]? = some j) : runsZ acc (js.take (i + 1)) = runsZ acc (js.take i) + runZ acc j := by
  obtain ⟨hi, rfl⟩ := List.getElem?_eq_some_iff.1 h
  rw [List.take_succ_eq_append_getElem hi, runs_app]
  simp [runsZ]
theorem raw_next (acc : List Int) {now now1 : Int} (h : Cgr now1 (now + 1)) : ∀ js : List Jb, Cgr (rawZ acc now1 js) (rawZ acc now js + runsZ acc js)
  | [] => ⟨0, by simp [rawZ, runsZ]⟩
  | j :: js => by
    have ih := raw_next acc h js
    have e : Cgr (oneZ acc now1 j) (oneZ acc now j + runZ acc j) := by
      unfold oneZ runZ
      by_cases a : j.ac ∈ acc
      · rw [if_pos a, if_pos a]
        unfold ranZ
        by_cases d : j.st = 3 ∨ j.st = 4 ∨ j.st = 5
        · rw [if_pos d, if_pos d, if_neg (by omega), Int.add_zero]
          exact Cgr.refl _
        · rw [if_neg d, if_neg d]
          by_cases s : j.st = 2
          · rw [if_pos s, if_pos s, if_pos ⟨s, a⟩]
            have hm : Cgr (now1 - j.sr) (now - j.sr + 1) := by obtain ⟨k, hk⟩ := h; exact ⟨k, by omega⟩
            have := hm.mul j.nd
            rwa [Int.mul_add j.nd, Int.mul_one] at this
          · rw [if_neg s, if_neg s, if_neg (fun c => s c.1), Int.add_zero]
            exact Cgr.refl _
      · rw [if_neg a, if_neg a, if_neg (fun c => a c.2)]
        exact Cgr.refl _
    have := e.add ih
    simp only [rawZ, runsZ]
    rwa [show oneZ acc now j + runZ acc j + (rawZ acc now js + runsZ acc js) = oneZ acc now j + rawZ acc now js + (runZ acc j + runsZ acc js) by omega] at this
end Lg
end Go.Proofs.YtegpamoglifojaaDoor
