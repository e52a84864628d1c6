/-
  The plain mathematics of layer 6: trees of accounts as lists. No Go in sight.
-/
import Derived.Test.YtbcinapnnlfnbaaGreatRows
namespace Go.Proofs.YtbcinapnnlfnbaaGreat.Tr

/-- An account. -/
structure Ac where
  nm : ByteArray
  pa : Int
  sh : Int
  cl : Bool
  us : Int
def rootName : ByteArray := ⟨#[114, 111, 111, 116]⟩
def rootAc : Ac := ⟨rootName, -1, 1, false, 0⟩
def okByte (c : UInt8) : Bool := (decide (97 ≤ c.toNat) && decide (c.toNat ≤ 122)) || (decide (65 ≤ c.toNat) && decide (c.toNat ≤ 90)) || (decide (48 ≤ c.toNat) && decide (c.toNat ≤ 57)) || c.toNat == 45 || c.toNat == 95
def okName (s : ByteArray) : Bool := decide (1 ≤ s.size) && decide (s.size ≤ 32) && s.data.toList.all okByte
def okSh (n : Int) : Bool := decide (1 ≤ n) && decide (n ≤ 4096)
/-- The number of the first of a name. -/
def findV : List Ac → ByteArray → Option Nat
  | [], _ => none
  | a :: l, s => if a.nm = s then some 0 else (findV l s).map (· + 1)
theorem find_some {l : List Ac} {s : ByteArray} : ∀ {k}, findV l s = some k → (∃ a, l[k]? = some a ∧ a.nm = s) ∧ ∀ (j : Nat) (b : Ac), j < k → l[j]? = some b → b.nm ≠ s := by
  induction l with
  | nil => intro k h; cases h
  | cons a l ih =>
    intro k h
    simp only [findV] at h
    by_cases e : a.nm = s
    · rw [if_pos e] at h
      injection h with h
      subst h
      exact ⟨⟨a, rfl, e⟩, fun j b hj => by omega⟩
    · rw [if_neg e] at h
      cases hf : findV l s with
      | none => rw [hf] at h; cases h
      | some m =>
        rw [hf] at h
        simp at h
        subst h
        obtain ⟨⟨b, hb, hbs⟩, hn⟩ := ih hf
        refine ⟨⟨b, by simpa using hb, hbs⟩, fun j c hj hc => ?_⟩
        cases j with
        | zero => simp at hc; subst hc; exact e
        | succ j => exact hn j c (by omega) (by simpa using hc)
theorem find_none {l : List Ac} {s : ByteArray} : findV l s = none → ∀ (j : Nat) (b : Ac), l[j]? = some b → b.nm ≠ s := by
  induction l with
  | nil => intro _ j b hb; simp at hb
  | cons a l ih =>
    intro h j b hb
    simp only [findV] at h
    by_cases e : a.nm = s
    · rw [if_pos e] at h; cases h
    · rw [if_neg e] at h
      cases j with
      | zero => simp at hb; subst hb; exact e
      | succ j =>
        refine ih ?_ j b (by simpa using hb)
        cases hf : findV l s with
        | none => rfl
        | some m => rw [hf] at h; cases h
theorem find_lt {l : List Ac} {s : ByteArray} {k : Nat} (h : findV l s = some k) : k < l.length := by
  obtain ⟨⟨a, ha, _⟩, _⟩ := find_some h
  exact (List.getElem?_eq_some_iff.1 ha).1
/-- The parent's number. -/
def up (l : List Ac) (n : Nat) : Nat := match l[n]? with
  | some a => a.pa.toNat
  | none => 0
/-- It is d deep. -/
def Dep (l : List Ac) : Nat → Nat → Prop
  | 0, n => n = 0
  | d + 1, n => n ≠ 0 ∧ Dep l d (up l n)
theorem dep_uniq {l : List Ac} : ∀ {d e n}, Dep l d n → Dep l e n → d = e
  | 0, 0, _, _, _ => rfl
  | 0, _ + 1, _, h, h' => absurd h h'.1
  | _ + 1, 0, _, h, h' => absurd h' h.1
  | d + 1, e + 1, _, h, h' => by rw [dep_uniq h.2 h'.2]
/-- How deep, as it is reckoned: so many steps at most. -/
def depN (l : List Ac) : Nat → Nat → Option Nat
  | 0, _ => none
  | f + 1, n => if n = 0 then some 0 else (depN l f (up l n)).map (· + 1)
theorem depN_dep {l : List Ac} : ∀ {f n d}, depN l f n = some d → Dep l d n ∧ d < f
  | 0, _, _, h => by cases h
  | f + 1, n, d, h => by
    simp only [depN] at h
    by_cases e : n = 0
    · rw [if_pos e] at h
      injection h with h
      subst h
      exact ⟨e, by omega⟩
    · rw [if_neg e] at h
      cases hd : depN l f (up l n) with
      | none => rw [hd] at h; cases h
      | some m =>
        rw [hd] at h
        simp at h
        subst h
        obtain ⟨h1, h2⟩ := depN_dep hd
        exact ⟨⟨e, h1⟩, by omega⟩
theorem dep_depN {l : List Ac} : ∀ {f n d}, Dep l d n → d < f → depN l f n = some d
  | 0, _, _, _, h => by omega
  | f + 1, n, 0, h, _ => by
    have : n = 0 := h
    simp [depN, this]
  | f + 1, n, d + 1, h, hf => by
    simp only [depN]
    rw [if_neg h.1, dep_depN h.2 (by omega)]
    rfl
def depthV (l : List Ac) (n : Nat) : Option Nat := depN l (l.length + 1) n
/-- k lies below n, or is it. -/
def Bel (l : List Ac) (n : Nat) : Nat → Nat → Prop
  | 0, k => k = n
  | s + 1, k => k ≠ n ∧ k ≠ 0 ∧ Bel l n s (up l k)
def Blw (l : List Ac) (n k : Nat) : Prop := ∃ s, Bel l n s k
/-- As it is reckoned. -/
def belN (l : List Ac) (n : Nat) : Nat → Nat → Bool
  | 0, k => k == n
  | f + 1, k => if k = n then true else if k = 0 then false else belN l n f (up l k)
theorem bel_dep {l : List Ac} {n : Nat} : ∀ {s k d}, Bel l n s k → Dep l d k → s ≤ d ∧ Dep l (d - s) n
  | 0, k, d, h, hd => by
    have : k = n := h
    subst this
    exact ⟨Nat.zero_le _, hd⟩
  | s + 1, k, 0, h, hd => absurd hd h.2.1
  | s + 1, k, d + 1, h, hd => by
    obtain ⟨h1, h2⟩ := bel_dep h.2.2 hd.2
    exact ⟨by omega, by rw [show d + 1 - (s + 1) = d - s by omega]; exact h2⟩
theorem belN_iff {l : List Ac} {n : Nat} : ∀ {f k d}, Dep l d k → d ≤ f → (belN l n f k = true ↔ Blw l n k)
  | 0, k, d, hd, hf => by
    have e : d = 0 := by omega
    subst e
    have e : k = 0 := hd
    subst e
    simp only [belN, beq_iff_eq]
    refine ⟨fun h => ⟨0, h⟩, fun ⟨s, h⟩ => ?_⟩
    cases s with
    | zero => exact h
    | succ s => exact absurd rfl h.2.1
  | f + 1, k, d, hd, hf => by
    simp only [belN]
    by_cases e : k = n
    · simp only [if_pos e, true_iff]
      exact ⟨0, e⟩
    · rw [if_neg e]
      by_cases e0 : k = 0
      · rw [if_pos e0]
        simp only [Bool.false_eq_true, false_iff]
        rintro ⟨s, h⟩
        cases s with
        | zero => exact e h
        | succ s => exact h.2.1 e0
      · rw [if_neg e0]
        cases d with
        | zero => exact absurd hd e0
        | succ d =>
          rw [belN_iff hd.2 (by omega)]
          refine ⟨fun ⟨s, h⟩ => ⟨s + 1, e, e0, h⟩, fun ⟨s, h⟩ => ?_⟩
          cases s with
          | zero => exact absurd h e
          | succ s => exact ⟨s, h.2.2⟩
def kidsV (l : List Ac) (n : Nat) : List Nat := (List.range l.length).filter fun i => decide ((l[i]?.map (·.pa)) = some (n : Int))
def belowV (l : List Ac) (n : Nat) : List Nat := (List.range l.length).filter fun i => belN l n l.length i

/-- What stands of every tree. -/
structure Wf (l : List Ac) : Prop where
  root : l[0]? = some rootAc
  len : l.length ≤ 64
  row : ∀ (i : Nat) (a : Ac), l[i]? = some a → 0 < i → okName a.nm = true ∧ 0 ≤ a.pa ∧ a.pa < (l.length : Int) ∧ okSh a.sh = true ∧ a.us = 0
  uniq : ∀ (i j : Nat) (a b : Ac), l[i]? = some a → l[j]? = some b → a.nm = b.nm → i = j
  deep : ∀ i, i < l.length → ∃ d, d ≤ 4 ∧ Dep l d i
theorem dep_same {l l' : List Ac} : ∀ {d n}, Dep l d n → (∀ k, k ≠ 0 → up l' k = up l k) → Dep l' d n
  | 0, _, h, _ => h
  | d + 1, n, h, hu => ⟨h.1, by rw [hu n h.1]; exact dep_same h.2 hu⟩
theorem up_of {l : List Ac} {n : Nat} {a : Ac} (h : l[n]? = some a) : up l n = a.pa.toNat := by unfold up; rw [h]
theorem Wf.pos {l : List Ac} (h : Wf l) : 0 < l.length := (List.getElem?_eq_some_iff.1 h.root).1
theorem Wf.up_lt {l : List Ac} (h : Wf l) {n : Nat} (hn : n < l.length) : up l n < l.length := by
  obtain ⟨a, ha⟩ : ∃ a, l[n]? = some a := ⟨_, List.getElem?_eq_getElem hn⟩
  rw [up_of ha]
  by_cases h0 : 0 < n
  · have := h.row n a ha h0
    omega
  · obtain rfl : n = 0 := by omega
    rw [h.root] at ha
    cases ha
    exact h.pos
/-- Nothing but shares and closing turned. -/
theorem Wf.turn {l l' : List Ac} (h : Wf l) (hl : l'.length = l.length) (h0 : l'[0]? = l[0]?)
    (hr : ∀ (i : Nat) (a' : Ac), 0 < i → l'[i]? = some a' → ∃ a, l[i]? = some a ∧ a'.nm = a.nm ∧ a'.pa = a.pa ∧ okSh a'.sh = true ∧ a'.us = a.us) : Wf l' := by
  have hall : ∀ (i : Nat) (a' : Ac), l'[i]? = some a' → ∃ a, l[i]? = some a ∧ a'.nm = a.nm ∧ a'.pa = a.pa := fun i a' ha => by
    by_cases hi : 0 < i
    · obtain ⟨a, h1, h2, h3, _⟩ := hr i a' hi ha
      exact ⟨a, h1, h2, h3⟩
    · obtain rfl : i = 0 := by omega
      rw [h0] at ha
      exact ⟨a', ha, rfl, rfl⟩
  have hup : ∀ k, up l' k = up l k := fun k => by
    by_cases hk : k < l.length
    · obtain ⟨a', ha'⟩ : ∃ a', l'[k]? = some a' := ⟨_, List.getElem?_eq_getElem (by omega)⟩
      obtain ⟨a, ha, _, hp⟩ := hall k a' ha'
      rw [up_of ha', up_of ha, hp]
    · unfold up
      rw [List.getElem?_eq_none (by omega), List.getElem?_eq_none (by omega)]
  refine ⟨h0.trans h.root, by rw [hl]; exact h.len, fun i a' ha hi => ?_, fun i j a b ha hb e => ?_, fun i hi => ?_⟩
  · obtain ⟨a, h1, h2, h3, h4, h5⟩ := hr i a' hi ha
    have := h.row i a h1 hi
    rw [h2, h3, h5, hl]
    exact ⟨this.1, this.2.1, this.2.2.1, h4, this.2.2.2.2⟩
  · obtain ⟨a1, h1, h2, _⟩ := hall i a ha
    obtain ⟨b1, g1, g2, _⟩ := hall j b hb
    exact h.uniq i j a1 b1 h1 g1 (by rw [← h2, ← g2, e])
  · obtain ⟨d, h1, h2⟩ := h.deep i (by omega)
    exact ⟨d, h1, dep_same h2 (fun k _ => hup k)⟩
/-- One account more. -/
theorem Wf.add {l : List Ac} (h : Wf l) {nm : ByteArray} {p d : Nat} {sh : Int} (hnm : okName nm = true) (hf : findV l nm = none) (hp : p < l.length) (hsh : okSh sh = true) (hd : Dep l d p) (hd4 : d < 4) (hlen : l.length < 64) :
    Wf (l ++ [⟨nm, p, sh, false, 0⟩]) := by
  have at_ : ∀ (i : Nat) (a : Ac), (l ++ [⟨nm, p, sh, false, 0⟩])[i]? = some a → l[i]? = some a ∨ (i = l.length ∧ a = ⟨nm, p, sh, false, 0⟩) := fun i a ha => by
    by_cases hi : i < l.length
    · rw [List.getElem?_append_left hi] at ha
      exact .inl ha
    · rw [List.getElem?_append_right (by omega)] at ha
      have hi' : i - l.length < 1 := by
        have := (List.getElem?_eq_some_iff.1 ha).1
        simpa using this
      rw [show i - l.length = 0 by omega] at ha
      simp at ha
      exact .inr ⟨by omega, ha.symm⟩
  have hup : ∀ k, k < l.length → up (l ++ [⟨nm, p, sh, false, 0⟩]) k = up l k := fun k hk => by
    unfold up
    rw [List.getElem?_append_left hk]
  have hdep : ∀ d n, n < l.length → Dep l d n → Dep (l ++ [⟨nm, p, sh, false, 0⟩]) d n := fun d => by
    induction d with
    | zero => intro n _ h; exact h
    | succ d ih => intro n hn hd; exact ⟨hd.1, by rw [hup n hn]; exact ih _ (h.up_lt hn) hd.2⟩
  refine ⟨?_, by simp; omega, fun i a ha hi => ?_, fun i j a b ha hb e => ?_, fun i hi => ?_⟩
  · rw [List.getElem?_append_left h.pos]; exact h.root
  · rcases at_ i a ha with ha | ⟨rfl, rfl⟩
    · have := h.row i a ha hi
      simp only [List.length_append, List.length_cons, List.length_nil]
      exact ⟨this.1, this.2.1, by omega, this.2.2.2⟩
    · simp only [List.length_append, List.length_cons, List.length_nil]
      exact ⟨hnm, by omega, by omega, hsh, trivial⟩
  · rcases at_ i a ha with h1 | ⟨h1, h1'⟩
    · rcases at_ j b hb with h2 | ⟨h2, h2'⟩
      · exact h.uniq i j a b h1 h2 e
      · exact absurd (by rw [e, h2']) (find_none hf i a h1)
    · rcases at_ j b hb with h2 | ⟨h2, h2'⟩
      · exact absurd (by rw [← e, h1']) (find_none hf j b h2)
      · omega
  · by_cases hil : i < l.length
    · obtain ⟨d', h1, h2⟩ := h.deep i hil
      exact ⟨d', h1, hdep _ _ hil h2⟩
    · have e : i = l.length := by simp at hi; omega
      subst e
      refine ⟨d + 1, by omega, by have := h.pos; omega, ?_⟩
      rw [up_of (a := ⟨nm, p, sh, false, 0⟩) (by simp)]
      exact hdep d p hp hd
/-- The n-th has another parent. -/
def mvV (l : List Ac) (n : Nat) (p : Int) : List Ac := match l[n]? with
  | some a => l.set n { a with pa := p }
  | none => l
section
variable {l : List Ac} {n : Nat} {p : Nat} {a : Ac}
theorem mv_len (p : Int) : (mvV l n p).length = l.length := by unfold mvV; split <;> simp
theorem mv_at (ha : l[n]? = some a) (p : Int) : (mvV l n p)[n]? = some { a with pa := p } := by
  unfold mvV
  rw [ha]
  exact List.getElem?_set_self (List.getElem?_eq_some_iff.1 ha).1
theorem mv_other {k : Nat} (p : Int) (hk : k ≠ n) : (mvV l n p)[k]? = l[k]? := by
  unfold mvV
  split
  · exact List.getElem?_set_ne (fun e => hk e.symm)
  · rfl
theorem mv_up {k : Nat} (p : Int) (hk : k ≠ n) : up (mvV l n p) k = up l k := by unfold up; rw [mv_other p hk]
theorem mv_self (ha : l[n]? = some a) : mvV l n a.pa = l := by
  apply List.ext_getElem?
  intro k
  by_cases hk : k = n
  · subst hk
    rw [mv_at ha, ha]
  · exact mv_other _ hk
theorem mv_back (ha : l[n]? = some a) (p : Int) : mvV (mvV l n p) n a.pa = l := by
  apply List.ext_getElem?
  intro k
  by_cases hk : k = n
  · subst hk
    rw [mv_at (mv_at ha p), ha]
  · rw [mv_other _ hk, mv_other _ hk]
/-- Who is below it does not hang on its own parent. -/
theorem mv_bel (p : Int) : ∀ {s k}, Bel (mvV l n p) n s k ↔ Bel l n s k
  | 0, _ => Iff.rfl
  | s + 1, k => by
    refine ⟨fun h => ⟨h.1, h.2.1, ?_⟩, fun h => ⟨h.1, h.2.1, ?_⟩⟩
    · have := h.2.2
      rw [mv_up p h.1] at this
      exact (mv_bel p).1 this
    · rw [mv_up p h.1]
      exact (mv_bel p).2 h.2.2
theorem mv_below (p : Int) {k : Nat} : Blw (mvV l n p) n k ↔ Blw l n k := ⟨fun ⟨s, h⟩ => ⟨s, (mv_bel p).1 h⟩, fun ⟨s, h⟩ => ⟨s, (mv_bel p).2 h⟩⟩
theorem below_self (l : List Ac) (n : Nat) : Blw l n n := ⟨0, rfl⟩
theorem below_up {k : Nat} (h1 : k ≠ 0) (h : Blw l n (up l k)) : Blw l n k := by
  obtain ⟨s, hs⟩ := h
  by_cases e : k = n
  · exact ⟨0, e⟩
  · exact ⟨s + 1, e, h1, hs⟩
theorem mv_off (p : Int) : ∀ {d k}, Dep l d k → ¬ Blw l n k → Dep (mvV l n p) d k
  | 0, _, h, _ => h
  | d + 1, k, h, hb => by
    have hk : k ≠ n := fun e => hb (e ▸ below_self l n)
    refine ⟨h.1, ?_⟩
    rw [mv_up p hk]
    exact mv_off p h.2 (fun hb' => hb (below_up h.1 hb'))
theorem mv_on (p : Int) {e : Nat} (hn : Dep (mvV l n p) e n) : ∀ {s k}, Bel l n s k → Dep (mvV l n p) (e + s) k
  | 0, k, h => by
    have : k = n := h
    subst this
    exact hn
  | s + 1, k, h => by
    refine ⟨h.2.1, ?_⟩
    rw [mv_up p h.1]
    exact mv_on p hn h.2.2
/-- Moved to one that is not below it: all come to the root still. -/
theorem mv_deep (h : Wf l) (ha : l[n]? = some a) (hn : n ≠ 0) (hp : p < l.length) (hb : ¬ Blw l n p) : ∀ i, i < l.length → ∃ d, Dep (mvV l n p) d i := by
  obtain ⟨dp, _, hdp⟩ := h.deep p hp
  have h1 := mv_off (p : Int) hdp hb
  have h2 : Dep (mvV l n p) (dp + 1) n := ⟨hn, by rw [up_of (mv_at ha p)]; simpa using h1⟩
  intro i hi
  by_cases hbi : Blw l n i
  · obtain ⟨s, hs⟩ := hbi
    exact ⟨_, mv_on (p : Int) h2 hs⟩
  · obtain ⟨d, _, hd⟩ := h.deep i hi
    exact ⟨d, mv_off (p : Int) hd hbi⟩
theorem Wf.move (h : Wf l) (ha : l[n]? = some a) (hn : n ≠ 0) (hp : p < l.length) (hd : ∀ i, i < l.length → ∃ d, d ≤ 4 ∧ Dep (mvV l n p) d i) : Wf (mvV l n p) := by
  have at_ : ∀ (i : Nat) (b : Ac), (mvV l n p)[i]? = some b → ∃ c, l[i]? = some c ∧ b.nm = c.nm ∧ b.sh = c.sh ∧ b.us = c.us ∧ (b.pa = c.pa ∨ b.pa = p) := fun i b hb => by
    by_cases hi : i = n
    · subst hi
      rw [mv_at ha] at hb
      cases hb
      exact ⟨a, ha, rfl, rfl, rfl, .inr rfl⟩
    · rw [mv_other _ hi] at hb
      exact ⟨b, hb, rfl, rfl, rfl, .inl rfl⟩
  refine ⟨by rw [mv_other _ (fun e => hn e.symm)]; exact h.root, by rw [mv_len]; exact h.len, fun i b hb hi => ?_, fun i j b c hb hc e => ?_, fun i hi => hd i (by rwa [mv_len] at hi)⟩
  · obtain ⟨c, h1, h2, h3, h4, h5⟩ := at_ i b hb
    have := h.row i c h1 hi
    rw [h2, h3, h4, mv_len]
    refine ⟨this.1, ?_, ?_, this.2.2.2⟩
    · rcases h5 with e | e <;> rw [e]
      · exact this.2.1
      · omega
    · rcases h5 with e | e <;> rw [e]
      · exact this.2.2.1
      · omega
  · obtain ⟨b1, h1, h2, _⟩ := at_ i b hb
    obtain ⟨c1, g1, g2, _⟩ := at_ j c hc
    exact h.uniq i j b1 c1 h1 g1 (by rw [← h2, ← g2, e])
/-- A parent is not below its child. -/
theorem Wf.parent (h : Wf l) (hn : n ≠ 0) (hl : n < l.length) : ¬ Blw l n (up l n) := by
  rintro ⟨s, hs⟩
  obtain ⟨d, _, hd⟩ := h.deep (up l n) (h.up_lt hl)
  obtain ⟨h1, h2⟩ := bel_dep hs hd
  have h3 : Dep l (d + 1) n := ⟨hn, hd⟩
  have := dep_uniq h2 h3
  omega
end
/-- What the calls answer, and the tree behind them. -/
def addV (l : List Ac) (nm pn : ByteArray) (sh : Int) : Int × Int × List Ac :=
  if okName nm = false then (0, 60, l)
  else if (findV l nm).isSome then (0, 61, l)
  else match findV l pn with
    | none => (0, 62, l)
    | some p => if okSh sh = false then (0, 63, l) else if 4 ≤ (depthV l p).getD 0 then (0, 64, l) else if 64 ≤ l.length then (0, 65, l) else (l.length, 0, l ++ [⟨nm, p, sh, false, 0⟩])
/-- The number of one that is not the root; or what is wrong. -/
def knownV (l : List Ac) (nm : ByteArray) : Nat × Int := match findV l nm with
  | none => (0, 62)
  | some 0 => (0, 66)
  | some (n + 1) => (n + 1, 0)
def sharesV (l : List Ac) (nm : ByteArray) (sh : Int) : Int × List Ac := match knownV l nm with
  | (n, 0) => if okSh sh = false then (63, l) else (0, match l[n]? with
    | some a => l.set n { a with sh := sh }
    | none => l)
  | (_, e) => (e, l)
def closeV (l : List Ac) (nm : ByteArray) : Int × List Ac := match knownV l nm with
  | (n, 0) => (0, match l[n]? with
    | some a => l.set n { a with cl := true }
    | none => l)
  | (_, e) => (e, l)
def deepB (l : List Ac) : Bool := (List.range l.length).any fun i => decide (4 < (depthV l i).getD 0)
def moveV (l : List Ac) (nm pn : ByteArray) : Int × List Ac := match knownV l nm with
  | (n, 0) => match findV l pn with
    | none => (62, l)
    | some p => if belN l n l.length p then (67, l) else if deepB (mvV l n p) then (64, l) else (0, mvV l n p)
  | (_, e) => (e, l)
theorem known_some {l : List Ac} {nm : ByteArray} {n : Nat} (h : knownV l nm = (n, 0)) : findV l nm = some n ∧ n ≠ 0 := by
  unfold knownV at h
  cases hf : findV l nm with
  | none => rw [hf] at h; simp at h
  | some m =>
    rw [hf] at h
    cases m with
    | zero => simp at h
    | succ m => simp at h; subst h; exact ⟨rfl, by omega⟩
/-- So many unlike numbers want room. -/
theorem inj_bound : ∀ (n d : Nat) (g : Nat → Nat), (∀ e, e ≤ d → g e < n) → (∀ e e', e ≤ d → e' ≤ d → g e = g e' → e = e') → d < n
  | 0, _, g, h, _ => absurd (h 0 (Nat.zero_le _)) (by omega)
  | n + 1, 0, _, _, _ => by omega
  | n + 1, d + 1, g, h, hi => by
    have := inj_bound n d (fun e => if g e = n then g (d + 1) else g e) (fun e he => by
      have h1 := h e (by omega)
      have h2 := h (d + 1) (Nat.le_refl _)
      have h3 : g (d + 1) = g e → d + 1 = e := hi (d + 1) e (Nat.le_refl _) (by omega)
      split <;> omega) (fun e e' he he' heq => by
      have h1 : g (d + 1) = g e → d + 1 = e := hi (d + 1) e (Nat.le_refl _) (by omega)
      have h2 : g (d + 1) = g e' → d + 1 = e' := hi (d + 1) e' (Nat.le_refl _) (by omega)
      by_cases a : g e = n
      · by_cases b : g e' = n
        · exact hi e e' (by omega) (by omega) (by omega)
        · rw [if_pos a, if_neg b] at heq
          have := h2 heq
          omega
      · by_cases b : g e' = n
        · rw [if_neg a, if_pos b] at heq
          have := h1 heq.symm
          omega
        · rw [if_neg a, if_neg b] at heq
          exact hi e e' (by omega) (by omega) heq)
    omega
def itr (l : List Ac) : Nat → Nat → Nat
  | 0, i => i
  | k + 1, i => itr l k (up l i)
theorem itr_lt {l : List Ac} (h : ∀ k, k < l.length → up l k < l.length) : ∀ {k i}, i < l.length → itr l k i < l.length
  | 0, _, hi => hi
  | k + 1, i, hi => itr_lt (k := k) h (h i hi)
theorem itr_dep {l : List Ac} : ∀ {k d i}, Dep l d i → k ≤ d → Dep l (d - k) (itr l k i)
  | 0, _, _, h, _ => h
  | k + 1, 0, _, _, hk => by omega
  | k + 1, d + 1, i, h, hk => by
    rw [show d + 1 - (k + 1) = d - k by omega]
    exact itr_dep h.2 (by omega)
theorem dep_lt {l : List Ac} (h : ∀ k, k < l.length → up l k < l.length) {d i : Nat} (hi : i < l.length) (hd : Dep l d i) : d < l.length :=
  inj_bound l.length d (fun e => itr l e i) (fun e _ => itr_lt h hi) (fun e e' he he' heq => by
    have h1 := itr_dep hd he
    have h2 := itr_dep hd he'
    rw [heq] at h1
    have := dep_uniq h1 h2
    omega)
theorem depth_dep {l : List Ac} (h : ∀ k, k < l.length → up l k < l.length) {d i : Nat} (hi : i < l.length) (hd : Dep l d i) : depthV l i = some d := dep_depN hd (by have := dep_lt h hi hd; omega)
theorem Wf.depth {l : List Ac} (h : Wf l) {i : Nat} (hi : i < l.length) : ∃ d, depthV l i = some d ∧ d ≤ 4 ∧ Dep l d i := by
  obtain ⟨d, h1, h2⟩ := h.deep i hi
  exact ⟨d, depth_dep (fun k hk => h.up_lt hk) hi h2, h1, h2⟩
theorem Wf.bel {l : List Ac} (h : Wf l) (n : Nat) {k : Nat} (hk : k < l.length) : belN l n l.length k = true ↔ Blw l n k := by
  obtain ⟨d, _, h2⟩ := h.deep k hk
  exact belN_iff h2 (by have := dep_lt (fun k hk => h.up_lt hk) hk h2; omega)
/-- Every call leaves a tree. -/
theorem Wf.addV {l : List Ac} (h : Wf l) (nm pn : ByteArray) (sh : Int) : Wf (Tr.addV l nm pn sh).2.2 := by
  unfold Tr.addV
  by_cases h1 : okName nm = false
  · rw [if_pos h1]; exact h
  rw [if_neg h1]
  by_cases h2 : (findV l nm).isSome = true
  · rw [if_pos h2]; exact h
  rw [if_neg h2]
  cases hp : findV l pn with
  | none => exact h
  | some p =>
    simp only
    by_cases h3 : okSh sh = false
    · rw [if_pos h3]; exact h
    rw [if_neg h3]
    by_cases h4 : 4 ≤ (depthV l p).getD 0
    · rw [if_pos h4]; exact h
    rw [if_neg h4]
    by_cases h5 : 64 ≤ l.length
    · rw [if_pos h5]; exact h
    rw [if_neg h5]
    obtain ⟨d, k1, k2, k3⟩ := h.depth (find_lt hp)
    rw [k1] at h4
    simp at h4
    refine h.add (by simpa using h1) ?_ (find_lt hp) (by simpa using h3) k3 h4 (by omega)
    cases hf : findV l nm with
    | none => rfl
    | some m => rw [hf] at h2; simp at h2
theorem set_turn {l : List Ac} (h : Wf l) {n : Nat} {a a' : Ac} (ha : l[n]? = some a) (hn : n ≠ 0) (e1 : a'.nm = a.nm) (e2 : a'.pa = a.pa) (e3 : okSh a'.sh = true) (e4 : a'.us = a.us) : Wf (l.set n a') := by
  refine h.turn (by simp) (by rw [List.getElem?_set_ne hn]) (fun i b hi hb => ?_)
  by_cases e : i = n
  · subst e
    rw [List.getElem?_set_self (List.getElem?_eq_some_iff.1 ha).1] at hb
    cases hb
    exact ⟨a, ha, e1, e2, e3, e4⟩
  · rw [List.getElem?_set_ne (fun x => e x.symm)] at hb
    exact ⟨b, hb, rfl, rfl, (h.row i b hb hi).2.2.2.1, rfl⟩
theorem Wf.sharesV {l : List Ac} (h : Wf l) (nm : ByteArray) (sh : Int) : Wf (Tr.sharesV l nm sh).2 := by
  unfold Tr.sharesV
  split
  · rename_i n hk
    obtain ⟨hf, hn⟩ := known_some hk
    obtain ⟨⟨a, ha, _⟩, _⟩ := find_some hf
    by_cases h3 : okSh sh = false
    · rw [if_pos h3]; exact h
    · rw [if_neg h3]
      simp only [ha]
      exact set_turn h ha hn rfl rfl (by simpa using h3) rfl
  · exact h
theorem Wf.closeV {l : List Ac} (h : Wf l) (nm : ByteArray) : Wf (Tr.closeV l nm).2 := by
  unfold Tr.closeV
  split
  · rename_i n hk
    obtain ⟨hf, hn⟩ := known_some hk
    obtain ⟨⟨a, ha, _⟩, _⟩ := find_some hf
    simp only [ha]
    exact set_turn h ha hn rfl rfl (h.row n a ha (by omega)).2.2.2.1 rfl
  · exact h
theorem mv_up_lt {l : List Ac} (h : Wf l) {n p : Nat} {a : Ac} (ha : l[n]? = some a) (hp : p < l.length) : ∀ k, k < (mvV l n p).length → up (mvV l n p) k < (mvV l n p).length := fun k hk => by
  rw [mv_len] at hk ⊢
  by_cases e : k = n
  · subst e
    rw [up_of (mv_at ha p)]
    simpa using hp
  · rw [mv_up p e]; exact h.up_lt hk
theorem Wf.moveV {l : List Ac} (h : Wf l) (nm pn : ByteArray) : Wf (Tr.moveV l nm pn).2 := by
  unfold Tr.moveV
  split
  · rename_i n hk
    obtain ⟨hf, hn⟩ := known_some hk
    obtain ⟨⟨a, ha, _⟩, _⟩ := find_some hf
    cases hp : findV l pn with
    | none => exact h
    | some p =>
      simp only
      have hpl := find_lt hp
      by_cases h1 : belN l n l.length p = true
      · rw [if_pos h1]; exact h
      rw [if_neg h1]
      by_cases h2 : deepB (mvV l n p) = true
      · rw [if_pos h2]; exact h
      rw [if_neg h2]
      refine h.move ha hn hpl (fun i hi => ?_)
      obtain ⟨d, hd⟩ := mv_deep h ha hn hpl (fun hb => h1 ((h.bel n hpl).2 hb)) i hi
      refine ⟨d, ?_, hd⟩
      have hil : i < (mvV l n p).length := by rw [mv_len]; exact hi
      have hdv := depth_dep (mv_up_lt h ha hpl) hil hd
      have : ¬ (4 < (depthV (mvV l n p) i).getD 0) := fun hh => h2 (by
        unfold deepB
        rw [List.any_eq_true]
        exact ⟨i, List.mem_range.2 hil, by simpa using hh⟩)
      rw [hdv] at this
      simp at this
      omega
  · exact h
/-! ### Moves, there and back -/
section
variable {l : List Ac} {n q : Nat} {a b : Ac}
theorem find_at (h : Wf l) (ha : l[n]? = some a) : findV l a.nm = some n := by
  cases hf : findV l a.nm with
  | none => exact absurd rfl (find_none hf n a ha)
  | some m =>
    obtain ⟨⟨c, hc, e⟩, _⟩ := find_some hf
    rw [h.uniq m n c a hc ha e]
theorem known_at (h : Wf l) (hn : n ≠ 0) (ha : l[n]? = some a) : knownV l a.nm = (n, 0) := by
  unfold knownV
  rw [find_at h ha]
  cases n with
  | zero => exact absurd rfl hn
  | succ n => rfl
theorem deep_no (h : Wf l) : deepB l = false := by
  unfold deepB
  rw [List.any_eq_false]
  intro i hi
  obtain ⟨d, h1, h2, _⟩ := h.depth (List.mem_range.1 hi)
  rw [h1]
  simp
  omega
theorem Wf.pa (h : Wf l) (hn : n ≠ 0) (ha : l[n]? = some a) (hq : a.pa = q) : up l n = q ∧ q < l.length ∧ q ≠ n := by
  have e : up l n = q := by rw [up_of ha, hq]; simp
  have hl := (List.getElem?_eq_some_iff.1 ha).1
  refine ⟨e, by have := h.up_lt hl; omega, fun x => ?_⟩
  have := h.parent hn hl
  rw [e, x] at this
  exact this (below_self l n)
/-- To the parent that it has. -/
theorem move_own (h : Wf l) (hn : n ≠ 0) (ha : l[n]? = some a) (hq : a.pa = q) (hb : l[q]? = some b) : moveV l a.nm b.nm = (0, l) := by
  obtain ⟨e1, e2, e3⟩ := h.pa hn ha hq
  have hl := (List.getElem?_eq_some_iff.1 ha).1
  unfold moveV
  rw [known_at h hn ha]
  simp only [find_at h hb]
  have hbn : ¬ belN l n l.length q = true := fun x => h.parent hn hl (by rw [e1]; exact (h.bel n e2).1 x)
  rw [if_neg hbn]
  have hm : mvV l n (q : Int) = l := by rw [← hq]; exact mv_self ha
  rw [hm, deep_no h]
  simp
/-- What a move that is taken does. -/
theorem move_yes {l' : List Ac} {nm pn : ByteArray} (h : moveV l nm pn = (0, l')) : ∃ n p, findV l nm = some n ∧ n ≠ 0 ∧ findV l pn = some p ∧ belN l n l.length p = false ∧ l' = mvV l n (p : Int) := by
  unfold moveV at h
  split at h
  · rename_i n hk
    obtain ⟨hf, hn⟩ := known_some hk
    cases hp : findV l pn with
    | none => rw [hp] at h; simp at h
    | some p =>
      rw [hp] at h
      simp only at h
      by_cases h1 : belN l n l.length p = true
      · rw [if_pos h1] at h; simp at h
      rw [if_neg h1] at h
      by_cases h2 : deepB (mvV l n p) = true
      · rw [if_pos h2] at h; simp at h
      rw [if_neg h2] at h
      simp at h
      exact ⟨n, p, hf, hn, rfl, by simpa using h1, h.symm⟩
  · rename_i n e hne hk
    simp at h
    exact absurd h.1 hne
/-- What is refused changes nothing. -/
theorem move_no {nm pn : ByteArray} (h : (moveV l nm pn).1 ≠ 0) : (moveV l nm pn).2 = l := by
  unfold moveV at h ⊢
  split
  · rename_i n hk
    rw [hk] at h
    simp only at h
    cases hp : findV l pn with
    | none => rfl
    | some p =>
      rw [hp] at h
      simp only at h ⊢
      by_cases h1 : belN l n l.length p = true
      · rw [if_pos h1]
      rw [if_neg h1] at h ⊢
      by_cases h2 : deepB (mvV l n p) = true
      · rw [if_pos h2]
      rw [if_neg h2] at h
      exact absurd rfl h
  · rfl
/-- And back. -/
theorem move_back {l' : List Ac} {pn : ByteArray} (h : Wf l) (hn : n ≠ 0) (ha : l[n]? = some a) (hq : a.pa = q) (hb : l[q]? = some b) (hm : moveV l a.nm pn = (0, l')) : moveV l' a.nm b.nm = (0, l) := by
  obtain ⟨m, p, h1, h2, h3, h4, rfl⟩ := move_yes hm
  rw [find_at h ha] at h1
  cases h1
  obtain ⟨e1, e2, e3⟩ := h.pa hn ha hq
  have hl := (List.getElem?_eq_some_iff.1 ha).1
  have hW : Wf (mvV l n p) := by
    have := h.moveV a.nm pn
    rwa [hm] at this
  have ha' := mv_at ha (p : Int)
  have hb' : (mvV l n p)[q]? = some b := by rw [mv_other _ e3]; exact hb
  have hk : knownV (mvV l n p) a.nm = (n, 0) := known_at (a := { a with pa := (p : Int) }) hW hn ha'
  unfold moveV
  rw [hk]
  simp only [find_at hW hb']
  have hbn : ¬ belN (mvV l n p) n (mvV l n p).length q = true := fun x => by
    have := (hW.bel n (by rw [mv_len]; exact e2)).1 x
    rw [mv_below] at this
    exact h.parent hn hl (by rw [e1]; exact this)
  rw [if_neg hbn]
  have hmm : mvV (mvV l n p) n (q : Int) = l := by rw [← hq]; exact mv_back ha p
  rw [hmm, deep_no h]
  simp
end

/-! ### Load -/
def rowE (l : List Ac) (i : Nat) (a : Ac) : Int :=
  if okName a.nm = false then 60 else if findV l a.nm ≠ some i then 61 else if a.pa < 0 ∨ (l.length : Int) ≤ a.pa then 62 else if okSh a.sh = false then 63 else 0
/-- The first that is wrong, from the i-th on. -/
def rowsE (l : List Ac) : Nat → Nat → Int
  | 0, _ => 0
  | f + 1, i => match l[i]? with
    | none => 0
    | some a => if rowE l i a = 0 then rowsE l f (i + 1) else rowE l i a
def deepE (l : List Ac) : Nat → Nat → Int
  | 0, _ => 0
  | f + 1, i => if l.length ≤ i then 0 else match depthV l i with
    | none => 67
    | some d => if 4 < d then 64 else deepE l f (i + 1)
def isRoot (a : Ac) : Bool := decide (a.nm = rootName) && decide (a.pa = -1) && decide (a.sh = 1) && !a.cl
def plainAc (a : Ac) : Ac := { a with us := 0 }
def loadE (l : List Ac) : Int := match l[0]? with
  | none => 66
  | some a => if isRoot a = false then 66 else if 64 < l.length then 65 else if rowsE l l.length 1 ≠ 0 then rowsE l l.length 1 else deepE l l.length 1
theorem rows_ok {l : List Ac} (h : ∀ (i : Nat) (a : Ac), 0 < i → l[i]? = some a → rowE l i a = 0) : ∀ {f i}, 0 < i → rowsE l f i = 0
  | 0, _, _ => rfl
  | f + 1, i, hi => by
    simp only [rowsE]
    cases ha : l[i]? with
    | none => rfl
    | some a =>
      simp only [h i a hi ha, if_true]
      exact rows_ok h (by omega)
theorem rows_of {l : List Ac} : ∀ {f i}, rowsE l f i = 0 → ∀ (j : Nat) (a : Ac), i ≤ j → j < i + f → l[j]? = some a → rowE l j a = 0
  | 0, i, _, j, a, h1, h2, _ => by omega
  | f + 1, i, h, j, a, h1, h2, ha => by
    simp only [rowsE] at h
    by_cases e : i = j
    · subst e
      rw [ha] at h
      simp only at h
      by_cases e0 : rowE l i a = 0
      · exact e0
      · rw [if_neg e0] at h; exact absurd h e0
    · cases hb : l[i]? with
      | none =>
        have := List.getElem?_eq_none_iff.1 hb
        have := (List.getElem?_eq_some_iff.1 ha).1
        omega
      | some b =>
        rw [hb] at h
        simp only at h
        by_cases e0 : rowE l i b = 0
        · rw [if_pos e0] at h
          exact rows_of h j a (by omega) (by omega) ha
        · rw [if_neg e0] at h; exact absurd h e0
theorem deep_ok {l : List Ac} (h : ∀ i, i < l.length → ∃ d, depthV l i = some d ∧ d ≤ 4) : ∀ {f i}, deepE l f i = 0
  | 0, _ => rfl
  | f + 1, i => by
    simp only [deepE]
    by_cases e : l.length ≤ i
    · rw [if_pos e]
    · rw [if_neg e]
      obtain ⟨d, h1, h2⟩ := h i (by omega)
      rw [h1]
      simp only
      rw [if_neg (by omega)]
      exact deep_ok h
theorem deep_of {l : List Ac} : ∀ {f i}, deepE l f i = 0 → ∀ j, i ≤ j → j < i + f → j < l.length → ∃ d, depthV l j = some d ∧ d ≤ 4
  | 0, i, _, j, h1, h2, _ => by omega
  | f + 1, i, h, j, h1, h2, hj => by
    simp only [deepE] at h
    rw [if_neg (by omega)] at h
    cases hd : depthV l i with
    | none => rw [hd] at h; simp at h
    | some d =>
      rw [hd] at h
      simp only at h
      by_cases e4 : 4 < d
      · rw [if_pos e4] at h; simp at h
      · rw [if_neg e4] at h
        by_cases e : i = j
        · subst e; exact ⟨d, hd, by omega⟩
        · exact deep_of h j (by omega) (by omega) hj
/-- What List tells is taken. -/
theorem load_wf {l : List Ac} (h : Wf l) : loadE l = 0 := by
  unfold loadE
  rw [h.root]
  simp only
  rw [if_neg (by simp [isRoot, rootAc]), if_neg (by have := h.len; omega), rows_ok (fun i a hi ha => ?_) (by omega)]
  · simp only [ne_eq, not_true_eq_false, if_false]
    exact deep_ok (fun i hi => by obtain ⟨d, h1, h2, _⟩ := h.depth hi; exact ⟨d, h1, h2⟩)
  · have hr := h.row i a ha hi
    unfold rowE
    rw [if_neg (by simp [hr.1]), if_neg (by rw [find_at h ha]; simp), if_neg (by omega), if_neg (by simp [hr.2.2.2.1])]
/-- What is taken is a tree. -/
theorem wf_load {l : List Ac} (h : loadE l = 0) : Wf (l.map plainAc) := by
  unfold loadE at h
  cases h0 : l[0]? with
  | none => rw [h0] at h; simp at h
  | some r =>
    rw [h0] at h
    simp only at h
    by_cases c1 : isRoot r = false
    · rw [if_pos c1] at h; simp at h
    rw [if_neg c1] at h
    by_cases c2 : 64 < l.length
    · rw [if_pos c2] at h; simp at h
    rw [if_neg c2] at h
    by_cases c3 : rowsE l l.length 1 = 0
    · rw [if_neg (by simp [c3])] at h
      have hpos : 0 < l.length := (List.getElem?_eq_some_iff.1 h0).1
      have hrow : ∀ (i : Nat) (a : Ac), 0 < i → l[i]? = some a → okName a.nm = true ∧ findV l a.nm = some i ∧ 0 ≤ a.pa ∧ a.pa < (l.length : Int) ∧ okSh a.sh = true := fun i a hi ha => by
        have hr := rows_of c3 i a (by omega) (by have := (List.getElem?_eq_some_iff.1 ha).1; omega) ha
        unfold rowE at hr
        by_cases d1 : okName a.nm = false
        · rw [if_pos d1] at hr; simp at hr
        rw [if_neg d1] at hr
        by_cases d2 : findV l a.nm = some i
        · rw [if_neg (by simp [d2])] at hr
          by_cases d3 : a.pa < 0 ∨ (l.length : Int) ≤ a.pa
          · rw [if_pos d3] at hr; simp at hr
          rw [if_neg d3] at hr
          by_cases d4 : okSh a.sh = false
          · rw [if_pos d4] at hr; simp at hr
          exact ⟨by simpa using d1, d2, by omega, by omega, by simpa using d4⟩
        · rw [if_pos d2] at hr; simp at hr
      have hdep := fun i (hi : 0 < i) hil => deep_of h i hi (by omega) hil
      have hup : ∀ k, up (l.map plainAc) k = up l k := fun k => by
        unfold up
        rw [List.getElem?_map]
        cases l[k]? <;> rfl
      have hDep : ∀ d n, Dep l d n → Dep (l.map plainAc) d n := fun d n hd => dep_same hd (fun k _ => hup k)
      simp [isRoot] at c1
      refine ⟨?_, by simp; omega, fun i b hb hi => ?_, fun i j b c hb hc e => ?_, fun i hi => ?_⟩
      · rw [List.getElem?_map, h0]
        obtain ⟨nm, pa, sh, cl, us⟩ := r
        simp at c1
        obtain ⟨rfl, rfl, rfl, rfl⟩ := c1
        rfl
      · rw [List.getElem?_map] at hb
        cases ha : l[i]? with
        | none => rw [ha] at hb; simp at hb
        | some a =>
          rw [ha] at hb
          simp at hb
          subst hb
          obtain ⟨g1, g2, g3, g4, g5⟩ := hrow i a hi ha
          refine ⟨g1, g3, by simpa [plainAc] using g4, g5, rfl⟩
      · rw [List.getElem?_map] at hb hc
        cases ha : l[i]? with
        | none => rw [ha] at hb; simp at hb
        | some a =>
          cases hc' : l[j]? with
          | none => rw [hc'] at hc; simp at hc
          | some a' =>
            rw [ha] at hb
            rw [hc'] at hc
            simp at hb hc
            subst hb hc
            have e' : a.nm = a'.nm := e
            by_cases hi0 : 0 < i
            · by_cases hj0 : 0 < j
              · have g1 := (hrow i a hi0 ha).2.1
                have g2 := (hrow j a' hj0 hc').2.1
                rw [e', g2] at g1
                cases g1
                rfl
              · obtain rfl : j = 0 := by omega
                have g1 := (hrow i a hi0 ha).2.1
                obtain ⟨_, g2⟩ := find_some g1
                exact absurd e'.symm (g2 0 a' hi0 hc')
            · obtain rfl : i = 0 := by omega
              by_cases hj0 : 0 < j
              · have g1 := (hrow j a' hj0 hc').2.1
                obtain ⟨_, g2⟩ := find_some g1
                exact absurd e' (g2 0 a hj0 ha)
              · omega
      · simp at hi
        by_cases hi0 : 0 < i
        · obtain ⟨d, g1, g2⟩ := hdep i hi0 hi
          exact ⟨d, g2, hDep _ _ (depN_dep g1).1⟩
        · obtain rfl : i = 0 := by omega
          exact ⟨0, by omega, rfl⟩
    · rw [if_pos c3] at h
      exact absurd h c3
/-! ### Each is below itself and its children's -/
section
variable {l : List Ac}
theorem mem_kids {n k : Nat} : k ∈ kidsV l n ↔ ∃ a, l[k]? = some a ∧ a.pa = n := by
  unfold kidsV
  rw [List.mem_filter, List.mem_range]
  refine ⟨fun ⟨h1, h2⟩ => ?_, fun ⟨a, h1, h2⟩ => ⟨(List.getElem?_eq_some_iff.1 h1).1, by simp [h1, h2]⟩⟩
  obtain ⟨a, ha⟩ : ∃ a, l[k]? = some a := ⟨_, List.getElem?_eq_getElem h1⟩
  rw [ha] at h2
  exact ⟨a, ha, by simpa using h2⟩
theorem kid_pos (h : Wf l) {n k : Nat} (hk : k ∈ kidsV l n) : k ≠ 0 ∧ k < l.length ∧ up l k = n := by
  obtain ⟨a, ha, hp⟩ := mem_kids.1 hk
  refine ⟨fun e => ?_, (List.getElem?_eq_some_iff.1 ha).1, by rw [up_of ha, hp]; simp⟩
  subst e
  rw [h.root] at ha
  cases ha
  simp [rootAc] at hp
theorem kid_dep (h : Wf l) {n k d : Nat} (hk : k ∈ kidsV l n) (hd : Dep l d n) : Dep l (d + 1) k := by
  obtain ⟨h1, _, h3⟩ := kid_pos h hk
  exact ⟨h1, by rw [h3]; exact hd⟩
theorem kid_of (h : Wf l) {k : Nat} (h0 : k ≠ 0) (hk : k < l.length) : k ∈ kidsV l (up l k) := by
  obtain ⟨a, ha⟩ : ∃ a, l[k]? = some a := ⟨_, List.getElem?_eq_getElem hk⟩
  refine mem_kids.2 ⟨a, ha, ?_⟩
  have := h.row k a ha (by omega)
  rw [up_of ha]
  omega
/-- Blw one of the children: below it. -/
theorem below_kid (h : Wf l) {n k j : Nat} (hk : k ∈ kidsV l n) (hj : j < l.length) (hb : Blw l k j) : Blw l n j ∧ j ≠ n := by
  obtain ⟨h1, h2, h3⟩ := kid_pos h hk
  obtain ⟨s, hs⟩ := hb
  have key : ∀ s j, Bel l k s j → Blw l n j := fun s => by
    induction s with
    | zero =>
      intro j hs
      have e : j = k := hs
      subst e
      exact below_up h1 (by rw [h3]; exact below_self l n)
    | succ s ih => exact fun j hs => below_up hs.2.1 (ih _ hs.2.2)
  refine ⟨key s j hs, fun e => ?_⟩
  subst e
  obtain ⟨d, _, hd⟩ := h.deep j hj
  obtain ⟨g1, g2⟩ := bel_dep hs hd
  have := dep_uniq g2 (kid_dep h hk hd)
  omega
/-- Blw it, and not it: below just one of the children. -/
theorem below_split (h : Wf l) {n j : Nat} (hj : j < l.length) (hb : Blw l n j) (hne : j ≠ n) : ∃ k, k ∈ kidsV l n ∧ Blw l k j := by
  obtain ⟨s, hs⟩ := hb
  have key : ∀ s j, j < l.length → j ≠ n → Bel l n s j → ∃ k, k ∈ kidsV l n ∧ Blw l k j := fun s => by
    induction s with
    | zero => exact fun j _ hne hs => absurd hs hne
    | succ s ih =>
      intro j hj hne hs
      by_cases e : up l j = n
      · exact ⟨j, by rw [← e]; exact kid_of h hs.2.1 hj, below_self l j⟩
      · obtain ⟨k, h1, h2⟩ := ih _ (h.up_lt hj) e hs.2.2
        exact ⟨k, h1, below_up hs.2.1 h2⟩
  exact key s j hj hne hs
theorem below_itr {n : Nat} : ∀ {s k}, Bel l n s k → itr l s k = n
  | 0, _, h => h
  | s + 1, k, h => below_itr (s := s) (k := up l k) h.2.2
theorem below_one (h : Wf l) {n k k' j : Nat} (hk : k ∈ kidsV l n) (hk' : k' ∈ kidsV l n) (hn : n < l.length) (hj : j < l.length) (hb : Blw l k j) (hb' : Blw l k' j) : k = k' := by
  obtain ⟨s, hs⟩ := hb
  obtain ⟨s', hs'⟩ := hb'
  obtain ⟨d, _, hd⟩ := h.deep j hj
  obtain ⟨dn, _, hdn⟩ := h.deep n hn
  obtain ⟨g1, g2⟩ := bel_dep hs hd
  obtain ⟨g3, g4⟩ := bel_dep hs' hd
  have e1 := dep_uniq g2 (kid_dep h hk hdn)
  have e2 := dep_uniq g4 (kid_dep h hk' hdn)
  have e : s = s' := by omega
  subst e
  rw [← below_itr hs, ← below_itr hs']
end
/-- A sum over a list. -/
def sumL {α : Type} (f : α → Nat) : List α → Nat
  | [] => 0
  | a :: l => f a + sumL f l
theorem sumL_add {α : Type} (f g : α → Nat) (l : List α) : sumL (fun a => f a + g a) l = sumL f l + sumL g l := by
  induction l with
  | nil => rfl
  | cons a l ih => simp only [sumL, ih]; omega
theorem sumL_congr {α : Type} {f g : α → Nat} {l : List α} (h : ∀ a ∈ l, f a = g a) : sumL f l = sumL g l := by
  induction l with
  | nil => rfl
  | cons a l ih => simp only [sumL]; rw [h a (by simp), ih (fun b hb => h b (by simp [hb]))]
theorem sumL_zero {α : Type} (l : List α) : sumL (fun _ => 0) l = 0 := by
  induction l with
  | nil => rfl
  | cons a l ih => simp only [sumL, ih]
theorem sumL_swap {α β : Type} (f : α → β → Nat) (l : List α) (m : List β) : sumL (fun a => sumL (f a) m) l = sumL (fun b => sumL (fun a => f a b) l) m := by
  induction l with
  | nil => simp only [sumL]; exact (sumL_zero m).symm
  | cons a l ih => simp only [sumL]; rw [ih, ← sumL_add]
theorem len_filter {α : Type} (p : α → Bool) (l : List α) : (l.filter p).length = sumL (fun a => if p a then 1 else 0) l := by
  induction l with
  | nil => rfl
  | cons a l ih =>
    simp only [sumL]
    by_cases h : p a = true
    · rw [List.filter_cons_of_pos h, if_pos h, List.length_cons, ih]; omega
    · rw [List.filter_cons_of_neg h, if_neg h, ih]; omega
/-- Just one of them, or none. -/
theorem sumL_one {l : List Nat} (hn : l.Nodup) {p : Nat → Bool} {k : Nat} (hk : k ∈ l) (hp : p k = true) (hu : ∀ j ∈ l, p j = true → j = k) : sumL (fun a => if p a then 1 else 0) l = 1 := by
  induction l with
  | nil => cases hk
  | cons a l ih =>
    rw [List.nodup_cons] at hn
    simp only [sumL]
    by_cases e : a = k
    · subst e
      rw [if_pos hp, sumL_congr (g := fun _ => 0) (fun b hb => by
        have : ¬ p b = true := fun x => hn.1 (by rw [← hu b (by simp [hb]) x]; exact hb)
        rw [if_neg this]), sumL_zero]
    · have h1 : ¬ p a = true := fun x => e (hu a (by simp) x)
      rw [if_neg h1, ih hn.2 (by rcases List.mem_cons.1 hk with h | h; exact absurd h.symm e; exact h) (fun j hj => hu j (by simp [hj]))]
theorem range_nodup (n : Nat) : (List.range n).Nodup := List.nodup_range
/-- How many are below one: itself, and those below its children. -/
theorem below_count {l : List Ac} (h : Wf l) {n : Nat} (hn : n < l.length) : (belowV l n).length = 1 + sumL (fun k => (belowV l k).length) (kidsV l n) := by
  have e1 : ∀ k, (belowV l k).length = sumL (fun j => if belN l k l.length j then 1 else 0) (List.range l.length) := fun k => len_filter _ _
  rw [e1 n, sumL_congr (g := fun k => sumL (fun j => if belN l k l.length j then 1 else 0) (List.range l.length)) (fun k _ => e1 k), sumL_swap]
  have e2 : sumL (fun j => if (j == n) then 1 else 0) (List.range l.length) = 1 := sumL_one (p := fun j => j == n) (range_nodup _) (List.mem_range.2 hn) (by simp) (fun j _ hj => by simpa using hj)
  have main : sumL (fun j => if belN l n l.length j then 1 else 0) (List.range l.length) = sumL (fun j => if (j == n) then 1 else 0) (List.range l.length) + sumL (fun b => sumL (fun a => if belN l a l.length b then 1 else 0) (kidsV l n)) (List.range l.length) := by
    rw [← sumL_add]
    refine sumL_congr (fun j hj => ?_)
    have hjl := List.mem_range.1 hj
    have hkn : (kidsV l n).Nodup := (range_nodup _).filter _
    by_cases hb : Blw l n j
    · rw [if_pos ((h.bel n hjl).2 hb)]
      by_cases e : j = n
      · have z : sumL (fun a => if belN l a l.length j then 1 else 0) (kidsV l n) = 0 := by
          rw [sumL_congr (g := fun _ => 0) (fun k hk => if_neg (fun x => (below_kid h hk hjl ((h.bel k hjl).1 x)).2 e)), sumL_zero]
        rw [z]
        simp [e]
      · obtain ⟨k, hk, hbk⟩ := below_split h hjl hb e
        rw [sumL_one (p := fun k => belN l k l.length j) hkn hk ((h.bel k hjl).2 hbk) (fun k' hk' hb' => below_one h hk' hk hn hjl ((h.bel k' hjl).1 hb') hbk)]
        simp [e]
    · rw [if_neg (fun x => hb ((h.bel n hjl).1 x))]
      have z : sumL (fun a => if belN l a l.length j then 1 else 0) (kidsV l n) = 0 := by
        rw [sumL_congr (g := fun _ => 0) (fun k hk => if_neg (fun x => hb (below_kid h hk hjl ((h.bel k hjl).1 x)).1)), sumL_zero]
      have : j ≠ n := fun e => hb (e ▸ below_self l j)
      rw [z]
      simp [this]
  rw [main, e2]
/-- All are below the root. -/
theorem below_root {l : List Ac} (h : Wf l) : (belowV l 0).length = l.length := by
  have : belowV l 0 = List.range l.length := by
    unfold belowV
    refine List.filter_eq_self.2 (fun j hj => ?_)
    have hjl := List.mem_range.1 hj
    refine (h.bel 0 hjl).2 ?_
    obtain ⟨d, _, hd⟩ := h.deep j hjl
    have key : ∀ d j, Dep l d j → Blw l 0 j := fun d => by
      induction d with
      | zero => exact fun j hd => ⟨0, hd⟩
      | succ d ih => exact fun j hd => below_up hd.1 (ih _ hd.2)
    exact key d j hd
  rw [this, List.length_range]
end Go.Proofs.YtbcinapnnlfnbaaGreat.Tr
