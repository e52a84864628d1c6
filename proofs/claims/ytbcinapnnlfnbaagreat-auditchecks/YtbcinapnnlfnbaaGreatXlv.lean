/-
  LAYER 17: a state's own copy that is written: usages; jobs cut off behind.
  AUDITLESS walked, over what is asked of audit.Check (made by gen17i.py).
  LAYER 17: a state turned: its accounts, its jobs' nodes; a copy that is written so.
-/
import Derived.Test.YtbcinapnnlfnbaaGreatLaAq
import Derived.Test.YtbcinapnnlfnbaaGreatAuPq
import Derived.Laws.OwnMore
import Derived.Test.YtbcinapnnlfnbaaGreatXld
namespace Go.Proofs.YtbcinapnnlfnbaaGreat
open Go.RowKit Wd Tr Cg Lg

theorem flatA_us : ∀ (l : List Ac) (n : Nat) (a : Ac) (x : Int), l[n]? = some a → (flatA l).set (n * 5 + 4) (.int .u64 x) = flatA (l.set n { a with us := x })
  | [], n, a, x, h => by simp at h
  | b :: l, 0, a, x, h => by
    simp at h
    subst h
    simp [flatA]
  | b :: l, n + 1, a, x, h => by
    have := flatA_us l n a x (by simpa using h)
    rw [show (n + 1) * 5 + 4 = n * 5 + 4 + 1 + 1 + 1 + 1 + 1 by omega]
    simp only [flatA, List.set_cons_succ, this]
theorem Cpy.keep {x0 y z : World} {ao jo : Option Addr} {la : List Ac} {ca cj : Nat} {qs : List Pj} (k : Cpy x0 y ao la ca jo qs cj) (b : Below y.heap.size y z) : Cpy x0 z ao la ca jo qs cj :=
  ⟨k.bel.trans (b.mono k.bel.size), row_kept k.acc b, row_kept k.job b, fun q hq => row_kept (k.sets q hq) b, k.aj, k.ap⟩
/-- A block of one's own that is none of the copy's is written. -/
theorem Cpy.aside {x0 y : World} {ao jo : Option Addr} {la : List Ac} {ca cj : Nat} {qs : List Pj} (k : Cpy x0 y ao la ca jo qs cj) {p : Addr} (h0 : x0.heap.size ≤ p.block) (h1 : (Value.slice ao la.length ca).ownBlock ≠ some p.block) (h2 : (Value.slice jo qs.length cj).ownBlock ≠ some p.block) (h3 : ∀ q ∈ qs, (Value.slice q.sa q.v.set.length q.sc).ownBlock ≠ some p.block) (v : Value) : Cpy x0 (y.setCell p v) ao la ca jo qs cj :=
  ⟨k.bel.setCell h0 v, row_stand k.acc (fun g hg => Below.heap_setCell _ _ _ _ (fun e => h1 (by rw [← e]; exact hg))), row_stand k.job (fun g hg => Below.heap_setCell _ _ _ _ (fun e => h2 (by rw [← e]; exact hg))), fun q hq => row_stand (k.sets q hq) (fun g hg => Below.heap_setCell _ _ _ _ (fun e => h3 q hq (by rw [← e]; exact hg))), k.aj, k.ap⟩
theorem Cpy.used {x0 y : World} {g : Nat} {jo : Option Addr} {la : List Ac} {ca cj : Nat} {qs : List Pj} (k : Cpy x0 y (some ⟨g, 0, none⟩) la ca jo qs cj) {n : Nat} {a : Ac} (ha : la[n]? = some a) (v : Int) : Cpy x0 (y.setCell ⟨g, n * 5 + 4, none⟩ (.int .u64 v)) (some ⟨g, 0, none⟩) (la.set n { a with us := v }) ca jo qs cj := by
  have hg := k.acc.lt g rfl
  have hl : (la.set n { a with us := v }).length = la.length := List.length_set
  refine ⟨k.bel.setCell hg.1 _, ?_, row_stand k.job (fun b hb => Below.heap_setCell _ _ _ _ (fun e => k.aj g rfl (by rw [← show b = g from e]; exact hb))), fun q hq => row_stand (k.sets q hq) (fun b hb => Below.heap_setCell _ _ _ _ (fun e => (k.ap q hq b hb).1 (by rw [show b = g from e]; rfl))), ?_, ?_⟩
  · rw [hl, ← flatA_us la n a v ha]
    exact (World.ownsRow.stored k.acc (n * 5 + 4) (.int .u64 v)).1
  · rw [hl]; exact k.aj
  · rw [hl]; exact k.ap
theorem Cpy.stin' {w w' : World} {ao ao' jo jo' : Option Addr} {la M : List Ac} {ca ca' cj cj' : Nat} {ps qs : List Pj} (h : StIn w ao la ca jo ps cj) (k : Cpy w w' ao' M ca' jo' qs cj') (hM : M.length = la.length) (hu : ∀ (n : Nat) (a : Ac), M[n]? = some a → Word a.us) (hnm : ∀ a ∈ M, a.nm.size ≤ maxLen) (hv : qs.map Pj.v = ps.map Pj.v) : StIn w' ao' M ca' jo' qs cj' := by
  obtain ⟨_, _, e1, a1, a2, _⟩ := own_val k.acc
  cases e1
  obtain ⟨_, _, e2, b1, b2, _⟩ := own_val k.job
  cases e2
  have hs : ∀ q ∈ qs, q.v.set.length ≤ q.sc ∧ (q.sa = none → q.v.set.length = 0 ∧ q.sc = 0) := fun q hq => by
    obtain ⟨_, _, e3, c1, c2, _⟩ := own_val (k.sets q hq)
    cases e3
    exact ⟨c1, c2⟩
  exact ⟨acs_own k.acc, hu, hnm, by rw [hM]; exact h.l48, a1, fun e => ⟨List.length_eq_zero_iff.1 (a2 e).1, (a2 e).2⟩, ⟨jobs_own k.job, fun q hq => ints_own (k.sets q hq)⟩, by rw [vals_len hv]; exact h.l80, b1, fun e => ⟨List.length_eq_zero_iff.1 (b2 e).1, (b2 e).2⟩,
    fun q hq => by obtain ⟨p, hp, e⟩ := vals_mem hv hq; rw [← e]; exact h.sl p hp, fun q hq => (hs q hq).1, fun q hq e => ⟨List.length_eq_zero_iff.1 ((hs q hq).2 e).1, ((hs q hq).2 e).2⟩⟩
/-- The jobs but for the last one: the same row, cut. -/
theorem StIn.cut {w : World} {ao jo : Option Addr} {la : List Ac} {ca cj : Nat} {qs : List Pj} {q : Pj} (h : StIn w ao la ca jo (qs ++ [q]) cj) : StIn w ao la ca jo qs cj := by
  have hl : (qs ++ [q]).length = qs.length + 1 := by simp
  have hm : ∀ p ∈ qs, p ∈ qs ++ [q] := fun p hp => List.mem_append_left _ hp
  refine ⟨h.acs, h.us, h.nm, h.l48, h.cap, h.anil, ⟨?_, fun p hp => h.jobs.sets p (hm p hp)⟩, by have := h.l80; rw [hl] at this; omega, by have := h.jcap; rw [hl] at this; omega, fun e => by have := (h.jnil e).1; simp at this, fun p hp => h.sl p (hm p hp), fun p hp => h.sc p (hm p hp), fun p hp => h.snil p (hm p hp)⟩
  obtain ⟨g, o, h1, h2⟩ := h.jobs.jobs
  refine ⟨g, o, fun hp => h1 (by simp), fun k j hj => h2 k j ?_⟩
  rw [List.map_append, List.getElem?_append_left (List.getElem?_eq_some_iff.1 hj).1]
  exact hj
/-! ## Less usage -/
def lessA (u : Int) (a : Ac) : Ac := if 0 < a.us then { a with us := u % a.us } else a
def lessL (u : Int) (l : List Ac) (k : Nat) : List Ac := l.mapIdx fun n a => if n < k then lessA u a else a
theorem less_len (u : Int) (l : List Ac) (k : Nat) : (lessL u l k).length = l.length := by simp [lessL]
theorem less_get (u : Int) (l : List Ac) (k n : Nat) : (lessL u l k)[n]? = (l[n]?).map fun a => if n < k then lessA u a else a := by simp [lessL, List.getElem?_mapIdx]
theorem less_zero (u : Int) (l : List Ac) : lessL u l 0 = l := by
  apply List.ext_getElem?
  intro n
  rw [less_get]
  cases l[n]? <;> simp
theorem less_at {u : Int} {l : List Ac} {k : Nat} {a : Ac} (ha : l[k]? = some a) : (lessL u l k)[k]? = some a := by
  rw [less_get, ha]
  simp
theorem less_succ {u : Int} {l : List Ac} {k : Nat} {a : Ac} (ha : l[k]? = some a) : (lessL u l k).set k (lessA u a) = lessL u l (k + 1) := by
  apply List.ext_getElem?
  intro n
  rw [List.getElem?_set, less_get, less_get, less_len]
  have hk := (List.getElem?_eq_some_iff.1 ha).1
  by_cases h : k = n
  · subst h
    rw [if_pos rfl, if_pos hk, ha]
    simp
  · rw [if_neg h]
    cases l[n]? with
    | none => rfl
    | some b =>
      simp only [Option.map_some]
      by_cases h1 : n < k
      · rw [if_pos h1, if_pos (by omega)]
      · rw [if_neg h1, if_neg (by omega)]
theorem less_same {u : Int} {l : List Ac} {k : Nat} {a : Ac} (ha : l[k]? = some a) (h0 : ¬ 0 < a.us) : lessL u l k = lessL u l (k + 1) := by
  rw [← less_succ ha]
  have : lessA u a = a := by unfold lessA; rw [if_neg h0]
  rw [this]
  apply List.ext_getElem?
  intro n
  rw [List.getElem?_set]
  have hk := (List.getElem?_eq_some_iff.1 ha).1
  by_cases h : k = n
  · subst h
    rw [if_pos rfl, less_len, if_pos hk, less_at ha]
  · rw [if_neg h]
theorem lessA_us (u : Int) {a : Ac} (ha : Word a.us) : Word (lessA u a).us ∧ (lessA u a).us ≤ a.us ∧ (lessA u a).nm = a.nm := by
  unfold lessA
  split
  · rename_i h
    have h1 := Int.emod_nonneg u (show a.us ≠ 0 by omega)
    have h2 := Int.emod_lt_of_pos u h
    exact ⟨⟨h1, by have := ha.2; show u % a.us < 18446744073709551616; omega⟩, by show u % a.us ≤ a.us; omega, rfl⟩
  · exact ⟨ha, Int.le_refl _, rfl⟩
theorem less_plain (u : Int) (l : List Ac) (k : Nat) : (lessL u l k).map plainAc = l.map plainAc := by
  apply List.ext_getElem?
  intro n
  rw [List.getElem?_map, List.getElem?_map, less_get]
  cases l[n]? with
  | none => rfl
  | some a =>
    simp only [Option.map_some]
    split
    · unfold lessA
      split <;> rfl
    · rfl
end Go.Proofs.YtbcinapnnlfnbaaGreat
namespace Go.Proofs.YtbcinapnnlfnbaaGreat
open Go.RowKit Wd Tr Cg Lg

theorem find_plain (l : List Ac) (s : ByteArray) : findV (l.map plainAc) s = findV l s := by
  induction l with
  | nil => rfl
  | cons a l ih =>
    simp only [List.map_cons, findV]
    rw [ih]
    rfl
theorem rowE_plain (l : List Ac) (i : Nat) (a : Ac) : rowE (l.map plainAc) i (plainAc a) = rowE l i a := by
  unfold rowE
  rw [find_plain, List.length_map]
  rfl
theorem rowsE_plain (l : List Ac) : ∀ (f i : Nat), rowsE (l.map plainAc) f i = rowsE l f i
  | 0, _ => rfl
  | f + 1, i => by
    simp only [rowsE]
    rw [List.getElem?_map]
    cases l[i]? with
    | none => rfl
    | some a =>
      simp only [Option.map_some]
      rw [rowE_plain, rowsE_plain l f (i + 1)]
theorem up_plain (l : List Ac) (n : Nat) : up (l.map plainAc) n = up l n := by
  unfold up
  rw [List.getElem?_map]
  cases l[n]? <;> rfl
theorem depN_plain (l : List Ac) : ∀ f n : Nat, depN (l.map plainAc) f n = depN l f n
  | 0, _ => rfl
  | f + 1, n => by simp only [depN, up_plain, depN_plain l f]
theorem deepE_plain (l : List Ac) : ∀ (f i : Nat), deepE (l.map plainAc) f i = deepE l f i
  | 0, _ => rfl
  | f + 1, i => by
    simp only [deepE]
    rw [List.length_map, show depthV (l.map plainAc) i = depthV l i by unfold depthV; rw [List.length_map, depN_plain]]
    split
    · rfl
    · cases depthV l i with
      | none => rfl
      | some d => simp only; rw [deepE_plain l f (i + 1)]
theorem loadE_plain (l : List Ac) : loadE (l.map plainAc) = loadE l := by
  unfold loadE
  rw [List.getElem?_map]
  cases l[0]? with
  | none => rfl
  | some a =>
    simp only [Option.map_some]
    rw [List.length_map, rowsE_plain, deepE_plain]
    rfl
theorem less_load (u : Int) (l : List Ac) (k : Nat) : loadE (lessL u l k) = loadE l := by rw [← loadE_plain, less_plain, loadE_plain]
/-- The state with less usage is taken; so it is without a pending job behind. -/
theorem less_ok {c : Cf} {now hd : Int} {la : List Ac} {js : List Jv} (u : Int) (hu : ∀ (n : Nat) (a : Ac), la[n]? = some a → Word a.us) (h : auditV (chkZ c) ⟨c, now, la, js, hd⟩ = 0) : auditV (chkZ c) ⟨c, now, lessL u la la.length, js, -1⟩ = 0 ∧ ∀ js' j, js = js' ++ [j] → j.st = 1 → auditV (chkZ c) ⟨c, now, lessL u la la.length, js', -1⟩ = 0 := by
  obtain ⟨h1, h2⟩ := aud_ok.1 h
  have k := okay_less h2 (less_load u la la.length) (less_len u la _) (fun i a b ha hb => by
    rw [less_get, show la[i]? = some a from ha] at hb
    simp only [Option.map_some, Option.some.injEq] at hb
    rw [if_pos (List.getElem?_eq_some_iff.1 (show la[i]? = some a from ha)).1] at hb
    rw [← hb]
    exact (lessA_us u (hu i a ha)).2.1)
  exact ⟨aud_ok.2 ⟨h1, k⟩, fun js' j e hj => aud_ok.2 ⟨h1, okay_drop k e hj rfl⟩⟩
end Go.Proofs.YtbcinapnnlfnbaaGreat
namespace Go.Proofs.YtbcinapnnlfnbaaGreat
open Go.RowKit Wd Tr Cg Lg

/-! ## Accounts -/
def turnB (i : Nat) (a : Ac) : Bool := decide (0 < i) && (decide (1 ≤ a.sh) && decide (a.sh ≤ 4096))
def turnA (i : Nat) (a : Ac) : Ac := if turnB i a = true then { a with cl := !a.cl, sh := 4097 - a.sh } else a
def turnL (l : List Ac) (k : Nat) : List Ac := l.mapIdx fun n a => if n < k then turnA n a else a
theorem turn_len (l : List Ac) (k : Nat) : (turnL l k).length = l.length := by simp [turnL]
theorem turn_get (l : List Ac) (k n : Nat) : (turnL l k)[n]? = (l[n]?).map fun a => if n < k then turnA n a else a := by simp [turnL, List.getElem?_mapIdx]
theorem turn_zero (l : List Ac) : turnL l 0 = l := by
  apply List.ext_getElem?
  intro n
  rw [turn_get]
  cases l[n]? <;> simp
theorem turn_at {l : List Ac} {k : Nat} {a : Ac} (ha : l[k]? = some a) : (turnL l k)[k]? = some a := by
  rw [turn_get, ha]
  simp
theorem turn_succ {l : List Ac} {k : Nat} {a : Ac} (ha : l[k]? = some a) : (turnL l k).set k (turnA k a) = turnL l (k + 1) := by
  apply List.ext_getElem?
  intro n
  rw [List.getElem?_set, turn_get, turn_get, turn_len]
  have hk := (List.getElem?_eq_some_iff.1 ha).1
  by_cases h : k = n
  · subst h
    rw [if_pos rfl, if_pos hk, ha]
    simp
  · rw [if_neg h]
    cases l[n]? with
    | none => rfl
    | some b =>
      simp only [Option.map_some]
      by_cases h1 : n < k
      · rw [if_pos h1, if_pos (by omega)]
      · rw [if_neg h1, if_neg (by omega)]
theorem turnA_parts (i : Nat) (a : Ac) : (turnA i a).nm = a.nm ∧ (turnA i a).pa = a.pa ∧ (turnA i a).us = a.us := by
  unfold turnA
  split <;> exact ⟨rfl, rfl, rfl⟩
theorem okSh_turn (i : Nat) (a : Ac) : okSh (turnA i a).sh = okSh a.sh := by
  unfold turnA turnB
  split
  · rename_i h
    simp only [Bool.and_eq_true, decide_eq_true_eq] at h
    have h1 : okSh (4097 - a.sh) = true := by unfold okSh; simp only [Bool.and_eq_true, decide_eq_true_eq]; omega
    have h2 : okSh a.sh = true := by unfold okSh; simp only [Bool.and_eq_true, decide_eq_true_eq]; omega
    rw [h2]
    exact h1
  · rfl
/-- Lists that tree.Load sees alike. -/
structure Tnd (l m : List Ac) : Prop where
  len : m.length = l.length
  at_ : ∀ (n : Nat) (a b : Ac), l[n]? = some a → m[n]? = some b → b.nm = a.nm ∧ b.pa = a.pa ∧ okSh b.sh = okSh a.sh ∧ (n = 0 → b = a)
theorem Tnd.get {l m : List Ac} (h : Tnd l m) (n : Nat) : (l[n]? = none ∧ m[n]? = none) ∨ ∃ a b, l[n]? = some a ∧ m[n]? = some b := by
  by_cases hn : n < l.length
  · exact .inr ⟨_, _, List.getElem?_eq_getElem hn, List.getElem?_eq_getElem (by rw [h.len]; exact hn)⟩
  · exact .inl ⟨List.getElem?_eq_none (by omega), List.getElem?_eq_none (by rw [h.len]; omega)⟩
theorem find_nms : ∀ {l m : List Ac} (s : ByteArray), l.map Ac.nm = m.map Ac.nm → findV m s = findV l s
  | [], [], _, _ => rfl
  | a :: l, b :: m, s, h => by
    simp only [List.map_cons, List.cons.injEq] at h
    simp only [findV, h.1, find_nms s h.2]
  | [], b :: m, _, h => by simp at h
  | a :: l, [], _, h => by simp at h
section
variable {l m : List Ac}
theorem Tnd.nms (h : Tnd l m) : l.map Ac.nm = m.map Ac.nm := by
  apply List.ext_getElem?
  intro n
  rw [List.getElem?_map, List.getElem?_map]
  rcases h.get n with ⟨e1, e2⟩ | ⟨a, b, e1, e2⟩
  · rw [e1, e2]
  · rw [e1, e2]
    simp only [Option.map_some, (h.at_ n a b e1 e2).1]
theorem Tnd.up (h : Tnd l m) (n : Nat) : Tr.up m n = Tr.up l n := by
  unfold Tr.up
  rcases h.get n with ⟨e1, e2⟩ | ⟨a, b, e1, e2⟩
  · rw [e1, e2]
  · rw [e1, e2]
    simp only [(h.at_ n a b e1 e2).2.1]
theorem Tnd.dep (h : Tnd l m) : ∀ f n : Nat, depN m f n = depN l f n
  | 0, _ => rfl
  | f + 1, n => by simp only [depN, h.up, h.dep f]
theorem Tnd.rows (h : Tnd l m) : ∀ f i : Nat, rowsE m f i = rowsE l f i
  | 0, _ => rfl
  | f + 1, i => by
    simp only [rowsE]
    rcases h.get i with ⟨e1, e2⟩ | ⟨a, b, e1, e2⟩
    · rw [e1, e2]
    · rw [e1, e2]
      obtain ⟨h1, h2, h3, _⟩ := h.at_ i a b e1 e2
      have hr : rowE m i b = rowE l i a := by
        unfold rowE
        rw [find_nms _ h.nms, h.len, h1, h2, h3]
      simp only [hr, h.rows f (i + 1)]
theorem Tnd.deep (h : Tnd l m) : ∀ f i : Nat, deepE m f i = deepE l f i
  | 0, _ => rfl
  | f + 1, i => by
    simp only [deepE]
    rw [h.len, show depthV m i = depthV l i by unfold depthV; rw [h.len, h.dep]]
    split
    · rfl
    · cases depthV l i with
      | none => rfl
      | some d => simp only; rw [h.deep f (i + 1)]
theorem Tnd.load (h : Tnd l m) : loadE m = loadE l := by
  unfold loadE
  rcases h.get 0 with ⟨e1, e2⟩ | ⟨a, b, e1, e2⟩
  · rw [e1, e2]
  · rw [e1, e2]
    obtain ⟨_, _, _, h0⟩ := h.at_ 0 a b e1 e2
    rw [h0 rfl, h.len, h.rows, h.deep]
end
theorem turn_tnd (l : List Ac) : Tnd l (turnL l l.length) where
  len := turn_len l _
  at_ := fun n a b ha hb => by
    rw [turn_get, ha] at hb
    simp only [Option.map_some, Option.some.injEq] at hb
    rw [if_pos (List.getElem?_eq_some_iff.1 ha).1] at hb
    subst hb
    obtain ⟨h1, h2, _⟩ := turnA_parts n a
    exact ⟨h1, h2, okSh_turn n a, fun e => by subst e; unfold turnA turnB; rw [if_neg (by simp)]⟩
theorem turn_us {l : List Ac} {k n : Nat} {a b : Ac} (ha : l[n]? = some a) (hb : (turnL l k)[n]? = some b) : b.us = a.us ∧ b.nm = a.nm := by
  rw [turn_get, ha] at hb
  simp only [Option.map_some, Option.some.injEq] at hb
  rw [← hb]
  split
  · exact ⟨(turnA_parts n a).2.2, (turnA_parts n a).1⟩
  · exact ⟨rfl, rfl⟩
theorem flatT_cl : ∀ (l : List Ac) (n : Nat) (a : Ac) (x : Bool), l[n]? = some a → (flatA l).set (n * 5 + 3) (.bool x) = flatA (l.set n { a with cl := x })
  | [], n, a, x, h => by simp at h
  | b :: l, 0, a, x, h => by
    simp at h
    subst h
    simp [flatA]
  | b :: l, n + 1, a, x, h => by
    have := flatT_cl l n a x (by simpa using h)
    rw [show (n + 1) * 5 + 3 = n * 5 + 3 + 1 + 1 + 1 + 1 + 1 by omega]
    simp only [flatA, List.set_cons_succ, this]
theorem flatT_sh : ∀ (l : List Ac) (n : Nat) (a : Ac) (x : Int), l[n]? = some a → (flatA l).set (n * 5 + 2) (.int .i64 x) = flatA (l.set n { a with sh := x })
  | [], n, a, x, h => by simp at h
  | b :: l, 0, a, x, h => by
    simp at h
    subst h
    simp [flatA]
  | b :: l, n + 1, a, x, h => by
    have := flatT_sh l n a x (by simpa using h)
    rw [show (n + 1) * 5 + 2 = n * 5 + 2 + 1 + 1 + 1 + 1 + 1 by omega]
    simp only [flatA, List.set_cons_succ, this]
theorem Cpy.accSet {x0 y : World} {g : Nat} {jo : Option Addr} {la lb : List Ac} {ca cj : Nat} {qs : List Pj} (k : Cpy x0 y (some ⟨g, 0, none⟩) la ca jo qs cj) {o : Nat} {v : Value} (hl : lb.length = la.length) (hf : (flatA la).set o v = flatA lb) : Cpy x0 (y.setCell ⟨g, o, none⟩ v) (some ⟨g, 0, none⟩) lb ca jo qs cj := by
  have hg := k.acc.lt g rfl
  refine ⟨k.bel.setCell hg.1 _, ?_, row_stand k.job (fun b hb => Below.heap_setCell _ _ _ _ (fun e => k.aj g rfl (by rw [← show b = g from e]; exact hb))), fun q hq => row_stand (k.sets q hq) (fun b hb => Below.heap_setCell _ _ _ _ (fun e => (k.ap q hq b hb).1 (by rw [show b = g from e]; rfl))), ?_, ?_⟩
  · rw [hl, ← hf]
    exact (World.ownsRow.stored k.acc o v).1
  · rw [hl]; exact k.aj
  · rw [hl]; exact k.ap
/-! ## Jobs -/
theorem flatJ_set : ∀ (l : List Pj) (n : Nat) (p : Pj) (xs : List Int) (sa : Option Addr) (sc : Nat), l[n]? = some p → (flatJ l).set (n * 8 + 7) (.slice sa xs.length sc) = flatJ (l.set n ⟨{ p.v with set := xs }, sa, sc⟩)
  | [], n, p, xs, sa, sc, h => by simp at h
  | b :: l, 0, p, xs, sa, sc, h => by
    simp at h
    subst h
    simp [flatJ]
  | b :: l, n + 1, p, xs, sa, sc, h => by
    have := flatJ_set l n p xs sa sc (by simpa using h)
    rw [show (n + 1) * 8 + 7 = n * 8 + 7 + 1 + 1 + 1 + 1 + 1 + 1 + 1 + 1 by omega]
    simp only [flatJ, List.set_cons_succ, this]
/-- A job's nodes are laid anew: in memory that came behind. -/
theorem Cpy.reset {x0 y z : World} {ao : Option Addr} {g : Nat} {la : List Ac} {ca cj : Nat} {qs : List Pj} (k : Cpy x0 y ao la ca (some ⟨g, 0, none⟩) qs cj) (b : Below y.heap.size y z) {n : Nat} {p : Pj} (hp : qs[n]? = some p) {xs : List Int} {sa : Option Addr} {sc : Nat} (hr : z.ownsRow y.heap.size 3 1 (.slice sa xs.length sc) xs.length (i64s xs)) :
    Cpy x0 (z.setCell ⟨g, n * 8 + 7, none⟩ (.slice sa xs.length sc)) ao la ca (some ⟨g, 0, none⟩) (qs.set n ⟨{ p.v with set := xs }, sa, sc⟩) cj := by
  have kz := k.keep b
  have hg := k.job.lt g rfl
  have hl : (qs.set n ⟨{ p.v with set := xs }, sa, sc⟩).length = qs.length := List.length_set
  have hy := k.bel.size
  have hnew : ∀ b, (Value.slice sa xs.length sc).ownBlock = some b → y.heap.size ≤ b := fun b hb => (hr.lt b hb).1
  have hmem : ∀ q ∈ qs.set n ⟨{ p.v with set := xs }, sa, sc⟩, q ∈ qs ∨ q = ⟨{ p.v with set := xs }, sa, sc⟩ := fun q hq => List.mem_or_eq_of_mem_set hq
  refine ⟨kz.bel.setCell hg.1 _, row_stand kz.acc (fun b hb => Below.heap_setCell _ _ _ _ (fun e => k.aj b hb (by rw [show b = g from e]; rfl))), ?_, fun q hq => ?_, ?_, fun q hq c hc => ?_⟩
  · rw [hl, ← flatJ_set qs n p xs sa sc hp]
    exact (World.ownsRow.stored kz.job (n * 8 + 7) _).1
  · rcases hmem q hq with h | rfl
    · exact row_stand (kz.sets q h) (fun b hb => Below.heap_setCell _ _ _ _ (fun e => (k.ap q h b hb).2 (by rw [show b = g from e]; rfl)))
    · exact World.ownsRow.mono (row_stand hr (fun b hb => Below.heap_setCell _ _ _ _ (fun e => by have := hnew b hb; have e' : b = g := e; omega))) hy
  · rw [hl]; exact k.aj
  · rw [hl]
    rcases hmem q hq with h | rfl
    · exact k.ap q h c hc
    · have := hnew c hc
      refine ⟨fun e => ?_, fun e => ?_⟩
      · have := (k.acc.lt c e).2
        omega
      · have := (k.job.lt c e).2
        omega
end Go.Proofs.YtbcinapnnlfnbaaGreat
