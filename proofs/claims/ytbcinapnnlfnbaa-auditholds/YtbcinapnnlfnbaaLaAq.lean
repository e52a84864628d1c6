/-
  AUDITCHECKS walked, over what is asked of audit.Check (made by gen17h.py).
-/
import Derived.Test.YtbcinapnnlfnbaaXlu
namespace Go.Proofs.Ytbcinapnnlfnbaa
open Go.RowKit Wd Tr Cg Lg

theorem acs_own {W : World} {B : Nat} {ao : Option Addr} {l : List Ac} {cap : Nat} (h : W.ownsRow B 41 5 (.slice ao l.length cap) l.length (flatA l)) : AcsAt W ao l := by
  obtain ⟨ao', cap', e, _, h0, h1⟩ := own_val h
  cases e
  cases ao with
  | none => exact ⟨0, 0, fun hp => by have := (h0 rfl).1; omega, fun k n hn => by have := (List.getElem?_eq_some_iff.1 hn).1; have := (h0 rfl).1; omega⟩
  | some a =>
    obtain ⟨g, rfl, _, _⟩ := h1 a rfl
    refine ⟨g, 0, fun _ => rfl, fun k a ha => ?_⟩
    obtain ⟨e0, e1, e2, e3, e4⟩ := flatA_at l k a ha
    have hc := fun j u (hu : (flatA l)[j]? = some u) => (show W.cell? ⟨g, 0 + j, none⟩ = some u by have := h.cells (g := g) rfl j u hu; rwa [Addr.add_lit] at this)
    exact ⟨hc _ _ e0, hc _ _ e1, hc _ _ e2, hc _ _ e3, hc _ _ e4⟩
theorem sets_vals : ∀ {qs ps : List Pj}, qs.map Pj.v = ps.map Pj.v → setsN qs = setsN ps
  | [], [], _ => rfl
  | q :: qs, p :: ps, h => by
    simp only [List.map_cons, List.cons.injEq] at h
    simp only [setsN, h.1, sets_vals h.2]
  | [], p :: ps, h => by simp at h
  | q :: qs, [], h => by simp at h
theorem vals_mem {qs ps : List Pj} (h : qs.map Pj.v = ps.map Pj.v) {q : Pj} (hq : q ∈ qs) : ∃ p ∈ ps, p.v = q.v := by
  have : q.v ∈ ps.map Pj.v := by rw [← h]; exact List.mem_map_of_mem hq
  exact List.mem_map.1 this
theorem vals_len {qs ps : List Pj} (h : qs.map Pj.v = ps.map Pj.v) : qs.length = ps.length := by have := congrArg List.length h; simpa using this
theorem Cpy.stin {w w' : World} {ao ao' jo jo' : Option Addr} {la : List Ac} {ca ca' cj cj' : Nat} {ps qs : List Pj} (h : StIn w ao la ca jo ps cj) (k : Cpy w w' ao' la ca' jo' qs cj') (hv : qs.map Pj.v = ps.map Pj.v) : StIn w' ao' la ca' jo' qs cj' := by
  obtain ⟨_, _, e1, a1, a2, _⟩ := own_val k.acc
  cases e1
  obtain ⟨_, _, e2, b1, b2, _⟩ := own_val k.job
  cases e2
  have hs : ∀ q ∈ qs, q.v.set.length ≤ q.sc ∧ (q.sa = none → q.v.set.length = 0 ∧ q.sc = 0) := fun q hq => by
    obtain ⟨_, _, e3, c1, c2, _⟩ := own_val (k.sets q hq)
    cases e3
    exact ⟨c1, c2⟩
  exact ⟨acs_own k.acc, h.us, h.nm, h.l48, a1, fun e => ⟨List.length_eq_zero_iff.1 (a2 e).1, (a2 e).2⟩, ⟨jobs_own k.job, fun q hq => ints_own (k.sets q hq)⟩, by rw [vals_len hv]; exact h.l80, b1, fun e => ⟨List.length_eq_zero_iff.1 (b2 e).1, (b2 e).2⟩,
    fun q hq => by obtain ⟨p, hp, e⟩ := vals_mem hv hq; rw [← e]; exact h.sl p hp, fun q hq => (hs q hq).1, fun q hq e => ⟨List.length_eq_zero_iff.1 ((hs q hq).2 e).1, ((hs q hq).2 e).2⟩⟩
theorem wt_vals {la : List Ac} {qs ps : List Pj} (h : qs.map Pj.v = ps.map Pj.v) : wtN la qs = wtN la ps := by unfold wtN; rw [vals_len h, sets_vals h]
theorem StIn.l47 {w : World} {ao jo : Option Addr} {la : List Ac} {ca cj : Nat} {ps : List Pj} (h : StIn w ao la ca jo ps cj) : ps.length ≤ 140737488355328 ∧ la.length ≤ 140737488355328 ∧ ∀ p ∈ ps, p.v.set.length ≤ 140737488355328 := by
  have h1 := h.l80
  have h2 := h.l48
  exact ⟨by omega, by omega, fun p hp => by have := h.sl p hp; omega⟩
end Go.Proofs.Ytbcinapnnlfnbaa
