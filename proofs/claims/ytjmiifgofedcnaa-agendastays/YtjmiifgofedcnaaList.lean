/-
  What an agenda has, as a list in the order.
-/
import Derived.Test.YtjmiifgofedcnaaApp
namespace Go.Proofs.Ytjmiifgofedcnaa
open Go.RowKit Ag

namespace Ag
def Srt (L : List En) : Prop := L.Pairwise (fun e f => bef e f = true)
def insL (e : En) : List En → List En
  | [] => [e]
  | f :: L => if bef f e = true then f :: insL e L else e :: f :: L
theorem mem_insL (e x : En) (L : List En) : x ∈ insL e L ↔ x = e ∨ x ∈ L := by
  induction L with
  | nil => simp [insL]
  | cons f L ih =>
    unfold insL
    split
    · simp only [List.mem_cons, ih]
      constructor
      · rintro (h | h | h)
        · exact .inr (.inl h)
        · exact .inl h
        · exact .inr (.inr h)
      · rintro (h | h | h)
        · exact .inr (.inl h)
        · exact .inl h
        · exact .inr (.inr h)
    · simp
theorem len_insL (e : En) (L : List En) : (insL e L).length = L.length + 1 := by
  induction L with
  | nil => rfl
  | cons f L ih =>
    unfold insL
    split
    · simp [ih]
    · simp
theorem bef_trans {a b c : En} (h : bef a b = true) (k : bef b c = true) : bef a c = true := by rw [bef_iff] at *; omega
theorem bef_ne {a b : En} (h : bef a b = true) : ¬ bef b a = true := fun k => by rw [bef_iff] at *; omega
theorem bef_irrefl (a : En) : ¬ bef a a = true := fun k => by rw [bef_iff] at *; omega
theorem bef_of {a b : En} (h : ¬ bef a b = true) (hi : a.id ≠ b.id) : bef b a = true := by rw [bef_iff] at *; omega
theorem srt_insL {e : En} {L : List En} (s : Srt L) (hi : ∀ f ∈ L, f.id ≠ e.id) : Srt (insL e L) := by
  induction L with
  | nil => simp [insL, Srt]
  | cons f L ih =>
    have s' := List.pairwise_cons.1 s
    unfold insL
    split
    · rename_i hb
      refine List.pairwise_cons.2 ⟨fun x hx => ?_, ih s'.2 (fun g hg => hi g (List.mem_cons_of_mem _ hg))⟩
      rcases (mem_insL e x L).1 hx with rfl | hx
      · exact hb
      · exact s'.1 x hx
    · rename_i hb
      have hef := bef_of hb (hi f List.mem_cons_self)
      refine List.pairwise_cons.2 ⟨fun x hx => ?_, s⟩
      rcases List.mem_cons.1 hx with rfl | hx
      · exact hef
      · exact bef_trans hef (s'.1 x hx)
theorem Srt.nodup {L : List En} (s : Srt L) : L.Nodup := List.Pairwise.imp (S := fun a b => a ≠ b) (fun {a b} h e => by subst e; exact bef_irrefl _ h) s
/-- Two lists in the order that have the same ones are the same. -/
theorem srt_ext : ∀ {L L' : List En}, Srt L → Srt L' → (∀ e, e ∈ L ↔ e ∈ L') → L = L'
  | [], L', _, _, h => by
    cases L' with
    | nil => rfl
    | cons f L' => have := (h f).2 (by simp); simp at this
  | e :: L, [], _, _, h => by have := (h e).1 (by simp); simp at this
  | e :: L, f :: L', s, s', h => by
    have a := List.pairwise_cons.1 s
    have b := List.pairwise_cons.1 s'
    have hef : e = f := by
      rcases List.mem_cons.1 ((h e).1 (by simp)) with h1 | h1
      · exact h1
      · rcases List.mem_cons.1 ((h f).2 (by simp)) with h2 | h2
        · exact h2.symm
        · exact absurd (a.1 f h2) (bef_ne (b.1 e h1))
    subst hef
    rw [srt_ext a.2 b.2 (fun x => ?_)]
    have hx := h x
    simp only [List.mem_cons] at hx
    constructor
    · intro hm
      rcases hx.1 (.inr hm) with h1 | h1
      · subst h1; exact absurd (a.1 x hm) (bef_irrefl _)
      · exact h1
    · intro hm
      rcases hx.2 (.inr hm) with h1 | h1
      · subst h1; exact absurd (b.1 x hm) (bef_irrefl _)
      · exact h1
/-- The list of what a heap has. -/
structure IsL (L : List En) (h : Nat → En) (n : Nat) : Prop where
  srt : Srt L
  mem : ∀ e, e ∈ L ↔ ∃ k, k < n ∧ h k = e
theorem IsL.same {L : List En} {h h' : Nat → En} {n : Nat} (l : IsL L h n) (s : Same h h' n) : IsL L h' n := ⟨l.srt, fun e => (l.mem e).trans (s e)⟩
theorem IsL.len {L : List En} {h : Nat → En} {n : Nat} (l : IsL L h n) (hi : ∀ k k', k < n → k' < n → (h k).id = (h k').id → k = k') : L.length = n := by
  have p : ((List.range n).map h).Nodup := by
    have q : (List.range n).Pairwise (fun a b => h a ≠ h b) := by
      refine (List.nodup_range (n := n)).imp_of_mem (fun {a b} ha hb hne => ?_)
      intro e
      exact hne (hi a b (List.mem_range.1 ha) (List.mem_range.1 hb) (by rw [e]))
    exact List.pairwise_map.2 q
  have := ((List.perm_ext_iff_of_nodup l.srt.nodup p).2 (fun e => by
    rw [l.mem e]
    simp [List.mem_map, List.mem_range])).length_eq
  simpa using this
theorem heap_least {h : Nat → En} {n : Nat} (d : Heap h n) (k : Nat) (hk : k < n) : le (h 0) (h k) := by
  induction k using Nat.strongRecOn with
  | ind k ih =>
    by_cases e : k = 0
    · subst e; exact le.refl _
    · have := par_lt (k := k) (by omega)
      exact (ih (par k) this (by omega)).trans (d k (by omega) hk)
theorem IsL.head {e : En} {L : List En} {h : Nat → En} {n : Nat} (l : IsL (e :: L) h n) (d : Heap h n) : 0 < n ∧ h 0 = e := by
  obtain ⟨k, hk, hke⟩ := (l.mem e).1 (by simp)
  refine ⟨by omega, ?_⟩
  have h1 := heap_least d k hk
  rw [hke] at h1
  rcases List.mem_cons.1 ((l.mem (h 0)).2 ⟨0, by omega, rfl⟩) with h2 | h2
  · exact h2
  · have := (List.pairwise_cons.1 l.srt).1 _ h2
    rw [bef_iff] at this
    unfold le at h1
    omega
theorem IsL.nil {h : Nat → En} {n : Nat} (l : IsL [] h n) : n = 0 := by
  by_cases e : n = 0
  · exact e
  · have := (l.mem (h 0)).2 ⟨0, by omega, rfl⟩
    simp at this
theorem isL_nil (h : Nat → En) : IsL [] h 0 := ⟨List.Pairwise.nil, fun e => by simp⟩
theorem IsL.add {L : List En} {h : Nat → En} {n : Nat} (l : IsL L h n) {e : En} (hi : ∀ f ∈ L, f.id ≠ e.id) : IsL (insL e L) (upd h n e) (n + 1) := by
  refine ⟨srt_insL l.srt hi, fun x => ?_⟩
  rw [mem_insL, l.mem]
  constructor
  · rintro (rfl | ⟨k, hk, rfl⟩)
    · exact ⟨n, by omega, by simp [upd]⟩
    · exact ⟨k, by omega, by simp [upd, show k ≠ n by omega]⟩
  · rintro ⟨k, hk, rfl⟩
    by_cases e1 : k = n
    · exact .inl (by simp [upd, e1])
    · exact .inr ⟨k, by omega, by simp [upd, e1]⟩
/-- Without the one of that number. -/
def delL (i : Int) (L : List En) : List En := L.filter (fun e => !decide (e.id = i))
theorem IsL.del {L : List En} {h : Nat → En} {l p : Nat} (q : IsL L h (l + 1)) (hi : ∀ k k', k < l + 1 → k' < l + 1 → (h k).id = (h k').id → k = k') (hp : p < l + 1) : IsL (delL (h p).id L) (swp h p l) l := by
  refine ⟨q.srt.filter _, fun x => ?_⟩
  unfold delL
  rw [List.mem_filter, q.mem]
  constructor
  · rintro ⟨⟨k, hk, rfl⟩, hne⟩
    have hkp : k ≠ p := fun e => by subst e; simp at hne
    by_cases e1 : k = l
    · exact ⟨p, by omega, by rw [swp_at1, e1]⟩
    · exact ⟨k, by omega, by simp [swp, hkp, e1]⟩
  · rintro ⟨k, hk, rfl⟩
    by_cases e1 : k = p
    · subst e1
      rw [swp_at1]
      refine ⟨⟨l, by omega, rfl⟩, ?_⟩
      have : (h l).id ≠ (h k).id := fun e => by have := hi l k (by omega) hp e; omega
      simp [this]
    · have : swp h p l k = h k := by simp [swp, e1, show k ≠ l by omega]
      rw [this]
      refine ⟨⟨k, by omega, rfl⟩, ?_⟩
      have : (h k).id ≠ (h p).id := fun e => e1 (hi k p (by omega) hp e)
      simp [this]
theorem heap_upTo {h : Nat → En} {n : Nat} (d : Heap h n) (e : En) : UpTo (upd h n e) (n + 1) n := by
  refine ⟨fun k a b c => ?_, fun k a b c f => ?_⟩
  · have hk := par_lt a
    rw [show upd h n e k = h k by simp [upd, c], show upd h n e (par k) = h (par k) by simp [upd, show par k ≠ n by omega]]
    exact d k a (by omega)
  · have := par_lt a
    omega
end Ag
theorem RowIn.app {w : World} {te : Nat} {ao : Option Addr} {cap n : Nat} {h : Nat → En} {e : En} (r : w.ownsRow 0 te 3 (.slice ao (n + 1) cap) (n + 1) (flat h n ++ e.cells)) : RowIn w te ao cap (n + 1) (upd h n e) := by
  refine RowIn.of_owns (base := 0) ?_
  have : flat (upd h n e) (n + 1) = flat h n ++ e.cells := by
    simp only [flat]
    rw [flat_ext (h := upd h n e) (h' := h) (fun k hk => by simp [upd, show k ≠ n by omega])]
    simp [upd]
  rw [this]
  exact r
theorem Grew.drN (w : World) (q : Nat) : Grew w (w.drewN q) := ⟨q, #[], (Sort.grow_empty _).symm⟩
theorem Grew.alN (w : World) (o : Obj) (q : Nat) : Grew w ((w.alloc o).drewN q) := ⟨q, #[o], by rw [Sort.alloc_eq_grow]; rfl⟩
/-- An agenda that has L, in memory. -/
structure Agd (ts te : Nat) (w : World) (a m : Nat) (ao : Option Addr) (L : List En) (cap n : Nat) (h : Nat → En) : Prop where
  raw : Raw ts te w a m ao cap n h
  heap : Heap h n
  isL : IsL L h n
def Agn (ts te : Nat) (w : World) (a m : Nat) (ao : Option Addr) (L : List En) : Prop := ∃ cap n h, Agd ts te w a m ao L cap n h
section
variable {ts te : Nat} {w : World} {a m : Nat} {ao : Option Addr} {L : List En} {cap n : Nat} {h : Nat → En}
theorem Raw.inj (r : Raw ts te w a m ao cap n h) : ∀ k k', k < n → k' < n → (h k).id = (h k').id → k = k' := fun _ _ a b c => r.pm.elim fun _ hp => hp.2.inj a b c
theorem Agd.len (r : Agd ts te w a m ao L cap n h) : L.length = n := r.isL.len r.raw.inj
theorem Agn.kept (r : Agn ts te w a m ao L) {w' : World} {K : Nat → Prop} (c : Chg K w w') (hK : ∀ k, Kag a m ao k → ¬ K k) : Agn ts te w' a m ao L := by
  obtain ⟨cap, n, h, r⟩ := r
  exact ⟨cap, n, h, r.raw.kept c hK, r.heap, r.isL⟩
theorem Agn.below (r : Agn ts te w a m ao L) {w' : World} (b : Below w.heap.size w w') : Agn ts te w' a m ao L := r.kept (K := fun _ => False) (Chg.of_below b _) (fun _ _ h => h)
theorem Raw.look_yes (r : Raw ts te w a m ao cap n h) {k : Nat} (hk : k < n) : (Instr.lookup 65 (.map (some m)) (.int .i64 (h k).id) true).run Try.prog w = .ok (.tuple #[.int .i64 k, .bool true]) w := by
  obtain ⟨D, ho, hd⟩ := r.pm
  obtain ⟨v, ps, hrun, hv⟩ := ho.look_ok (Maps.int_keyed Try.underlying3) Try.underlying65 (Try.zeroValue3 w) (plainElem_int Try.underlying3 rfl) (Maps.keyOf_int_mk Try.underlying3 (r.ok k hk).1)
  obtain ⟨c, rfl, hc, _⟩ := plainElem_int_inv Try.underlying3 hv
  have h1 := hd.yes k hk
  rw [h1.1] at hrun
  simp only [Prod.mk.injEq] at hc
  have := h1.2.symm.trans hc.1
  simp at this
  rw [hrun, ← this]
theorem Raw.look_no (r : Raw ts te w a m ao cap n h) {i : Int} (hi : wfI i) (hn : ∀ k, k < n → (h k).id ≠ i) : (Instr.lookup 65 (.map (some m)) (.int .i64 i) true).run Try.prog w = .ok (.tuple #[.int .i64 0, .bool false]) w := by
  obtain ⟨D, ho, hd⟩ := r.pm
  obtain ⟨v, ps, hrun, hv⟩ := ho.look_ok (Maps.int_keyed Try.underlying3) Try.underlying65 (Try.zeroValue3 w) (plainElem_int Try.underlying3 rfl) (Maps.keyOf_int_mk Try.underlying3 hi)
  obtain ⟨c, rfl, hc, _⟩ := plainElem_int_inv Try.underlying3 hv
  have h1 := hd.no i hn
  rw [h1.1] at hrun
  simp only [Prod.mk.injEq] at hc
  have := h1.2.symm.trans hc.1
  simp at this
  rw [hrun, ← this]
end
end Go.Proofs.Ytjmiifgofedcnaa
