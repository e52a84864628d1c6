/-
  TEXTS: SrG.
-/
import Derived.Test.YtceoibfliggalaaGreatDoorKv4
namespace Go.Proofs.YtceoibfliggalaaGreatDoor
structure Grp (D : List Ev) (bs : List (List Ev)) : Prop where
 perm : bs.flatten.Perm D
 srt : ∀ b ∈ bs, SrtE b
 acr : bs.Pairwise AcrE
theorem AcrE.app {a b c : List Ev} : AcrE (a ++ b) c ↔ AcrE a c ∧ AcrE b c :=
 ⟨fun h => ⟨fun x hx => h x (List.mem_append_left _ hx), fun x hx => h x (List.mem_append_right _ hx)⟩, fun h x hx => (List.mem_append.1 hx).elim (h.1 x) (h.2 x)⟩
theorem AcrE.app' {a b c : List Ev} : AcrE a (b ++ c) ↔ AcrE a b ∧ AcrE a c :=
 ⟨fun h => ⟨fun x hx y hy => h x hx y (List.mem_append_left _ hy), fun x hx y hy => h x hx y (List.mem_append_right _ hy)⟩, fun h x hx y hy => (List.mem_append.1 hy).elim (h.1 x hx y) (h.2 x hx y)⟩
theorem Grp.merge {D C f g : List Ev} {X Y : List (List Ev)} (h : Grp D (X ++ f :: g :: Y)) (p : C.Perm (f ++ g)) (s : SrtE C) : Grp D (X ++ C :: Y) := by
 obtain ⟨h1, h2, h3⟩ := h
 refine ⟨?_, ?_, ?_⟩
 ·refine List.Perm.trans ?_ h1
  simp only [List.flatten_append, List.flatten_cons]
  refine List.Perm.append_left _ ?_
  rw [← List.append_assoc]
  exact List.Perm.append_right _ p
 ·intro b hb
  rcases List.mem_append.1 hb with hb | hb
  ·exact h2 b (List.mem_append_left _ hb)
  ·rcases List.mem_cons.1 hb with rfl | hb
   ·exact s
   ·exact h2 b (by simp [hb])
 ·rw [List.pairwise_append] at h3 ⊢
  obtain ⟨a1, a2, a3⟩ := h3
  rw [List.pairwise_cons, List.pairwise_cons] at a2
  obtain ⟨c1, c2, c3⟩ := a2
  refine ⟨a1, List.pairwise_cons.2 ⟨fun y hy => ?_, c3⟩, fun x hx y hy => ?_⟩
  ·exact (AcrE.app.2 ⟨c1 y (by simp [hy]), c2 y hy⟩).perm p (List.Perm.refl _)
  ·rcases List.mem_cons.1 hy with rfl | hy
   ·exact (AcrE.app'.2 ⟨a3 x hx f (by simp), a3 x hx g (by simp)⟩).perm (List.Perm.refl _) p
   ·exact a3 x hx y (by simp [hy])
theorem acr_nil (a : List Ev) : AcrE a [] := fun _ _ _ h => by cases h
theorem Grp.more {D : List Ev} {bs : List (List Ev)} (h : Grp D bs) : Grp D (bs ++ [[]]) := by
 obtain ⟨h1, h2, h3⟩ := h
 refine ⟨by simpa using h1, ?_, List.pairwise_append.2 ⟨h3, List.pairwise_singleton _ _, fun x _ y hy => ?_⟩⟩
 ·intro b hb
  rcases List.mem_append.1 hb with hb | hb
  ·exact h2 b hb
  ·simp at hb; subst hb; exact SrtE.nil
 ·simp at hy; subst hy; exact acr_nil x
theorem Grp.less {D : List Ev} {bs : List (List Ev)} (h : Grp D (bs ++ [[]])) : Grp D bs := by
 obtain ⟨h1, h2, h3⟩ := h
 exact ⟨by simpa using h1, fun b hb => h2 b (List.mem_append_left _ hb), (List.pairwise_append.1 h3).1⟩
structure Raw0 (D : List Ev) (bs : List (List Ev)) (rest : List Ev) : Prop where
 perm : (bs.flatten ++ rest).Perm D
 srt : ∀ b ∈ bs, SrtE b
 acr : bs.Pairwise AcrE
 acr2 : ∀ b ∈ bs, AcrE b rest
 ord : rest.Pairwise Ev.O
theorem Raw0.start {D : List Ev} (h : D.Pairwise Ev.O) : Raw0 D [] D := ⟨by simp, by simp, List.Pairwise.nil, by simp, h⟩
theorem Raw0.step {D X C rest : List Ev} {bs : List (List Ev)} (h : Raw0 D bs (X ++ rest)) (p : C.Perm X) (s : SrtE C) : Raw0 D (bs ++ [C]) rest := by
 obtain ⟨h1, h2, h3, h4, h5⟩ := h
 obtain ⟨o1, o2, o3⟩ := List.pairwise_append.1 h5
 refine ⟨?_, ?_, List.pairwise_append.2 ⟨h3, List.pairwise_singleton _ _, fun x hx y hy => ?_⟩, ?_, o2⟩
 ·refine List.Perm.trans ?_ h1
  simp only [List.flatten_append, List.flatten_cons, List.flatten_nil, List.append_nil, List.append_assoc]
  exact List.Perm.append_left _ (List.Perm.append_right _ p)
 ·intro b hb
  rcases List.mem_append.1 hb with hb | hb
  ·exact h2 b hb
  ·simp at hb; subst hb; exact s
 ·simp at hy; subst hy
  exact (AcrE.app'.1 (h4 x hx)).1.perm (List.Perm.refl _) p
 ·intro b hb
  rcases List.mem_append.1 hb with hb | hb
  ·exact (AcrE.app'.1 (h4 b hb)).2
  ·simp at hb; subst hb
   exact fun x hx y hy => o3 x (p.mem_iff.1 hx) y hy
theorem Raw0.done {D : List Ev} {bs : List (List Ev)} (h : Raw0 D bs []) : Grp D bs := ⟨by simpa using h.perm, h.srt, h.acr⟩
def Full (s : Nat) (fs : List (List Ev)) (l : List Ev) : Prop := (∀ f ∈ fs, f.length = s) ∧ l.length ≤ s
theorem full_len {s : Nat} : ∀ {fs : List (List Ev)}, (∀ f ∈ fs, f.length = s) → fs.flatten.length = fs.length * s
 | [], _ => by simp
 | f :: fs, h => by
  rw [List.flatten_cons, List.length_append, h f (by simp), full_len (fun g hg => h g (by simp [hg])), List.length_cons, Nat.succ_mul]; omega
theorem grp_one {D : List Ev} {s : Nat} {fs : List (List Ev)} {l : List Ev} (h : Grp D (fs ++ [l])) (hf : Full s fs l) (hs : 0 < s) (hn : D.length ≤ s) : SrtE (fs ++ [l]).flatten := by
 have hl := h.perm.length_eq
 rw [List.flatten_append, List.length_append, full_len hf.1] at hl
 simp only [List.flatten_cons, List.flatten_nil, List.append_nil] at hl
 rcases fs with _ | ⟨f, _ | ⟨g, fs⟩⟩
 ·simpa using h.srt l (by simp)
 ·have : l.length = 0 := by simp only [List.length_cons, List.length_nil, Nat.zero_add, Nat.one_mul] at hl; omega
  have := List.eq_nil_of_length_eq_zero this
  subst this
  simpa using h.srt f (by simp)
 ·exfalso
  have : 2 * s ≤ (f :: g :: fs).length * s := Nat.mul_le_mul_right s (by simp)
  omega
theorem flat_len2 {s : Nat} {fs : List (List Ev)} {l : List Ev} (hf : Full s fs l) : (fs ++ [l]).flatten.length = fs.length * s + l.length := by
 rw [List.flatten_append, List.length_append, full_len hf.1]
 simp only [List.flatten_cons, List.flatten_nil, List.append_nil]
theorem grp_len {D : List Ev} {s : Nat} {X fs : List (List Ev)} {l : List Ev} (h : Grp D (X ++ (fs ++ [l]))) (hf : Full s fs l) : X.flatten.length + (fs.length * s + l.length) = D.length := by
 have := h.perm.length_eq
 rw [List.flatten_append, List.length_append, flat_len2 hf] at this
 exact this
theorem two_blocks {D : List Ev} {s : Nat} {X fs : List (List Ev)} {l : List Ev} (h : Grp D (X ++ (fs ++ [l]))) (hf : Full s fs l) (hs : 0 < s) (hN : X.flatten.length + 2 * s ≤ D.length) :
  ∃ f g Q, (X ++ (fs ++ [l])).flatten = X.flatten ++ (f ++ (g ++ Q)) ∧ f.length = s ∧ g.length = s ∧ SrtE f ∧ SrtE g ∧ AcrE f g ∧ ∀ C, C.Perm (f ++ g) → SrtE C → ∃ fs2 l2, Grp D ((X ++ [C]) ++ (fs2 ++ [l2])) ∧ Full s fs2 l2 ∧ ((X ++ [C]) ++ (fs2 ++ [l2])).flatten = X.flatten ++ (C ++ Q) := by
 have hl := grp_len h hf
 rcases fs with _ | ⟨f, _ | ⟨g, fs⟩⟩
 ·have := hf.2
  simp only [List.length_nil, Nat.zero_mul] at hl
  omega
 ·have h2 := hf.2
  simp only [List.length_cons, List.length_nil, Nat.zero_add, Nat.one_mul] at hl
  refine ⟨f, l, [], by simp, hf.1 f (by simp), by omega, h.srt f (by simp), h.srt l (by simp), ?_, fun C p sC => ⟨[], [], ?_, ⟨by simp, by simp⟩, by simp⟩⟩
  ·have := (List.pairwise_append.1 h.acr).2.1
   simp only [List.cons_append, List.nil_append, List.pairwise_cons] at this
   exact this.1 l (by simp)
  ·have := (Grp.merge (X := X) (f := f) (g := l) (Y := []) (by simpa using h) p sC).more
   simpa using this
 ·refine ⟨f, g, (fs ++ [l]).flatten, by simp, hf.1 f (by simp), hf.1 g (by simp), h.srt f (by simp), h.srt g (by simp), ?_, fun C p sC => ⟨fs, l, ?_, ⟨fun k hk => hf.1 k (by simp [hk]), hf.2⟩, by simp⟩⟩
  ·have := (List.pairwise_append.1 h.acr).2.1
   simp only [List.cons_append, List.pairwise_cons] at this
   exact this.1 g (by simp)
  ·have := Grp.merge (X := X) (f := f) (g := g) (Y := fs ++ [l]) (by simpa using h) p sC
   simpa using this
theorem last_two' {D : List Ev} {s : Nat} {X fs : List (List Ev)} {l : List Ev} (h : Grp D (X ++ (fs ++ [l]))) (hf : Full s fs l) (hX : ∀ f ∈ X, f.length = 2 * s) (hN : D.length < X.flatten.length + 2 * s) (hM : X.flatten.length + s < D.length) :
  ∃ f g, (X ++ (fs ++ [l])).flatten = X.flatten ++ (f ++ g) ∧ f.length = s ∧ 0 < g.length ∧ SrtE f ∧ SrtE g ∧ AcrE f g ∧ ∀ C, C.Perm (f ++ g) → SrtE C → Grp D (X ++ [C]) ∧ Full (2 * s) X C := by
 have hl := grp_len h hf
 rcases fs with _ | ⟨f, _ | ⟨g, fs⟩⟩
 ·have := hf.2
  simp only [List.length_nil, Nat.zero_mul] at hl
  omega
 ·simp only [List.length_cons, List.length_nil, Nat.zero_add, Nat.one_mul] at hl
  refine ⟨f, l, by simp, hf.1 f (by simp), by omega, h.srt f (by simp), h.srt l (by simp), ?_, fun C p sC => ⟨?_, hX, ?_⟩⟩
  ·have := (List.pairwise_append.1 h.acr).2.1
   simp only [List.cons_append, List.nil_append, List.pairwise_cons] at this
   exact this.1 l (by simp)
  ·exact Grp.merge (X := X) (f := f) (g := l) (Y := []) (by simpa using h) p sC
  ·have := p.length_eq
   rw [List.length_append, hf.1 f (by simp)] at this
   have := hf.2
   omega
 ·exfalso
  have : 2 * s ≤ (f :: g :: fs).length * s := Nat.mul_le_mul_right s (by simp)
  omega
theorem last_one' {D : List Ev} {s : Nat} {X fs : List (List Ev)} {l : List Ev} (h : Grp D (X ++ (fs ++ [l]))) (hf : Full s fs l) (hs : 0 < s) (hX : ∀ f ∈ X, f.length = 2 * s) (hM : D.length ≤ X.flatten.length + s) :
  ∃ C, Grp D (X ++ [C]) ∧ Full (2 * s) X C ∧ (X ++ [C]).flatten = (X ++ (fs ++ [l])).flatten := by
 have hl := grp_len h hf
 rcases fs with _ | ⟨f, _ | ⟨g, fs⟩⟩
 ·exact ⟨l, by simpa using h, ⟨hX, by have := hf.2; omega⟩, by simp⟩
 ·simp only [List.length_cons, List.length_nil, Nat.zero_add, Nat.one_mul] at hl
  have : l.length = 0 := by omega
  have e := List.eq_nil_of_length_eq_zero this
  subst e
  refine ⟨f, ?_, ⟨hX, by rw [hf.1 f (by simp)]; omega⟩, by simp⟩
  exact Grp.less (bs := X ++ [f]) (by simpa using h)
 ·exfalso
  have : 2 * s ≤ (f :: g :: fs).length * s := Nat.mul_le_mul_right s (by simp)
  omega
end Go.Proofs.YtceoibfliggalaaGreatDoor
