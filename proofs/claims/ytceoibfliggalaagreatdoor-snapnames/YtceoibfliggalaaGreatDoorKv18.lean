/-
  TEXTS: RuF, LuA.
-/
import Derived.Test.YtceoibfliggalaaGreatDoorKv15
import Derived.Test.YtceoibfliggalaaGreatDoorKv3
import Derived.Test.YtceoibfliggalaaGreatDoorKv17
import Derived.Test.YtceoibfliggalaaGreatDoorKv1
import Derived.Deep.QuietTactic
import Derived.Deep.CutBlock
import Derived.Deep.DeepCutAuto
namespace Go.Proofs.YtceoibfliggalaaGreatDoor
open Go.RowKit Wd Tr Cg Lg
theorem bel_drawU (W : World) (n : Nat) : Below W.heap.size W (W.drewN n) := by
 rw [World.drewN]
 exact ⟨rfl, rfl, rfl, Nat.le_refl _, fun _ _ => rfl⟩
theorem vmap_at {ps : List Pj} {i : Nat} {p : Pj} (h : ps[i]? = some p) : (ps.map Pj.v)[i]? = some p.v := by rw [List.getElem?_map, h]; rfl
theorem row_at {W : World} {jo : Option Addr} {ps : List Pj} (h : PjsAt W jo ps) : ∃ g o, (0 < ps.length → jo = some ⟨g, o, none⟩) ∧ ∀ x, Below W.heap.size W x → ∀ (k : Nat) (q : Pj), ps[k]? = some q → JbAt x g (o + k * 8) q.jb := by
 obtain ⟨⟨g, o, hg, hcl⟩, _⟩ := h
 exact ⟨g, o, fun h => hg (by rw [List.length_map]; exact h), fun x hx k q hq => (hcl k q.jb (by rw [List.getElem?_map, hq]; rfl)).below hx⟩
end Go.Proofs.YtceoibfliggalaaGreatDoor
namespace Go.Proofs.YtceoibfliggalaaGreatDoor
open Go.RowKit Wd Tr Cg Lg
structure StIn (w : World) (ao : Option Addr) (la : List Ac) (ca : Nat) (jo : Option Addr) (ps : List Pj) (cj : Nat) : Prop where
 acs : AcsAt w ao la
 us : ∀ (n : Nat) (a : Ac), la[n]? = some a → Word a.us
 nm : ∀ a ∈ la, a.nm.size ≤ maxLen
 l48 : la.length * 48 ≤ 281474976710656
 cap : la.length ≤ ca
 anil : ao = none → la = [] ∧ ca = 0
 jobs : PjsAt w jo ps
 l80 : ps.length * 80 ≤ 281474976710656
 jcap : ps.length ≤ cj
 jnil : jo = none → ps = [] ∧ cj = 0
 sl : ∀ p ∈ ps, p.v.set.length * 8 ≤ 140737488355328
 sc : ∀ p ∈ ps, p.v.set.length ≤ p.sc
 snil : ∀ p ∈ ps, p.sa = none → p.v.set = [] ∧ p.sc = 0
theorem StIn.below {w w' : World} {ao : Option Addr} {la : List Ac} {ca : Nat} {jo : Option Addr} {ps : List Pj} {cj : Nat} (h : StIn w ao la ca jo ps cj) (b : Below w.heap.size w w') : StIn w' ao la ca jo ps cj := ⟨h.acs.below b, h.us, h.nm, h.l48, h.cap, h.anil, h.jobs.below b, h.l80, h.jcap, h.jnil, h.sl, h.sc, h.snil⟩
def setsN : List Pj → Nat
 | [] => 0
 | p :: ps => p.v.set.length + setsN ps
theorem sets_app : ∀ a b : List Pj, setsN (a ++ b) = setsN a + setsN b
 | [], b => by simp [setsN]
 | p :: a, b => by simp only [List.cons_append, setsN, sets_app a b]; omega
theorem sets_take {ps : List Pj} {i : Nat} {p : Pj} (h : ps[i]? = some p) : setsN (ps.take (i + 1)) = setsN (ps.take i) + p.v.set.length := by
 obtain ⟨hi, rfl⟩ := List.getElem?_eq_some_iff.1 h
 rw [List.take_succ_eq_append_getElem hi, sets_app]
 simp [setsN]
theorem sets_le (ps : List Pj) (i : Nat) : setsN (ps.take i) ≤ setsN ps := by
 have := sets_app (ps.take i) (ps.drop i)
 rw [List.take_append_drop] at this
 omega
theorem sets_mem {ps : List Pj} {p : Pj} (h : p ∈ ps) : p.v.set.length ≤ setsN ps := by
 obtain ⟨i, hi⟩ := List.mem_iff_getElem?.1 h
 have h1 := sets_take hi
 have h2 := sets_le ps (i + 1)
 omega
def wtN (la : List Ac) (ps : List Pj) : Nat := la.length + ps.length + setsN ps
end Go.Proofs.YtceoibfliggalaaGreatDoor
