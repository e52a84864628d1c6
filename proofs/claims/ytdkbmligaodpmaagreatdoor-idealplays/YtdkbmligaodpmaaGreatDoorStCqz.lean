/-
 LAYER 16: a region that draws, taken by its last operation: one of several operations that may come next; a call among them.
-/
import Derived.Test.YtdkbmligaodpmaaGreatDoorXrpz
namespace Go.Proofs.YtdkbmligaodpmaaGreatDoor
open Go.RowKit Wd Tr Cg Ld

theorem last_few {P : Program} {ops : Array Oper} {Q : Exit → Act → World → Prop} {md : Region.Mode} {S : World → Prop} {L : Nat} {i : Nat} {l : List Nat} {fuel : Nat} {listed : Array Bool} {a : Act} {w : World} (hr : Region.ready md ops listed = i :: l)
  (h : ∀ k ∈ i :: l, ∃ o, ops[k]? = some o ∧ ∀ K' : Act → World → Prop, Shut (∀ a w, (k ≠ L → S w) → ((k ≠ L → S w) → wpLast P md ops Q S L fuel (listed.setIfInBounds k true) a w) → K' a w) → if Region.wanted o (yielded ops a.tmps) = true then Oper.wp P o a w K' Q else K' (a.put o.dst undef) w) :
  wpLast P md ops Q S L (fuel + 1) listed a w := by
 refine ⟨fun e => (by rw [hr] at e; cases e), fun k hk => ?_⟩
 rw [hr] at hk
 obtain ⟨o, ho, h'⟩ := h k hk
 exact wpOp_step ho (fun K' hK => h' K' (fun a w hS hW => hK a w ⟨hS, hW hS⟩))
structure Lf (n : Nat) (w : World) (b1 b2 b3 : Nat) (p0 p1 q0 q1 r0 r1 : Value) (x : World) : Prop where
 a : Bx x b1 p0 p1
 b : Bx x b2 q0 q1
 c : Bx x b3 r0 r1
 ab : b1 ≠ b2
 ac : b1 ≠ b3
 bc : b2 ≠ b3
 ga : n ≤ b1
 gb : n ≤ b2
 gc : n ≤ b3
 bel : Below n w x
theorem Lf.set1 {n b1 b2 b3 : Nat} {w x : World} {p0 p1 q0 q1 r0 r1 : Value} (h : Lf n w b1 b2 b3 p0 p1 q0 q1 r0 r1 x) (u v : Value) : Lf n w b1 b2 b3 u v q0 q1 r0 r1 ((x.setCell ⟨b1, 0, none⟩ u).setCell ⟨b1, 1, none⟩ v) := ⟨set_two h.a u v, bx_far h.b (Ne.symm h.ab), bx_far h.c (Ne.symm h.ac), h.ab, h.ac, h.bc, h.ga, h.gb, h.gc, (h.bel.setCell h.ga _).setCell h.ga _⟩
theorem Lf.set2 {n b1 b2 b3 : Nat} {w x : World} {p0 p1 q0 q1 r0 r1 : Value} (h : Lf n w b1 b2 b3 p0 p1 q0 q1 r0 r1 x) (u v : Value) : Lf n w b1 b2 b3 p0 p1 u v r0 r1 ((x.setCell ⟨b2, 0, none⟩ u).setCell ⟨b2, 1, none⟩ v) := ⟨bx_far h.a h.ab, set_two h.b u v, bx_far h.c (Ne.symm h.bc), h.ab, h.ac, h.bc, h.ga, h.gb, h.gc, (h.bel.setCell h.gb _).setCell h.gb _⟩
theorem Lf.set3 {n b1 b2 b3 : Nat} {w x : World} {p0 p1 q0 q1 r0 r1 : Value} (h : Lf n w b1 b2 b3 p0 p1 q0 q1 r0 r1 x) (u v : Value) : Lf n w b1 b2 b3 p0 p1 q0 q1 u v ((x.setCell ⟨b3, 0, none⟩ u).setCell ⟨b3, 1, none⟩ v) := ⟨bx_far h.a h.ac, bx_far h.b h.bc, set_two h.c u v, h.ab, h.ac, h.bc, h.ga, h.gb, h.gc, (h.bel.setCell h.gc _).setCell h.gc _⟩
end Go.Proofs.YtdkbmligaodpmaaGreatDoor
