/-
  LAYER 12: mathematics of raw node-ticks (from stage 12).
-/
import Derived.Test.YtbcinapnnlfnbaaGreatMth
import Derived.RowKit
namespace Go.Proofs.YtbcinapnnlfnbaaGreat
open Go.RowKit Wd

namespace Lg
structure Jb where
  ac : Int
  nd : Int
  lm : Int
  sb : Int
  st : Int
  sr : Int
  en : Int
  sa : Option Addr
  sl : Nat
  sc : Nat
def ranZ (now : Int) (j : Jb) : Int := if j.st = 3 ∨ j.st = 4 ∨ j.st = 5 then j.en - j.sr else if j.st = 2 then now - j.sr else 0
def oneZ (acc : List Int) (now : Int) (j : Jb) : Int := if j.ac ∈ acc then j.nd * ranZ now j else 0
def rawZ (acc : List Int) (now : Int) : List Jb → Int
  | [] => 0
  | j :: js => oneZ acc now j + rawZ acc now js
/-- The same, but for whole turns. -/
def Cgr (x y : Int) : Prop := ∃ k, x = y + 18446744073709551616 * k
theorem Cgr.refl (x : Int) : Cgr x x := ⟨0, by omega⟩
theorem Cgr.symm {x y : Int} (h : Cgr x y) : Cgr y x := by obtain ⟨k, h⟩ := h; exact ⟨-k, by omega⟩
theorem Cgr.trans {x y z : Int} (h : Cgr x y) (g : Cgr y z) : Cgr x z := by obtain ⟨k, h⟩ := h; obtain ⟨m, g⟩ := g; exact ⟨k + m, by omega⟩
theorem Cgr.add {x y u v : Int} (h : Cgr x y) (g : Cgr u v) : Cgr (x + u) (y + v) := by obtain ⟨k, h⟩ := h; obtain ⟨m, g⟩ := g; exact ⟨k + m, by omega⟩
theorem Cgr.mul {x y : Int} (n : Int) (h : Cgr x y) : Cgr (n * x) (n * y) := by
  obtain ⟨k, rfl⟩ := h
  refine ⟨n * k, ?_⟩
  rw [Int.mul_add, ← Int.mul_assoc, ← Int.mul_assoc, Int.mul_comm n 18446744073709551616]
theorem wrap_cgr (x : Int) : Cgr (wrap64 x) x := by
  unfold wrap64
  refine ⟨-((x + 9223372036854775808) / 18446744073709551616), ?_⟩
  omega
theorem wrap_of {x y : Int} (h : Cgr x y) : wrap64 x = wrap64 y := by
  obtain ⟨k, rfl⟩ := h
  unfold wrap64
  omega
theorem wrap_wrap (x : Int) : wrap64 (wrap64 x) = wrap64 x := wrap_of (wrap_cgr x)
theorem wrap_add (x y : Int) : wrap64 (wrap64 x + wrap64 y) = wrap64 (x + y) := wrap_of ((wrap_cgr x).add (wrap_cgr y))
theorem wrap_one (s n d : Int) : wrap64 (wrap64 s + wrap64 (n * wrap64 d)) = wrap64 (s + n * d) :=
  wrap_of ((wrap_cgr s).add ((wrap_cgr _).trans ((wrap_cgr d).mul n)))
theorem raw_app (acc : List Int) (now : Int) : ∀ a b : List Jb, rawZ acc now (a ++ b) = rawZ acc now a + rawZ acc now b
  | [], b => by simp [rawZ]
  | j :: a, b => by simp only [List.cons_append, rawZ, raw_app acc now a b]; omega
theorem raw_snoc (acc : List Int) (now : Int) (js : List Jb) (j : Jb) : rawZ acc now (js ++ [j]) = rawZ acc now js + oneZ acc now j := by
  rw [raw_app]; simp [rawZ]
theorem raw_take {acc : List Int} {now : Int} {js : List Jb} {i : Nat} {j : Jb} (h : js[i]? = some j) : rawZ acc now (js.take (i + 1)) = rawZ acc now (js.take i) + oneZ acc now j := by
  obtain ⟨hi, rfl⟩ := List.getElem?_eq_some_iff.1 h
  rw [List.take_succ_eq_append_getElem hi, raw_snoc]
end Lg
end Go.Proofs.YtbcinapnnlfnbaaGreat
