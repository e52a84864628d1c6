/-
  LAYER 13: the reference (backfillref13): Together, part, Sum, root, used, effective.
-/
import Derived.Test.YtioldijdmefljaaDoorSfA
import Derived.Test.YtioldijdmefljaaDoorFixR
import Derived.Test.YtioldijdmefljaaDoorRldA
namespace Go.Proofs.YtioldijdmefljaaDoor
open Go.RowKit Wd Tr

/-- The accounts lie there. -/
def Acs (W : World) (g o : Nat) (l : List Ac) : Prop := ∀ k a, l[k]? = some a → AcAt W g (o + k * 5) a
theorem Acs.below {W W' : World} {g o : Nat} {l : List Ac} (h : Acs W g o l) (b : Below W.heap.size W W') : Acs W' g o l := fun k a ha => (h k a ha).below b
theorem Acs.at {W : World} {g o : Nat} {l : List Ac} (h : Acs W g o l) {n : Nat} (hn : n < l.length) : ∃ a, l[n]? = some a ∧ AcAt W g (o + n * 5) a := ⟨_, List.getElem?_eq_getElem hn, h n _ (List.getElem?_eq_getElem hn)⟩
theorem up_at {l : List Ac} (h : Wu l) {n : Nat} {a : Ac} (ha : l[n]? = some a) (h0 : n ≠ 0) : a.pa = (up l n : Nat) := by
  have := h.row ha (by omega)
  rw [up_of ha]
  omega
theorem root_at {l : List Ac} (h : Wu l) {a : Ac} (ha : l[0]? = some a) : a.pa = -1 := by
  obtain ⟨b, hb, h1, _⟩ := h.root
  rw [ha] at hb
  cases hb
  exact h1
/-- A row of words lies there. -/
def Wds (W : World) (h : Nat) (f : Nat → Int) (n : Nat) : Prop := ∀ k, k < n → W.cell? ⟨h, k, none⟩ = some (.int .u64 (f k))
theorem Wds.below {W W' : World} {h n : Nat} {f : Nat → Int} (x : Wds W h f n) (b : Below W.heap.size W W') : Wds W' h f n := fun k hk => cellB b (x k hk)
theorem rmuln (x y : Int) (hx : Word x) (hy : Word y) (w : World) :
    Calls Tryd.prog 12 #[.int .u64 x, .int .u64 y] w fun e w' => e = .returned (.agg #[.int .u64 (hiW (x * y)), .int .u64 (loW (x * y))]) ∧ Below w.heap.size w w' := rmul_any x y hx hy w
end Go.Proofs.YtioldijdmefljaaDoor
