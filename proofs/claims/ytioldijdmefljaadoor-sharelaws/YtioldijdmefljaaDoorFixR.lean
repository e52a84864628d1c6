/-
  THE CONTRACTS OF THE REFERENCE's CALLS (backfillref04).
-/
import Derived.Test.YtioldijdmefljaaDoorRefA
import Derived.Test.YtioldijdmefljaaDoorRfW
import Derived.Test.YtioldijdmefljaaDoorRefQ
import Derived.Test.YtioldijdmefljaaDoorFxB
namespace Go.Proofs.YtioldijdmefljaaDoor
open Go.RowKit Wd

theorem radd_num (u v : Int) (hu : Num u) (hv : Num v) (w : World) :
    Calls Tryd.prog 56 #[.agg #[.int .u64 (hiW u), .int .u64 (loW u)], .agg #[.int .u64 (hiW v), .int .u64 (loW v)]] w fun e w' =>
      e = .returned (.tuple #[.agg #[.int .u64 (hiW (addV u v)), .int .u64 (loW (addV u v))], .bool (addB u v)]) ∧ Below w.heap.size w w' := by
  have c := radd_any (hiW u) (loW u) (hiW v) (loW v) (hi_word hu) (lo_word u) (hi_word hv) (lo_word v) w
  rw [val_words, val_words] at c
  exact c
theorem one_num : Num 1 := ⟨by omega, by unfold top; omega⟩
/-- A number of two words that lies in block g. -/
def Twoq (w : World) (g : Nat) (x y : Int) : Prop := w.cell? ⟨g, 0, none⟩ = some (.int .u64 x) ∧ w.cell? ⟨g, 1, none⟩ = some (.int .u64 y)
theorem trans_keepq {P w1 w2 : World} (h1 : ∀ a, (P.cell? a).isSome = true → w1.cell? a = P.cell? a) (h2 : ∀ a, (w1.cell? a).isSome = true → w2.cell? a = w1.cell? a) : ∀ a, (P.cell? a).isSome = true → w2.cell? a = P.cell? a :=
  fun a h => (h2 a (by rw [h1 a h]; exact h)).trans (h1 a h)
theorem trans_keepFq {P w1 w2 : World} (h1 : ∀ a, (P.cell? a).isSome = true → w1.cell? a = P.cell? a) (f1 : ∀ a, (P.cell? a).isSome = true → w1.frozen? a = P.frozen? a) (f2 : ∀ a, (w1.cell? a).isSome = true → w2.frozen? a = w1.frozen? a) : ∀ a, (P.cell? a).isSome = true → w2.frozen? a = P.frozen? a :=
  fun a h => (f2 a (by rw [h1 a h]; exact h)).trans (f1 a h)

end Go.Proofs.YtioldijdmefljaaDoor
