/-
  LAYER 11, the statements: what they ask of package config; the document's examples in numbers.
-/
import Derived.Test.YtniiijadkclabaaCfF
namespace Go.Proofs.Ytniiijadkclabaa
open Go.RowKit Wd Cg

structure FitC (c : Cf) : Prop where
  f0 : FitN c.nodes
  f1 : FitN c.queue
  f2 : FitN c.limit
  f3 : FitN c.age
  f4 : FitN c.fair
  f5 : FitN c.size
  f6 : FitN c.period
  f7 : FitN c.half
/-- What the statements ask of the package. -/
structure Asks : Prop where
  check : ∀ {c : Cf}, FitC c → ∀ w, Calls Try.prog 9 #[cfV c] w fun e w' => e = .returned (.int .i64 (chkZ c)) ∧ Below w.heap.size w w'
  lead : ∀ {c : Cf}, FitC c → ∀ w, Calls Try.prog 11 #[cfV c] w fun e w' => e = .returned (.int .i64 (if chkZ c = 0 then leadZ c else 0)) ∧ Below w.heap.size w w'
  bound : ∀ {c : Cf}, FitC c → ∀ w, Calls Try.prog 13 #[cfV c] w fun e w' => e = .returned (.int .i64 (if chkZ c = 0 then boundZ c else 0)) ∧ Below w.heap.size w w'
  most : ∀ {c : Cf}, FitC c → ∀ w, Calls Try.prog 15 #[cfV c] w fun e w' => e = .returned (.int .u64 (if chkZ c = 0 then mZ c * 4294967296 else 0)) ∧ Below w.heap.size w w'
  floor : ∀ {c : Cf}, FitC c → ∀ w, Calls Try.prog 17 #[cfV c] w fun e w' => e = .returned (.int .u64 (if chkZ c = 0 then cZ c * 4294967296 else 0)) ∧ Below w.heap.size w w'
  off : ∀ {c : Cf}, FitC c → ∀ w, Calls Try.prog 7 #[cfV c] w fun e w' => e = .returned (.tuple #[nu (if chkZ c = 0 then offN c else 0), nu (if chkZ c = 0 then offD c else 0)]) ∧ Below w.heap.size w w'

/-- The document's example; with Fair 1000; with Fair 1. -/
def cEx (f : Int) : Cf := ⟨4, 8, 10, 1, f, 0, 100, 100⟩
theorem ex_rng {f : Int} (h0 : 0 ≤ f) (h1 : f ≤ 1048576) : Rng (cEx f) := by
  constructor <;> simp only [cEx] <;> omega
theorem ex_fit {f : Int} (h0 : 0 ≤ f) (h1 : f ≤ 1048576) : FitC (cEx f) := by
  constructor <;> simp only [cEx, FitN] <;> omega
theorem ex_chk {f : Int} {k : Int} (h0 : 0 ≤ f) (h1 : f ≤ 1048576) (hm : mZ (cEx f) ≤ 2147483648) (hk : (if offD (cEx f) * topZ (cEx f) < offN (cEx f) * 1000 then (113 : Int) else 0) = k) : chkZ (cEx f) = k := by
  unfold chkZ
  rw [if_neg (fun h => h (ex_rng h0 h1)), if_neg (by omega)]
  exact hk
theorem ex0 : chkZ (cEx 0) = 0 := ex_chk (by omega) (by omega) (by decide) (by decide)
theorem ex1000 : chkZ (cEx 1000) = 0 := ex_chk (by omega) (by omega) (by decide) (by decide)
theorem ex1 : chkZ (cEx 1) = 113 := ex_chk (by omega) (by omega) (by decide) (by decide)
theorem ex_lead : leadZ (cEx 0) = 0 := by decide
theorem ex_bound : boundZ (cEx 0) = 81 := by decide
theorem ex_most : mZ (cEx 0) * 4294967296 = 3435973836800 := by decide
theorem ex_floor : cZ (cEx 0) * 4294967296 = 1717986918400 := by decide
theorem ex_off0 : offN (cEx 0) = 0 ∧ offD (cEx 0) = 1 := by decide
theorem ex_off1 : offN (cEx 1000) = 1719019910400 ∧ offD (cEx 1000) = 1717986918400 := by decide
end Go.Proofs.Ytniiijadkclabaa
