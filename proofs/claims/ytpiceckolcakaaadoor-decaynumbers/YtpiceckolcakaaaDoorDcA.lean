/-
  LAYER 10: what its calls answer; the contracts of the reference's (backfillref10).
-/
import Derived.Test.YtpiceckolcakaaaDoorFixR
import Derived.Test.YtpiceckolcakaaaDoorRefH
import Derived.Test.YtpiceckolcakaaaDoorDcM
namespace Go.Proofs.YtpiceckolcakaaaDoor
open Go.RowKit Wd Ld

/-- Arguments that Factor refuses. -/
def BadF (p h : Int) : Prop := p < 1 ∨ 1048576 < p ∨ h < 1 ∨ 1073741824 < h
def expV (p h : Int) : Nat := (p * 4294967296 / h).toNat
def chV (u n : Int) : Int := if n < 0 then u else narV (u + narV (n * 4294967296))
theorem exp_eq {p h : Int} (hp : 1 ≤ p) (hh : 1 ≤ h) : p * 4294967296 / h = (expV p h : Int) := by
  have : 0 ≤ p * 4294967296 / h := Int.ediv_nonneg (by omega) (by omega)
  unfold expV; omega
theorem exp_lt {p h : Int} (hp : 1 ≤ p) (hp' : p ≤ 1048576) (hh : 1 ≤ h) : expV p h ≤ 4503599627370496 := by
  have h1 : p * 4294967296 / h ≤ p * 4294967296 := Int.ediv_le_self _ (by omega)
  have h2 := exp_eq hp hh
  omega
theorem exp_pos {p h : Int} (hp : 1 ≤ p) (hh : 1 ≤ h) (hh' : h ≤ 1073741824) : 4 ≤ expV p h := by
  have h1 : 4 ≤ p * 4294967296 / h := (Int.le_ediv_iff_mul_le (by omega)).2 (by omega)
  have h2 := exp_eq hp hh
  omega
theorem half_word (e : Nat) : Word (halfN e : Nat) := by
  have := half_top e
  unfold Word; omega
theorem ch_word {u n : Int} (hu : Word u) : Word (chV u n) := by
  unfold chV
  obtain ⟨h0, h1⟩ := hu
  split
  · exact ⟨h0, h1⟩
  · refine nar_word ?_
    have h2 : Word (narV (n * 4294967296)) := nar_word (by omega)
    have := h2.1
    omega
theorem part_word {u f : Int} (hu : Word u) (hf : Word f) : Word (partV u f) := ⟨part_nonneg hu hf, by have := part_le (f := f) hu; have := hu.2; omega⟩

theorem rexp_any {p h : Int} (hp : 1 ≤ p) (hp' : p ≤ 1048576) (hh : 1 ≤ h) (hh' : h ≤ 1073741824) (w : World) :
    Calls Tryd.prog 20 #[.int .i64 p, .int .i64 h] w fun e w' => e = .returned (.int .u64 (expV p h : Nat)) ∧ w' = w := by
  have e1 : IntKind.u64.wrap p = p := by rw [IntKind.wrap_u64]; omega
  have e2 : IntKind.u64.wrap h = h := by rw [IntKind.wrap_u64]; omega
  have e3 : IntKind.u64.wrap (p * 4294967296) = p * 4294967296 := by rw [IntKind.wrap_u64]; omega
  have e4 := exp_eq hp hh
  have e5 := exp_lt hp hp' hh
  have e6 : IntKind.u64.wrap (expV p h : Nat) = (expV p h : Nat) := by rw [IntKind.wrap_u64]; omega
  have e7 : ¬ h = 0 := by omega
  go_enter Tryd.func20, Tryd.ntmps20
  go_wp2
  go_ret
  exact ⟨by simp [*], rfl⟩
end Go.Proofs.YtpiceckolcakaaaDoor
