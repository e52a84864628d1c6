/-
  LAYER 10: what its calls answer; the contracts of the reference's (backfillref10).
  LAYER 10: the contracts of the reference's calls (backfillref10).
  LAYER 10: package decay.
-/
import Derived.Test.YtegpamoglifojaaDoorFixR
import Derived.Test.YtegpamoglifojaaDoorLdr
import Derived.Test.YtegpamoglifojaaDoorMth
namespace Go.Proofs.YtegpamoglifojaaDoor
open Go.RowKit Wd Ld

/-- Arguments that Factor refuses. -/
def BadF (p h : Int) : Prop := p < 1 ∨ 1048576 < p ∨ h < 1 ∨ 1073741824 < h
def expV (p h : Int) : Nat := (p * 4294967296 / h).toNat
def chV (u n : Int) : Int := if n < 0 then u else narV (u + narV (n * 4294967296))
theorem exp_eq {p h : Int} (hp : 1 ≤ p) (hh : 1 ≤ h) : p * 4294967296 / h = (expV p h : Int) := by
  have : 0 ≤ p * 4294967296 / h := Int.ediv_nonneg (by omega) (by omega)
  unfold expV; omega
theorem exp_lt {p h : Int} (hp : 1 ≤ p) (hp' : p ≤ 1048576) (hh : 1 ≤ h) : expV p h ≤ 4503599627370496 := by
  have h1 : p * 4294967296 / h ≤ p * 4294967296 := Int.ediv_le_self _ (by omega)
  have h2 := exp_eq hp hh
  omega
theorem exp_pos {p h : Int} (hp : 1 ≤ p) (hh : 1 ≤ h) (hh' : h ≤ 1073741824) : 4 ≤ expV p h := by
  have h1 : 4 ≤ p * 4294967296 / h := (Int.le_ediv_iff_mul_le (by omega)).2 (by omega)
  have h2 := exp_eq hp hh
  omega
theorem half_word (e : Nat) : Word (halfN e : Nat) := by
  have := half_top e
  unfold Word; omega
theorem ch_word {u n : Int} (hu : Word u) : Word (chV u n) := by
  unfold chV
  obtain ⟨h0, h1⟩ := hu
  split
  · exact ⟨h0, h1⟩
  · refine nar_word ?_
    have h2 : Word (narV (n * 4294967296)) := nar_word (by omega)
    have := h2.1
    omega
theorem part_word {u f : Int} (hu : Word u) (hf : Word f) : Word (partV u f) := ⟨part_nonneg hu hf, by have := part_le (f := f) hu; have := hu.2; omega⟩

theorem rexpd_any {p h : Int} (hp : 1 ≤ p) (hp' : p ≤ 1048576) (hh : 1 ≤ h) (hh' : h ≤ 1073741824) (w : World) :
    Calls Tryd.prog 59 #[.int .i64 p, .int .i64 h] w fun e w' => e = .returned (.int .u64 (expV p h : Nat)) ∧ w' = w := by
  have e1 : IntKind.u64.wrap p = p := by rw [IntKind.wrap_u64]; omega
  have e2 : IntKind.u64.wrap h = h := by rw [IntKind.wrap_u64]; omega
  have e3 : IntKind.u64.wrap (p * 4294967296) = p * 4294967296 := by rw [IntKind.wrap_u64]; omega
  have e4 := exp_eq hp hh
  have e5 := exp_lt hp hp' hh
  have e6 : IntKind.u64.wrap (expV p h : Nat) = (expV p h : Nat) := by rw [IntKind.wrap_u64]; omega
  have e7 : ¬ h = 0 := by omega
  go_enter Tryd.func59, Tryd.ntmps59
  go_wp2
  go_ret
  exact ⟨by simp [*], rfl⟩
end Go.Proofs.YtegpamoglifojaaDoor
namespace Go.Proofs.YtegpamoglifojaaDoor
open Go.RowKit Wd Ld

theorem rfactor_bad {p h : Int} (hb : BadF p h) (w : World) :
    Calls Tryd.prog 33 #[.int .i64 p, .int .i64 h] w fun e w' => e = .returned (.tuple #[.int .u64 0, .int .i64 100]) ∧ Below w.heap.size w w' := by
  by_cases h1 : p < 1
  · go_enter Tryd.func33, Tryd.ntmps33
    go_wp2
    go_ret2
    exact ⟨rfl, Below.refl _ _⟩
  by_cases h2 : 1048576 < p
  · go_enter Tryd.func33, Tryd.ntmps33
    go_wp2
    go_ret2
    exact ⟨rfl, Below.refl _ _⟩
  by_cases h3 : h < 1
  · go_enter Tryd.func33, Tryd.ntmps33
    go_wp2
    go_ret2
    exact ⟨rfl, Below.refl _ _⟩
  have h4 : 1073741824 < h := by unfold BadF at hb; omega
  go_enter Tryd.func33, Tryd.ntmps33
  go_wp2
  go_ret2
  exact ⟨rfl, Below.refl _ _⟩
theorem rfactor_good {p h : Int} (hb : ¬ BadF p h) (w : World) :
    Calls Tryd.prog 33 #[.int .i64 p, .int .i64 h] w fun e w' => e = .returned (.tuple #[.int .u64 (halfN (expV p h) : Nat), .int .i64 0]) ∧ Below w.heap.size w w' := by
  have h1 : ¬ p < 1 := fun h => hb (.inl h)
  have h2 : ¬ 1048576 < p := fun h => hb (.inr (.inl h))
  have h3 : ¬ h < 1 := fun h => hb (.inr (.inr (.inl h)))
  have h4 : ¬ 1073741824 < h := fun h => hb (.inr (.inr (.inr h)))
  have e5 := exp_lt (p := p) (h := h) (by omega) (by omega) (by omega)
  go_enter Tryd.func33, Tryd.ntmps33
  go_wp2_with fail
  refine (rexpd_any (p := p) (h := h) (by omega) (by omega) (by omega) (by omega) _).mono ?_
  rintro e w1 ⟨rfl, rfl⟩
  go_wp2_with fail
  refine (rhalf_any (expV p h) (by omega) _).mono ?_
  rintro e w2 ⟨rfl, b2⟩
  go_wp2
  go_ret2
  exact ⟨rfl, b2⟩
theorem rcharge_any {u n : Int} (hu : Word u) (hn : n < 9223372036854775808) (w : World) :
    Calls Tryd.prog 60 #[.int .u64 u, .int .i64 n] w fun e w' => e = .returned (.int .u64 (chV u n)) ∧ Below w.heap.size w w' := by
  unfold chV
  by_cases h : n < 0
  · rw [if_pos h]
    go_enter Tryd.func60, Tryd.ntmps60
    go_wp2
    go_ret
    exact ⟨rfl, Below.refl _ _⟩
  · rw [if_neg h]
    have ho : ofV n = narV (n * 4294967296) := by unfold ofV; rw [if_neg h]
    have hw : Word (narV (n * 4294967296)) := nar_word (by omega)
    go_enter Tryd.func60, Tryd.ntmps60
    go_wp2_with fail
    refine (rqof_any n hn _).mono ?_
    rw [ho]
    rintro e w1 ⟨rfl, b1⟩
    go_wp2_with fail
    refine (rqadd_any u (narV (n * 4294967296)) hu hw _).mono ?_
    rintro e w2 ⟨rfl, b2⟩
    go_wp2
    go_ret
    exact ⟨rfl, b1.trans (b2.mono b1.size)⟩
theorem rfade_any {u f : Int} (hu : Word u) (hf : Word f) (w : World) :
    Calls Tryd.prog 61 #[.int .u64 u, .int .u64 f] w fun e w' => e = .returned (.int .u64 (partV u f)) ∧ Below w.heap.size w w' := by
  go_enter Tryd.func61, Tryd.ntmps61
  go_wp2_with fail
  refine (rpart_any u f hu hf _).mono ?_
  rintro e w1 ⟨rfl, b1⟩
  go_wp2
  go_ret
  exact ⟨rfl, b1⟩
/-- So many Fades. -/
def fadeN (f : Int) : Nat → Int → Int
  | 0, u => u
  | n + 1, u => fadeN f n (partV u f)
theorem fade_still {f u : Int} (h : partV u f = u) (n : Nat) : fadeN f n u = u := by
  induction n with
  | zero => rfl
  | succ n ih => show fadeN f n (partV u f) = u; rw [h]; exact ih
theorem fade_word {f : Int} (hf : Word f) (n : Nat) : ∀ u, Word u → Word (fadeN f n u) := by
  induction n with
  | zero => intro u h; exact h
  | succ n ih => intro u h; exact ih _ (part_word h hf)
theorem fade_succ (f : Int) (n : Nat) : ∀ u, fadeN f (n + 1) u = partV (fadeN f n u) f := by
  induction n with
  | zero => intro u; rfl
  | succ n ih => intro u; exact ih (partV u f)
def perV (p : Int) : Nat := (if p < 65536 then p else 65536).toNat
end Go.Proofs.YtegpamoglifojaaDoor
namespace Go.Proofs.YtegpamoglifojaaDoor
open Go.RowKit Wd Ld

theorem factor_bad {p h : Int} (hb : BadF p h) (w : World) :
    Calls Tryd.prog 30 #[.int .i64 p, .int .i64 h] w fun e w' => e = .returned (.tuple #[.int .u64 0, .int .i64 100]) ∧ Below w.heap.size w w' := by
  by_cases h1 : p < 1
  · go_enter Tryd.func30, Tryd.ntmps30
    go_wp2
    go_ret2
    exact ⟨rfl, Below.refl _ _⟩
  by_cases h2 : 1048576 < p
  · go_enter Tryd.func30, Tryd.ntmps30
    go_wp2
    go_ret2
    exact ⟨rfl, Below.refl _ _⟩
  by_cases h3 : h < 1
  · go_enter Tryd.func30, Tryd.ntmps30
    go_wp2
    go_ret2
    exact ⟨rfl, Below.refl _ _⟩
  have h4 : 1073741824 < h := by unfold BadF at hb; omega
  go_enter Tryd.func30, Tryd.ntmps30
  go_wp2
  go_ret2
  exact ⟨rfl, Below.refl _ _⟩
theorem exp_dn {p h : Int} (hp : 1 ≤ p) (hp' : p ≤ 1048576) (hh : 1 ≤ h) : dnV (p * 4294967296) h = (expV p h : Nat) := by
  have e5 := exp_lt hp hp' hh
  have e4 := exp_eq hp hh
  unfold dnV narV
  rw [if_neg (by omega), e4, if_pos (by omega)]
theorem factor_good {p h : Int} (hb : ¬ BadF p h) (w : World) (hT : Tab w) :
    Calls Tryd.prog 30 #[.int .i64 p, .int .i64 h] w fun e w' => e = .returned (.tuple #[.int .u64 (halfN (expV p h) : Nat), .int .i64 0]) ∧ Below w.heap.size w w' := by
  have h1 : ¬ p < 1 := fun h => hb (.inl h)
  have h2 : ¬ 1048576 < p := fun h => hb (.inr (.inl h))
  have h3 : ¬ h < 1 := fun h => hb (.inr (.inr (.inl h)))
  have h4 : ¬ 1073741824 < h := fun h => hb (.inr (.inr (.inr h)))
  have e5 := exp_lt (p := p) (h := h) (by omega) (by omega) (by omega)
  have e4 := exp_dn (p := p) (h := h) (by omega) (by omega) (by omega)
  have e1 : IntKind.u64.wrap p = p := by rw [IntKind.wrap_u64]; omega
  have e2 : IntKind.u64.wrap h = h := by rw [IntKind.wrap_u64]; omega
  have cd := divDown_any p h ⟨by omega, by omega⟩ ⟨by omega, by omega⟩
  rw [e4] at cd
  clear e4
  go_enter Tryd.func30, Tryd.ntmps30
  go_wp2_with fail
  refine (cd _).mono ?_
  rintro e w1 ⟨rfl, b1⟩
  go_wp2_with fail
  refine (half_any (expV p h) (by omega) _ (Tab.below b1 hT)).mono ?_
  rintro e w2 ⟨rfl, b2⟩
  go_wp2
  go_ret2
  exact ⟨rfl, b1.trans (b2.mono b1.size)⟩
theorem charge_any {u n : Int} (hu : Word u) (hn : n < 9223372036854775808) (w : World) :
    Calls Tryd.prog 47 #[.int .u64 u, .int .i64 n] w fun e w' => e = .returned (.int .u64 (chV u n)) ∧ Below w.heap.size w w' := by
  have ho : Word (ofV n) := by
    unfold ofV
    split
    · exact ⟨by omega, by omega⟩
    · exact nar_word (by omega)
  have hc : narV (u + ofV n) = chV u n := by
    unfold chV ofV
    split
    · obtain ⟨h0, h1⟩ := hu
      rw [Int.add_zero]
      unfold narV
      rw [if_pos (by omega)]
    · rfl
  have ca := qadd_any u (ofV n) hu ho
  rw [hc] at ca
  clear hc
  go_enter Tryd.func47, Tryd.ntmps47
  go_wp2_with fail
  refine (qof_any n hn _).mono ?_
  rintro e w1 ⟨rfl, b1⟩
  go_wp2_with fail
  refine (ca _).mono ?_
  rintro e w2 ⟨rfl, b2⟩
  go_wp2
  go_ret
  exact ⟨rfl, b1.trans (b2.mono b1.size)⟩
theorem fade_any {u f : Int} (hu : Word u) (hf : Word f) (w : World) :
    Calls Tryd.prog 45 #[.int .u64 u, .int .u64 f] w fun e w' => e = .returned (.int .u64 (partV u f)) ∧ Below w.heap.size w w' := by
  go_enter Tryd.func45, Tryd.ntmps45
  go_wp2_with fail
  refine (part_any u f hu hf _).mono ?_
  rintro e w1 ⟨rfl, b1⟩
  go_wp2
  go_ret
  exact ⟨rfl, b1⟩
end Go.Proofs.YtegpamoglifojaaDoor
