/-
  LAYER 17, package audit: need, isFrom, wasStarted; comparing turns.
  LAYER 17, package audit: wasStarted, needRun, needTimes.
-/
import Derived.Test.YtbcinapnnlfnbaaGreatXru
import Derived.Test.YtbcinapnnlfnbaaGreatSrM
import Derived.Recover
namespace Go.Proofs.YtbcinapnnlfnbaaGreat
open Go.RowKit Wd Tr Cg Lg

/-- What is thrown. -/
def thrown (E : Int) : List PanicEntry := [{ v := .iface 31 (.int .i64 E), recovered := false }]
/-- How a function ends that asks for something. -/
def asksE (b : Bool) (E : Int) : Ending := if b then .returned (.tuple #[]) else .panicked (thrown E)
theorem asksE_yes (E : Int) : asksE true E = .returned (.tuple #[]) := rfl
theorem asksE_no (E : Int) : asksE false E = .panicked (thrown E) := rfl
theorem need_yes (E : Int) (w : World) : Calls Tryz.prog 27 #[.bool true, .int .i64 E] w fun e w' => e = .returned (.tuple #[]) ∧ w' = w := by
  go_enter Tryz.func27, Tryz.ntmps27
  go_wp2
  go_end0
  exact ⟨rfl, rfl⟩
theorem need_no (E : Int) (w : World) : Calls Tryz.prog 27 #[.bool false, .int .i64 E] w fun e w' => e = .panicked (thrown E) ∧ w' = w := by
  go_enter Tryz.func27, Tryz.ntmps27
  go_wp2
  exact ⟨rfl, rfl, rfl⟩
theorem need_any (b : Bool) (E : Int) (w : World) : Calls Tryz.prog 27 #[.bool b, .int .i64 E] w fun e w' => e = asksE b E ∧ w' = w := by
  cases b with
  | true => exact need_yes E w
  | false => exact need_no E w
def fromB (a b n : Int) : Bool := decide (a ≤ n) && decide (n ≤ b)
theorem from_any (a b n : Int) (w : World) : Calls Tryz.prog 29 #[.int .i64 a, .int .i64 b, .int .i64 n] w fun e w' => e = .returned (.bool (fromB a b n)) ∧ w' = w := by
  by_cases h : a ≤ n
  · go_enter Tryz.func29, Tryz.ntmps29
    go_wp2
    go_ret
    exact ⟨by simp [fromB, h], rfl⟩
  · go_enter Tryz.func29, Tryz.ntmps29
    go_wp2
    go_ret
    exact ⟨by rw [fromB, decide_eq_false (by omega)]; rfl, rfl⟩
/-- How two times compare. -/
def cmpV (a b : Int) : Int := if a < b then -1 else if b < a then 1 else 0
theorem isNaN_any (a : Int) (w : World) : Calls Tryz.prog 98 #[.int .i64 a] w fun e w' => e = .returned (.bool false) ∧ w' = w := by
  go_enter Tryz.func98, Tryz.ntmps98
  go_wp2
  go_ret
  exact ⟨by simp, rfl⟩
theorem comp_any (a b : Int) (w : World) : Calls Tryz.prog 68 #[.int .i64 a, .int .i64 b] w fun e w' => e = .returned (.int .i64 (cmpV a b)) ∧ w' = w := by
  have hn := isNaN_any
  by_cases h : a < b
  · have e : cmpV a b = -1 := by simp [cmpV, h]
    rw [e]
    go_enter Tryz.func68, Tryz.ntmps68
    go_wp2_with (go_at_call 98; refine (hn _ _).mono ?_; rintro e w1 ⟨rfl, rfl⟩)
    go_ret
    exact ⟨rfl, rfl⟩
  · by_cases g : b < a
    · have e : cmpV a b = 1 := by simp [cmpV, h, g]
      rw [e]
      go_enter Tryz.func68, Tryz.ntmps68
      go_wp2_with (go_at_call 98; refine (hn _ _).mono ?_; rintro e w1 ⟨rfl, rfl⟩)
      go_ret
      exact ⟨rfl, rfl⟩
    · have e : cmpV a b = 0 := by simp [cmpV, h, g]
      rw [e]
      go_enter Tryz.func68, Tryz.ntmps68
      go_wp2_with (go_at_call 98; refine (hn _ _).mono ?_; rintro e w1 ⟨rfl, rfl⟩)
      go_ret
      exact ⟨rfl, rfl⟩
theorem clo_any (a b : Int) (p q : Bool) (s1 s2 : Option Addr) (l1 c1 l2 c2 : Nat) (w : World) : Calls Tryz.prog 67 #[.agg #[.int .i64 a, .bool p, .slice s1 l1 c1], .agg #[.int .i64 b, .bool q, .slice s2 l2 c2]] w fun e w' => e = .returned (.int .i64 (cmpV a b)) ∧ Below w.heap.size w w' := by
  have hc := comp_any
  go_enter Tryz.func67, Tryz.ntmps67
  go_wp2_with (go_at_call 68; refine (hc _ _ _).mono ?_; rintro e w1 ⟨rfl, rfl⟩)
  go_ret
  exact ⟨rfl, by repeat first | exact Below.refl _ _ | refine Below.alloc ?_ (by simp) _⟩
end Go.Proofs.YtbcinapnnlfnbaaGreat
namespace Go.Proofs.YtbcinapnnlfnbaaGreat
open Go.RowKit Wd Tr Cg Lg

def startB (st : Int) : Bool := decide (¬ st = 1) && decide (¬ st = 6)
theorem started_any {w : World} (p : Pj) : Calls Tryz.prog 63 #[pjV p] w fun e w' => e = .returned (.bool (startB p.v.st)) ∧ Below w.heap.size w w' := by
  obtain ⟨⟨ac, nd, lm, sb, st, sr, en, xs⟩, sa, sc⟩ := p
  unfold pjV
  dsimp only
  by_cases h : st = 1
  · subst h
    go_enter Tryz.func63, Tryz.ntmps63
    go_wp2
    go_ret
    exact ⟨rfl, (Below.refl _ _).alloc (Nat.le_refl _) _⟩
  · by_cases g : st = 6
    · subst g
      go_enter Tryz.func63, Tryz.ntmps63
      go_wp2
      go_ret
      exact ⟨rfl, (Below.refl _ _).alloc (Nat.le_refl _) _⟩
    · have e : startB st = true := by simp [startB, h, g]
      rw [e]
      go_enter Tryz.func63, Tryz.ntmps63
      go_wp2
      go_ret
      exact ⟨by simp [h, g], (Below.refl _ _).alloc (Nat.le_refl _) _⟩
/-- What is asked of a job that has started. -/
def runB (now : Int) (j : Jv) : Bool :=
  fromB (j.sb + 1) now j.sr && (if j.st = 2 then decide (j.en = 0) && decide (now < j.sr + j.lm)
    else if j.st = 3 ∨ j.st = 5 then fromB j.sr (min now (j.sr + j.lm - 1)) j.en
    else if j.st = 4 then decide (j.en = j.sr + j.lm) && decide (j.sr + j.lm ≤ now) else false)
set_option maxHeartbeats 2000000 in
set_option maxRecDepth 20000 in
theorem needRun_any {w : World} (p : Pj) (now : Int) (h1 : 0 ≤ p.v.sb) (h2 : p.v.sb ≤ 1099511627776) (h3 : now ≤ 1099511627776) (h4 : 1 ≤ p.v.lm) (h5 : p.v.lm ≤ 1048576) :
    Calls Tryz.prog 62 #[pjV p, .int .i64 now] w fun e w' => e = asksE (runB now p.v) 174 ∧ Below w.heap.size w w' := by
  obtain ⟨⟨ac, nd, lm, sb, st, sr, en, xs⟩, sa, sc⟩ := p
  unfold pjV
  dsimp only at h1 h2 h4 h5 ⊢
  have cF := from_any
  have cQ := need_any
  obtain ⟨AV, hAV⟩ : ∃ AV, asksE (runB now ⟨ac, nd, lm, sb, st, sr, en, xs⟩) 174 = AV := ⟨_, rfl⟩
  have HAV : Hid (asksE (runB now ⟨ac, nd, lm, sb, st, sr, en, xs⟩) 174 = AV) := hAV
  rw [hAV]
  clear hAV
  cases q1 : fromB (sb + 1) now sr with
  | false =>
    have HAA : Hid (AV = .panicked (thrown 174)) := by show AV = _; rw [← HAV.out]; simp [runB, q1, asksE]
    have t : (false == true) = false := rfl
    go_enter Tryz.func62, Tryz.ntmps62
    go_wp2_with (first | (go_at_call 29; refine (cF _ _ _ _).mono ?_; rintro e w1 ⟨rfl, rfl⟩; rw [q1]) | (go_at_call 27; refine (cQ _ _ _).mono ?_; rintro e w1 ⟨rfl, rfl⟩; (first | rw [t] | skip); first | rw [asksE_yes] | rw [asksE_no]))
    exact ⟨rfl, HAA.out.symm, (Below.refl _ _).alloc (Nat.le_refl _) _⟩
  | true =>
    have hsr : sb + 1 ≤ sr ∧ sr ≤ now := by simpa [fromB] using q1
    obtain ⟨r1, r2⟩ := hsr
    by_cases s2 : st = 2
    · subst s2
      have HA : Hid (AV = asksE (decide (en = 0) && decide (now < sr + lm)) 174) := by show AV = _; rw [← HAV.out]; simp [runB, q1]
      by_cases e0 : en = 0
      · subst e0
        replace HA : Hid (AV = asksE (decide (now < sr + lm)) 174) := by show AV = _; rw [HA.out]; simp
        cases t : decide (now < sr + lm) with
        | false =>
          have HAA : Hid (AV = .panicked (thrown 174)) := by show AV = _; rw [HA.out]; simp only [t]; rfl
          go_enter Tryz.func62, Tryz.ntmps62
          go_wp2_with (first | (go_at_call 29; refine (cF _ _ _ _).mono ?_; rintro e w1 ⟨rfl, rfl⟩; rw [q1]) | (go_at_call 27; refine (cQ _ _ _).mono ?_; rintro e w1 ⟨rfl, rfl⟩; (first | rw [t] | skip); first | rw [asksE_yes] | rw [asksE_no]))
          exact ⟨rfl, HAA.out.symm, (Below.refl _ _).alloc (Nat.le_refl _) _⟩
        | true =>
          have HAA : Hid (AV = .returned (.tuple #[])) := by show AV = _; rw [HA.out]; simp only [t]; rfl
          go_enter Tryz.func62, Tryz.ntmps62
          go_wp2_with (first | (go_at_call 29; refine (cF _ _ _ _).mono ?_; rintro e w1 ⟨rfl, rfl⟩; rw [q1]) | (go_at_call 27; refine (cQ _ _ _).mono ?_; rintro e w1 ⟨rfl, rfl⟩; (first | rw [t] | skip); first | rw [asksE_yes] | rw [asksE_no]))
          go_end0
          exact ⟨HAA.out.symm, (Below.refl _ _).alloc (Nat.le_refl _) _⟩
      · have HAA : Hid (AV = .panicked (thrown 174)) := by show AV = _; rw [HA.out, decide_eq_false e0]; rfl
        have t : (false == true) = false := rfl
        go_enter Tryz.func62, Tryz.ntmps62
        go_wp2_with (first | (go_at_call 29; refine (cF _ _ _ _).mono ?_; rintro e w1 ⟨rfl, rfl⟩; rw [q1]) | (go_at_call 27; refine (cQ _ _ _).mono ?_; rintro e w1 ⟨rfl, rfl⟩; (first | rw [t] | skip); first | rw [asksE_yes] | rw [asksE_no]))
        exact ⟨rfl, HAA.out.symm, (Below.refl _ _).alloc (Nat.le_refl _) _⟩
    · by_cases s3 : st = 3 ∨ st = 5
      · have HA0 : Hid (AV = asksE (fromB sr (min now (sr + lm - 1)) en) 174) := by show AV = _; rw [← HAV.out]; simp [runB, q1, s2, s3]
        by_cases hm : sr + lm - 1 < now
        · have HA : Hid (AV = asksE (fromB sr (sr + lm - 1) en) 174) := by show AV = _; rw [HA0.out, show min now (sr + lm - 1) = sr + lm - 1 by omega]
          rcases s3 with s3 | s3
          · subst s3
            cases t : fromB sr (sr + lm - 1) en with
            | false =>
              have HAA : Hid (AV = .panicked (thrown 174)) := by show AV = _; rw [HA.out]; simp only [t]; rfl
              go_enter Tryz.func62, Tryz.ntmps62
              go_wp2_with (first | (go_at_call 29; refine (cF _ _ _ _).mono ?_; rintro e w1 ⟨rfl, rfl⟩; (first | rw [q1] | rw [t])) | (go_at_call 27; refine (cQ _ _ _).mono ?_; rintro e w1 ⟨rfl, rfl⟩; (first | rw [t] | skip); first | rw [asksE_yes] | rw [asksE_no]))
              exact ⟨rfl, HAA.out.symm, (Below.refl _ _).alloc (Nat.le_refl _) _⟩
            | true =>
              have HAA : Hid (AV = .returned (.tuple #[])) := by show AV = _; rw [HA.out]; simp only [t]; rfl
              go_enter Tryz.func62, Tryz.ntmps62
              go_wp2_with (first | (go_at_call 29; refine (cF _ _ _ _).mono ?_; rintro e w1 ⟨rfl, rfl⟩; (first | rw [q1] | rw [t])) | (go_at_call 27; refine (cQ _ _ _).mono ?_; rintro e w1 ⟨rfl, rfl⟩; (first | rw [t] | skip); first | rw [asksE_yes] | rw [asksE_no]))
              go_end0
              exact ⟨HAA.out.symm, (Below.refl _ _).alloc (Nat.le_refl _) _⟩
          · subst s3
            cases t : fromB sr (sr + lm - 1) en with
            | false =>
              have HAA : Hid (AV = .panicked (thrown 174)) := by show AV = _; rw [HA.out]; simp only [t]; rfl
              go_enter Tryz.func62, Tryz.ntmps62
              go_wp2_with (first | (go_at_call 29; refine (cF _ _ _ _).mono ?_; rintro e w1 ⟨rfl, rfl⟩; (first | rw [q1] | rw [t])) | (go_at_call 27; refine (cQ _ _ _).mono ?_; rintro e w1 ⟨rfl, rfl⟩; (first | rw [t] | skip); first | rw [asksE_yes] | rw [asksE_no]))
              exact ⟨rfl, HAA.out.symm, (Below.refl _ _).alloc (Nat.le_refl _) _⟩
            | true =>
              have HAA : Hid (AV = .returned (.tuple #[])) := by show AV = _; rw [HA.out]; simp only [t]; rfl
              go_enter Tryz.func62, Tryz.ntmps62
              go_wp2_with (first | (go_at_call 29; refine (cF _ _ _ _).mono ?_; rintro e w1 ⟨rfl, rfl⟩; (first | rw [q1] | rw [t])) | (go_at_call 27; refine (cQ _ _ _).mono ?_; rintro e w1 ⟨rfl, rfl⟩; (first | rw [t] | skip); first | rw [asksE_yes] | rw [asksE_no]))
              go_end0
              exact ⟨HAA.out.symm, (Below.refl _ _).alloc (Nat.le_refl _) _⟩
        · have HA : Hid (AV = asksE (fromB sr now en) 174) := by show AV = _; rw [HA0.out, show min now (sr + lm - 1) = now by omega]
          rcases s3 with s3 | s3
          · subst s3
            cases t : fromB sr now en with
            | false =>
              have HAA : Hid (AV = .panicked (thrown 174)) := by show AV = _; rw [HA.out]; simp only [t]; rfl
              go_enter Tryz.func62, Tryz.ntmps62
              go_wp2_with (first | (go_at_call 29; refine (cF _ _ _ _).mono ?_; rintro e w1 ⟨rfl, rfl⟩; (first | rw [q1] | rw [t])) | (go_at_call 27; refine (cQ _ _ _).mono ?_; rintro e w1 ⟨rfl, rfl⟩; (first | rw [t] | skip); first | rw [asksE_yes] | rw [asksE_no]))
              exact ⟨rfl, HAA.out.symm, (Below.refl _ _).alloc (Nat.le_refl _) _⟩
            | true =>
              have HAA : Hid (AV = .returned (.tuple #[])) := by show AV = _; rw [HA.out]; simp only [t]; rfl
              go_enter Tryz.func62, Tryz.ntmps62
              go_wp2_with (first | (go_at_call 29; refine (cF _ _ _ _).mono ?_; rintro e w1 ⟨rfl, rfl⟩; (first | rw [q1] | rw [t])) | (go_at_call 27; refine (cQ _ _ _).mono ?_; rintro e w1 ⟨rfl, rfl⟩; (first | rw [t] | skip); first | rw [asksE_yes] | rw [asksE_no]))
              go_end0
              exact ⟨HAA.out.symm, (Below.refl _ _).alloc (Nat.le_refl _) _⟩
          · subst s3
            cases t : fromB sr now en with
            | false =>
              have HAA : Hid (AV = .panicked (thrown 174)) := by show AV = _; rw [HA.out]; simp only [t]; rfl
              go_enter Tryz.func62, Tryz.ntmps62
              go_wp2_with (first | (go_at_call 29; refine (cF _ _ _ _).mono ?_; rintro e w1 ⟨rfl, rfl⟩; (first | rw [q1] | rw [t])) | (go_at_call 27; refine (cQ _ _ _).mono ?_; rintro e w1 ⟨rfl, rfl⟩; (first | rw [t] | skip); first | rw [asksE_yes] | rw [asksE_no]))
              exact ⟨rfl, HAA.out.symm, (Below.refl _ _).alloc (Nat.le_refl _) _⟩
            | true =>
              have HAA : Hid (AV = .returned (.tuple #[])) := by show AV = _; rw [HA.out]; simp only [t]; rfl
              go_enter Tryz.func62, Tryz.ntmps62
              go_wp2_with (first | (go_at_call 29; refine (cF _ _ _ _).mono ?_; rintro e w1 ⟨rfl, rfl⟩; (first | rw [q1] | rw [t])) | (go_at_call 27; refine (cQ _ _ _).mono ?_; rintro e w1 ⟨rfl, rfl⟩; (first | rw [t] | skip); first | rw [asksE_yes] | rw [asksE_no]))
              go_end0
              exact ⟨HAA.out.symm, (Below.refl _ _).alloc (Nat.le_refl _) _⟩
      · by_cases s4 : st = 4
        · subst s4
          have HA : Hid (AV = asksE (decide (en = sr + lm) && decide (sr + lm ≤ now)) 174) := by show AV = _; rw [← HAV.out]; simp [runB, q1]
          by_cases e0 : en = sr + lm
          · replace HA : Hid (AV = asksE (decide (sr + lm ≤ now)) 174) := by show AV = _; rw [HA.out, decide_eq_true e0]; rfl
            cases t : decide (sr + lm ≤ now) with
            | false =>
              have HAA : Hid (AV = .panicked (thrown 174)) := by show AV = _; rw [HA.out]; simp only [t]; rfl
              go_enter Tryz.func62, Tryz.ntmps62
              go_wp2_with (first | (go_at_call 29; refine (cF _ _ _ _).mono ?_; rintro e w1 ⟨rfl, rfl⟩; rw [q1]) | (go_at_call 27; refine (cQ _ _ _).mono ?_; rintro e w1 ⟨rfl, rfl⟩; (first | rw [t] | skip); first | rw [asksE_yes] | rw [asksE_no]))
              exact ⟨rfl, HAA.out.symm, (Below.refl _ _).alloc (Nat.le_refl _) _⟩
            | true =>
              have HAA : Hid (AV = .returned (.tuple #[])) := by show AV = _; rw [HA.out]; simp only [t]; rfl
              go_enter Tryz.func62, Tryz.ntmps62
              go_wp2_with (first | (go_at_call 29; refine (cF _ _ _ _).mono ?_; rintro e w1 ⟨rfl, rfl⟩; rw [q1]) | (go_at_call 27; refine (cQ _ _ _).mono ?_; rintro e w1 ⟨rfl, rfl⟩; (first | rw [t] | skip); first | rw [asksE_yes] | rw [asksE_no]))
              go_end0
              exact ⟨HAA.out.symm, (Below.refl _ _).alloc (Nat.le_refl _) _⟩
          · have HAA : Hid (AV = .panicked (thrown 174)) := by show AV = _; rw [HA.out, decide_eq_false e0]; rfl
            have t : (false == true) = false := rfl
            go_enter Tryz.func62, Tryz.ntmps62
            go_wp2_with (first | (go_at_call 29; refine (cF _ _ _ _).mono ?_; rintro e w1 ⟨rfl, rfl⟩; rw [q1]) | (go_at_call 27; refine (cQ _ _ _).mono ?_; rintro e w1 ⟨rfl, rfl⟩; (first | rw [t] | skip); first | rw [asksE_yes] | rw [asksE_no]))
            exact ⟨rfl, HAA.out.symm, (Below.refl _ _).alloc (Nat.le_refl _) _⟩
        · have HAA : Hid (AV = .panicked (thrown 174)) := by show AV = _; rw [← HAV.out]; simp [runB, q1, s2, s3, s4, asksE]
          have t : (false == true) = false := rfl
          have s5 : ¬ st = 3 := fun e => s3 (.inl e)
          have s6 : ¬ st = 5 := fun e => s3 (.inr e)
          clear s3
          go_enter Tryz.func62, Tryz.ntmps62
          go_wp2_with (first | (go_at_call 29; refine (cF _ _ _ _).mono ?_; rintro e w1 ⟨rfl, rfl⟩; rw [q1]) | (go_at_call 27; refine (cQ _ _ _).mono ?_; rintro e w1 ⟨rfl, rfl⟩; (first | rw [t] | skip); first | rw [asksE_yes] | rw [asksE_no]))
          exact ⟨rfl, HAA.out.symm, (Below.refl _ _).alloc (Nat.le_refl _) _⟩
/-- What is asked of a job's times. -/
def timB (now : Int) (j : Jv) : Bool := if j.st = 1 then decide (j.sr = 0) && decide (j.en = 0) else if j.st = 6 then decide (j.sr = 0) && fromB j.sb now j.en else runB now j
set_option maxHeartbeats 2000000 in
set_option maxRecDepth 20000 in
theorem needTimes_any {w : World} (p : Pj) (now : Int) (h1 : 0 ≤ p.v.sb) (h2 : p.v.sb ≤ 1099511627776) (h3 : now ≤ 1099511627776) (h4 : 1 ≤ p.v.lm) (h5 : p.v.lm ≤ 1048576) :
    Calls Tryz.prog 32 #[pjV p, .int .i64 now] w fun e w' => e = asksE (timB now p.v) 174 ∧ Below w.heap.size w w' := by
  have cR : ∀ x, Calls Tryz.prog 62 #[pjV p, .int .i64 now] x fun e w' => e = asksE (runB now p.v) 174 ∧ Below x.heap.size x w' := fun x => needRun_any p now h1 h2 h3 h4 h5
  obtain ⟨⟨ac, nd, lm, sb, st, sr, en, xs⟩, sa, sc⟩ := p
  unfold pjV at *
  dsimp only at cR ⊢
  have cF := from_any
  have cQ := need_any
  obtain ⟨RV, hRV⟩ : ∃ RV, runB now ⟨ac, nd, lm, sb, st, sr, en, xs⟩ = RV := ⟨_, rfl⟩
  have HRV : Hid (runB now ⟨ac, nd, lm, sb, st, sr, en, xs⟩ = RV) := hRV
  rw [hRV] at cR
  obtain ⟨AV, hAV⟩ : ∃ AV, asksE (timB now ⟨ac, nd, lm, sb, st, sr, en, xs⟩) 174 = AV := ⟨_, rfl⟩
  have HAV : Hid (asksE (timB now ⟨ac, nd, lm, sb, st, sr, en, xs⟩) 174 = AV) := hAV
  rw [hAV]
  clear hAV hRV h1 h2 h3 h4 h5
  by_cases s1 : st = 1
  · subst s1
    have HA : Hid (AV = asksE (decide (sr = 0) && decide (en = 0)) 174) := by show AV = _; rw [← HAV.out]; simp [timB]
    by_cases e0 : sr = 0
    · subst e0
      replace HA : Hid (AV = asksE (decide (en = 0)) 174) := by show AV = _; rw [HA.out]; simp
      by_cases e1 : en = 0
      · subst e1
        have HAA : Hid (AV = .returned (.tuple #[])) := by show AV = _; rw [HA.out]; rfl
        have t : (false == true) = false := rfl
        go_enter Tryz.func32, Tryz.ntmps32
        go_wp2_with (first | (go_at_call 29; refine (cF _ _ _ _).mono ?_; rintro e w1 ⟨rfl, rfl⟩; rw [t]) | (go_at_call 27; refine (cQ _ _ _).mono ?_; rintro e w1 ⟨rfl, rfl⟩; (first | rw [t] | skip); first | rw [asksE_yes] | rw [asksE_no]))
        go_end0
        exact ⟨HAA.out.symm, (Below.refl _ _).alloc (Nat.le_refl _) _⟩
      · have HAA : Hid (AV = .panicked (thrown 174)) := by show AV = _; rw [HA.out, decide_eq_false e1]; rfl
        have t : (en == 0) = false := beq_eq_false_iff_ne.2 e1
        go_enter Tryz.func32, Tryz.ntmps32
        go_wp2_with (first | (go_at_call 29; refine (cF _ _ _ _).mono ?_; rintro e w1 ⟨rfl, rfl⟩; rw [t]) | (go_at_call 27; refine (cQ _ _ _).mono ?_; rintro e w1 ⟨rfl, rfl⟩; (first | rw [t] | skip); first | rw [asksE_yes] | rw [asksE_no]))
        exact ⟨rfl, HAA.out.symm, (Below.refl _ _).alloc (Nat.le_refl _) _⟩
    · have HAA : Hid (AV = .panicked (thrown 174)) := by show AV = _; rw [HA.out, decide_eq_false e0]; rfl
      have t : (false == true) = false := rfl
      go_enter Tryz.func32, Tryz.ntmps32
      go_wp2_with (first | (go_at_call 29; refine (cF _ _ _ _).mono ?_; rintro e w1 ⟨rfl, rfl⟩; rw [t]) | (go_at_call 27; refine (cQ _ _ _).mono ?_; rintro e w1 ⟨rfl, rfl⟩; (first | rw [t] | skip); first | rw [asksE_yes] | rw [asksE_no]))
      exact ⟨rfl, HAA.out.symm, (Below.refl _ _).alloc (Nat.le_refl _) _⟩
  · by_cases s6 : st = 6
    · subst s6
      have HA : Hid (AV = asksE (decide (sr = 0) && fromB sb now en) 174) := by show AV = _; rw [← HAV.out]; simp [timB]
      by_cases e0 : sr = 0
      · subst e0
        replace HA : Hid (AV = asksE (fromB sb now en) 174) := by show AV = _; rw [HA.out]; simp
        cases t : fromB sb now en with
        | false =>
          have HAA : Hid (AV = .panicked (thrown 174)) := by show AV = _; rw [HA.out]; simp only [t]; rfl
          go_enter Tryz.func32, Tryz.ntmps32
          go_wp2_with (first | (go_at_call 29; refine (cF _ _ _ _).mono ?_; rintro e w1 ⟨rfl, rfl⟩; rw [t]) | (go_at_call 27; refine (cQ _ _ _).mono ?_; rintro e w1 ⟨rfl, rfl⟩; (first | rw [t] | skip); first | rw [asksE_yes] | rw [asksE_no]))
          exact ⟨rfl, HAA.out.symm, (Below.refl _ _).alloc (Nat.le_refl _) _⟩
        | true =>
          have HAA : Hid (AV = .returned (.tuple #[])) := by show AV = _; rw [HA.out]; simp only [t]; rfl
          go_enter Tryz.func32, Tryz.ntmps32
          go_wp2_with (first | (go_at_call 29; refine (cF _ _ _ _).mono ?_; rintro e w1 ⟨rfl, rfl⟩; rw [t]) | (go_at_call 27; refine (cQ _ _ _).mono ?_; rintro e w1 ⟨rfl, rfl⟩; (first | rw [t] | skip); first | rw [asksE_yes] | rw [asksE_no]))
          go_end0
          exact ⟨HAA.out.symm, (Below.refl _ _).alloc (Nat.le_refl _) _⟩
      · have HAA : Hid (AV = .panicked (thrown 174)) := by show AV = _; rw [HA.out, decide_eq_false e0]; rfl
        have t : (false == true) = false := rfl
        go_enter Tryz.func32, Tryz.ntmps32
        go_wp2_with (first | (go_at_call 29; refine (cF _ _ _ _).mono ?_; rintro e w1 ⟨rfl, rfl⟩; rw [t]) | (go_at_call 27; refine (cQ _ _ _).mono ?_; rintro e w1 ⟨rfl, rfl⟩; (first | rw [t] | skip); first | rw [asksE_yes] | rw [asksE_no]))
        exact ⟨rfl, HAA.out.symm, (Below.refl _ _).alloc (Nat.le_refl _) _⟩
    · have HA : Hid (AV = asksE RV 174) := by show AV = _; rw [← HAV.out, ← HRV.out]; simp [timB, s1, s6]
      cases RV with
      | false =>
        have HAA : Hid (AV = .panicked (thrown 174)) := by show AV = _; rw [HA.out]; rfl
        rw [asksE_no] at cR
        go_enter Tryz.func32, Tryz.ntmps32
        go_wp2_with (go_at_call 62; refine (cR _).mono ?_; rintro e w1 ⟨rfl, hb⟩)
        exact ⟨rfl, HAA.out.symm, ((Below.refl _ w).alloc (Nat.le_refl _) _).trans (hb.mono (by simp))⟩
      | true =>
        have HAA : Hid (AV = .returned (.tuple #[])) := by show AV = _; rw [HA.out]; rfl
        rw [asksE_yes] at cR
        go_enter Tryz.func32, Tryz.ntmps32
        go_wp2_with (go_at_call 62; refine (cR _).mono ?_; rintro e w1 ⟨rfl, hb⟩)
        go_end0
        exact ⟨HAA.out.symm, ((Below.refl _ w).alloc (Nat.le_refl _) _).trans (hb.mono (by simp))⟩
end Go.Proofs.YtbcinapnnlfnbaaGreat
