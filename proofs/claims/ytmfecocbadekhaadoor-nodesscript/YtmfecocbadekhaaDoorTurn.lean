/-
  flipAll, isSet, turn, Claim, Give: a list that is handed in, read by its places.
-/
import Derived.Test.YtmfecocbadekhaaDoorLow
namespace Go.Proofs.YtmfecocbadekhaaDoor
open Go.RowKit Nd

namespace Nd
/-- F with the first m of the nodes f turned over. -/
def flipF (F : Nat) (f : Nat → Int) : Nat → Nat
  | 0 => F
  | m + 1 => flipF F f m ^^^ 2 ^ (f m).toNat
/-- Whether the first m are nodes of a machine of n, rising. -/
def setB (n : Nat) (f : Nat → Int) : Nat → Bool
  | 0 => true
  | m + 1 => setB n f m && (decide (0 ≤ f m) && decide (f m < n)) && (decide (m = 0) || decide (f (m - 1) < f m))
theorem setB_no (n : Nat) (f : Nat → Int) (k d : Nat) (h : setB n f k = false) : setB n f (k + d) = false := by
  induction d with
  | zero => exact h
  | succ d ih => rw [← Nat.add_assoc, setB, ih]; rfl
theorem setB_at (n : Nat) (f : Nat → Int) (m : Nat) (h : setB n f m = true) (j : Nat) (hj : j < m) : 0 ≤ f j ∧ f j < n := by
  induction m with
  | zero => omega
  | succ m ih =>
    simp only [setB, Bool.and_eq_true, decide_eq_true_eq] at h
    by_cases e : j = m
    · subst e; exact h.1.2
    · exact ih h.1.1 (by omega)
/-- Whether the first m are all free (or all taken). -/
def allB (F : Nat) (f : Nat → Int) (fr : Bool) : Nat → Bool
  | 0 => true
  | m + 1 => allB F f fr m && ((decide (0 ≤ f m) && F.testBit (f m).toNat) == fr)
theorem allB_no (F : Nat) (f : Nat → Int) (fr : Bool) (k d : Nat) (h : allB F f fr k = false) : allB F f fr (k + d) = false := by
  induction d with
  | zero => exact h
  | succ d ih => rw [← Nat.add_assoc, allB, ih]; rfl
end Nd

theorem ret_b {a b : Bool} (h : a = b) : Ending.returned (.bool a) = .returned (.bool b) := by rw [h]
theorem flipAll_any (b n F g o m cap : Nat) (ao : Option Addr) (f : Nat → Int) (w : World) (h : SetIn w b n F) (hao : 0 < m → ao = some ⟨g, o, none⟩) (hgb : g ≠ b) (hm : m ≤ 140737488355328)
    (hc : ∀ j, j < m → w.cell? ⟨g, o + j, none⟩ = some (.int .i64 (f j))) (hf : ∀ j, j < m → 0 ≤ f j ∧ f j < n) :
    Calls Tryd.prog 33 #[.pointer (some ⟨b, 0, none⟩), .slice ao m cap] w fun e w' => e = .returned (.tuple #[]) ∧ SetIn w' b n (flipF F f m) ∧ w.grownBy w' (some b) := by
  go_enter Tryd.func33, Tryd.ntmps33
  go_wp2
  go_loopg [8] m (fun gk c wr => ∃ k : Nat, k + gk = m ∧ c = .int .i64 k ∧ SetIn wr b n (flipF F f k) ∧ w.grownBy wr (some b))
  case atStart => exact ⟨0, by omega, rfl, h, gr_refl _ _⟩
  case round =>
    obtain ⟨k, hk, rfl, hs, hg⟩ := hrel
    by_cases hlt : k < m
    · have ha := hao (by omega)
      subst ha
      have hck := hg.cell (hc k hlt) (fun e => hgb (Option.some.inj e))
      obtain ⟨q, hq⟩ : ∃ q : Nat, f k = q := ⟨(f k).toNat, by have := hf k hlt; omega⟩
      have hqn : q < n := by have := hf k hlt; omega
      have HQ : Hid (f k = q) := hq
      rw [hq] at hck
      clear hq
      go_wp2_with (go_at_call 20; refine (flip_any b n _ q _ hs hqn).mono ?_; rintro e w' ⟨rfl, hs', hg'⟩)
      go_roundg (m - (k + 1))
      case measure => omega
      case rel => exact ⟨k + 1, by omega, by go_num, by rw [flipF, HQ.out]; exact hs', gr_trans hg hg'⟩
    · have e : k = m := by omega
      subst e
      go_wp2
      go_end0
      exact ⟨rfl, hs, hg⟩

theorem isSet_any (b n F g o m cap : Nat) (ao : Option Addr) (f : Nat → Int) (w : World) (h : SetIn w b n F) (hao : 0 < m → ao = some ⟨g, o, none⟩) (hm : m ≤ 140737488355328)
    (hc : ∀ j, j < m → w.cell? ⟨g, o + j, none⟩ = some (.int .i64 (f j))) :
    Calls Tryd.prog 38 #[.pointer (some ⟨b, 0, none⟩), .slice ao m cap] w fun e w' => e = .returned (.bool (setB n f m)) ∧ w' = w := by
  go_enter Tryd.func38, Tryd.ntmps38
  go_wp2
  go_loopg [9] m (fun gk c wr => ∃ k : Nat, k + gk = m ∧ c = .int .i64 k ∧ setB n f k = true ∧ wr = w)
  case atStart => exact ⟨0, by omega, rfl, rfl, rfl⟩
  case round =>
    obtain ⟨k, hk, rfl, hs, rfl⟩ := hrel
    by_cases hlt : k < m
    · have ha := hao (by omega)
      subst ha
      have hck := hc k hlt
      cases hB : isB n (f k) with
      | false =>
        have HN : Hid (setB n f m = false) := by
          rw [show m = k + 1 + (m - (k + 1)) by omega]
          apply setB_no
          have : (decide (0 ≤ f k) && decide (f k < n)) = false := hB
          rw [setB, this]; simp
        go_wp2_with (go_at_call 35; refine (isNode_any b n F _ _ h).mono ?_; rintro e w' ⟨rfl, rfl⟩; rw [hB])
        go_ret
        exact ⟨ret_b HN.out.symm, rfl⟩
      | true =>
        have hB' : (decide (0 ≤ f k) && decide (f k < n)) = true := hB
        by_cases hk0 : k = 0
        · subst hk0
          have HY : Hid (setB n f (0 + 1) = true) := by simp only [Hid, setB, hB']; rfl
          have hc0 : wr.cell? ⟨g, o, none⟩ = some (.int .i64 (f 0)) := by simpa using hck
          clear hB' hck
          go_wp2_with (go_at_call 35; refine (isNode_any b n F _ _ h).mono ?_; rintro e w' ⟨rfl, rfl⟩; rw [hB])
          go_roundg (m - 1)
          case measure => omega
          case rel => exact ⟨1, by omega, by go_num, HY.out, rfl⟩
        · obtain ⟨j, rfl⟩ : ∃ j, k = j + 1 := ⟨k - 1, by omega⟩
          have hcj := hc j (by omega)
          by_cases hle : f (j + 1) ≤ f j
          · have HN : Hid (setB n f m = false) := by
              rw [show m = j + 1 + 1 + (m - (j + 1 + 1)) by omega]
              apply setB_no
              rw [setB]
              simp
              intro _ _ _
              omega
            clear hB'
            go_wp2_with (go_at_call 35; refine (isNode_any b n F _ _ h).mono ?_; rintro e w' ⟨rfl, rfl⟩; rw [hB])
            go_ret
            exact ⟨ret_b HN.out.symm, rfl⟩
          · have HY : Hid (setB n f (j + 1 + 1) = true) := by
              show setB n f (j + 1 + 1) = true
              rw [setB, hs, hB']
              simp
              omega
            clear hB'
            go_wp2_with (go_at_call 35; refine (isNode_any b n F _ _ h).mono ?_; rintro e w' ⟨rfl, rfl⟩; rw [hB])
            go_roundg (m - (j + 2))
            case measure => omega
            case rel => exact ⟨j + 2, by omega, by go_num, HY.out, rfl⟩
    · have e : k = m := by omega
      subst e
      go_wp2
      go_ret
      exact ⟨ret_b hs.symm, rfl⟩

namespace Nd
/-- What Claim (of free ones) and Give (of taken ones) answer. -/
def turnE (n F : Nat) (f : Nat → Int) (m : Nat) (fr : Bool) : Int := if setB n f m then (if allB F f fr m then 0 else 21) else 22
/-- The set behind it. -/
def turnF (n F : Nat) (f : Nat → Int) (m : Nat) (fr : Bool) : Nat := if setB n f m then (if allB F f fr m then flipF F f m else F) else F
end Nd

theorem turn_any (b n F g o m cap : Nat) (ao : Option Addr) (f : Nat → Int) (fr : Bool) (w : World) (h : SetIn w b n F) (hao : 0 < m → ao = some ⟨g, o, none⟩) (hgb : g ≠ b) (hm : m ≤ 140737488355328)
    (hc : ∀ j, j < m → w.cell? ⟨g, o + j, none⟩ = some (.int .i64 (f j))) :
    Calls Tryd.prog 32 #[.pointer (some ⟨b, 0, none⟩), .slice ao m cap, .bool fr] w fun e w' => e = .returned (.int .i64 (turnE n F f m fr)) ∧ SetIn w' b n (turnF n F f m fr) ∧ w.grownBy w' (some b) := by
  cases hS : setB n f m with
  | false =>
    have e1 : turnE n F f m fr = 22 := by simp [turnE, hS]
    have e2 : turnF n F f m fr = F := by simp [turnF, hS]
    rw [e1, e2]
    go_enter Tryd.func32, Tryd.ntmps32
    go_wp2_with (go_at_call 38; refine (isSet_any b n F g o m cap ao f _ h hao hm hc).mono ?_; rintro e w' ⟨rfl, rfl⟩; rw [hS])
    go_ret
    exact ⟨rfl, h, gr_refl _ _⟩
  | true =>
    have HE : Hid ((allB F f fr m = true → turnE n F f m fr = 0 ∧ turnF n F f m fr = flipF F f m) ∧ (allB F f fr m = false → turnE n F f m fr = 21 ∧ turnF n F f m fr = F)) :=
      ⟨fun e => by simp [turnE, turnF, hS, e], fun e => by simp [turnE, turnF, hS, e]⟩
    go_enter Tryd.func32, Tryd.ntmps32
    go_wp2_with (go_at_call 38; refine (isSet_any b n F g o m cap ao f _ h hao hm hc).mono ?_; rintro e w1 ⟨rfl, rfl⟩; rw [hS])
    go_loopg [15] m (fun gk c wr => ∃ k : Nat, k + gk = m ∧ c = .int .i64 k ∧ allB F f fr k = true ∧ wr = w1)
    case atStart => exact ⟨0, by omega, rfl, rfl, rfl⟩
    case round =>
      obtain ⟨k, hk, rfl, hs, rfl⟩ := hrel
      by_cases hlt : k < m
      · have ha := hao (by omega)
        subst ha
        have hck := hc k hlt
        cases hB : hasB F (f k) == fr with
        | false =>
          have HN : Hid (allB F f fr m = false) := by
            rw [show m = k + 1 + (m - (k + 1)) by omega]
            apply allB_no
            have : ((decide (0 ≤ f k) && F.testBit (f k).toNat) == fr) = false := hB
            rw [allB, this]; simp
          go_wp2_with (go_at_call 18; refine (has_any b n F _ _ h).mono ?_; rintro e w' ⟨rfl, rfl⟩)
          go_ret
          exact ⟨ret_i (HE.out.2 HN.out).1.symm, by rw [(HE.out.2 HN.out).2]; exact h, gr_refl _ _⟩
        | true =>
          have HY : Hid (allB F f fr (k + 1) = true) := by
            have : ((decide (0 ≤ f k) && F.testBit (f k).toNat) == fr) = true := hB
            show allB F f fr (k + 1) = true
            rw [allB, this, hs]; rfl
          go_wp2_with (go_at_call 18; refine (has_any b n F _ _ h).mono ?_; rintro e w' ⟨rfl, rfl⟩)
          go_roundg (m - (k + 1))
          case measure => omega
          case rel => exact ⟨k + 1, by omega, by go_num, HY.out, rfl⟩
      · have e : k = m := by omega
        subst e
        have hf := setB_at n f k hS
        have HA : Hid (allB F f fr k = true) := hs
        clear hs hS
        go_wp2_with (go_at_call 33; refine (flipAll_any b n F g o k cap ao f _ h hao hgb hm hc hf).mono ?_; rintro e w2 ⟨rfl, hs2, hg2⟩)
        go_ret
        exact ⟨ret_i (HE.out.1 HA.out).1.symm, by rw [(HE.out.1 HA.out).2]; exact hs2, hg2⟩

theorem claim_any (b n F g o m cap : Nat) (ao : Option Addr) (f : Nat → Int) (w : World) (h : SetIn w b n F) (hao : 0 < m → ao = some ⟨g, o, none⟩) (hgb : g ≠ b) (hm : m ≤ 140737488355328)
    (hc : ∀ j, j < m → w.cell? ⟨g, o + j, none⟩ = some (.int .i64 (f j))) :
    Calls Tryd.prog 15 #[.pointer (some ⟨b, 0, none⟩), .slice ao m cap] w fun e w' => e = .returned (.int .i64 (turnE n F f m true)) ∧ SetIn w' b n (turnF n F f m true) ∧ w.grownBy w' (some b) := by
  go_enter Tryd.func15, Tryd.ntmps15
  go_wp2_with (go_at_call 32; refine (turn_any b n F g o m cap ao f true _ h hao hgb hm hc).mono ?_; rintro e w2 ⟨rfl, hs2, hg2⟩)
  go_ret
  exact ⟨rfl, hs2, hg2⟩
theorem give_any (b n F g o m cap : Nat) (ao : Option Addr) (f : Nat → Int) (w : World) (h : SetIn w b n F) (hao : 0 < m → ao = some ⟨g, o, none⟩) (hgb : g ≠ b) (hm : m ≤ 140737488355328)
    (hc : ∀ j, j < m → w.cell? ⟨g, o + j, none⟩ = some (.int .i64 (f j))) :
    Calls Tryd.prog 19 #[.pointer (some ⟨b, 0, none⟩), .slice ao m cap] w fun e w' => e = .returned (.int .i64 (turnE n F f m false)) ∧ SetIn w' b n (turnF n F f m false) ∧ w.grownBy w' (some b) := by
  go_enter Tryd.func19, Tryd.ntmps19
  go_wp2_with (go_at_call 32; refine (turn_any b n F g o m cap ao f false _ h hao hgb hm hc).mono ?_; rintro e w2 ⟨rfl, hs2, hg2⟩)
  go_ret
  exact ⟨rfl, hs2, hg2⟩
end Go.Proofs.YtmfecocbadekhaaDoor
