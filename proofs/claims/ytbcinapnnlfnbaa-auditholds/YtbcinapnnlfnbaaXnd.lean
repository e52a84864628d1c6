/-
  LAYER 2: a machine's nodes: New, Claim, Give (from stage 2, without what needs a table).
  LAYER 2: what Claim and Give answer, of lists of numbers.
-/
import Derived.Test.YtbcinapnnlfnbaaRfX
import Derived.WalkKit
import Derived.WalkLawsBesides
import Derived.Laws.Bits64b
import Derived.Laws.Bits128
import Derived.RowKit3
import Derived.Deep.LoopGhost
import Derived.WalkSpells
import Derived.Deep.QuietTactic
import Derived.Test.YtbcinapnnlfnbaaAuM
import Derived.Test.YtbcinapnnlfnbaaXru
namespace Go.Proofs.Ytbcinapnnlfnbaa
open Go.RowKit Tr

namespace Nd
def wd (F i : Nat) : Nat := F / 2 ^ (64 * i) % 18446744073709551616
theorem wd_lt (F i : Nat) : wd F i < 18446744073709551616 := Nat.mod_lt _ (by decide)
theorem wd_bit (F i j : Nat) : (wd F i).testBit j = (decide (j < 64) && F.testBit (64 * i + j)) := by
  unfold wd
  rw [show (18446744073709551616 : Nat) = 2 ^ 64 by rfl, Nat.testBit_mod_two_pow, Nat.testBit_div_two_pow, Nat.add_comm]

theorem ret_i {k : IntKind} {a b : Int} (h : a = b) : Ending.returned (.int k a) = .returned (.int k b) := by rw [h]
theorem and_lit (a M : Nat) (m : Int) (hm : m = (M : Int)) (ha : a < 18446744073709551616) (hM : M < 18446744073709551616) : bits .and .u64 (a : Int) m = ((a &&& M : Nat) : Int) := by
  rw [hm]; exact bits_and_u64_nat a M ha hM
theorem and_lit_div (a d M : Nat) (D m : Int) (hD : D = (d : Int)) (hm : m = (M : Int)) (ha : a < 18446744073709551616) (hM : M < 18446744073709551616) : bits .and .u64 ((a : Int) / D) m = ((a / d &&& M : Nat) : Int) := by
  rw [hD, hm, ← Int.natCast_ediv]
  exact bits_and_u64_nat (a / d) M (Nat.lt_of_le_of_lt (Nat.div_le_self a d) ha) hM



theorem wd_flip (F k i : Nat) : wd (F ^^^ 2 ^ k) i = if k / 64 = i then wd F i ^^^ 2 ^ (k % 64) else wd F i := by
  apply Nat.eq_of_testBit_eq
  intro j
  rw [wd_bit, Nat.testBit_xor, Nat.testBit_two_pow]
  split
  · rw [Nat.testBit_xor, wd_bit, Nat.testBit_two_pow]
    by_cases hj : j < 64
    · by_cases e : k % 64 = j
      · simp [hj, show k = 64 * i + j by omega]
      · simp [hj, e, show ¬ k = 64 * i + j by omega]
    · simp [hj, show ¬ k % 64 = j by omega]
  · rw [wd_bit]
    by_cases hj : j < 64
    · simp [hj, show ¬ k = 64 * i + j by omega]
    · simp [hj]
theorem gr_drew {w w' : World} {r : Option Nat} (h : w.grownBy w' r) : w.grownBy w'.drew r := ⟨h.os, h.tape, h.output, h.size, h.block⟩
theorem gr_trans {w w1 w2 : World} {r : Option Nat} (h : w.grownBy w1 r) (k : w1.grownBy w2 r) : w.grownBy w2 r :=
  ⟨k.os.trans h.os, k.tape.trans h.tape, k.output.trans h.output, Nat.le_trans h.size k.size, fun i hi hr => (k.block i (Nat.lt_of_lt_of_le hi h.size) hr).trans (h.block i hi hr)⟩
theorem gr_refl (w : World) (r : Option Nat) : w.grownBy w r := ⟨rfl, rfl, rfl, Nat.le_refl _, fun _ _ _ => rfl⟩
theorem gr_below {w w' : World} (h : Below w.heap.size w w') (r : Option Nat) : w.grownBy w' r := ⟨h.os, h.tape, h.output, h.size, fun i hi _ => h.block i hi⟩
theorem gr_set (w : World) (a : Addr) (v : Value) : w.grownBy (w.setCell a v) (some a.block) :=
  ⟨rfl, rfl, rfl, by simp [World.setCell], fun i _ hr => Below.heap_setCell w a v i (fun e => hr (by rw [e]))⟩
/-- A set's five cells. -/
def setCells (n F : Nat) : Array Value := #[.int .i64 n, .int .u64 (wd F 0), .int .u64 (wd F 1), .int .u64 (wd F 2), .int .u64 (wd F 3)]
/-- In w block b is a set of n nodes; those whose bit in F is 1 are free. -/
structure SetIn (w : World) (b n F : Nat) : Prop where
  blk : w.heap[b]? = some (.cells (setCells n F) 112 (0, 0))
  lo : 1 ≤ n
  hi : n ≤ 256
  top : F < 2 ^ n

section
variable {w : World} {b n F : Nat}
theorem SetIn.size (h : SetIn w b n F) : w.cell? ⟨b, 0, none⟩ = some (.int .i64 n) := by simp [World.cell?, h.blk, setCells]
theorem SetIn.word (h : SetIn w b n F) (i : Nat) (hi : i < 4) : w.cell? ⟨b, 1 + i, none⟩ = some (.int .u64 (wd F i)) := by
  match i, hi with
  | 0, _ => simp [World.cell?, h.blk, setCells]
  | 1, _ => simp [World.cell?, h.blk, setCells]
  | 2, _ => simp [World.cell?, h.blk, setCells]
  | 3, _ => simp [World.cell?, h.blk, setCells]
theorem SetIn.free (h : SetIn w b n F) (o : Nat) : w.frozen? ⟨b, o, none⟩ = false := by simp [World.frozen?, h.blk]
theorem SetIn.lt (h : SetIn w b n F) : b < w.heap.size := (Array.getElem?_eq_some_iff.1 h.blk).1
theorem SetIn.bit (h : SetIn w b n F) (k : Nat) (hk : n ≤ k) : F.testBit k = false := Nat.testBit_lt_two_pow (Nat.lt_of_lt_of_le h.top (Nat.pow_le_pow_right (by decide) hk))

theorem set_cells (F k : Nat) (hk : k < 256) : (setCells n F).setIfInBounds (1 + k / 64) (.int .u64 ((wd F (k / 64) ^^^ 2 ^ (k % 64) : Nat) : Int)) = setCells n (F ^^^ 2 ^ k) := by
  have h : k / 64 < 4 := by omega
  unfold setCells
  simp only [wd_flip]
  match hd : k / 64, h with
  | 0, _ => simp
  | 1, _ => simp
  | 2, _ => simp
  | 3, _ => simp
theorem set_block (h : w.heap[b]? = some (.cells (setCells n F) 112 (0, 0))) (k : Nat) (hk : k < 256) : (w.setCell ⟨b, 1 + k / 64, none⟩ (.int .u64 ((wd F (k / 64) ^^^ 2 ^ (k % 64) : Nat) : Int))).heap[b]? = some (.cells (setCells n (F ^^^ 2 ^ k)) 112 (0, 0)) := by
  obtain ⟨hlt, h'⟩ := Array.getElem?_eq_some_iff.1 h
  show (w.heap.modify b _)[b]? = _
  rw [Array.getElem?_eq_getElem (by simpa using hlt), Array.getElem_modify_self, h']
  simp [set_cells F k hk]
end

theorem flip_bits (F k i : Nat) : bits .xor .u64 (wd F i : Int) (IntKind.u64.wrap (2 ^ (k % 64))) = ((wd F i ^^^ 2 ^ (k % 64) : Nat) : Int) := by
  have h : 2 ^ (k % 64) < 2 ^ 64 := Nat.pow_lt_pow_right (by decide) (by omega)
  have e : IntKind.u64.wrap (2 ^ (k % 64)) = ((2 ^ (k % 64) : Nat) : Int) := by
    have e2 : ((2 ^ (k % 64) : Nat) : Int) = 2 ^ (k % 64) := by simp
    rw [IntKind.wrap_u64, ← e2]
    generalize 2 ^ (k % 64) = y at h
    omega
  rw [e]
  exact bits_xor_u64_nat _ _ (wd_lt F i) h

theorem flip_any (b n F k : Nat) (w : World) (h : SetIn w b n F) (hk : k < n) :
    Calls Try.prog 77 #[.pointer (some ⟨b, 0, none⟩), .int .i64 k] w fun e w' => e = .returned (.tuple #[]) ∧ SetIn w' b n (F ^^^ 2 ^ k) ∧ w.grownBy w' (some b) := by
  have hn := h.hi
  have hc := h.word (k / 64) (by omega)
  have hf := h.free (1 + k / 64)
  have hx := flip_bits F k (k / 64)
  have hb := set_block h.blk k (by omega)
  go_enter Try.func77, Try.ntmps77
  go_region
  go_end0
  have hg := gr_set w ⟨b, 1 + k / 64, none⟩ (.int .u64 ((wd F (k / 64) ^^^ 2 ^ (k % 64) : Nat) : Int))
  exact ⟨rfl, ⟨hb, h.lo, h.hi, Nat.xor_lt_two_pow h.top (Nat.pow_lt_pow_right (by decide) hk)⟩, gr_drew hg⟩

/-- Whether a number is one of n nodes. -/
def isB (n : Nat) (k : Int) : Bool := decide (0 ≤ k) && decide (k < n)
theorem isNode_any (b n F : Nat) (k : Int) (w : World) (h : SetIn w b n F) :
    Calls Try.prog 90 #[.pointer (some ⟨b, 0, none⟩), .int .i64 k] w fun e w' => e = .returned (.bool (isB n k)) ∧ w' = w := by
  have hc := h.size
  by_cases h0 : 0 ≤ k
  · go_enter Try.func90, Try.ntmps90
    go_wp2
    go_ret
    exact ⟨by simp [isB, h0], rfl⟩
  · go_enter Try.func90, Try.ntmps90
    go_wp2
    go_ret
    exact ⟨by simp [isB]; omega, rfl⟩

/-- Whether a number is a node that is free. -/
def hasB (F : Nat) (k : Int) : Bool := decide (0 ≤ k) && F.testBit k.toNat
theorem has_bits (F k : Nat) : (bits .and .u64 ((wd F (k / 64) : Int) / 2 ^ (k % 64)) 1 == 1) = F.testBit k := by
  have e2 : ((2 ^ (k % 64) : Nat) : Int) = 2 ^ (k % 64) := by simp
  rw [← e2, and_lit_div (wd F (k / 64)) (2 ^ (k % 64)) 1 _ 1 rfl rfl (wd_lt _ _) (by decide), Nat.and_one_is_mod]
  have hb := wd_bit F (k / 64) (k % 64)
  rw [show 64 * (k / 64) + k % 64 = k by omega, decide_eq_true (show k % 64 < 64 by omega), Bool.true_and] at hb
  rw [← hb, Nat.testBit, Nat.shiftRight_eq_div_pow, Nat.and_comm, Nat.and_one_is_mod]
  generalize wd F (k / 64) / 2 ^ (k % 64) = y
  rcases Nat.mod_two_eq_zero_or_one y with h | h <;> simp [h]
theorem has_any (b n F : Nat) (k : Int) (w : World) (h : SetIn w b n F) :
    Calls Try.prog 82 #[.pointer (some ⟨b, 0, none⟩), .int .i64 k] w fun e w' => e = .returned (.bool (hasB F k)) ∧ w' = w := by
  cases hB : isB n k with
  | true =>
    obtain ⟨m, rfl⟩ : ∃ m : Nat, k = m := ⟨k.toNat, by simp [isB] at hB; omega⟩
    have hm : m < n := by simp [isB] at hB; omega
    have hn := h.hi
    have hc := h.word (m / 64) (by omega)
    have hb := has_bits F m
    go_enter Try.func82, Try.ntmps82
    go_wp2_with (go_at_call 90; refine (isNode_any b n F _ _ h).mono ?_; rintro e w' ⟨rfl, rfl⟩; rw [hB])
    go_ret
    exact ⟨by simp [hasB], rfl⟩
  | false =>
    have hv : hasB F k = false := by
      simp only [hasB, Bool.and_eq_false_iff, decide_eq_false_iff_not]
      by_cases h0 : 0 ≤ k
      · right
        apply h.bit
        simp [isB] at hB
        omega
      · exact .inl h0
    rw [hv]
    go_enter Try.func82, Try.ntmps82
    go_wp2_with (go_at_call 90; refine (isNode_any b n F _ _ h).mono ?_; rintro e w' ⟨rfl, rfl⟩; rw [hB])
    go_ret
    exact ⟨rfl, rfl⟩

theorem SetIn.grown {w w' : World} {b n F g : Nat} (h : SetIn w b n F) (hg : w.grownBy w' (some g)) (hb : b ≠ g) : SetIn w' b n F :=
  ⟨by rw [hg.block b h.lt (fun e => hb (Option.some.inj e))]; exact h.blk, h.lo, h.hi, h.top⟩
theorem SetIn.below {w w' : World} {b n F : Nat} (h : SetIn w b n F) (hg : Below w.heap.size w w') : SetIn w' b n F :=
  ⟨by rw [hg.block b h.lt]; exact h.blk, h.lo, h.hi, h.top⟩



/-- F with the first m of the nodes f turned over. -/
def flipF (F : Nat) (f : Nat → Int) : Nat → Nat
  | 0 => F
  | m + 1 => flipF F f m ^^^ 2 ^ (f m).toNat
/-- Whether the first m are nodes of a machine of n, rising. -/
def setB (n : Nat) (f : Nat → Int) : Nat → Bool
  | 0 => true
  | m + 1 => setB n f m && (decide (0 ≤ f m) && decide (f m < n)) && (decide (m = 0) || decide (f (m - 1) < f m))
theorem setB_no (n : Nat) (f : Nat → Int) (k d : Nat) (h : setB n f k = false) : setB n f (k + d) = false := by
  induction d with
  | zero => exact h
  | succ d ih => rw [← Nat.add_assoc, setB, ih]; rfl
theorem setB_at (n : Nat) (f : Nat → Int) (m : Nat) (h : setB n f m = true) (j : Nat) (hj : j < m) : 0 ≤ f j ∧ f j < n := by
  induction m with
  | zero => omega
  | succ m ih =>
    simp only [setB, Bool.and_eq_true, decide_eq_true_eq] at h
    by_cases e : j = m
    · subst e; exact h.1.2
    · exact ih h.1.1 (by omega)
/-- Whether the first m are all free (or all taken). -/
def allB (F : Nat) (f : Nat → Int) (fr : Bool) : Nat → Bool
  | 0 => true
  | m + 1 => allB F f fr m && ((decide (0 ≤ f m) && F.testBit (f m).toNat) == fr)
theorem allB_no (F : Nat) (f : Nat → Int) (fr : Bool) (k d : Nat) (h : allB F f fr k = false) : allB F f fr (k + d) = false := by
  induction d with
  | zero => exact h
  | succ d ih => rw [← Nat.add_assoc, allB, ih]; rfl

theorem ret_b {a b : Bool} (h : a = b) : Ending.returned (.bool a) = .returned (.bool b) := by rw [h]
theorem flipAll_any (b n F g o m cap : Nat) (ao : Option Addr) (f : Nat → Int) (w : World) (h : SetIn w b n F) (hao : 0 < m → ao = some ⟨g, o, none⟩) (hgb : g ≠ b) (hm : m ≤ 140737488355328)
    (hc : ∀ j, j < m → w.cell? ⟨g, o + j, none⟩ = some (.int .i64 (f j))) (hf : ∀ j, j < m → 0 ≤ f j ∧ f j < n) :
    Calls Try.prog 83 #[.pointer (some ⟨b, 0, none⟩), .slice ao m cap] w fun e w' => e = .returned (.tuple #[]) ∧ SetIn w' b n (flipF F f m) ∧ w.grownBy w' (some b) := by
  go_enter Try.func83, Try.ntmps83
  go_wp2
  go_loopg [8] m (fun gk c wr => ∃ k : Nat, k + gk = m ∧ c = .int .i64 k ∧ SetIn wr b n (flipF F f k) ∧ w.grownBy wr (some b))
  case atStart => exact ⟨0, by omega, rfl, h, gr_refl _ _⟩
  case round =>
    obtain ⟨k, hk, rfl, hs, hg⟩ := hrel
    by_cases hlt : k < m
    · have ha := hao (by omega)
      subst ha
      have hck := hg.cell (hc k hlt) (fun e => hgb (Option.some.inj e))
      obtain ⟨q, hq⟩ : ∃ q : Nat, f k = q := ⟨(f k).toNat, by have := hf k hlt; omega⟩
      have hqn : q < n := by have := hf k hlt; omega
      have HQ : Hid (f k = q) := hq
      rw [hq] at hck
      clear hq
      go_wp2_with (go_at_call 77; refine (flip_any b n _ q _ hs hqn).mono ?_; rintro e w' ⟨rfl, hs', hg'⟩)
      go_roundg (m - (k + 1))
      case measure => omega
      case rel => exact ⟨k + 1, by omega, by go_num, by rw [flipF, HQ.out]; exact hs', gr_trans hg hg'⟩
    · have e : k = m := by omega
      subst e
      go_wp2
      go_end0
      exact ⟨rfl, hs, hg⟩

theorem isSet_any (b n F g o m cap : Nat) (ao : Option Addr) (f : Nat → Int) (w : World) (h : SetIn w b n F) (hao : 0 < m → ao = some ⟨g, o, none⟩) (hm : m ≤ 140737488355328)
    (hc : ∀ j, j < m → w.cell? ⟨g, o + j, none⟩ = some (.int .i64 (f j))) :
    Calls Try.prog 81 #[.pointer (some ⟨b, 0, none⟩), .slice ao m cap] w fun e w' => e = .returned (.bool (setB n f m)) ∧ w' = w := by
  go_enter Try.func81, Try.ntmps81
  go_wp2
  go_loopg [9] m (fun gk c wr => ∃ k : Nat, k + gk = m ∧ c = .int .i64 k ∧ setB n f k = true ∧ wr = w)
  case atStart => exact ⟨0, by omega, rfl, rfl, rfl⟩
  case round =>
    obtain ⟨k, hk, rfl, hs, rfl⟩ := hrel
    by_cases hlt : k < m
    · have ha := hao (by omega)
      subst ha
      have hck := hc k hlt
      cases hB : isB n (f k) with
      | false =>
        have HN : Hid (setB n f m = false) := by
          rw [show m = k + 1 + (m - (k + 1)) by omega]
          apply setB_no
          have : (decide (0 ≤ f k) && decide (f k < n)) = false := hB
          rw [setB, this]; simp
        go_wp2_with (go_at_call 90; refine (isNode_any b n F _ _ h).mono ?_; rintro e w' ⟨rfl, rfl⟩; rw [hB])
        go_ret
        exact ⟨ret_b HN.out.symm, rfl⟩
      | true =>
        have hB' : (decide (0 ≤ f k) && decide (f k < n)) = true := hB
        by_cases hk0 : k = 0
        · subst hk0
          have HY : Hid (setB n f (0 + 1) = true) := by simp only [Hid, setB, hB']; rfl
          have hc0 : wr.cell? ⟨g, o, none⟩ = some (.int .i64 (f 0)) := by simpa using hck
          clear hB' hck
          go_wp2_with (go_at_call 90; refine (isNode_any b n F _ _ h).mono ?_; rintro e w' ⟨rfl, rfl⟩; rw [hB])
          go_roundg (m - 1)
          case measure => omega
          case rel => exact ⟨1, by omega, by go_num, HY.out, rfl⟩
        · obtain ⟨j, rfl⟩ : ∃ j, k = j + 1 := ⟨k - 1, by omega⟩
          have hcj := hc j (by omega)
          by_cases hle : f (j + 1) ≤ f j
          · have HN : Hid (setB n f m = false) := by
              rw [show m = j + 1 + 1 + (m - (j + 1 + 1)) by omega]
              apply setB_no
              rw [setB]
              simp
              intro _ _ _
              omega
            clear hB'
            go_wp2_with (go_at_call 90; refine (isNode_any b n F _ _ h).mono ?_; rintro e w' ⟨rfl, rfl⟩; rw [hB])
            go_ret
            exact ⟨ret_b HN.out.symm, rfl⟩
          · have HY : Hid (setB n f (j + 1 + 1) = true) := by
              show setB n f (j + 1 + 1) = true
              rw [setB, hs, hB']
              simp
              omega
            clear hB'
            go_wp2_with (go_at_call 90; refine (isNode_any b n F _ _ h).mono ?_; rintro e w' ⟨rfl, rfl⟩; rw [hB])
            go_roundg (m - (j + 2))
            case measure => omega
            case rel => exact ⟨j + 2, by omega, by go_num, HY.out, rfl⟩
    · have e : k = m := by omega
      subst e
      go_wp2
      go_ret
      exact ⟨ret_b hs.symm, rfl⟩

/-- What Claim (of free ones) and Give (of taken ones) answer. -/
def turnE (n F : Nat) (f : Nat → Int) (m : Nat) (fr : Bool) : Int := if setB n f m then (if allB F f fr m then 0 else 21) else 22
/-- The set behind it. -/
def turnF (n F : Nat) (f : Nat → Int) (m : Nat) (fr : Bool) : Nat := if setB n f m then (if allB F f fr m then flipF F f m else F) else F

theorem turn_any (b n F g o m cap : Nat) (ao : Option Addr) (f : Nat → Int) (fr : Bool) (w : World) (h : SetIn w b n F) (hao : 0 < m → ao = some ⟨g, o, none⟩) (hgb : g ≠ b) (hm : m ≤ 140737488355328)
    (hc : ∀ j, j < m → w.cell? ⟨g, o + j, none⟩ = some (.int .i64 (f j))) :
    Calls Try.prog 66 #[.pointer (some ⟨b, 0, none⟩), .slice ao m cap, .bool fr] w fun e w' => e = .returned (.int .i64 (turnE n F f m fr)) ∧ SetIn w' b n (turnF n F f m fr) ∧ w.grownBy w' (some b) := by
  cases hS : setB n f m with
  | false =>
    have e1 : turnE n F f m fr = 22 := by simp [turnE, hS]
    have e2 : turnF n F f m fr = F := by simp [turnF, hS]
    rw [e1, e2]
    go_enter Try.func66, Try.ntmps66
    go_wp2_with (go_at_call 81; refine (isSet_any b n F g o m cap ao f _ h hao hm hc).mono ?_; rintro e w' ⟨rfl, rfl⟩; rw [hS])
    go_ret
    exact ⟨rfl, h, gr_refl _ _⟩
  | true =>
    have HE : Hid ((allB F f fr m = true → turnE n F f m fr = 0 ∧ turnF n F f m fr = flipF F f m) ∧ (allB F f fr m = false → turnE n F f m fr = 21 ∧ turnF n F f m fr = F)) :=
      ⟨fun e => by simp [turnE, turnF, hS, e], fun e => by simp [turnE, turnF, hS, e]⟩
    go_enter Try.func66, Try.ntmps66
    go_wp2_with (go_at_call 81; refine (isSet_any b n F g o m cap ao f _ h hao hm hc).mono ?_; rintro e w1 ⟨rfl, rfl⟩; rw [hS])
    go_loopg [15] m (fun gk c wr => ∃ k : Nat, k + gk = m ∧ c = .int .i64 k ∧ allB F f fr k = true ∧ wr = w1)
    case atStart => exact ⟨0, by omega, rfl, rfl, rfl⟩
    case round =>
      obtain ⟨k, hk, rfl, hs, rfl⟩ := hrel
      by_cases hlt : k < m
      · have ha := hao (by omega)
        subst ha
        have hck := hc k hlt
        cases hB : hasB F (f k) == fr with
        | false =>
          have HN : Hid (allB F f fr m = false) := by
            rw [show m = k + 1 + (m - (k + 1)) by omega]
            apply allB_no
            have : ((decide (0 ≤ f k) && F.testBit (f k).toNat) == fr) = false := hB
            rw [allB, this]; simp
          go_wp2_with (go_at_call 82; refine (has_any b n F _ _ h).mono ?_; rintro e w' ⟨rfl, rfl⟩)
          go_ret
          exact ⟨ret_i (HE.out.2 HN.out).1.symm, by rw [(HE.out.2 HN.out).2]; exact h, gr_refl _ _⟩
        | true =>
          have HY : Hid (allB F f fr (k + 1) = true) := by
            have : ((decide (0 ≤ f k) && F.testBit (f k).toNat) == fr) = true := hB
            show allB F f fr (k + 1) = true
            rw [allB, this, hs]; rfl
          go_wp2_with (go_at_call 82; refine (has_any b n F _ _ h).mono ?_; rintro e w' ⟨rfl, rfl⟩)
          go_roundg (m - (k + 1))
          case measure => omega
          case rel => exact ⟨k + 1, by omega, by go_num, HY.out, rfl⟩
      · have e : k = m := by omega
        subst e
        have hf := setB_at n f k hS
        have HA : Hid (allB F f fr k = true) := hs
        clear hs hS
        go_wp2_with (go_at_call 83; refine (flipAll_any b n F g o k cap ao f _ h hao hgb hm hc hf).mono ?_; rintro e w2 ⟨rfl, hs2, hg2⟩)
        go_ret
        exact ⟨ret_i (HE.out.1 HA.out).1.symm, by rw [(HE.out.1 HA.out).2]; exact hs2, hg2⟩

theorem claim_any (b n F g o m cap : Nat) (ao : Option Addr) (f : Nat → Int) (w : World) (h : SetIn w b n F) (hao : 0 < m → ao = some ⟨g, o, none⟩) (hgb : g ≠ b) (hm : m ≤ 140737488355328)
    (hc : ∀ j, j < m → w.cell? ⟨g, o + j, none⟩ = some (.int .i64 (f j))) :
    Calls Try.prog 44 #[.pointer (some ⟨b, 0, none⟩), .slice ao m cap] w fun e w' => e = .returned (.int .i64 (turnE n F f m true)) ∧ SetIn w' b n (turnF n F f m true) ∧ w.grownBy w' (some b) := by
  go_enter Try.func44, Try.ntmps44
  go_wp2_with (go_at_call 66; refine (turn_any b n F g o m cap ao f true _ h hao hgb hm hc).mono ?_; rintro e w2 ⟨rfl, hs2, hg2⟩)
  go_ret
  exact ⟨rfl, hs2, hg2⟩
theorem give_any (b n F g o m cap : Nat) (ao : Option Addr) (f : Nat → Int) (w : World) (h : SetIn w b n F) (hao : 0 < m → ao = some ⟨g, o, none⟩) (hgb : g ≠ b) (hm : m ≤ 140737488355328)
    (hc : ∀ j, j < m → w.cell? ⟨g, o + j, none⟩ = some (.int .i64 (f j))) :
    Calls Try.prog 45 #[.pointer (some ⟨b, 0, none⟩), .slice ao m cap] w fun e w' => e = .returned (.int .i64 (turnE n F f m false)) ∧ SetIn w' b n (turnF n F f m false) ∧ w.grownBy w' (some b) := by
  go_enter Try.func45, Try.ntmps45
  go_wp2_with (go_at_call 66; refine (turn_any b n F g o m cap ao f false _ h hao hgb hm hc).mono ?_; rintro e w2 ⟨rfl, hs2, hg2⟩)
  go_ret
  exact ⟨rfl, hs2, hg2⟩
theorem full_bit (n k : Nat) : (2 ^ n - 1).testBit k = decide (k < n) := Nat.testBit_two_pow_sub_one n k
theorem full_succ (k : Nat) : (2 ^ k - 1) ^^^ 2 ^ k = 2 ^ (k + 1) - 1 := by
  apply Nat.eq_of_testBit_eq
  intro j
  rw [Nat.testBit_xor, full_bit, full_bit, Nat.testBit_two_pow]
  by_cases h : j < k
  · simp [h, show ¬ k = j by omega, show j < k + 1 by omega]
  · by_cases e : k = j
    · subst e; simp
    · simp [h, e, show ¬ j < k + 1 by omega]
theorem new_no (n : Int) (w : World) (h : n < 1 ∨ 256 < n) : Calls Try.prog 61 #[.int .i64 n] w fun e w' => e = .returned (.tuple #[.pointer none, .int .i64 20]) ∧ w' = w := by
  by_cases h1 : n < 1
  · go_enter Try.func61, Try.ntmps61
    go_wp2
    go_ret2
    exact ⟨rfl, rfl⟩
  · have h2 : 256 < n := by omega
    go_enter Try.func61, Try.ntmps61
    go_wp2
    go_ret2
    exact ⟨rfl, rfl⟩

theorem new_set (n : Nat) (w : World) (h1 : 1 ≤ n) (h2 : n ≤ 256) : SetIn (w.alloc (.cells #[.int .i64 n, .int .u64 0, .int .u64 0, .int .u64 0, .int .u64 0] 112)) w.heap.size n 0 := by
  exact ⟨by rw [heap_alloc_new]; simp [setCells, wd], h1, h2, Nat.two_pow_pos n⟩
theorem new_yes (n : Nat) (w : World) (h1 : 1 ≤ n) (h2 : n ≤ 256) : Calls Try.prog 61 #[.int .i64 n] w fun e w' => e = .returned (.tuple #[.pointer (some ⟨w.heap.size, 0, none⟩), .int .i64 0]) ∧ SetIn w' w.heap.size n (2 ^ n - 1) ∧ Below w.heap.size w w' := by
  have HS : Hid (SetIn (w.alloc (.cells #[.int .i64 n, .int .u64 0, .int .u64 0, .int .u64 0, .int .u64 0] 112)) w.heap.size n 0) := new_set n w h1 h2
  go_enter Try.func61, Try.ntmps61
  go_wp2
  go_loopg [16] n (fun gk c wr => ∃ k : Nat, k + gk = n ∧ c = .int .i64 k ∧ SetIn wr w.heap.size n (2 ^ k - 1) ∧ Below w.heap.size w wr)
  case atStart => exact ⟨0, by omega, rfl, HS.out, (Below.refl _ _).alloc (Nat.le_refl _) _⟩
  case round =>
    obtain ⟨k, hk, rfl, hs, hb⟩ := hrel
    by_cases hlt : k < n
    · go_wp2_with (go_at_call 77; refine (flip_any w.heap.size n _ k _ hs hlt).mono ?_; rintro e w' ⟨rfl, hs', hg'⟩; rw [full_succ] at hs')
      go_roundg (n - (k + 1))
      case measure => omega
      case rel => exact ⟨k + 1, by omega, by go_num, hs', hb.grown hg' hb.size (fun j hj => by simp at hj; omega)⟩
    · have e : k = n := by omega
      subst e
      go_wp2
      go_ret2
      exact ⟨rfl, hs, hb⟩

end Nd

/-- What Claim and Give leave alone. -/
theorem gr_chg {w w' : World} {b : Nat} (h : w.grownBy w' (some b)) : Chg (fun i => i = b) w w' := ⟨h.os, h.tape, h.output, h.size, fun i hi hne => h.block i hi (fun e => hne (Option.some.inj e))⟩
end Go.Proofs.Ytbcinapnnlfnbaa
namespace Go.Proofs.Ytbcinapnnlfnbaa
open Go.RowKit Wd Tr Cg Lg

namespace Nd
def nthI (xs : List Int) (j : Nat) : Int := xs.getD j 0
theorem nthI_at {xs : List Int} {j : Nat} {x : Int} (h : xs[j]? = some x) : nthI xs j = x := by simp [nthI, h]
theorem setB_iff (n : Nat) (f : Nat → Int) : ∀ m, setB n f m = true ↔ (∀ j, j < m → 0 ≤ f j ∧ f j < n) ∧ ∀ j, j + 1 < m → f j < f (j + 1)
  | 0 => by simp [setB]
  | m + 1 => by
    simp only [setB, Bool.and_eq_true, Bool.or_eq_true, decide_eq_true_eq, setB_iff n f m]
    constructor
    · rintro ⟨⟨⟨h1, h2⟩, h3⟩, h4⟩
      refine ⟨fun j hj => ?_, fun j hj => ?_⟩
      · by_cases e : j = m
        · subst e; exact h3
        · exact h1 j (by omega)
      · by_cases e : j + 1 = m
        · subst e; rcases h4 with h4 | h4
          · omega
          · exact h4
        · exact h2 j (by omega)
    · rintro ⟨h1, h2⟩
      refine ⟨⟨⟨fun j hj => h1 j (by omega), fun j hj => h2 j (by omega)⟩, h1 m (by omega)⟩, ?_⟩
      rcases m with _ | m
      · exact .inl rfl
      · exact .inr (h2 m (by omega))
theorem adj_lt {f : Nat → Int} {m : Nat} (h : ∀ j, j + 1 < m → f j < f (j + 1)) : ∀ d i, i + d + 1 < m → f i < f (i + d + 1)
  | 0, i, hi => h i hi
  | d + 1, i, hi => Int.lt_trans (adj_lt h d i (by omega)) (h (i + d + 1) (by omega))
theorem setB_rise (n : Nat) (xs : List Int) : setB n (nthI xs) xs.length = riseB n (-1) xs := by
  rw [Bool.eq_iff_iff, setB_iff, rise_iff]
  constructor
  · rintro ⟨h1, h2⟩
    refine ⟨fun x hx => ?_, List.pairwise_iff_getElem.2 fun i j hi hj hij => ?_⟩
    · obtain ⟨k, hk⟩ := List.getElem?_of_mem hx
      have h3 := h1 k (List.getElem?_eq_some_iff.1 hk).1
      rw [nthI_at hk] at h3
      omega
    · have h3 := adj_lt h2 (j - i - 1) i (by omega)
      rw [show i + (j - i - 1) + 1 = j by omega, nthI_at (List.getElem?_eq_getElem hi), nthI_at (List.getElem?_eq_getElem hj)] at h3
      exact h3
  · rintro ⟨h1, h2⟩
    refine ⟨fun j hj => ?_, fun j hj => ?_⟩
    · have h3 := h1 xs[j] (List.getElem_mem hj)
      rw [nthI_at (List.getElem?_eq_getElem hj)]
      omega
    · rw [nthI_at (List.getElem?_eq_getElem (by omega : j < xs.length)), nthI_at (List.getElem?_eq_getElem hj)]
      exact List.pairwise_iff_getElem.1 h2 j (j + 1) (by omega) hj (by omega)
theorem allB_iff (F : Nat) (f : Nat → Int) (fr : Bool) : ∀ m, allB F f fr m = true ↔ ∀ j, j < m → (decide (0 ≤ f j) && F.testBit (f j).toNat) = fr
  | 0 => by simp [allB]
  | m + 1 => by
    simp only [allB, Bool.and_eq_true, beq_iff_eq, allB_iff F f fr m]
    constructor
    · rintro ⟨h1, h2⟩ j hj
      by_cases e : j = m
      · subst e; exact h2
      · exact h1 j (by omega)
    · intro h
      exact ⟨fun j hj => h j (by omega), h m (by omega)⟩
theorem allB_mem (F : Nat) (xs : List Int) (fr : Bool) (h0 : ∀ x ∈ xs, 0 ≤ x) : allB F (nthI xs) fr xs.length = true ↔ ∀ x ∈ xs, F.testBit x.toNat = fr := by
  rw [allB_iff]
  constructor
  · intro h x hx
    obtain ⟨k, hk⟩ := List.getElem?_of_mem hx
    have h1 := h k (List.getElem?_eq_some_iff.1 hk).1
    rw [nthI_at hk, decide_eq_true (h0 x hx), Bool.true_and] at h1
    exact h1
  · intro h j hj
    have hm := List.getElem_mem hj
    rw [nthI_at (List.getElem?_eq_getElem hj), decide_eq_true (h0 _ hm), Bool.true_and]
    exact h _ hm
theorem flip_bit (F : Nat) (xs : List Int) (h0 : ∀ x ∈ xs, 0 ≤ x) (hp : xs.Pairwise (· < ·)) (k : Nat) : ∀ m, m ≤ xs.length → (flipF F (nthI xs) m).testBit k = (F.testBit k ^^ decide ((k : Int) ∈ xs.take m))
  | 0, _ => by simp [flipF]
  | m + 1, hm => by
    have hx := List.getElem?_eq_getElem (show m < xs.length by omega)
    have hpos := h0 _ (List.getElem_mem (show m < xs.length by omega))
    have hnot : xs[m] ∉ xs.take m := by
      intro h
      obtain ⟨i, hi, he⟩ := List.mem_iff_getElem.1 h
      rw [List.length_take] at hi
      rw [List.getElem_take] at he
      have := List.pairwise_iff_getElem.1 hp i m (by omega) (by omega) (by omega)
      omega
    rw [flipF, Nat.testBit_xor, flip_bit F xs h0 hp k m (by omega), Nat.testBit_two_pow, nthI_at hx, List.take_succ_eq_append_getElem (by omega)]
    by_cases e : (k : Int) = xs[m]
    · have e1 : xs[m].toNat = k := by omega
      rw [← e] at hnot
      rw [decide_eq_false hnot, decide_eq_true e1, decide_eq_true (by rw [e]; exact List.mem_append_right _ (List.mem_singleton.2 rfl))]
      simp
    · have e1 : ¬ xs[m].toNat = k := by omega
      rw [decide_eq_false e1]
      have : decide ((k : Int) ∈ xs.take m ++ [xs[m]]) = decide ((k : Int) ∈ xs.take m) := by
        congr 1
        rw [List.mem_append, List.mem_singleton]
        exact propext ⟨fun h => h.elim id (fun h => absurd h e), .inl⟩
      rw [this]
      simp
theorem rise_pos {n : Int} {xs : List Int} (h : riseB n (-1) xs = true) : ∀ x ∈ xs, 0 ≤ x := fun x hx => by have := rise_mem h x hx; omega
/-- Claim of a set. -/
theorem claim_ok {n F : Nat} {xs : List Int} (h : riseB n (-1) xs = true) (hf : ∀ x ∈ xs, F.testBit x.toNat = true) : turnE n F (nthI xs) xs.length true = 0 ∧ ∀ k, (turnF n F (nthI xs) xs.length true).testBit k = (F.testBit k && !decide ((k : Int) ∈ xs)) := by
  have e1 : setB n (nthI xs) xs.length = true := by rw [setB_rise]; exact h
  have e2 : allB F (nthI xs) true xs.length = true := (allB_mem F xs true (rise_pos h)).2 hf
  refine ⟨by simp [turnE, e1, e2], fun k => ?_⟩
  simp only [turnF, e1, e2, if_true]
  rw [flip_bit F xs (rise_pos h) (rise_up h) k _ (Nat.le_refl _), List.take_of_length_le (Nat.le_refl _)]
  by_cases hk : (k : Int) ∈ xs
  · have := hf _ hk
    rw [Int.toNat_natCast] at this
    rw [this, decide_eq_true hk]; rfl
  · rw [decide_eq_false hk]; simp
theorem claim_no {n F : Nat} {xs : List Int} (h : riseB n (-1) xs = false ∨ ∃ x ∈ xs, F.testBit x.toNat = false) : turnE n F (nthI xs) xs.length true ≠ 0 := by
  unfold turnE
  rw [setB_rise]
  cases hr : riseB n (-1) xs with
  | false => simp
  | true =>
    rcases h with h | ⟨x, hx, h⟩
    · rw [hr] at h; cases h
    · have : allB F (nthI xs) true xs.length = false := by
        cases ha : allB F (nthI xs) true xs.length with
        | false => rfl
        | true => have := (allB_mem F xs true (rise_pos hr)).1 ha x hx; rw [h] at this; cases this
      simp [this]
/-- Give of a set. -/
theorem give_ok {n F : Nat} {xs : List Int} (h : riseB n (-1) xs = true) (hf : ∀ x ∈ xs, F.testBit x.toNat = false) (k : Nat) : (turnF n F (nthI xs) xs.length false).testBit k = (F.testBit k || decide ((k : Int) ∈ xs)) := by
  have e1 : setB n (nthI xs) xs.length = true := by rw [setB_rise]; exact h
  have e2 : allB F (nthI xs) false xs.length = true := (allB_mem F xs false (rise_pos h)).2 hf
  simp only [turnF, e1, e2, if_true]
  rw [flip_bit F xs (rise_pos h) (rise_up h) k _ (Nat.le_refl _), List.take_of_length_le (Nat.le_refl _)]
  by_cases hk : (k : Int) ∈ xs
  · have := hf _ hk
    rw [Int.toNat_natCast] at this
    rw [this, decide_eq_true hk]; rfl
  · rw [decide_eq_false hk]; simp
theorem full_free {n : Nat} {xs : List Int} (h : riseB n (-1) xs = true) : ∀ x ∈ xs, (2 ^ n - 1).testBit x.toNat = true := fun x hx => by
  have := rise_mem h x hx
  rw [full_bit, decide_eq_true (by omega)]
end Nd
section
variable {x : World} {mb n F : Nat} {sa : Option Addr} {xs : List Int} {sc : Nat}
theorem ints_by (hI : IntsAt x sa xs) (hlow : ∀ ad, sa = some ad → 0 < xs.length → ad.block < mb) : ∃ g o, (0 < xs.length → sa = some ⟨g, o, none⟩) ∧ g ≠ mb ∧ ∀ j, j < xs.length → x.cell? ⟨g, o + j, none⟩ = some (.int .i64 (Nd.nthI xs j)) := by
  obtain ⟨g, o, hg, hc⟩ := hI
  by_cases h : 0 < xs.length
  · have e := hg h
    refine ⟨g, o, hg, Nat.ne_of_lt (hlow _ e h), fun j hj => ?_⟩
    rw [Nd.nthI_at (List.getElem?_eq_getElem hj)]
    exact hc j _ (List.getElem?_eq_getElem hj)
  · exact ⟨mb + 1, 0, fun e => absurd e h, by omega, fun j hj => by omega⟩
theorem claim_ints (hS : Nd.SetIn x mb n F) (hI : IntsAt x sa xs) (hlow : ∀ ad, sa = some ad → 0 < xs.length → ad.block < mb) (hl : xs.length ≤ 140737488355328) :
    Calls Try.prog 44 #[.pointer (some ⟨mb, 0, none⟩), .slice sa xs.length sc] x fun e x' => e = .returned (.int .i64 (Nd.turnE n F (Nd.nthI xs) xs.length true)) ∧ Nd.SetIn x' mb n (Nd.turnF n F (Nd.nthI xs) xs.length true) ∧ Chg (fun i => i = mb) x x' := by
  obtain ⟨g, o, h1, h2, h3⟩ := ints_by hI hlow
  refine (Nd.claim_any mb n F g o xs.length sc sa (Nd.nthI xs) x hS h1 h2 hl h3).mono ?_
  rintro e w' ⟨rfl, a, b⟩
  exact ⟨rfl, a, gr_chg b⟩
theorem give_ints (hS : Nd.SetIn x mb n F) (hI : IntsAt x sa xs) (hlow : ∀ ad, sa = some ad → 0 < xs.length → ad.block < mb) (hl : xs.length ≤ 140737488355328) :
    Calls Try.prog 45 #[.pointer (some ⟨mb, 0, none⟩), .slice sa xs.length sc] x fun e x' => e = .returned (.int .i64 (Nd.turnE n F (Nd.nthI xs) xs.length false)) ∧ Nd.SetIn x' mb n (Nd.turnF n F (Nd.nthI xs) xs.length false) ∧ Chg (fun i => i = mb) x x' := by
  obtain ⟨g, o, h1, h2, h3⟩ := ints_by hI hlow
  refine (Nd.give_any mb n F g o xs.length sc sa (Nd.nthI xs) x hS h1 h2 hl h3).mono ?_
  rintro e w' ⟨rfl, a, b⟩
  exact ⟨rfl, a, gr_chg b⟩
end
end Go.Proofs.Ytbcinapnnlfnbaa
