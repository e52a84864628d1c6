/-
  THE CONTRACTS OF math/bits' two functions and of package nodes' leaves: a set's block in memory; flip, isNode, Has, Free.
-/
import Derived.Test.YtmfecocbadekhaaDoorChecked
import Derived.Test.YtmfecocbadekhaaDoorPop
import Derived.WalkKit
import Derived.WalkLawsBesides
import Derived.Laws.Bits64b
import Derived.Laws.Bits128
import Derived.RowKit3
namespace Go.Proofs.YtmfecocbadekhaaDoor
open Go.RowKit Nd

theorem ret_i {k : IntKind} {a b : Int} (h : a = b) : Ending.returned (.int k a) = .returned (.int k b) := by rw [h]
theorem and_lit (a M : Nat) (m : Int) (hm : m = (M : Int)) (ha : a < 18446744073709551616) (hM : M < 18446744073709551616) : bits .and .u64 (a : Int) m = ((a &&& M : Nat) : Int) := by
  rw [hm]; exact bits_and_u64_nat a M ha hM
theorem and_lit_div (a d M : Nat) (D m : Int) (hD : D = (d : Int)) (hm : m = (M : Int)) (ha : a < 18446744073709551616) (hM : M < 18446744073709551616) : bits .and .u64 ((a : Int) / D) m = ((a / d &&& M : Nat) : Int) := by
  rw [hD, hm, ← Int.natCast_ediv]
  exact bits_and_u64_nat (a / d) M (Nat.lt_of_le_of_lt (Nat.div_le_self a d) ha) hM

set_option maxHeartbeats 1000000 in
theorem ones_any (x : Nat) (hx : x < 18446744073709551616) (w : World) :
    Calls Tryd.prog 34 #[.int .u64 x] w fun e w' => e = .returned (.int .i64 (pop x)) ∧ w' = w := by
  obtain ⟨x1, x2, x3, e1, l1, e2, l2, l3, e3, c0, c1, c2, c3, c4, c5, c6, c7, hc, g0, g1, g2, g3, g4, g5, g6, g7, hp⟩ := pop_steps x hx
  obtain ⟨x4, x5, x6, e4, e5, e6, l4, l5, l6, hr⟩ := pop_rest x3 c0 c1 c2 c3 c4 c5 c6 c7 hc g0 g1 g2 g3 g4 g5 g6 g7
  rw [show pop x = x6 % 128 by omega]
  clear hp hr hc g0 g1 g2 g3 g4 g5 g6 g7
  have k1 : IntKind.u64.wrap (bits .and .u64 ((x : Int) / 2) 6148914691236517205 + bits .and .u64 (x : Int) 6148914691236517205) = (x1 : Int) := by
    rw [and_lit_div x 2 6148914691236517205 2 6148914691236517205 rfl rfl hx (by decide), and_lit x 6148914691236517205 6148914691236517205 rfl hx (by decide), IntKind.wrap_u64]
    omega
  have k2 : IntKind.u64.wrap (bits .and .u64 ((x1 : Int) / 4) 3689348814741910323 + bits .and .u64 (x1 : Int) 3689348814741910323) = (x2 : Int) := by
    rw [and_lit_div x1 4 3689348814741910323 4 3689348814741910323 rfl rfl l1 (by decide), and_lit x1 3689348814741910323 3689348814741910323 rfl l1 (by decide), IntKind.wrap_u64]
    omega
  have k3 : bits .and .u64 (IntKind.u64.wrap ((x2 : Int) / 16 + (x2 : Int))) 1085102592571150095 = (x3 : Int) := by
    rw [IntKind.wrap_u64, show ((x2 : Int) / 16 + (x2 : Int)) % 18446744073709551616 = ((x2 / 16 + x2 : Nat) : Int) by omega, and_lit (x2 / 16 + x2) 1085102592571150095 1085102592571150095 rfl l3 (by decide), e3]
  have k4 : IntKind.u64.wrap ((x3 : Int) + (x3 : Int) / 256) = (x4 : Int) := by rw [IntKind.wrap_u64]; omega
  have k5 : IntKind.u64.wrap ((x4 : Int) + (x4 : Int) / 65536) = (x5 : Int) := by rw [IntKind.wrap_u64]; omega
  have k6 : IntKind.u64.wrap ((x5 : Int) + (x5 : Int) / 4294967296) = (x6 : Int) := by rw [IntKind.wrap_u64]; omega
  clear e1 e2 e3 e4 e5 e6 l1 l2 l3 l4 l5
  go_enter Tryd.func34, Tryd.ntmps34
  go_wp2_with (first | simp only [k1] | simp only [k2] | simp only [k3] | simp only [k4] | simp only [k5] | simp only [k6])
  go_ret
  exact ⟨ret_i (by rw [i64_and127]; omega), rfl⟩

/-- math/bits.deBruijn64tab as it is laid, in its block. -/
def Tab (w : World) : Prop := ∀ j, j < 64 → w.cell? ⟨0, j, none⟩ = some (.int .u8 (Lib.deBruijn64tab.getD j 0 : Nat))

theorem tz_at (x c d : Nat) (w : World) (h0 : ((x : Int) == 0) = false) (hk : IntKind.u64.wrap (bits .and .u64 (x : Int) (IntKind.u64.wrap (-(x : Int))) * 285870213051353865) / 288230376151711744 = (d : Int)) (hd : d < 64) (hc : c < 64) (hw : w.cell? ⟨0, d, none⟩ = some (.int .u8 c)) :
    Calls Tryd.prog 37 #[.int .u64 x] w fun e w' => e = .returned (.int .i64 c) ∧ w' = w := by
  go_enter Tryd.func37, Tryd.ntmps37
  go_wp2_with (simp only [hk])
  go_ret
  exact ⟨rfl, rfl⟩
theorem tz_any (x : Nat) (hx : x < 18446744073709551616) (h0 : x ≠ 0) (w : World) (hT : Tab w) :
    Calls Tryd.prog 37 #[.int .u64 x] w fun e w' => e = .returned (.int .i64 (Lib.ctz 64 x)) ∧ w' = w := by
  obtain ⟨hlow, hc⟩ := Lib.lowest_bit 64 x h0 hx
  obtain ⟨hd, ht⟩ := Lib.deBruijn64_at _ hc
  refine tz_at x (Lib.ctz 64 x) (2 ^ Lib.ctz 64 x * 285870213051353865 % 18446744073709551616 / 288230376151711744) w (by simp; omega) ?_ hd hc ?_
  · have e : IntKind.u64.wrap (-(x : Int)) = ((2 ^ 64 - x : Nat) : Int) := by rw [IntKind.wrap_u64]; omega
    rw [e, bits_and_u64_nat x _ hx (by omega), hlow, IntKind.wrap_u64]
    generalize 2 ^ Lib.ctz 64 x = a
    omega
  · rw [hT _ hd, ht]

namespace Nd
theorem wd_flip (F k i : Nat) : wd (F ^^^ 2 ^ k) i = if k / 64 = i then wd F i ^^^ 2 ^ (k % 64) else wd F i := by
  apply Nat.eq_of_testBit_eq
  intro j
  rw [wd_bit, Nat.testBit_xor, Nat.testBit_two_pow]
  split
  · rw [Nat.testBit_xor, wd_bit, Nat.testBit_two_pow]
    by_cases hj : j < 64
    · by_cases e : k % 64 = j
      · simp [hj, show k = 64 * i + j by omega]
      · simp [hj, e, show ¬ k = 64 * i + j by omega]
    · simp [hj, show ¬ k % 64 = j by omega]
  · rw [wd_bit]
    by_cases hj : j < 64
    · simp [hj, show ¬ k = 64 * i + j by omega]
    · simp [hj]
end Nd

theorem gr_drew {w w' : World} {r : Option Nat} (h : w.grownBy w' r) : w.grownBy w'.drew r := ⟨h.os, h.tape, h.output, h.size, h.block⟩
theorem gr_trans {w w1 w2 : World} {r : Option Nat} (h : w.grownBy w1 r) (k : w1.grownBy w2 r) : w.grownBy w2 r :=
  ⟨k.os.trans h.os, k.tape.trans h.tape, k.output.trans h.output, Nat.le_trans h.size k.size, fun i hi hr => (k.block i (Nat.lt_of_lt_of_le hi h.size) hr).trans (h.block i hi hr)⟩
theorem gr_refl (w : World) (r : Option Nat) : w.grownBy w r := ⟨rfl, rfl, rfl, Nat.le_refl _, fun _ _ _ => rfl⟩
theorem gr_below {w w' : World} (h : Below w.heap.size w w') (r : Option Nat) : w.grownBy w' r := ⟨h.os, h.tape, h.output, h.size, fun i hi _ => h.block i hi⟩
theorem gr_set (w : World) (a : Addr) (v : Value) : w.grownBy (w.setCell a v) (some a.block) :=
  ⟨rfl, rfl, rfl, by simp [World.setCell], fun i _ hr => Below.heap_setCell w a v i (fun e => hr (by rw [e]))⟩
theorem gr_tab {w w' : World} {g : Nat} (h : w.grownBy w' (some g)) (hg : g ≠ 0) (hT : Tab w) : Tab w' := fun j hj => h.cell (hT j hj) (fun e => hg (Option.some.inj e).symm)
theorem below_tab {w w' : World} (h : Below w.heap.size w w') (hT : Tab w) : Tab w' := fun j hj => (gr_below h none).cell (hT j hj) (by simp)

/-- A set's five cells. -/
def setCells (n F : Nat) : Array Value := #[.int .i64 n, .int .u64 (wd F 0), .int .u64 (wd F 1), .int .u64 (wd F 2), .int .u64 (wd F 3)]
/-- In w block b is a set of n nodes; those whose bit in F is 1 are free. -/
structure SetIn (w : World) (b n F : Nat) : Prop where
  tab : Tab w
  nz : b ≠ 0
  blk : w.heap[b]? = some (.cells (setCells n F) 54 (0, 0))
  lo : 1 ≤ n
  hi : n ≤ 256
  top : F < 2 ^ n

section
variable {w : World} {b n F : Nat}
theorem SetIn.size (h : SetIn w b n F) : w.cell? ⟨b, 0, none⟩ = some (.int .i64 n) := by simp [World.cell?, h.blk, setCells]
theorem SetIn.word (h : SetIn w b n F) (i : Nat) (hi : i < 4) : w.cell? ⟨b, 1 + i, none⟩ = some (.int .u64 (wd F i)) := by
  match i, hi with
  | 0, _ => simp [World.cell?, h.blk, setCells]
  | 1, _ => simp [World.cell?, h.blk, setCells]
  | 2, _ => simp [World.cell?, h.blk, setCells]
  | 3, _ => simp [World.cell?, h.blk, setCells]
theorem SetIn.free (h : SetIn w b n F) (o : Nat) : w.frozen? ⟨b, o, none⟩ = false := by simp [World.frozen?, h.blk]
theorem SetIn.lt (h : SetIn w b n F) : b < w.heap.size := (Array.getElem?_eq_some_iff.1 h.blk).1
theorem SetIn.bit (h : SetIn w b n F) (k : Nat) (hk : n ≤ k) : F.testBit k = false := Nat.testBit_lt_two_pow (Nat.lt_of_lt_of_le h.top (Nat.pow_le_pow_right (by decide) hk))

theorem set_cells (F k : Nat) (hk : k < 256) : (setCells n F).setIfInBounds (1 + k / 64) (.int .u64 ((wd F (k / 64) ^^^ 2 ^ (k % 64) : Nat) : Int)) = setCells n (F ^^^ 2 ^ k) := by
  have h : k / 64 < 4 := by omega
  unfold setCells
  simp only [wd_flip]
  match hd : k / 64, h with
  | 0, _ => simp
  | 1, _ => simp
  | 2, _ => simp
  | 3, _ => simp
theorem set_block (h : w.heap[b]? = some (.cells (setCells n F) 54 (0, 0))) (k : Nat) (hk : k < 256) : (w.setCell ⟨b, 1 + k / 64, none⟩ (.int .u64 ((wd F (k / 64) ^^^ 2 ^ (k % 64) : Nat) : Int))).heap[b]? = some (.cells (setCells n (F ^^^ 2 ^ k)) 54 (0, 0)) := by
  obtain ⟨hlt, h'⟩ := Array.getElem?_eq_some_iff.1 h
  show (w.heap.modify b _)[b]? = _
  rw [Array.getElem?_eq_getElem (by simpa using hlt), Array.getElem_modify_self, h']
  simp [set_cells F k hk]
end

theorem flip_bits (F k i : Nat) : bits .xor .u64 (wd F i : Int) (IntKind.u64.wrap (2 ^ (k % 64))) = ((wd F i ^^^ 2 ^ (k % 64) : Nat) : Int) := by
  have h : 2 ^ (k % 64) < 2 ^ 64 := Nat.pow_lt_pow_right (by decide) (by omega)
  have e : IntKind.u64.wrap (2 ^ (k % 64)) = ((2 ^ (k % 64) : Nat) : Int) := by
    have e2 : ((2 ^ (k % 64) : Nat) : Int) = 2 ^ (k % 64) := by simp
    rw [IntKind.wrap_u64, ← e2]
    generalize 2 ^ (k % 64) = y at h
    omega
  rw [e]
  exact bits_xor_u64_nat _ _ (wd_lt F i) h

theorem flip_any (b n F k : Nat) (w : World) (h : SetIn w b n F) (hk : k < n) :
    Calls Tryd.prog 20 #[.pointer (some ⟨b, 0, none⟩), .int .i64 k] w fun e w' => e = .returned (.tuple #[]) ∧ SetIn w' b n (F ^^^ 2 ^ k) ∧ w.grownBy w' (some b) := by
  have hn := h.hi
  have hc := h.word (k / 64) (by omega)
  have hf := h.free (1 + k / 64)
  have hx := flip_bits F k (k / 64)
  have hT := h.tab
  have hb := set_block h.blk k (by omega)
  go_enter Tryd.func20, Tryd.ntmps20
  go_region
  go_end0
  have hg := gr_set w ⟨b, 1 + k / 64, none⟩ (.int .u64 ((wd F (k / 64) ^^^ 2 ^ (k % 64) : Nat) : Int))
  exact ⟨rfl, ⟨gr_tab (gr_drew hg) h.nz hT, h.nz, hb, h.lo, h.hi, Nat.xor_lt_two_pow h.top (Nat.pow_lt_pow_right (by decide) hk)⟩, gr_drew hg⟩

/-- Whether a number is one of n nodes. -/
def isB (n : Nat) (k : Int) : Bool := decide (0 ≤ k) && decide (k < n)
theorem isNode_any (b n F : Nat) (k : Int) (w : World) (h : SetIn w b n F) :
    Calls Tryd.prog 35 #[.pointer (some ⟨b, 0, none⟩), .int .i64 k] w fun e w' => e = .returned (.bool (isB n k)) ∧ w' = w := by
  have hc := h.size
  by_cases h0 : 0 ≤ k
  · go_enter Tryd.func35, Tryd.ntmps35
    go_wp2
    go_ret
    exact ⟨by simp [isB, h0], rfl⟩
  · go_enter Tryd.func35, Tryd.ntmps35
    go_wp2
    go_ret
    exact ⟨by simp [isB]; omega, rfl⟩

/-- Whether a number is a node that is free. -/
def hasB (F : Nat) (k : Int) : Bool := decide (0 ≤ k) && F.testBit k.toNat
theorem has_bits (F k : Nat) : (bits .and .u64 ((wd F (k / 64) : Int) / 2 ^ (k % 64)) 1 == 1) = F.testBit k := by
  have e2 : ((2 ^ (k % 64) : Nat) : Int) = 2 ^ (k % 64) := by simp
  rw [← e2, and_lit_div (wd F (k / 64)) (2 ^ (k % 64)) 1 _ 1 rfl rfl (wd_lt _ _) (by decide), Nat.and_one_is_mod]
  have hb := wd_bit F (k / 64) (k % 64)
  rw [show 64 * (k / 64) + k % 64 = k by omega, decide_eq_true (show k % 64 < 64 by omega), Bool.true_and] at hb
  rw [← hb, Nat.testBit, Nat.shiftRight_eq_div_pow, Nat.and_comm, Nat.and_one_is_mod]
  generalize wd F (k / 64) / 2 ^ (k % 64) = y
  rcases Nat.mod_two_eq_zero_or_one y with h | h <;> simp [h]
theorem has_any (b n F : Nat) (k : Int) (w : World) (h : SetIn w b n F) :
    Calls Tryd.prog 18 #[.pointer (some ⟨b, 0, none⟩), .int .i64 k] w fun e w' => e = .returned (.bool (hasB F k)) ∧ w' = w := by
  cases hB : isB n k with
  | true =>
    obtain ⟨m, rfl⟩ : ∃ m : Nat, k = m := ⟨k.toNat, by simp [isB] at hB; omega⟩
    have hm : m < n := by simp [isB] at hB; omega
    have hn := h.hi
    have hc := h.word (m / 64) (by omega)
    have hb := has_bits F m
    go_enter Tryd.func18, Tryd.ntmps18
    go_wp2_with (go_at_call 35; refine (isNode_any b n F _ _ h).mono ?_; rintro e w' ⟨rfl, rfl⟩; rw [hB])
    go_ret
    exact ⟨by simp [hasB], rfl⟩
  | false =>
    have hv : hasB F k = false := by
      simp only [hasB, Bool.and_eq_false_iff, decide_eq_false_iff_not]
      by_cases h0 : 0 ≤ k
      · right
        apply h.bit
        simp [isB] at hB
        omega
      · exact .inl h0
    rw [hv]
    go_enter Tryd.func18, Tryd.ntmps18
    go_wp2_with (go_at_call 35; refine (isNode_any b n F _ _ h).mono ?_; rintro e w' ⟨rfl, rfl⟩; rw [hB])
    go_ret
    exact ⟨rfl, rfl⟩

theorem SetIn.grown {w w' : World} {b n F g : Nat} (h : SetIn w b n F) (hg : w.grownBy w' (some g)) (h0 : g ≠ 0) (hb : b ≠ g) : SetIn w' b n F :=
  ⟨gr_tab hg h0 h.tab, h.nz, by rw [hg.block b h.lt (fun e => hb (Option.some.inj e))]; exact h.blk, h.lo, h.hi, h.top⟩
theorem SetIn.below {w w' : World} {b n F : Nat} (h : SetIn w b n F) (hg : Below w.heap.size w w') : SetIn w' b n F :=
  ⟨below_tab hg h.tab, h.nz, by rw [hg.block b h.lt]; exact h.blk, h.lo, h.hi, h.top⟩

set_option maxHeartbeats 1000000 in
theorem free_any (b n F : Nat) (w : World) (h : SetIn w b n F) :
    Calls Tryd.prog 17 #[.pointer (some ⟨b, 0, none⟩)] w fun e w' => e = .returned (.int .i64 (lst F).length) ∧ w' = w := by
  have c0 := h.word 0 (by decide)
  have c1 := h.word 1 (by decide)
  have c2 := h.word 2 (by decide)
  have c3 := h.word 3 (by decide)
  have i0 : ∀ w, (Instr.index 52 (.agg #[.int .u64 (wd F 0), .int .u64 (wd F 1), .int .u64 (wd F 2), .int .u64 (wd F 3)]) (.int .i64 0)).run Tryd.prog w = .ok (.int .u64 (wd F 0)) w := fun _ => by kernel_rfl
  have i1 : ∀ w, (Instr.index 52 (.agg #[.int .u64 (wd F 0), .int .u64 (wd F 1), .int .u64 (wd F 2), .int .u64 (wd F 3)]) (.int .i64 1)).run Tryd.prog w = .ok (.int .u64 (wd F 1)) w := fun _ => by kernel_rfl
  have i2 : ∀ w, (Instr.index 52 (.agg #[.int .u64 (wd F 0), .int .u64 (wd F 1), .int .u64 (wd F 2), .int .u64 (wd F 3)]) (.int .i64 2)).run Tryd.prog w = .ok (.int .u64 (wd F 2)) w := fun _ => by kernel_rfl
  have i3 : ∀ w, (Instr.index 52 (.agg #[.int .u64 (wd F 0), .int .u64 (wd F 1), .int .u64 (wd F 2), .int .u64 (wd F 3)]) (.int .i64 3)).run Tryd.prog w = .ok (.int .u64 (wd F 3)) w := fun _ => by kernel_rfl
  have p0 := pop_le (wd F 0)
  have p1 := pop_le (wd F 1)
  have p2 := pop_le (wd F 2)
  have p3 := pop_le (wd F 3)
  have HS : Hid ((lst F).length = pop (wd F 0) + pop (wd F 1) + pop (wd F 2) + pop (wd F 3)) := by
    have f0 := frees_word F 0
    have f1 := frees_word F 1
    have f2 := frees_word F 2
    have f3 := frees_word F 3
    have fz : (frees F (64 * 0)).length = 0 := by simp [frees]
    show (frees F 256).length = _
    simp only [Nat.reduceMul, Nat.reduceAdd] at f0 f1 f2 f3 fz
    omega
  go_enter Tryd.func17, Tryd.ntmps17
  go_wp2
  refine wp_loop_rounds 5 ?_
  rw [rounds_succ]
  go_wp2_with (go_at_call 34; refine (ones_any _ (wd_lt _ _) _).mono ?_; rintro e w' ⟨rfl, rfl⟩)
  rw [rounds_succ]
  go_wp2_with (go_at_call 34; refine (ones_any _ (wd_lt _ _) _).mono ?_; rintro e w' ⟨rfl, rfl⟩)
  rw [rounds_succ]
  go_wp2_with (go_at_call 34; refine (ones_any _ (wd_lt _ _) _).mono ?_; rintro e w' ⟨rfl, rfl⟩)
  rw [rounds_succ]
  go_wp2_with (go_at_call 34; refine (ones_any _ (wd_lt _ _) _).mono ?_; rintro e w' ⟨rfl, rfl⟩)
  rw [rounds_succ]
  go_wp2_with (go_at_call 34; refine (ones_any _ (wd_lt _ _) _).mono ?_; rintro e w' ⟨rfl, rfl⟩)
  go_ret
  exact ⟨ret_i (by rw [HS.out]; omega), rfl⟩
end Go.Proofs.YtmfecocbadekhaaDoor
