/-
  The head of the statements: shown.
-/
import Derived.Test.YtjmiifgofedcnaaCS
import Derived.Test.YtjmiifgofedcnaaDS
import Derived.Test.YtjmiifgofedcnaaNum
namespace Go.Proofs.Ytjmiifgofedcnaa
open Go.RowKit Ag

theorem allS (a : Nat) (w : World) : Calls Try.prog 33 #[.pointer (some ⟨a, 0, none⟩)] w fun e w' => e = .returned (.func (.func 57) #[] #[.pointer (some ⟨w.heap.size, 0, none⟩)]) ∧ w' = w.alloc (.cells #[.pointer (some ⟨a, 0, none⟩)] 60) := by
  go_enter Try.func33, Try.ntmps33
  go_wp2
  go_ret
  exact ⟨rfl, rfl⟩
theorem eql_func (d : Nat) (fn : Fn) (x y : Array Value) (w : World) : (Op.equalIn (d + 1) 50 (.func fn x y) .nilFunc).run Try.prog w = .ok false w := by
  simp [Op.equalIn, run_underlying Try.underlying50]
theorem neq_func (fn : Fn) (x y : Array Value) (w : World) : (binOp .eql 50 (.func fn x y) .nilFunc).run Try.prog w = .ok (.bool false) w := by
  simp only [binOp]
  simp [show Op.equal 50 (.func fn x y) .nilFunc = Op.equalIn (9999 + 1) 50 (.func fn x y) .nilFunc from rfl, eql_func]
theorem Chg.below {K : Nat → Prop} {w0 w w1 : World} {B : Nat} (h : Chg K w w1) (hb : Below B w0 w) (hB : B ≤ w.heap.size) (hK : ∀ i, K i → B ≤ i) : Below B w0 w1 :=
  hb.trans ⟨h.os, h.tape, h.output, h.size, fun k hk => h.block k (by omega) (fun e => by have := hK k e; omega)⟩
theorem kag_fresh {w : World} {B a m : Nat} {ao ao' : Option Addr} (h : Moved w ao ao') (hB : B ≤ w.heap.size) (hK : ∀ k, Kag a m ao k → B ≤ k) : ∀ k, Kag a m ao' k → B ≤ k := by
  intro k hk
  by_cases hlt : k < w.heap.size
  · exact hK k (kag_moved h hlt hk)
  · omega
/-- A new agenda's state. -/
structure Nw (ts te : Nat) (w0 : World) (a m : Nat) (ao : Option Addr) (L : List En) (w : World) : Prop where
  agn : Agn ts te w a m ao L
  bel : Below w0.heap.size w0 w
  new : ∀ k, Kag a m ao k → w0.heap.size ≤ k
section
variable {ts te : Nat} {w0 w w1 : World} {a m : Nat} {ao ao' : Option Addr} {L L' : List En}
theorem Nw.grown (h : Nw ts te w0 a m ao L w) (b : Below w.heap.size w w1) : Nw ts te w0 a m ao L w1 := ⟨h.agn.below b, h.bel.trans (b.mono h.bel.size), h.new⟩
theorem Nw.turned (h : Nw ts te w0 a m ao L w) (r : Agn ts te w1 a m ao' L') (mv : Moved w ao ao') (c : Chg (Kag a m ao) w w1) : Nw ts te w0 a m ao' L' w1 := ⟨r, c.below h.bel h.bel.size h.new, kag_fresh mv h.bel.size h.new⟩
end
theorem own_pair (w : World) (x y : Int) : (w.alloc (.cells #[.int .i64 x, .int .i64 y] 3)).ownsRow 0 3 1 (.slice (some ⟨w.heap.size, 0, none⟩) 2 2) 2 (ints [x, y]) :=
  ⟨rfl, .inr ⟨w.heap.size, 2, #[.int .i64 x, .int .i64 y], rfl, Nat.zero_le _, heap_alloc_new w _, by omega, by decide, rfl, rfl⟩⟩

abbrev strA : ByteArray := { data := #[97] }
abbrev strB : ByteArray := { data := #[98] }
abbrev eA : En := ⟨7, 5, .string strA⟩
abbrev eB : En := ⟨3, 5, .string strB⟩

set_option maxHeartbeats 4000000 in
set_option maxRecDepth 20000 in
theorem shown_any (w : World) : Calls Try.prog 8 #[] w fun e w' => e = .returned (.bool true) ∧ Below w.heap.size w w' := by
  have l1 : insL eA [] = [eA] := rfl
  have l2 : insL eB [eA] = [eB, eA] := rfl
  have l3 : dueL 5 [eB, eA] = [eB, eA] := rfl
  have l4 : restL 5 [eB, eA] = [] := rfl
  have hq := neq_func
  go_enter Try.func8, Try.ntmps8
  go_wp2_with fail
  refine (new_S w).mono ?_
  rintro e w1 ⟨rfl, r1, b1⟩
  have n1 : Nw 95 97 w (w.heap.size + 1) w.heap.size none [] w1 := ⟨r1, b1, by rintro k (rfl | rfl | ⟨g, hg, _⟩) <;> first | omega | cases hg⟩
  clear r1 b1
  generalize w.heap.size + 1 = a at n1 ⊢
  generalize w.heap.size = m at n1 ⊢
  go_wp2_with fail
  refine (allS a _).mono ?_
  rintro e w2 ⟨rfl, hw2⟩
  have n2 := n1.grown (w1 := w2) (by rw [hw2]; exact (Below.refl _ _).alloc (Nat.le_refl _) _)
  clear n1 hw2
  go_wp2_with fail
  refine (add_yes_S n2.agn 7 5 strA rfl rfl (by simp) (by simp)).mono ?_
  rintro e w3 ⟨rfl, ao3, r3, m3, c3⟩
  rw [l1] at r3
  have n3 := n2.turned r3 m3 c3
  clear n2 r3 m3 c3
  go_wp2_with fail
  refine (add_yes_S n3.agn 3 5 strB rfl rfl (by simp) (by simp)).mono ?_
  rintro e w4 ⟨rfl, ao4, r4, m4, c4⟩
  rw [l2] at r4
  have n4 := n3.turned r4 m4 c4
  clear n3 r4 m4 c4
  go_wp2_with fail
  refine (add_no_S n4.agn eA (by simp) 1 { data := #[100] }).mono ?_
  rintro e w5 ⟨rfl, rfl⟩
  go_wp2_with fail
  refine (first_yes_S n4.agn).mono ?_
  rintro e w6 ⟨rfl, g6⟩
  have n6 := n4.grown g6.below
  clear n4 g6
  go_wp2_with fail
  refine (get_yes_S n6.agn eA (by simp)).mono ?_
  rintro e w7 ⟨rfl, g7⟩
  have n7 := n6.grown g7.below
  clear n6 g7
  go_wp2_with fail
  refine (len_S n7.agn).mono ?_
  rintro e w8 ⟨rfl, rfl⟩
  go_wp2_with fail
  refine (clone_S n7.agn (by simp)).mono ?_
  rintro e w9 ⟨c9, m9, ao9, rfl, _, b9, _⟩
  have n9 := n7.grown b9
  clear n7
  go_wp2_with fail
  refine (due_S n9.agn 5 (by simp)).mono ?_
  rintro e w10 ⟨v, rfl, hrow, r10, c10⟩
  rw [l3] at hrow
  rw [l4] at r10
  have n10 := n9.turned r10 (.inl rfl) c10
  clear n9 r10 c10
  have hv := rd_own hrow
  go_wp2_with fail
  refine (numbers_any (xs := [3, 7]) (ys := [3, 7]) (hv.below ((Below.refl _ _).alloc (Nat.le_refl _) _)) (rd_own (own_pair _ 3 7)) (by simp) (by simp)).mono ?_
  rintro e w11 ⟨rfl, g11⟩
  have n11 := (n10.grown ((Below.refl _ _).alloc (Nat.le_refl _) _)).grown g11.below
  clear n10
  go_wp2_with fail
  refine (len_S n11.agn).mono ?_
  rintro e w12 ⟨rfl, rfl⟩
  go_wp2
  go_ret
  exact ⟨rfl, n11.bel⟩
end Go.Proofs.Ytjmiifgofedcnaa
