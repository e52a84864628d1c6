/-
  cmp.Compare, cmp.Or at two numbers, agenda.inOrder.
-/
import Derived.Test.YtjmiifgofedcnaaRows
import Derived.WalkKit
import Derived.WalkSpells
import Derived.WalkLawsBesides
import Derived.Deep.LoopGhost
import Derived.Deep.DrawnRows
import Derived.Shelf.Abstract
import Derived.RowKit3
import Derived.Sort.Grow
import Derived.Deep.RegionHeld3
namespace Go.Proofs.Ytjmiifgofedcnaa
open Go.RowKit

namespace Ag
/-- How two numbers stand to each other. -/
def cmpV (a b : Int) : Int := if a < b then -1 else if b < a then 1 else 0
/-- The first one, or, if that is 0, the other. -/
def orV (a b : Int) : Int := if a = 0 then b else a
end Ag
open Ag

theorem isNaN_no (a : Int) (w : World) : Calls Try.prog 92 #[.int .i64 a] w fun e w' => e = .returned (.bool false) ∧ w' = w := by
  go_enter Try.func92, Try.ntmps92
  go_wp2
  go_ret
  simp

theorem compare_any (a b : Int) (w : World) : Calls Try.prog 80 #[.int .i64 a, .int .i64 b] w fun e w' => e = .returned (.int .i64 (cmpV a b)) ∧ w' = w := by
  go_enter Try.func80, Try.ntmps80
  by_cases h1 : a < b
  · go_wp2_with (go_at_call 92; refine (isNaN_no _ _).mono ?_; rintro e w' ⟨rfl, rfl⟩)
    go_ret
    simp [cmpV, h1]
  · by_cases h2 : b < a
    · go_wp2_with (go_at_call 92; refine (isNaN_no _ _).mono ?_; rintro e w' ⟨rfl, rfl⟩)
      go_ret
      simp [cmpV, h1, h2]
    · go_wp2_with (go_at_call 92; refine (isNaN_no _ _).mono ?_; rintro e w' ⟨rfl, rfl⟩)
      go_ret
      have e1 : ¬ a < b := by omega
      have e2 : ¬ b < a := by omega
      simp [cmpV, e1, e2]

theorem or_two (b : Nat) (x y : Int) (w : World) (h0 : w.cell? ⟨b, 0, none⟩ = some (.int .i64 x)) (h1 : w.cell? ⟨b, 1, none⟩ = some (.int .i64 y)) :
    Calls Try.prog 79 #[.slice (some ⟨b, 0, none⟩) 2 2] w fun e w' => e = .returned (.int .i64 (orV x y)) ∧ w' = w := by
  go_enter Try.func79, Try.ntmps79
  go_wp2
  go_loopg [8] 2 (fun gk c wr => ∃ k : Nat, k + gk = 2 ∧ c = .int .i64 k ∧ wr = w ∧ (1 ≤ k → x = 0) ∧ (2 ≤ k → y = 0))
  case atStart => exact ⟨0, by omega, rfl, rfl, by omega, by omega⟩
  case round =>
    obtain ⟨k, hk, rfl, rfl, hx, hy⟩ := hrel
    by_cases k0 : k = 0
    · subst k0
      by_cases e : x = 0
      · subst e
        go_wp2
        go_roundg 1
        case measure => omega
        case rel => exact ⟨1, rfl, rfl, rfl, fun _ => trivial, by omega⟩
      · go_wp2
        go_ret
        simp [orV, e]
    · have hx0 := hx (by omega)
      by_cases k1 : k = 1
      · subst k1
        by_cases e : y = 0
        · subst e
          go_wp2
          go_roundg 0
          case measure => omega
          case rel => exact ⟨2, rfl, rfl, rfl, fun _ => hx0, fun _ => trivial⟩
        · go_wp2
          go_ret
          simp [orV, hx0]
      · obtain rfl : k = 2 := by omega
        have hy0 := hy (by omega)
        go_wp2
        go_ret
        simp [orV, hx0, hy0]

namespace Ag
/-- How two stand to each other in the order. -/
def ordV (i a j b : Int) : Int := orV (cmpV a b) (cmpV i j)
end Ag

/-- Nothing but draws and new blocks. -/
def Grew (w w' : World) : Prop := ∃ q os, w' = Sort.grow (w.drewN q) os
/-- While inOrder runs: the two boxes, and the way from w. -/
def OrdS (w : World) (i a j b : Int) (w' : World) : Prop :=
  w'.cell? ⟨w.heap.size, 0, none⟩ = some (.int .i64 i) ∧ w'.cell? ⟨w.heap.size, 1, none⟩ = some (.int .i64 a) ∧ w'.cell? ⟨w.heap.size + 1, 0, none⟩ = some (.int .i64 j) ∧ w'.cell? ⟨w.heap.size + 1, 1, none⟩ = some (.int .i64 b) ∧ Grew w w'

theorem ordS_start (w : World) (i a j b : Int) (t : TypeId) : OrdS w i a j b (((w.alloc (.cells #[.int .i64 i, .int .i64 a] t)).alloc (.cells #[.int .i64 j, .int .i64 b] t)).drew) := by
  have h1 : ((w.alloc (.cells #[.int .i64 i, .int .i64 a] t)).alloc (.cells #[.int .i64 j, .int .i64 b] t)).heap[w.heap.size]? = some (.cells #[.int .i64 i, .int .i64 a] t (0, 0)) := by
    exact (Below.heap_alloc _ _ _ (by simp)).trans (heap_alloc_new w _)
  have h2 : ((w.alloc (.cells #[.int .i64 i, .int .i64 a] t)).alloc (.cells #[.int .i64 j, .int .i64 b] t)).heap[w.heap.size + 1]? = some (.cells #[.int .i64 j, .int .i64 b] t (0, 0)) := by
    have := heap_alloc_new (w.alloc (.cells #[.int .i64 i, .int .i64 a] t)) (.cells #[.int .i64 j, .int .i64 b] t)
    rwa [World.size_alloc] at this
  have hq : ∀ {W : World} {k o : Nat} {cs : Array Value} {v : Value}, W.heap[k]? = some (.cells cs t (0, 0)) → cs[o]? = some v → W.drew.cell? ⟨k, o, none⟩ = some v := fun {W k o cs v} hW hv => by
    unfold World.cell?
    rw [show W.drew.heap = W.heap from rfl, hW]
    exact hv
  refine ⟨hq h1 rfl, hq h1 rfl, hq h2 rfl, hq h2 rfl, 1, #[.cells #[.int .i64 i, .int .i64 a] t, .cells #[.int .i64 j, .int .i64 b] t], ?_⟩
  · rw [Sort.alloc_eq_grow, Sort.alloc_eq_grow, Sort.grow_grow]; rfl
theorem cell_al {w : World} {p : Addr} {v : Value} (h : w.cell? p = some v) (o : Obj) : (w.alloc o).cell? p = some v := (World.cell?_alloc_lt _ _ _ (World.block_lt_of_cell? w p h)).trans h
theorem cell_nw (w : World) {cs : Array Value} {t : TypeId} {k : Nat} {v : Value} (h : cs[k]? = some v) : (w.alloc (.cells cs t)).cell? ⟨w.heap.size, k, none⟩ = some v := by
  unfold World.cell?
  rw [heap_alloc_new w (.cells cs t)]
  exact h
theorem cell_nw3 (w : World) {o1 o2 : Obj} {cs : Array Value} {t : TypeId} {k : Nat} {v : Value} (h : cs[k]? = some v) : (((w.alloc o1).alloc o2).alloc (.cells cs t)).drew.cell? ⟨w.heap.size + 1 + 1, k, none⟩ = some v := by
  have := cell_nw ((w.alloc o1).alloc o2) (t := t) h
  rwa [World.size_alloc, World.size_alloc] at this
theorem grew3 (w : World) (o1 o2 o3 : Obj) : Grew w (((w.alloc o1).alloc o2).alloc o3).drew := ⟨1, #[o1, o2, o3], by rw [Sort.alloc_eq_grow, Sort.alloc_eq_grow, Sort.alloc_eq_grow, Sort.grow_grow, Sort.grow_grow]; rfl⟩
theorem ordS_alloc {w w1 : World} {i a j b : Int} (h : OrdS w i a j b w1) (o : Obj) : OrdS w i a j b (w1.alloc o) := by
  obtain ⟨h1, h2, h3, h4, q, os, rfl⟩ := h
  exact ⟨cell_al h1 _, cell_al h2 _, cell_al h3 _, cell_al h4 _, q, os.push o, by rw [Sort.alloc_eq_grow, Sort.grow_grow, Array.append_singleton]⟩

set_option maxHeartbeats 1000000 in
set_option maxRecDepth 20000 in
theorem inOrder_any (i a j b : Int) (w : World) : Calls Try.prog 68 #[.agg #[.int .i64 i, .int .i64 a], .agg #[.int .i64 j, .int .i64 b]] w fun e w' => e = .returned (.int .i64 (ordV i a j b)) ∧ ∃ q os, w' = Sort.grow (w.drewN q) os := by
  unfold ordV
  have S0 : Hid _ := ordS_start w i a j b 74
  go_enter Try.func68, Try.ntmps68
  go_wp2_with fail
  go_region_held3 (fun w' => w'.cell? ⟨w.heap.size, 0, none⟩ = some (.int .i64 i) ∧ w'.cell? ⟨w.heap.size, 1, none⟩ = some (.int .i64 a) ∧ w'.cell? ⟨w.heap.size + 1, 0, none⟩ = some (.int .i64 j) ∧ w'.cell? ⟨w.heap.size + 1, 1, none⟩ = some (.int .i64 b) ∧ Grew w w') (first | exact S0.out | assumption | exact ordS_alloc (by assumption) _)
    (first
    | (go_at_call 80; refine (compare_any _ _ _).mono ?_; rintro e w' ⟨rfl, rfl⟩)
    | (go_at_call 79; refine (or_two _ (cmpV a b) (cmpV i j) _ ?_ ?_).mono ?_; (refine cell_nw3 _ ?_; rfl); (refine cell_nw3 _ ?_; rfl); rintro e w' ⟨rfl, rfl⟩))
  all_goals
    go_wp2
    go_ret
    exact ⟨rfl, grew3 _ _ _ _⟩
end Go.Proofs.Ytjmiifgofedcnaa
