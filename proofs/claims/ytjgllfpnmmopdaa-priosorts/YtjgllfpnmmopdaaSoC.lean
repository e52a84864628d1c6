/-
  What is before what: the functions that are handed in.
-/
import Derived.Test.YtjgllfpnmmopdaaSoP
namespace Go.Proofs.Ytjgllfpnmmopdaa
open Go.RowKit Tr
theorem clo_Na : Clo (Value.int .i64) 17 [] (fun a b => decide (a < b)) (fun _ => True) (fun _ => False) where
  call := fun x p q _ => by
    show Calls Try.prog 17 #[.int .i64 p, .int .i64 q] x _
    go_enter Try.func17, Try.ntmps17
    go_wp2
    go_ret
    exact ⟨rfl, trivial, Chg.refl _ _⟩
  keep := fun _ _ _ _ _ _ => trivial
  low := fun _ _ _ h => h.elim
theorem clo_Ic : Clo prV 10 [] (fun _ _ => true) (fun _ => True) (fun _ => False) where
  call := fun x p q _ => by
    show Calls Try.prog 10 #[.agg #[.int .i64 p.a, .int .i64 p.b], .agg #[.int .i64 q.a, .int .i64 q.b]] x _
    go_enter Try.func10, Try.ntmps10
    go_wp2
    go_ret
    exact ⟨rfl, trivial, by first | exact Chg.refl _ _ | exact ((Chg.refl _ _).alloc _).alloc _⟩
  keep := fun _ _ _ _ _ _ => trivial
  low := fun _ _ _ h => h.elim
/-- A block of one number. -/
def One1 (x : World) (g : Nat) (v : Int) : Prop := x.heap[g]? = some (.cells #[.int .i64 v] 3 (0, 0))
theorem One1.chg {K : Nat → Prop} {x y : World} {g : Nat} {v : Int} (h : One1 x g v) (c : Chg K x y) (hK : ¬ K g) : One1 y g v := (c.block g (Array.getElem?_eq_some_iff.1 (show x.heap[g]? = _ from h)).1 hK).trans h
theorem One1.lt {x : World} {g : Nat} {v : Int} (h : One1 x g v) : g < x.heap.size := (Array.getElem?_eq_some_iff.1 (show x.heap[g]? = _ from h)).1
theorem One1.cell {x : World} {g : Nat} {v : Int} (h : One1 x g v) : x.cell? ⟨g, 0, none⟩ = some (.int .i64 v) := cells_at (show x.heap[g]? = _ from h) rfl
theorem One1.free {x : World} {g : Nat} {v : Int} (h : One1 x g v) : x.frozen? ⟨g, 0, none⟩ = false := frozen_at (show x.heap[g]? = _ from h)
theorem One1.set {x : World} {g : Nat} {v : Int} (h : One1 x g v) (u : Int) : One1 (x.setCell ⟨g, 0, none⟩ (.int .i64 u)) g u := by
  have := heap_setCell_same x g 0 _ 3 (.int .i64 u) h
  unfold One1
  rw [this]
  rfl
theorem clo_Ia (g : Nat) : Clo prV 8 [.pointer (some ⟨g, 0, none⟩)] (fun a b => decide (a.a < b.a)) (fun x => ∃ v, One1 x g v) (fun j => j = g) where
  call := fun x p q h => by
    obtain ⟨v, hv⟩ := h
    show Calls Try.prog 8 #[.agg #[.int .i64 p.a, .int .i64 p.b], .agg #[.int .i64 q.a, .int .i64 q.b], .pointer (some ⟨g, 0, none⟩)] x _
    obtain ⟨y, hy⟩ : ∃ y, (x.alloc (.cells #[.int .i64 p.a, .int .i64 p.b] 25)).alloc (.cells #[.int .i64 q.a, .int .i64 q.b] 25) = y := ⟨_, rfl⟩
    have hk : Chg (fun j => j = g) x y := by rw [← hy]; exact ((Chg.refl _ _).alloc _).alloc _
    have hvy : One1 y g v := by rw [← hy]; exact hv.chg (((Chg.refl (fun _ => False) _).alloc _).alloc _) (fun e => e)
    have y1 := hvy.cell
    have y2 := hvy.free
    have p1 : y.cell? ⟨x.heap.size, 0, none⟩ = some (.int .i64 p.a) := by rw [← hy]; simp [go_sem]
    have p2 : y.cell? ⟨x.heap.size + 1, 0, none⟩ = some (.int .i64 q.a) := by rw [← hy]; simp [go_sem]
    have hl := hv.lt
    have n1 : ¬ g = x.heap.size := by omega
    have n2 : ¬ g = x.heap.size + 1 := by omega
    have HE : Hid (One1 y g v ∧ Chg (fun j => j = g) x y) := ⟨hvy, hk⟩
    clear hv hvy hk hl
    go_enter Try.func8, Try.ntmps8
    go_wp2
    go_ret
    exact ⟨rfl, ⟨_, HE.out.1.set _⟩, HE.out.2.setCell ⟨g, 0, none⟩ _ (.inl rfl)⟩
  keep := fun x x' K h c hK => by
    obtain ⟨v, hv⟩ := h
    exact ⟨v, hv.chg c (hK g rfl)⟩
  low := fun x h j e => by
    obtain ⟨v, hv⟩ := h
    rw [e]; exact hv.lt
/-- The order that is none. -/
def oddB (odd : Int) (p q : Pr) : Bool := (wrap64 (wrap64 (wrap64 (p.a * 31) + wrap64 (q.b * 17)) + odd)).tmod 3 == 0
theorem clo_Ib (g : Nat) (odd : Int) : ∃ lt, Clo prV 9 [.pointer (some ⟨g, 0, none⟩)] lt (fun x => One1 x g odd) (fun j => j = g) := by
  refine ⟨?lt, ?_, ?_, ?_⟩
  case lt => exact fun p q => oddB odd p q
  · intro x p q hv
    show Calls Try.prog 9 #[.agg #[.int .i64 p.a, .int .i64 p.b], .agg #[.int .i64 q.a, .int .i64 q.b], .pointer (some ⟨g, 0, none⟩)] x _
    obtain ⟨y, hy⟩ : ∃ y, (x.alloc (.cells #[.int .i64 p.a, .int .i64 p.b] 25)).alloc (.cells #[.int .i64 q.a, .int .i64 q.b] 25) = y := ⟨_, rfl⟩
    have hk : Chg (fun j => j = g) x y := by rw [← hy]; exact ((Chg.refl _ _).alloc _).alloc _
    have hvy : One1 y g odd := by rw [← hy]; exact hv.chg (((Chg.refl (fun _ => False) _).alloc _).alloc _) (fun e => e)
    have y1 := hvy.cell
    have p1 : y.cell? ⟨x.heap.size, 0, none⟩ = some (.int .i64 p.a) := by rw [← hy]; simp [go_sem]
    have p2 : y.cell? ⟨x.heap.size + 1, 1, none⟩ = some (.int .i64 q.b) := by rw [← hy]; simp [go_sem]
    have HE : Hid (One1 y g odd ∧ Chg (fun j => j = g) x y) := ⟨hvy, hk⟩
    clear hv hvy hk
    go_enter Try.func9, Try.ntmps9
    go_wp2
    go_ret
    refine ⟨?_, HE.out.1, HE.out.2⟩
    rfl
  · intro x x' K h c hK
    exact h.chg c (hK g rfl)
  · intro x h j e
    rw [e]; exact h.lt
end Go.Proofs.Ytjgllfpnmmopdaa
