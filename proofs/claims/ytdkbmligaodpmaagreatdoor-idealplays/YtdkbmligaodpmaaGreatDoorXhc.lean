/-
  CELLS THAT ARE READ while a region draws its order (made by gen16t.py).
  CELLS THAT ARE READ while a region draws its order: more of them (made by gen16u.py).
-/
import Derived.Test.YtdkbmligaodpmaaGreatDoorXri
namespace Go.Proofs.YtdkbmligaodpmaaGreatDoor
open Go.RowKit Wd Tr Cg

theorem cell_low {x y : World} {k : Nat} {a : Addr} {v : Value} (b : Below k x y) (h : x.cell? a = some v) (ha : a.block < k) : y.cell? a = some v := (b.cell (p := a) ha).trans h
def Hc1 (V : World) (a0 : Addr) (v0 : Value) (x : World) : Prop := x.cell? a0 = some v0 ∧ Below V.heap.size V x ∧ V.heap.size ≤ x.heap.size
section
variable {V x y u : World} {a0 : Addr} {v0 : Value}
theorem Hc1.keep (h : Hc1 V a0 v0 x) (b : Below x.heap.size x y) : Hc1 V a0 v0 y := by
  obtain ⟨h0, hB, hz⟩ := h
  exact ⟨cellB b h0, hB.trans (b.mono hz), Nat.le_trans hz b.size⟩
theorem Hc1.low (h : Hc1 V a0 v0 x) (hu : Hc1 V a0 v0 u) (b : Below u.heap.size x y) : Hc1 V a0 v0 y := by
  obtain ⟨h0, hB, hz⟩ := h
  have zu := hu.2.2
  obtain ⟨w0, _, _⟩ := hu
  exact ⟨cell_low b h0 (World.block_lt_of_cell? u _ w0), hB.trans (b.mono zu), Nat.le_trans hz b.size⟩
theorem Hc1.far (h : Hc1 V a0 v0 x) (hu : Hc1 V a0 v0 u) {p q : Value} : Hc1 V a0 v0 ((x.setCell ⟨u.heap.size, 0, none⟩ p).setCell ⟨u.heap.size, 1, none⟩ q) := h.low hu (((Below.refl u.heap.size x).setCell (Nat.le_refl _) _).setCell (Nat.le_refl _) _)
theorem Hc1.bel (h : Hc1 V a0 v0 x) : Below V.heap.size V x := h.2.1
end
def Hc2 (V : World) (a0 a1 : Addr) (v0 v1 : Value) (x : World) : Prop := x.cell? a0 = some v0 ∧ x.cell? a1 = some v1 ∧ Below V.heap.size V x ∧ V.heap.size ≤ x.heap.size
section
variable {V x y u : World} {a0 a1 : Addr} {v0 v1 : Value}
theorem Hc2.keep (h : Hc2 V a0 a1 v0 v1 x) (b : Below x.heap.size x y) : Hc2 V a0 a1 v0 v1 y := by
  obtain ⟨h0, h1, hB, hz⟩ := h
  exact ⟨cellB b h0, cellB b h1, hB.trans (b.mono hz), Nat.le_trans hz b.size⟩
theorem Hc2.low (h : Hc2 V a0 a1 v0 v1 x) (hu : Hc2 V a0 a1 v0 v1 u) (b : Below u.heap.size x y) : Hc2 V a0 a1 v0 v1 y := by
  obtain ⟨h0, h1, hB, hz⟩ := h
  have zu := hu.2.2.2
  obtain ⟨w0, w1, _, _⟩ := hu
  exact ⟨cell_low b h0 (World.block_lt_of_cell? u _ w0), cell_low b h1 (World.block_lt_of_cell? u _ w1), hB.trans (b.mono zu), Nat.le_trans hz b.size⟩
theorem Hc2.far (h : Hc2 V a0 a1 v0 v1 x) (hu : Hc2 V a0 a1 v0 v1 u) {p q : Value} : Hc2 V a0 a1 v0 v1 ((x.setCell ⟨u.heap.size, 0, none⟩ p).setCell ⟨u.heap.size, 1, none⟩ q) := h.low hu (((Below.refl u.heap.size x).setCell (Nat.le_refl _) _).setCell (Nat.le_refl _) _)
theorem Hc2.bel (h : Hc2 V a0 a1 v0 v1 x) : Below V.heap.size V x := h.2.2.1
end
def Hc3 (V : World) (a0 a1 a2 : Addr) (v0 v1 v2 : Value) (x : World) : Prop := x.cell? a0 = some v0 ∧ x.cell? a1 = some v1 ∧ x.cell? a2 = some v2 ∧ Below V.heap.size V x ∧ V.heap.size ≤ x.heap.size
section
variable {V x y u : World} {a0 a1 a2 : Addr} {v0 v1 v2 : Value}
theorem Hc3.keep (h : Hc3 V a0 a1 a2 v0 v1 v2 x) (b : Below x.heap.size x y) : Hc3 V a0 a1 a2 v0 v1 v2 y := by
  obtain ⟨h0, h1, h2, hB, hz⟩ := h
  exact ⟨cellB b h0, cellB b h1, cellB b h2, hB.trans (b.mono hz), Nat.le_trans hz b.size⟩
theorem Hc3.low (h : Hc3 V a0 a1 a2 v0 v1 v2 x) (hu : Hc3 V a0 a1 a2 v0 v1 v2 u) (b : Below u.heap.size x y) : Hc3 V a0 a1 a2 v0 v1 v2 y := by
  obtain ⟨h0, h1, h2, hB, hz⟩ := h
  have zu := hu.2.2.2.2
  obtain ⟨w0, w1, w2, _, _⟩ := hu
  exact ⟨cell_low b h0 (World.block_lt_of_cell? u _ w0), cell_low b h1 (World.block_lt_of_cell? u _ w1), cell_low b h2 (World.block_lt_of_cell? u _ w2), hB.trans (b.mono zu), Nat.le_trans hz b.size⟩
theorem Hc3.far (h : Hc3 V a0 a1 a2 v0 v1 v2 x) (hu : Hc3 V a0 a1 a2 v0 v1 v2 u) {p q : Value} : Hc3 V a0 a1 a2 v0 v1 v2 ((x.setCell ⟨u.heap.size, 0, none⟩ p).setCell ⟨u.heap.size, 1, none⟩ q) := h.low hu (((Below.refl u.heap.size x).setCell (Nat.le_refl _) _).setCell (Nat.le_refl _) _)
theorem Hc3.bel (h : Hc3 V a0 a1 a2 v0 v1 v2 x) : Below V.heap.size V x := h.2.2.2.1
end
def Hc4 (V : World) (a0 a1 a2 a3 : Addr) (v0 v1 v2 v3 : Value) (x : World) : Prop := x.cell? a0 = some v0 ∧ x.cell? a1 = some v1 ∧ x.cell? a2 = some v2 ∧ x.cell? a3 = some v3 ∧ Below V.heap.size V x ∧ V.heap.size ≤ x.heap.size
section
variable {V x y u : World} {a0 a1 a2 a3 : Addr} {v0 v1 v2 v3 : Value}
theorem Hc4.keep (h : Hc4 V a0 a1 a2 a3 v0 v1 v2 v3 x) (b : Below x.heap.size x y) : Hc4 V a0 a1 a2 a3 v0 v1 v2 v3 y := by
  obtain ⟨h0, h1, h2, h3, hB, hz⟩ := h
  exact ⟨cellB b h0, cellB b h1, cellB b h2, cellB b h3, hB.trans (b.mono hz), Nat.le_trans hz b.size⟩
theorem Hc4.low (h : Hc4 V a0 a1 a2 a3 v0 v1 v2 v3 x) (hu : Hc4 V a0 a1 a2 a3 v0 v1 v2 v3 u) (b : Below u.heap.size x y) : Hc4 V a0 a1 a2 a3 v0 v1 v2 v3 y := by
  obtain ⟨h0, h1, h2, h3, hB, hz⟩ := h
  have zu := hu.2.2.2.2.2
  obtain ⟨w0, w1, w2, w3, _, _⟩ := hu
  exact ⟨cell_low b h0 (World.block_lt_of_cell? u _ w0), cell_low b h1 (World.block_lt_of_cell? u _ w1), cell_low b h2 (World.block_lt_of_cell? u _ w2), cell_low b h3 (World.block_lt_of_cell? u _ w3), hB.trans (b.mono zu), Nat.le_trans hz b.size⟩
theorem Hc4.far (h : Hc4 V a0 a1 a2 a3 v0 v1 v2 v3 x) (hu : Hc4 V a0 a1 a2 a3 v0 v1 v2 v3 u) {p q : Value} : Hc4 V a0 a1 a2 a3 v0 v1 v2 v3 ((x.setCell ⟨u.heap.size, 0, none⟩ p).setCell ⟨u.heap.size, 1, none⟩ q) := h.low hu (((Below.refl u.heap.size x).setCell (Nat.le_refl _) _).setCell (Nat.le_refl _) _)
theorem Hc4.bel (h : Hc4 V a0 a1 a2 a3 v0 v1 v2 v3 x) : Below V.heap.size V x := h.2.2.2.2.1
end
def Hc5 (V : World) (a0 a1 a2 a3 a4 : Addr) (v0 v1 v2 v3 v4 : Value) (x : World) : Prop := x.cell? a0 = some v0 ∧ x.cell? a1 = some v1 ∧ x.cell? a2 = some v2 ∧ x.cell? a3 = some v3 ∧ x.cell? a4 = some v4 ∧ Below V.heap.size V x ∧ V.heap.size ≤ x.heap.size
section
variable {V x y u : World} {a0 a1 a2 a3 a4 : Addr} {v0 v1 v2 v3 v4 : Value}
theorem Hc5.keep (h : Hc5 V a0 a1 a2 a3 a4 v0 v1 v2 v3 v4 x) (b : Below x.heap.size x y) : Hc5 V a0 a1 a2 a3 a4 v0 v1 v2 v3 v4 y := by
  obtain ⟨h0, h1, h2, h3, h4, hB, hz⟩ := h
  exact ⟨cellB b h0, cellB b h1, cellB b h2, cellB b h3, cellB b h4, hB.trans (b.mono hz), Nat.le_trans hz b.size⟩
theorem Hc5.low (h : Hc5 V a0 a1 a2 a3 a4 v0 v1 v2 v3 v4 x) (hu : Hc5 V a0 a1 a2 a3 a4 v0 v1 v2 v3 v4 u) (b : Below u.heap.size x y) : Hc5 V a0 a1 a2 a3 a4 v0 v1 v2 v3 v4 y := by
  obtain ⟨h0, h1, h2, h3, h4, hB, hz⟩ := h
  have zu := hu.2.2.2.2.2.2
  obtain ⟨w0, w1, w2, w3, w4, _, _⟩ := hu
  exact ⟨cell_low b h0 (World.block_lt_of_cell? u _ w0), cell_low b h1 (World.block_lt_of_cell? u _ w1), cell_low b h2 (World.block_lt_of_cell? u _ w2), cell_low b h3 (World.block_lt_of_cell? u _ w3), cell_low b h4 (World.block_lt_of_cell? u _ w4), hB.trans (b.mono zu), Nat.le_trans hz b.size⟩
theorem Hc5.far (h : Hc5 V a0 a1 a2 a3 a4 v0 v1 v2 v3 v4 x) (hu : Hc5 V a0 a1 a2 a3 a4 v0 v1 v2 v3 v4 u) {p q : Value} : Hc5 V a0 a1 a2 a3 a4 v0 v1 v2 v3 v4 ((x.setCell ⟨u.heap.size, 0, none⟩ p).setCell ⟨u.heap.size, 1, none⟩ q) := h.low hu (((Below.refl u.heap.size x).setCell (Nat.le_refl _) _).setCell (Nat.le_refl _) _)
theorem Hc5.bel (h : Hc5 V a0 a1 a2 a3 a4 v0 v1 v2 v3 v4 x) : Below V.heap.size V x := h.2.2.2.2.2.1
end
def Hc6 (V : World) (a0 a1 a2 a3 a4 a5 : Addr) (v0 v1 v2 v3 v4 v5 : Value) (x : World) : Prop := x.cell? a0 = some v0 ∧ x.cell? a1 = some v1 ∧ x.cell? a2 = some v2 ∧ x.cell? a3 = some v3 ∧ x.cell? a4 = some v4 ∧ x.cell? a5 = some v5 ∧ Below V.heap.size V x ∧ V.heap.size ≤ x.heap.size
section
variable {V x y u : World} {a0 a1 a2 a3 a4 a5 : Addr} {v0 v1 v2 v3 v4 v5 : Value}
theorem Hc6.keep (h : Hc6 V a0 a1 a2 a3 a4 a5 v0 v1 v2 v3 v4 v5 x) (b : Below x.heap.size x y) : Hc6 V a0 a1 a2 a3 a4 a5 v0 v1 v2 v3 v4 v5 y := by
  obtain ⟨h0, h1, h2, h3, h4, h5, hB, hz⟩ := h
  exact ⟨cellB b h0, cellB b h1, cellB b h2, cellB b h3, cellB b h4, cellB b h5, hB.trans (b.mono hz), Nat.le_trans hz b.size⟩
theorem Hc6.low (h : Hc6 V a0 a1 a2 a3 a4 a5 v0 v1 v2 v3 v4 v5 x) (hu : Hc6 V a0 a1 a2 a3 a4 a5 v0 v1 v2 v3 v4 v5 u) (b : Below u.heap.size x y) : Hc6 V a0 a1 a2 a3 a4 a5 v0 v1 v2 v3 v4 v5 y := by
  obtain ⟨h0, h1, h2, h3, h4, h5, hB, hz⟩ := h
  have zu := hu.2.2.2.2.2.2.2
  obtain ⟨w0, w1, w2, w3, w4, w5, _, _⟩ := hu
  exact ⟨cell_low b h0 (World.block_lt_of_cell? u _ w0), cell_low b h1 (World.block_lt_of_cell? u _ w1), cell_low b h2 (World.block_lt_of_cell? u _ w2), cell_low b h3 (World.block_lt_of_cell? u _ w3), cell_low b h4 (World.block_lt_of_cell? u _ w4), cell_low b h5 (World.block_lt_of_cell? u _ w5), hB.trans (b.mono zu), Nat.le_trans hz b.size⟩
theorem Hc6.far (h : Hc6 V a0 a1 a2 a3 a4 a5 v0 v1 v2 v3 v4 v5 x) (hu : Hc6 V a0 a1 a2 a3 a4 a5 v0 v1 v2 v3 v4 v5 u) {p q : Value} : Hc6 V a0 a1 a2 a3 a4 a5 v0 v1 v2 v3 v4 v5 ((x.setCell ⟨u.heap.size, 0, none⟩ p).setCell ⟨u.heap.size, 1, none⟩ q) := h.low hu (((Below.refl u.heap.size x).setCell (Nat.le_refl _) _).setCell (Nat.le_refl _) _)
theorem Hc6.bel (h : Hc6 V a0 a1 a2 a3 a4 a5 v0 v1 v2 v3 v4 v5 x) : Below V.heap.size V x := h.2.2.2.2.2.2.1
end
def Hc7 (V : World) (a0 a1 a2 a3 a4 a5 a6 : Addr) (v0 v1 v2 v3 v4 v5 v6 : Value) (x : World) : Prop := x.cell? a0 = some v0 ∧ x.cell? a1 = some v1 ∧ x.cell? a2 = some v2 ∧ x.cell? a3 = some v3 ∧ x.cell? a4 = some v4 ∧ x.cell? a5 = some v5 ∧ x.cell? a6 = some v6 ∧ Below V.heap.size V x ∧ V.heap.size ≤ x.heap.size
section
variable {V x y u : World} {a0 a1 a2 a3 a4 a5 a6 : Addr} {v0 v1 v2 v3 v4 v5 v6 : Value}
theorem Hc7.keep (h : Hc7 V a0 a1 a2 a3 a4 a5 a6 v0 v1 v2 v3 v4 v5 v6 x) (b : Below x.heap.size x y) : Hc7 V a0 a1 a2 a3 a4 a5 a6 v0 v1 v2 v3 v4 v5 v6 y := by
  obtain ⟨h0, h1, h2, h3, h4, h5, h6, hB, hz⟩ := h
  exact ⟨cellB b h0, cellB b h1, cellB b h2, cellB b h3, cellB b h4, cellB b h5, cellB b h6, hB.trans (b.mono hz), Nat.le_trans hz b.size⟩
theorem Hc7.low (h : Hc7 V a0 a1 a2 a3 a4 a5 a6 v0 v1 v2 v3 v4 v5 v6 x) (hu : Hc7 V a0 a1 a2 a3 a4 a5 a6 v0 v1 v2 v3 v4 v5 v6 u) (b : Below u.heap.size x y) : Hc7 V a0 a1 a2 a3 a4 a5 a6 v0 v1 v2 v3 v4 v5 v6 y := by
  obtain ⟨h0, h1, h2, h3, h4, h5, h6, hB, hz⟩ := h
  have zu := hu.2.2.2.2.2.2.2.2
  obtain ⟨w0, w1, w2, w3, w4, w5, w6, _, _⟩ := hu
  exact ⟨cell_low b h0 (World.block_lt_of_cell? u _ w0), cell_low b h1 (World.block_lt_of_cell? u _ w1), cell_low b h2 (World.block_lt_of_cell? u _ w2), cell_low b h3 (World.block_lt_of_cell? u _ w3), cell_low b h4 (World.block_lt_of_cell? u _ w4), cell_low b h5 (World.block_lt_of_cell? u _ w5), cell_low b h6 (World.block_lt_of_cell? u _ w6), hB.trans (b.mono zu), Nat.le_trans hz b.size⟩
theorem Hc7.far (h : Hc7 V a0 a1 a2 a3 a4 a5 a6 v0 v1 v2 v3 v4 v5 v6 x) (hu : Hc7 V a0 a1 a2 a3 a4 a5 a6 v0 v1 v2 v3 v4 v5 v6 u) {p q : Value} : Hc7 V a0 a1 a2 a3 a4 a5 a6 v0 v1 v2 v3 v4 v5 v6 ((x.setCell ⟨u.heap.size, 0, none⟩ p).setCell ⟨u.heap.size, 1, none⟩ q) := h.low hu (((Below.refl u.heap.size x).setCell (Nat.le_refl _) _).setCell (Nat.le_refl _) _)
theorem Hc7.bel (h : Hc7 V a0 a1 a2 a3 a4 a5 a6 v0 v1 v2 v3 v4 v5 v6 x) : Below V.heap.size V x := h.2.2.2.2.2.2.2.1
end
def Hc8 (V : World) (a0 a1 a2 a3 a4 a5 a6 a7 : Addr) (v0 v1 v2 v3 v4 v5 v6 v7 : Value) (x : World) : Prop := x.cell? a0 = some v0 ∧ x.cell? a1 = some v1 ∧ x.cell? a2 = some v2 ∧ x.cell? a3 = some v3 ∧ x.cell? a4 = some v4 ∧ x.cell? a5 = some v5 ∧ x.cell? a6 = some v6 ∧ x.cell? a7 = some v7 ∧ Below V.heap.size V x ∧ V.heap.size ≤ x.heap.size
section
variable {V x y u : World} {a0 a1 a2 a3 a4 a5 a6 a7 : Addr} {v0 v1 v2 v3 v4 v5 v6 v7 : Value}
theorem Hc8.keep (h : Hc8 V a0 a1 a2 a3 a4 a5 a6 a7 v0 v1 v2 v3 v4 v5 v6 v7 x) (b : Below x.heap.size x y) : Hc8 V a0 a1 a2 a3 a4 a5 a6 a7 v0 v1 v2 v3 v4 v5 v6 v7 y := by
  obtain ⟨h0, h1, h2, h3, h4, h5, h6, h7, hB, hz⟩ := h
  exact ⟨cellB b h0, cellB b h1, cellB b h2, cellB b h3, cellB b h4, cellB b h5, cellB b h6, cellB b h7, hB.trans (b.mono hz), Nat.le_trans hz b.size⟩
theorem Hc8.low (h : Hc8 V a0 a1 a2 a3 a4 a5 a6 a7 v0 v1 v2 v3 v4 v5 v6 v7 x) (hu : Hc8 V a0 a1 a2 a3 a4 a5 a6 a7 v0 v1 v2 v3 v4 v5 v6 v7 u) (b : Below u.heap.size x y) : Hc8 V a0 a1 a2 a3 a4 a5 a6 a7 v0 v1 v2 v3 v4 v5 v6 v7 y := by
  obtain ⟨h0, h1, h2, h3, h4, h5, h6, h7, hB, hz⟩ := h
  have zu := hu.2.2.2.2.2.2.2.2.2
  obtain ⟨w0, w1, w2, w3, w4, w5, w6, w7, _, _⟩ := hu
  exact ⟨cell_low b h0 (World.block_lt_of_cell? u _ w0), cell_low b h1 (World.block_lt_of_cell? u _ w1), cell_low b h2 (World.block_lt_of_cell? u _ w2), cell_low b h3 (World.block_lt_of_cell? u _ w3), cell_low b h4 (World.block_lt_of_cell? u _ w4), cell_low b h5 (World.block_lt_of_cell? u _ w5), cell_low b h6 (World.block_lt_of_cell? u _ w6), cell_low b h7 (World.block_lt_of_cell? u _ w7), hB.trans (b.mono zu), Nat.le_trans hz b.size⟩
theorem Hc8.far (h : Hc8 V a0 a1 a2 a3 a4 a5 a6 a7 v0 v1 v2 v3 v4 v5 v6 v7 x) (hu : Hc8 V a0 a1 a2 a3 a4 a5 a6 a7 v0 v1 v2 v3 v4 v5 v6 v7 u) {p q : Value} : Hc8 V a0 a1 a2 a3 a4 a5 a6 a7 v0 v1 v2 v3 v4 v5 v6 v7 ((x.setCell ⟨u.heap.size, 0, none⟩ p).setCell ⟨u.heap.size, 1, none⟩ q) := h.low hu (((Below.refl u.heap.size x).setCell (Nat.le_refl _) _).setCell (Nat.le_refl _) _)
theorem Hc8.bel (h : Hc8 V a0 a1 a2 a3 a4 a5 a6 a7 v0 v1 v2 v3 v4 v5 v6 v7 x) : Below V.heap.size V x := h.2.2.2.2.2.2.2.2.1
end
def Hc9 (V : World) (a0 a1 a2 a3 a4 a5 a6 a7 a8 : Addr) (v0 v1 v2 v3 v4 v5 v6 v7 v8 : Value) (x : World) : Prop := x.cell? a0 = some v0 ∧ x.cell? a1 = some v1 ∧ x.cell? a2 = some v2 ∧ x.cell? a3 = some v3 ∧ x.cell? a4 = some v4 ∧ x.cell? a5 = some v5 ∧ x.cell? a6 = some v6 ∧ x.cell? a7 = some v7 ∧ x.cell? a8 = some v8 ∧ Below V.heap.size V x ∧ V.heap.size ≤ x.heap.size
section
variable {V x y u : World} {a0 a1 a2 a3 a4 a5 a6 a7 a8 : Addr} {v0 v1 v2 v3 v4 v5 v6 v7 v8 : Value}
theorem Hc9.keep (h : Hc9 V a0 a1 a2 a3 a4 a5 a6 a7 a8 v0 v1 v2 v3 v4 v5 v6 v7 v8 x) (b : Below x.heap.size x y) : Hc9 V a0 a1 a2 a3 a4 a5 a6 a7 a8 v0 v1 v2 v3 v4 v5 v6 v7 v8 y := by
  obtain ⟨h0, h1, h2, h3, h4, h5, h6, h7, h8, hB, hz⟩ := h
  exact ⟨cellB b h0, cellB b h1, cellB b h2, cellB b h3, cellB b h4, cellB b h5, cellB b h6, cellB b h7, cellB b h8, hB.trans (b.mono hz), Nat.le_trans hz b.size⟩
theorem Hc9.low (h : Hc9 V a0 a1 a2 a3 a4 a5 a6 a7 a8 v0 v1 v2 v3 v4 v5 v6 v7 v8 x) (hu : Hc9 V a0 a1 a2 a3 a4 a5 a6 a7 a8 v0 v1 v2 v3 v4 v5 v6 v7 v8 u) (b : Below u.heap.size x y) : Hc9 V a0 a1 a2 a3 a4 a5 a6 a7 a8 v0 v1 v2 v3 v4 v5 v6 v7 v8 y := by
  obtain ⟨h0, h1, h2, h3, h4, h5, h6, h7, h8, hB, hz⟩ := h
  have zu := hu.2.2.2.2.2.2.2.2.2.2
  obtain ⟨w0, w1, w2, w3, w4, w5, w6, w7, w8, _, _⟩ := hu
  exact ⟨cell_low b h0 (World.block_lt_of_cell? u _ w0), cell_low b h1 (World.block_lt_of_cell? u _ w1), cell_low b h2 (World.block_lt_of_cell? u _ w2), cell_low b h3 (World.block_lt_of_cell? u _ w3), cell_low b h4 (World.block_lt_of_cell? u _ w4), cell_low b h5 (World.block_lt_of_cell? u _ w5), cell_low b h6 (World.block_lt_of_cell? u _ w6), cell_low b h7 (World.block_lt_of_cell? u _ w7), cell_low b h8 (World.block_lt_of_cell? u _ w8), hB.trans (b.mono zu), Nat.le_trans hz b.size⟩
theorem Hc9.far (h : Hc9 V a0 a1 a2 a3 a4 a5 a6 a7 a8 v0 v1 v2 v3 v4 v5 v6 v7 v8 x) (hu : Hc9 V a0 a1 a2 a3 a4 a5 a6 a7 a8 v0 v1 v2 v3 v4 v5 v6 v7 v8 u) {p q : Value} : Hc9 V a0 a1 a2 a3 a4 a5 a6 a7 a8 v0 v1 v2 v3 v4 v5 v6 v7 v8 ((x.setCell ⟨u.heap.size, 0, none⟩ p).setCell ⟨u.heap.size, 1, none⟩ q) := h.low hu (((Below.refl u.heap.size x).setCell (Nat.le_refl _) _).setCell (Nat.le_refl _) _)
theorem Hc9.bel (h : Hc9 V a0 a1 a2 a3 a4 a5 a6 a7 a8 v0 v1 v2 v3 v4 v5 v6 v7 v8 x) : Below V.heap.size V x := h.2.2.2.2.2.2.2.2.2.1
end
end Go.Proofs.YtdkbmligaodpmaaGreatDoor
namespace Go.Proofs.YtdkbmligaodpmaaGreatDoor
open Go.RowKit Wd Tr Cg

section
variable {V x y u : World} {a0 : Addr} {v0 : Value}
theorem Hc1.fark (h : Hc1 V a0 v0 x) (hV : Hc1 V a0 v0 V) {k : Nat} {p q : Value} (hk : V.heap.size ≤ k) : Hc1 V a0 v0 ((x.setCell ⟨k, 0, none⟩ p).setCell ⟨k, 1, none⟩ q) := h.low hV (((Below.refl V.heap.size x).setCell hk _).setCell hk _)
end
section
variable {V x y u : World} {a0 a1 : Addr} {v0 v1 : Value}
theorem Hc2.fark (h : Hc2 V a0 a1 v0 v1 x) (hV : Hc2 V a0 a1 v0 v1 V) {k : Nat} {p q : Value} (hk : V.heap.size ≤ k) : Hc2 V a0 a1 v0 v1 ((x.setCell ⟨k, 0, none⟩ p).setCell ⟨k, 1, none⟩ q) := h.low hV (((Below.refl V.heap.size x).setCell hk _).setCell hk _)
end
section
variable {V x y u : World} {a0 a1 a2 : Addr} {v0 v1 v2 : Value}
theorem Hc3.fark (h : Hc3 V a0 a1 a2 v0 v1 v2 x) (hV : Hc3 V a0 a1 a2 v0 v1 v2 V) {k : Nat} {p q : Value} (hk : V.heap.size ≤ k) : Hc3 V a0 a1 a2 v0 v1 v2 ((x.setCell ⟨k, 0, none⟩ p).setCell ⟨k, 1, none⟩ q) := h.low hV (((Below.refl V.heap.size x).setCell hk _).setCell hk _)
end
section
variable {V x y u : World} {a0 a1 a2 a3 : Addr} {v0 v1 v2 v3 : Value}
theorem Hc4.fark (h : Hc4 V a0 a1 a2 a3 v0 v1 v2 v3 x) (hV : Hc4 V a0 a1 a2 a3 v0 v1 v2 v3 V) {k : Nat} {p q : Value} (hk : V.heap.size ≤ k) : Hc4 V a0 a1 a2 a3 v0 v1 v2 v3 ((x.setCell ⟨k, 0, none⟩ p).setCell ⟨k, 1, none⟩ q) := h.low hV (((Below.refl V.heap.size x).setCell hk _).setCell hk _)
end
section
variable {V x y u : World} {a0 a1 a2 a3 a4 : Addr} {v0 v1 v2 v3 v4 : Value}
theorem Hc5.fark (h : Hc5 V a0 a1 a2 a3 a4 v0 v1 v2 v3 v4 x) (hV : Hc5 V a0 a1 a2 a3 a4 v0 v1 v2 v3 v4 V) {k : Nat} {p q : Value} (hk : V.heap.size ≤ k) : Hc5 V a0 a1 a2 a3 a4 v0 v1 v2 v3 v4 ((x.setCell ⟨k, 0, none⟩ p).setCell ⟨k, 1, none⟩ q) := h.low hV (((Below.refl V.heap.size x).setCell hk _).setCell hk _)
end
section
variable {V x y u : World} {a0 a1 a2 a3 a4 a5 : Addr} {v0 v1 v2 v3 v4 v5 : Value}
theorem Hc6.fark (h : Hc6 V a0 a1 a2 a3 a4 a5 v0 v1 v2 v3 v4 v5 x) (hV : Hc6 V a0 a1 a2 a3 a4 a5 v0 v1 v2 v3 v4 v5 V) {k : Nat} {p q : Value} (hk : V.heap.size ≤ k) : Hc6 V a0 a1 a2 a3 a4 a5 v0 v1 v2 v3 v4 v5 ((x.setCell ⟨k, 0, none⟩ p).setCell ⟨k, 1, none⟩ q) := h.low hV (((Below.refl V.heap.size x).setCell hk _).setCell hk _)
end
section
variable {V x y u : World} {a0 a1 a2 a3 a4 a5 a6 : Addr} {v0 v1 v2 v3 v4 v5 v6 : Value}
theorem Hc7.fark (h : Hc7 V a0 a1 a2 a3 a4 a5 a6 v0 v1 v2 v3 v4 v5 v6 x) (hV : Hc7 V a0 a1 a2 a3 a4 a5 a6 v0 v1 v2 v3 v4 v5 v6 V) {k : Nat} {p q : Value} (hk : V.heap.size ≤ k) : Hc7 V a0 a1 a2 a3 a4 a5 a6 v0 v1 v2 v3 v4 v5 v6 ((x.setCell ⟨k, 0, none⟩ p).setCell ⟨k, 1, none⟩ q) := h.low hV (((Below.refl V.heap.size x).setCell hk _).setCell hk _)
end
section
variable {V x y u : World} {a0 a1 a2 a3 a4 a5 a6 a7 : Addr} {v0 v1 v2 v3 v4 v5 v6 v7 : Value}
theorem Hc8.fark (h : Hc8 V a0 a1 a2 a3 a4 a5 a6 a7 v0 v1 v2 v3 v4 v5 v6 v7 x) (hV : Hc8 V a0 a1 a2 a3 a4 a5 a6 a7 v0 v1 v2 v3 v4 v5 v6 v7 V) {k : Nat} {p q : Value} (hk : V.heap.size ≤ k) : Hc8 V a0 a1 a2 a3 a4 a5 a6 a7 v0 v1 v2 v3 v4 v5 v6 v7 ((x.setCell ⟨k, 0, none⟩ p).setCell ⟨k, 1, none⟩ q) := h.low hV (((Below.refl V.heap.size x).setCell hk _).setCell hk _)
end
section
variable {V x y u : World} {a0 a1 a2 a3 a4 a5 a6 a7 a8 : Addr} {v0 v1 v2 v3 v4 v5 v6 v7 v8 : Value}
theorem Hc9.fark (h : Hc9 V a0 a1 a2 a3 a4 a5 a6 a7 a8 v0 v1 v2 v3 v4 v5 v6 v7 v8 x) (hV : Hc9 V a0 a1 a2 a3 a4 a5 a6 a7 a8 v0 v1 v2 v3 v4 v5 v6 v7 v8 V) {k : Nat} {p q : Value} (hk : V.heap.size ≤ k) : Hc9 V a0 a1 a2 a3 a4 a5 a6 a7 a8 v0 v1 v2 v3 v4 v5 v6 v7 v8 ((x.setCell ⟨k, 0, none⟩ p).setCell ⟨k, 1, none⟩ q) := h.low hV (((Below.refl V.heap.size x).setCell hk _).setCell hk _)
end
def Hc10 (V : World) (a0 a1 a2 a3 a4 a5 a6 a7 a8 a9 : Addr) (v0 v1 v2 v3 v4 v5 v6 v7 v8 v9 : Value) (x : World) : Prop := x.cell? a0 = some v0 ∧ x.cell? a1 = some v1 ∧ x.cell? a2 = some v2 ∧ x.cell? a3 = some v3 ∧ x.cell? a4 = some v4 ∧ x.cell? a5 = some v5 ∧ x.cell? a6 = some v6 ∧ x.cell? a7 = some v7 ∧ x.cell? a8 = some v8 ∧ x.cell? a9 = some v9 ∧ Below V.heap.size V x ∧ V.heap.size ≤ x.heap.size
section
variable {V x y u : World} {a0 a1 a2 a3 a4 a5 a6 a7 a8 a9 : Addr} {v0 v1 v2 v3 v4 v5 v6 v7 v8 v9 : Value}
theorem Hc10.keep (h : Hc10 V a0 a1 a2 a3 a4 a5 a6 a7 a8 a9 v0 v1 v2 v3 v4 v5 v6 v7 v8 v9 x) (b : Below x.heap.size x y) : Hc10 V a0 a1 a2 a3 a4 a5 a6 a7 a8 a9 v0 v1 v2 v3 v4 v5 v6 v7 v8 v9 y := by
  obtain ⟨h0, h1, h2, h3, h4, h5, h6, h7, h8, h9, hB, hz⟩ := h
  exact ⟨cellB b h0, cellB b h1, cellB b h2, cellB b h3, cellB b h4, cellB b h5, cellB b h6, cellB b h7, cellB b h8, cellB b h9, hB.trans (b.mono hz), Nat.le_trans hz b.size⟩
theorem Hc10.low (h : Hc10 V a0 a1 a2 a3 a4 a5 a6 a7 a8 a9 v0 v1 v2 v3 v4 v5 v6 v7 v8 v9 x) (hu : Hc10 V a0 a1 a2 a3 a4 a5 a6 a7 a8 a9 v0 v1 v2 v3 v4 v5 v6 v7 v8 v9 u) (b : Below u.heap.size x y) : Hc10 V a0 a1 a2 a3 a4 a5 a6 a7 a8 a9 v0 v1 v2 v3 v4 v5 v6 v7 v8 v9 y := by
  obtain ⟨h0, h1, h2, h3, h4, h5, h6, h7, h8, h9, hB, hz⟩ := h
  have zu := hu.2.2.2.2.2.2.2.2.2.2.2
  obtain ⟨w0, w1, w2, w3, w4, w5, w6, w7, w8, w9, _, _⟩ := hu
  exact ⟨cell_low b h0 (World.block_lt_of_cell? u _ w0), cell_low b h1 (World.block_lt_of_cell? u _ w1), cell_low b h2 (World.block_lt_of_cell? u _ w2), cell_low b h3 (World.block_lt_of_cell? u _ w3), cell_low b h4 (World.block_lt_of_cell? u _ w4), cell_low b h5 (World.block_lt_of_cell? u _ w5), cell_low b h6 (World.block_lt_of_cell? u _ w6), cell_low b h7 (World.block_lt_of_cell? u _ w7), cell_low b h8 (World.block_lt_of_cell? u _ w8), cell_low b h9 (World.block_lt_of_cell? u _ w9), hB.trans (b.mono zu), Nat.le_trans hz b.size⟩
theorem Hc10.bel (h : Hc10 V a0 a1 a2 a3 a4 a5 a6 a7 a8 a9 v0 v1 v2 v3 v4 v5 v6 v7 v8 v9 x) : Below V.heap.size V x := h.2.2.2.2.2.2.2.2.2.2.1
theorem Hc10.fark (h : Hc10 V a0 a1 a2 a3 a4 a5 a6 a7 a8 a9 v0 v1 v2 v3 v4 v5 v6 v7 v8 v9 x) (hV : Hc10 V a0 a1 a2 a3 a4 a5 a6 a7 a8 a9 v0 v1 v2 v3 v4 v5 v6 v7 v8 v9 V) {k : Nat} {p q : Value} (hk : V.heap.size ≤ k) : Hc10 V a0 a1 a2 a3 a4 a5 a6 a7 a8 a9 v0 v1 v2 v3 v4 v5 v6 v7 v8 v9 ((x.setCell ⟨k, 0, none⟩ p).setCell ⟨k, 1, none⟩ q) := h.low hV (((Below.refl V.heap.size x).setCell hk _).setCell hk _)
end
def Hc11 (V : World) (a0 a1 a2 a3 a4 a5 a6 a7 a8 a9 a10 : Addr) (v0 v1 v2 v3 v4 v5 v6 v7 v8 v9 v10 : Value) (x : World) : Prop := x.cell? a0 = some v0 ∧ x.cell? a1 = some v1 ∧ x.cell? a2 = some v2 ∧ x.cell? a3 = some v3 ∧ x.cell? a4 = some v4 ∧ x.cell? a5 = some v5 ∧ x.cell? a6 = some v6 ∧ x.cell? a7 = some v7 ∧ x.cell? a8 = some v8 ∧ x.cell? a9 = some v9 ∧ x.cell? a10 = some v10 ∧ Below V.heap.size V x ∧ V.heap.size ≤ x.heap.size
section
variable {V x y u : World} {a0 a1 a2 a3 a4 a5 a6 a7 a8 a9 a10 : Addr} {v0 v1 v2 v3 v4 v5 v6 v7 v8 v9 v10 : Value}
theorem Hc11.keep (h : Hc11 V a0 a1 a2 a3 a4 a5 a6 a7 a8 a9 a10 v0 v1 v2 v3 v4 v5 v6 v7 v8 v9 v10 x) (b : Below x.heap.size x y) : Hc11 V a0 a1 a2 a3 a4 a5 a6 a7 a8 a9 a10 v0 v1 v2 v3 v4 v5 v6 v7 v8 v9 v10 y := by
  obtain ⟨h0, h1, h2, h3, h4, h5, h6, h7, h8, h9, h10, hB, hz⟩ := h
  exact ⟨cellB b h0, cellB b h1, cellB b h2, cellB b h3, cellB b h4, cellB b h5, cellB b h6, cellB b h7, cellB b h8, cellB b h9, cellB b h10, hB.trans (b.mono hz), Nat.le_trans hz b.size⟩
theorem Hc11.low (h : Hc11 V a0 a1 a2 a3 a4 a5 a6 a7 a8 a9 a10 v0 v1 v2 v3 v4 v5 v6 v7 v8 v9 v10 x) (hu : Hc11 V a0 a1 a2 a3 a4 a5 a6 a7 a8 a9 a10 v0 v1 v2 v3 v4 v5 v6 v7 v8 v9 v10 u) (b : Below u.heap.size x y) : Hc11 V a0 a1 a2 a3 a4 a5 a6 a7 a8 a9 a10 v0 v1 v2 v3 v4 v5 v6 v7 v8 v9 v10 y := by
  obtain ⟨h0, h1, h2, h3, h4, h5, h6, h7, h8, h9, h10, hB, hz⟩ := h
  have zu := hu.2.2.2.2.2.2.2.2.2.2.2.2
  obtain ⟨w0, w1, w2, w3, w4, w5, w6, w7, w8, w9, w10, _, _⟩ := hu
  exact ⟨cell_low b h0 (World.block_lt_of_cell? u _ w0), cell_low b h1 (World.block_lt_of_cell? u _ w1), cell_low b h2 (World.block_lt_of_cell? u _ w2), cell_low b h3 (World.block_lt_of_cell? u _ w3), cell_low b h4 (World.block_lt_of_cell? u _ w4), cell_low b h5 (World.block_lt_of_cell? u _ w5), cell_low b h6 (World.block_lt_of_cell? u _ w6), cell_low b h7 (World.block_lt_of_cell? u _ w7), cell_low b h8 (World.block_lt_of_cell? u _ w8), cell_low b h9 (World.block_lt_of_cell? u _ w9), cell_low b h10 (World.block_lt_of_cell? u _ w10), hB.trans (b.mono zu), Nat.le_trans hz b.size⟩
theorem Hc11.bel (h : Hc11 V a0 a1 a2 a3 a4 a5 a6 a7 a8 a9 a10 v0 v1 v2 v3 v4 v5 v6 v7 v8 v9 v10 x) : Below V.heap.size V x := h.2.2.2.2.2.2.2.2.2.2.2.1
theorem Hc11.fark (h : Hc11 V a0 a1 a2 a3 a4 a5 a6 a7 a8 a9 a10 v0 v1 v2 v3 v4 v5 v6 v7 v8 v9 v10 x) (hV : Hc11 V a0 a1 a2 a3 a4 a5 a6 a7 a8 a9 a10 v0 v1 v2 v3 v4 v5 v6 v7 v8 v9 v10 V) {k : Nat} {p q : Value} (hk : V.heap.size ≤ k) : Hc11 V a0 a1 a2 a3 a4 a5 a6 a7 a8 a9 a10 v0 v1 v2 v3 v4 v5 v6 v7 v8 v9 v10 ((x.setCell ⟨k, 0, none⟩ p).setCell ⟨k, 1, none⟩ q) := h.low hV (((Below.refl V.heap.size x).setCell hk _).setCell hk _)
end
def Hc12 (V : World) (a0 a1 a2 a3 a4 a5 a6 a7 a8 a9 a10 a11 : Addr) (v0 v1 v2 v3 v4 v5 v6 v7 v8 v9 v10 v11 : Value) (x : World) : Prop := x.cell? a0 = some v0 ∧ x.cell? a1 = some v1 ∧ x.cell? a2 = some v2 ∧ x.cell? a3 = some v3 ∧ x.cell? a4 = some v4 ∧ x.cell? a5 = some v5 ∧ x.cell? a6 = some v6 ∧ x.cell? a7 = some v7 ∧ x.cell? a8 = some v8 ∧ x.cell? a9 = some v9 ∧ x.cell? a10 = some v10 ∧ x.cell? a11 = some v11 ∧ Below V.heap.size V x ∧ V.heap.size ≤ x.heap.size
section
variable {V x y u : World} {a0 a1 a2 a3 a4 a5 a6 a7 a8 a9 a10 a11 : Addr} {v0 v1 v2 v3 v4 v5 v6 v7 v8 v9 v10 v11 : Value}
theorem Hc12.keep (h : Hc12 V a0 a1 a2 a3 a4 a5 a6 a7 a8 a9 a10 a11 v0 v1 v2 v3 v4 v5 v6 v7 v8 v9 v10 v11 x) (b : Below x.heap.size x y) : Hc12 V a0 a1 a2 a3 a4 a5 a6 a7 a8 a9 a10 a11 v0 v1 v2 v3 v4 v5 v6 v7 v8 v9 v10 v11 y := by
  obtain ⟨h0, h1, h2, h3, h4, h5, h6, h7, h8, h9, h10, h11, hB, hz⟩ := h
  exact ⟨cellB b h0, cellB b h1, cellB b h2, cellB b h3, cellB b h4, cellB b h5, cellB b h6, cellB b h7, cellB b h8, cellB b h9, cellB b h10, cellB b h11, hB.trans (b.mono hz), Nat.le_trans hz b.size⟩
theorem Hc12.low (h : Hc12 V a0 a1 a2 a3 a4 a5 a6 a7 a8 a9 a10 a11 v0 v1 v2 v3 v4 v5 v6 v7 v8 v9 v10 v11 x) (hu : Hc12 V a0 a1 a2 a3 a4 a5 a6 a7 a8 a9 a10 a11 v0 v1 v2 v3 v4 v5 v6 v7 v8 v9 v10 v11 u) (b : Below u.heap.size x y) : Hc12 V a0 a1 a2 a3 a4 a5 a6 a7 a8 a9 a10 a11 v0 v1 v2 v3 v4 v5 v6 v7 v8 v9 v10 v11 y := by
  obtain ⟨h0, h1, h2, h3, h4, h5, h6, h7, h8, h9, h10, h11, hB, hz⟩ := h
  have zu := hu.2.2.2.2.2.2.2.2.2.2.2.2.2
  obtain ⟨w0, w1, w2, w3, w4, w5, w6, w7, w8, w9, w10, w11, _, _⟩ := hu
  exact ⟨cell_low b h0 (World.block_lt_of_cell? u _ w0), cell_low b h1 (World.block_lt_of_cell? u _ w1), cell_low b h2 (World.block_lt_of_cell? u _ w2), cell_low b h3 (World.block_lt_of_cell? u _ w3), cell_low b h4 (World.block_lt_of_cell? u _ w4), cell_low b h5 (World.block_lt_of_cell? u _ w5), cell_low b h6 (World.block_lt_of_cell? u _ w6), cell_low b h7 (World.block_lt_of_cell? u _ w7), cell_low b h8 (World.block_lt_of_cell? u _ w8), cell_low b h9 (World.block_lt_of_cell? u _ w9), cell_low b h10 (World.block_lt_of_cell? u _ w10), cell_low b h11 (World.block_lt_of_cell? u _ w11), hB.trans (b.mono zu), Nat.le_trans hz b.size⟩
theorem Hc12.bel (h : Hc12 V a0 a1 a2 a3 a4 a5 a6 a7 a8 a9 a10 a11 v0 v1 v2 v3 v4 v5 v6 v7 v8 v9 v10 v11 x) : Below V.heap.size V x := h.2.2.2.2.2.2.2.2.2.2.2.2.1
theorem Hc12.fark (h : Hc12 V a0 a1 a2 a3 a4 a5 a6 a7 a8 a9 a10 a11 v0 v1 v2 v3 v4 v5 v6 v7 v8 v9 v10 v11 x) (hV : Hc12 V a0 a1 a2 a3 a4 a5 a6 a7 a8 a9 a10 a11 v0 v1 v2 v3 v4 v5 v6 v7 v8 v9 v10 v11 V) {k : Nat} {p q : Value} (hk : V.heap.size ≤ k) : Hc12 V a0 a1 a2 a3 a4 a5 a6 a7 a8 a9 a10 a11 v0 v1 v2 v3 v4 v5 v6 v7 v8 v9 v10 v11 ((x.setCell ⟨k, 0, none⟩ p).setCell ⟨k, 1, none⟩ q) := h.low hV (((Below.refl V.heap.size x).setCell hk _).setCell hk _)
end
def Hc13 (V : World) (a0 a1 a2 a3 a4 a5 a6 a7 a8 a9 a10 a11 a12 : Addr) (v0 v1 v2 v3 v4 v5 v6 v7 v8 v9 v10 v11 v12 : Value) (x : World) : Prop := x.cell? a0 = some v0 ∧ x.cell? a1 = some v1 ∧ x.cell? a2 = some v2 ∧ x.cell? a3 = some v3 ∧ x.cell? a4 = some v4 ∧ x.cell? a5 = some v5 ∧ x.cell? a6 = some v6 ∧ x.cell? a7 = some v7 ∧ x.cell? a8 = some v8 ∧ x.cell? a9 = some v9 ∧ x.cell? a10 = some v10 ∧ x.cell? a11 = some v11 ∧ x.cell? a12 = some v12 ∧ Below V.heap.size V x ∧ V.heap.size ≤ x.heap.size
section
variable {V x y u : World} {a0 a1 a2 a3 a4 a5 a6 a7 a8 a9 a10 a11 a12 : Addr} {v0 v1 v2 v3 v4 v5 v6 v7 v8 v9 v10 v11 v12 : Value}
theorem Hc13.keep (h : Hc13 V a0 a1 a2 a3 a4 a5 a6 a7 a8 a9 a10 a11 a12 v0 v1 v2 v3 v4 v5 v6 v7 v8 v9 v10 v11 v12 x) (b : Below x.heap.size x y) : Hc13 V a0 a1 a2 a3 a4 a5 a6 a7 a8 a9 a10 a11 a12 v0 v1 v2 v3 v4 v5 v6 v7 v8 v9 v10 v11 v12 y := by
  obtain ⟨h0, h1, h2, h3, h4, h5, h6, h7, h8, h9, h10, h11, h12, hB, hz⟩ := h
  exact ⟨cellB b h0, cellB b h1, cellB b h2, cellB b h3, cellB b h4, cellB b h5, cellB b h6, cellB b h7, cellB b h8, cellB b h9, cellB b h10, cellB b h11, cellB b h12, hB.trans (b.mono hz), Nat.le_trans hz b.size⟩
theorem Hc13.low (h : Hc13 V a0 a1 a2 a3 a4 a5 a6 a7 a8 a9 a10 a11 a12 v0 v1 v2 v3 v4 v5 v6 v7 v8 v9 v10 v11 v12 x) (hu : Hc13 V a0 a1 a2 a3 a4 a5 a6 a7 a8 a9 a10 a11 a12 v0 v1 v2 v3 v4 v5 v6 v7 v8 v9 v10 v11 v12 u) (b : Below u.heap.size x y) : Hc13 V a0 a1 a2 a3 a4 a5 a6 a7 a8 a9 a10 a11 a12 v0 v1 v2 v3 v4 v5 v6 v7 v8 v9 v10 v11 v12 y := by
  obtain ⟨h0, h1, h2, h3, h4, h5, h6, h7, h8, h9, h10, h11, h12, hB, hz⟩ := h
  have zu := hu.2.2.2.2.2.2.2.2.2.2.2.2.2.2
  obtain ⟨w0, w1, w2, w3, w4, w5, w6, w7, w8, w9, w10, w11, w12, _, _⟩ := hu
  exact ⟨cell_low b h0 (World.block_lt_of_cell? u _ w0), cell_low b h1 (World.block_lt_of_cell? u _ w1), cell_low b h2 (World.block_lt_of_cell? u _ w2), cell_low b h3 (World.block_lt_of_cell? u _ w3), cell_low b h4 (World.block_lt_of_cell? u _ w4), cell_low b h5 (World.block_lt_of_cell? u _ w5), cell_low b h6 (World.block_lt_of_cell? u _ w6), cell_low b h7 (World.block_lt_of_cell? u _ w7), cell_low b h8 (World.block_lt_of_cell? u _ w8), cell_low b h9 (World.block_lt_of_cell? u _ w9), cell_low b h10 (World.block_lt_of_cell? u _ w10), cell_low b h11 (World.block_lt_of_cell? u _ w11), cell_low b h12 (World.block_lt_of_cell? u _ w12), hB.trans (b.mono zu), Nat.le_trans hz b.size⟩
theorem Hc13.bel (h : Hc13 V a0 a1 a2 a3 a4 a5 a6 a7 a8 a9 a10 a11 a12 v0 v1 v2 v3 v4 v5 v6 v7 v8 v9 v10 v11 v12 x) : Below V.heap.size V x := h.2.2.2.2.2.2.2.2.2.2.2.2.2.1
theorem Hc13.fark (h : Hc13 V a0 a1 a2 a3 a4 a5 a6 a7 a8 a9 a10 a11 a12 v0 v1 v2 v3 v4 v5 v6 v7 v8 v9 v10 v11 v12 x) (hV : Hc13 V a0 a1 a2 a3 a4 a5 a6 a7 a8 a9 a10 a11 a12 v0 v1 v2 v3 v4 v5 v6 v7 v8 v9 v10 v11 v12 V) {k : Nat} {p q : Value} (hk : V.heap.size ≤ k) : Hc13 V a0 a1 a2 a3 a4 a5 a6 a7 a8 a9 a10 a11 a12 v0 v1 v2 v3 v4 v5 v6 v7 v8 v9 v10 v11 v12 ((x.setCell ⟨k, 0, none⟩ p).setCell ⟨k, 1, none⟩ q) := h.low hV (((Below.refl V.heap.size x).setCell hk _).setCell hk _)
end
end Go.Proofs.YtdkbmligaodpmaaGreatDoor
