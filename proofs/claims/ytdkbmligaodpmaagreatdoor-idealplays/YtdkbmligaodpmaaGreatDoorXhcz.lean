/-
 CELLS THAT ARE READ while a region draws its order (made by gen16t.py).
 CELLS THAT ARE READ while a region draws its order: more of them (made by gen16u.py).
-/
import Derived.Test.YtdkbmligaodpmaaGreatDoorXriz
namespace Go.Proofs.YtdkbmligaodpmaaGreatDoor
open Go.RowKit Wd Tr Cg

theorem cell_low {x y : World} {k : Nat} {a : Addr} {v : Value} (b : Below k x y) (h : x.cell? a = some v) (ha : a.block < k) : y.cell? a = some v := (b.cell (p := a) ha).trans h
section
variable {V x y u : World} {a0 : Addr} {v0 : Value}
end
def Hc2 (V : World) (a0 a1 : Addr) (v0 v1 : Value) (x : World) : Prop := x.cell? a0 = some v0 ∧ x.cell? a1 = some v1 ∧ Below V.heap.size V x ∧ V.heap.size ≤ x.heap.size
section
variable {V x y u : World} {a0 a1 : Addr} {v0 v1 : Value}
theorem Hc2.keep (h : Hc2 V a0 a1 v0 v1 x) (b : Below x.heap.size x y) : Hc2 V a0 a1 v0 v1 y := by
 obtain ⟨h0, h1, hB, hz⟩ := h
 exact ⟨cellB b h0, cellB b h1, hB.trans (b.mono hz), Nat.le_trans hz b.size⟩
theorem Hc2.bel (h : Hc2 V a0 a1 v0 v1 x) : Below V.heap.size V x := h.2.2.1
end
def Hc3 (V : World) (a0 a1 a2 : Addr) (v0 v1 v2 : Value) (x : World) : Prop := x.cell? a0 = some v0 ∧ x.cell? a1 = some v1 ∧ x.cell? a2 = some v2 ∧ Below V.heap.size V x ∧ V.heap.size ≤ x.heap.size
section
variable {V x y u : World} {a0 a1 a2 : Addr} {v0 v1 v2 : Value}
theorem Hc3.keep (h : Hc3 V a0 a1 a2 v0 v1 v2 x) (b : Below x.heap.size x y) : Hc3 V a0 a1 a2 v0 v1 v2 y := by
 obtain ⟨h0, h1, h2, hB, hz⟩ := h
 exact ⟨cellB b h0, cellB b h1, cellB b h2, hB.trans (b.mono hz), Nat.le_trans hz b.size⟩
end
def Hc4 (V : World) (a0 a1 a2 a3 : Addr) (v0 v1 v2 v3 : Value) (x : World) : Prop := x.cell? a0 = some v0 ∧ x.cell? a1 = some v1 ∧ x.cell? a2 = some v2 ∧ x.cell? a3 = some v3 ∧ Below V.heap.size V x ∧ V.heap.size ≤ x.heap.size
section
variable {V x y u : World} {a0 a1 a2 a3 : Addr} {v0 v1 v2 v3 : Value}
theorem Hc4.keep (h : Hc4 V a0 a1 a2 a3 v0 v1 v2 v3 x) (b : Below x.heap.size x y) : Hc4 V a0 a1 a2 a3 v0 v1 v2 v3 y := by
 obtain ⟨h0, h1, h2, h3, hB, hz⟩ := h
 exact ⟨cellB b h0, cellB b h1, cellB b h2, cellB b h3, hB.trans (b.mono hz), Nat.le_trans hz b.size⟩
end
def Hc5 (V : World) (a0 a1 a2 a3 a4 : Addr) (v0 v1 v2 v3 v4 : Value) (x : World) : Prop := x.cell? a0 = some v0 ∧ x.cell? a1 = some v1 ∧ x.cell? a2 = some v2 ∧ x.cell? a3 = some v3 ∧ x.cell? a4 = some v4 ∧ Below V.heap.size V x ∧ V.heap.size ≤ x.heap.size
section
variable {V x y u : World} {a0 a1 a2 a3 a4 : Addr} {v0 v1 v2 v3 v4 : Value}
theorem Hc5.keep (h : Hc5 V a0 a1 a2 a3 a4 v0 v1 v2 v3 v4 x) (b : Below x.heap.size x y) : Hc5 V a0 a1 a2 a3 a4 v0 v1 v2 v3 v4 y := by
 obtain ⟨h0, h1, h2, h3, h4, hB, hz⟩ := h
 exact ⟨cellB b h0, cellB b h1, cellB b h2, cellB b h3, cellB b h4, hB.trans (b.mono hz), Nat.le_trans hz b.size⟩
theorem Hc5.low (h : Hc5 V a0 a1 a2 a3 a4 v0 v1 v2 v3 v4 x) (hu : Hc5 V a0 a1 a2 a3 a4 v0 v1 v2 v3 v4 u) (b : Below u.heap.size x y) : Hc5 V a0 a1 a2 a3 a4 v0 v1 v2 v3 v4 y := by
 obtain ⟨h0, h1, h2, h3, h4, hB, hz⟩ := h
 have zu := hu.2.2.2.2.2.2
 obtain ⟨w0, w1, w2, w3, w4, _, _⟩ := hu
 exact ⟨cell_low b h0 (World.block_lt_of_cell? u _ w0), cell_low b h1 (World.block_lt_of_cell? u _ w1), cell_low b h2 (World.block_lt_of_cell? u _ w2), cell_low b h3 (World.block_lt_of_cell? u _ w3), cell_low b h4 (World.block_lt_of_cell? u _ w4), hB.trans (b.mono zu), Nat.le_trans hz b.size⟩
theorem Hc5.far (h : Hc5 V a0 a1 a2 a3 a4 v0 v1 v2 v3 v4 x) (hu : Hc5 V a0 a1 a2 a3 a4 v0 v1 v2 v3 v4 u) {p q : Value} : Hc5 V a0 a1 a2 a3 a4 v0 v1 v2 v3 v4 ((x.setCell ⟨u.heap.size, 0, none⟩ p).setCell ⟨u.heap.size, 1, none⟩ q) := h.low hu (((Below.refl u.heap.size x).setCell (Nat.le_refl _) _).setCell (Nat.le_refl _) _)
theorem Hc5.bel (h : Hc5 V a0 a1 a2 a3 a4 v0 v1 v2 v3 v4 x) : Below V.heap.size V x := h.2.2.2.2.2.1
end
def Hc6 (V : World) (a0 a1 a2 a3 a4 a5 : Addr) (v0 v1 v2 v3 v4 v5 : Value) (x : World) : Prop := x.cell? a0 = some v0 ∧ x.cell? a1 = some v1 ∧ x.cell? a2 = some v2 ∧ x.cell? a3 = some v3 ∧ x.cell? a4 = some v4 ∧ x.cell? a5 = some v5 ∧ Below V.heap.size V x ∧ V.heap.size ≤ x.heap.size
section
variable {V x y u : World} {a0 a1 a2 a3 a4 a5 : Addr} {v0 v1 v2 v3 v4 v5 : Value}
theorem Hc6.keep (h : Hc6 V a0 a1 a2 a3 a4 a5 v0 v1 v2 v3 v4 v5 x) (b : Below x.heap.size x y) : Hc6 V a0 a1 a2 a3 a4 a5 v0 v1 v2 v3 v4 v5 y := by
 obtain ⟨h0, h1, h2, h3, h4, h5, hB, hz⟩ := h
 exact ⟨cellB b h0, cellB b h1, cellB b h2, cellB b h3, cellB b h4, cellB b h5, hB.trans (b.mono hz), Nat.le_trans hz b.size⟩
theorem Hc6.bel (h : Hc6 V a0 a1 a2 a3 a4 a5 v0 v1 v2 v3 v4 v5 x) : Below V.heap.size V x := h.2.2.2.2.2.2.1
end
section
variable {V x y u : World} {a0 a1 a2 a3 a4 a5 a6 : Addr} {v0 v1 v2 v3 v4 v5 v6 : Value}
end
def Hc8 (V : World) (a0 a1 a2 a3 a4 a5 a6 a7 : Addr) (v0 v1 v2 v3 v4 v5 v6 v7 : Value) (x : World) : Prop := x.cell? a0 = some v0 ∧ x.cell? a1 = some v1 ∧ x.cell? a2 = some v2 ∧ x.cell? a3 = some v3 ∧ x.cell? a4 = some v4 ∧ x.cell? a5 = some v5 ∧ x.cell? a6 = some v6 ∧ x.cell? a7 = some v7 ∧ Below V.heap.size V x ∧ V.heap.size ≤ x.heap.size
section
variable {V x y u : World} {a0 a1 a2 a3 a4 a5 a6 a7 : Addr} {v0 v1 v2 v3 v4 v5 v6 v7 : Value}
theorem Hc8.keep (h : Hc8 V a0 a1 a2 a3 a4 a5 a6 a7 v0 v1 v2 v3 v4 v5 v6 v7 x) (b : Below x.heap.size x y) : Hc8 V a0 a1 a2 a3 a4 a5 a6 a7 v0 v1 v2 v3 v4 v5 v6 v7 y := by
 obtain ⟨h0, h1, h2, h3, h4, h5, h6, h7, hB, hz⟩ := h
 exact ⟨cellB b h0, cellB b h1, cellB b h2, cellB b h3, cellB b h4, cellB b h5, cellB b h6, cellB b h7, hB.trans (b.mono hz), Nat.le_trans hz b.size⟩
theorem Hc8.bel (h : Hc8 V a0 a1 a2 a3 a4 a5 a6 a7 v0 v1 v2 v3 v4 v5 v6 v7 x) : Below V.heap.size V x := h.2.2.2.2.2.2.2.2.1
end
section
variable {V x y u : World} {a0 a1 a2 a3 a4 a5 a6 a7 a8 : Addr} {v0 v1 v2 v3 v4 v5 v6 v7 v8 : Value}
end
end Go.Proofs.YtdkbmligaodpmaaGreatDoor
namespace Go.Proofs.YtdkbmligaodpmaaGreatDoor
open Go.RowKit Wd Tr Cg

section
variable {V x y u : World} {a0 : Addr} {v0 : Value}
end
section
variable {V x y u : World} {a0 a1 : Addr} {v0 v1 : Value}
end
section
variable {V x y u : World} {a0 a1 a2 : Addr} {v0 v1 v2 : Value}
end
section
variable {V x y u : World} {a0 a1 a2 a3 : Addr} {v0 v1 v2 v3 : Value}
end
section
variable {V x y u : World} {a0 a1 a2 a3 a4 : Addr} {v0 v1 v2 v3 v4 : Value}
end
section
variable {V x y u : World} {a0 a1 a2 a3 a4 a5 : Addr} {v0 v1 v2 v3 v4 v5 : Value}
end
section
variable {V x y u : World} {a0 a1 a2 a3 a4 a5 a6 : Addr} {v0 v1 v2 v3 v4 v5 v6 : Value}
end
section
variable {V x y u : World} {a0 a1 a2 a3 a4 a5 a6 a7 : Addr} {v0 v1 v2 v3 v4 v5 v6 v7 : Value}
end
section
variable {V x y u : World} {a0 a1 a2 a3 a4 a5 a6 a7 a8 : Addr} {v0 v1 v2 v3 v4 v5 v6 v7 v8 : Value}
end
section
variable {V x y u : World} {a0 a1 a2 a3 a4 a5 a6 a7 a8 a9 : Addr} {v0 v1 v2 v3 v4 v5 v6 v7 v8 v9 : Value}
end
section
variable {V x y u : World} {a0 a1 a2 a3 a4 a5 a6 a7 a8 a9 a10 : Addr} {v0 v1 v2 v3 v4 v5 v6 v7 v8 v9 v10 : Value}
end
section
variable {V x y u : World} {a0 a1 a2 a3 a4 a5 a6 a7 a8 a9 a10 a11 : Addr} {v0 v1 v2 v3 v4 v5 v6 v7 v8 v9 v10 v11 : Value}
end
def Hc13 (V : World) (a0 a1 a2 a3 a4 a5 a6 a7 a8 a9 a10 a11 a12 : Addr) (v0 v1 v2 v3 v4 v5 v6 v7 v8 v9 v10 v11 v12 : Value) (x : World) : Prop := x.cell? a0 = some v0 ∧ x.cell? a1 = some v1 ∧ x.cell? a2 = some v2 ∧ x.cell? a3 = some v3 ∧ x.cell? a4 = some v4 ∧ x.cell? a5 = some v5 ∧ x.cell? a6 = some v6 ∧ x.cell? a7 = some v7 ∧ x.cell? a8 = some v8 ∧ x.cell? a9 = some v9 ∧ x.cell? a10 = some v10 ∧ x.cell? a11 = some v11 ∧ x.cell? a12 = some v12 ∧ Below V.heap.size V x ∧ V.heap.size ≤ x.heap.size
section
variable {V x y u : World} {a0 a1 a2 a3 a4 a5 a6 a7 a8 a9 a10 a11 a12 : Addr} {v0 v1 v2 v3 v4 v5 v6 v7 v8 v9 v10 v11 v12 : Value}
theorem Hc13.keep (h : Hc13 V a0 a1 a2 a3 a4 a5 a6 a7 a8 a9 a10 a11 a12 v0 v1 v2 v3 v4 v5 v6 v7 v8 v9 v10 v11 v12 x) (b : Below x.heap.size x y) : Hc13 V a0 a1 a2 a3 a4 a5 a6 a7 a8 a9 a10 a11 a12 v0 v1 v2 v3 v4 v5 v6 v7 v8 v9 v10 v11 v12 y := by
 obtain ⟨h0, h1, h2, h3, h4, h5, h6, h7, h8, h9, h10, h11, h12, hB, hz⟩ := h
 exact ⟨cellB b h0, cellB b h1, cellB b h2, cellB b h3, cellB b h4, cellB b h5, cellB b h6, cellB b h7, cellB b h8, cellB b h9, cellB b h10, cellB b h11, cellB b h12, hB.trans (b.mono hz), Nat.le_trans hz b.size⟩
theorem Hc13.bel (h : Hc13 V a0 a1 a2 a3 a4 a5 a6 a7 a8 a9 a10 a11 a12 v0 v1 v2 v3 v4 v5 v6 v7 v8 v9 v10 v11 v12 x) : Below V.heap.size V x := h.2.2.2.2.2.2.2.2.2.2.2.2.2.1
end
end Go.Proofs.YtdkbmligaodpmaaGreatDoor
