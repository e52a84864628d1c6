/-
  slices.Sort at []int: the library's contract, laid by hand at this program.
-/
import Derived.Test.YthkahbjcncbcfaaRfD
import Derived.Shelf.SortG.AssemblyIn
import Derived.Sort.EveryDepth
import Derived.Sort.OwnSortedInts
namespace Go.Proofs.Ythkahbjcncbcfaa
open Go.RowKit Go.Shelf Tr

/-- Which of this program's numbers stand for the library's. -/
def sortRen : Ren where
  f := fun
    | 53 => 55
    | 59 => 76
    | 63 => 66
    | 64 => 67
    | 68 => 86
    | 70 => 70
    | 71 => 71
    | 72 => 72
    | 73 => 73
    | 74 => 74
    | 75 => 75
    | 76 => 77
    | 77 => 78
    | 78 => 79
    | 79 => 80
    | 88 => 81
    | 89 => 82
    | 90 => 83
    | 91 => 84
    | 92 => 85
    | 96 => 87
    | n => n
  t := fun
    | 0 => 0
    | 3 => 3
    | 4 => 4
    | 5 => 5
    | 9 => 9
    | 22 => 50
    | 23 => 3
    | 44 => 55
    | 51 => 93
    | 60 => 97
    | 61 => 98
    | 67 => 105
    | 69 => 37
    | 75 => 107
    | 79 => 111
    | 83 => 113
    | 84 => 114
    | n => n
  g := fun n => n

theorem sort_lays : SlLaysN.n53 Try.prog sortRen where
  mixed := by kernel_rfl
  f53 := ⟨Try.f55.name, by kernel_rfl, Try.func55.trans (congrArg some (by kernel_rfl))⟩
  f59 := ⟨Try.f76.name, by kernel_rfl, Try.func76.trans (congrArg some (by kernel_rfl))⟩
  f63 := ⟨Try.f66.name, by kernel_rfl, Try.func66.trans (congrArg some (by kernel_rfl))⟩
  f64 := Try.func67.trans (congrArg some (by kernel_rfl))
  f68 := ⟨Try.f86.name, by kernel_rfl, Try.func86.trans (congrArg some (by kernel_rfl))⟩
  f70 := ⟨Try.f70.name, by kernel_rfl, Try.func70.trans (congrArg some (by kernel_rfl))⟩
  f71 := ⟨Try.f71.name, by kernel_rfl, Try.func71.trans (congrArg some (by kernel_rfl))⟩
  f72 := ⟨Try.f72.name, by kernel_rfl, Try.func72.trans (congrArg some (by kernel_rfl))⟩
  f73 := ⟨Try.f73.name, by kernel_rfl, Try.func73.trans (congrArg some (by kernel_rfl))⟩
  f74 := ⟨Try.f74.name, by kernel_rfl, Try.func74.trans (congrArg some (by kernel_rfl))⟩
  f75 := ⟨Try.f75.name, by kernel_rfl, Try.func75.trans (congrArg some (by kernel_rfl))⟩
  f76 := ⟨Try.f77.name, by kernel_rfl, Try.func77.trans (congrArg some (by kernel_rfl))⟩
  f77 := ⟨Try.f78.name, by kernel_rfl, Try.func78.trans (congrArg some (by kernel_rfl))⟩
  f78 := Try.func79.trans (congrArg some (by kernel_rfl))
  f79 := Try.func80.trans (congrArg some (by kernel_rfl))
  f88 := ⟨Try.f81.name, by kernel_rfl, Try.func81.trans (congrArg some (by kernel_rfl))⟩
  f89 := Try.func82.trans (congrArg some (by kernel_rfl))
  f90 := Try.func83.trans (congrArg some (by kernel_rfl))
  f91 := ⟨Try.f84.name, by kernel_rfl, Try.func84.trans (congrArg some (by kernel_rfl))⟩
  f92 := ⟨Try.f85.name, by kernel_rfl, Try.func85.trans (congrArg some (by kernel_rfl))⟩
  f96 := ⟨Try.f87.name, by kernel_rfl, Try.func87.trans (congrArg some (by kernel_rfl))⟩
  t0 := Try.underlying0
  a0 := Try.isAgg0
  z0 := Try.sizeOf0
  v0 := Try.zeroValue0
  t3 := Try.underlying3
  a3 := Try.isAgg3
  z3 := Try.sizeOf3
  v3 := Try.zeroValue3
  t4 := Try.underlying4
  a4 := Try.isAgg4
  z4 := Try.sizeOf4
  v4 := Try.zeroValue4
  t5 := Try.underlying5
  a5 := Try.isAgg5
  z5 := Try.sizeOf5
  v5 := Try.zeroValue5
  t9 := Try.underlying9
  a9 := Try.isAgg9
  z9 := Try.sizeOf9
  v9 := Try.zeroValue9
  t22 := Try.underlying50
  a22 := Try.isAgg50
  z22 := Try.sizeOf50
  v22 := Try.zeroValue50
  t23 := Try.underlying3
  a23 := Try.isAgg3
  z23 := Try.sizeOf3
  v23 := Try.zeroValue3
  t44 := Try.underlying55
  a44 := Try.isAgg55
  z44 := Try.sizeOf55
  v44 := Try.zeroValue55
  t51 := Try.underlying93
  a51 := Try.isAgg93
  z51 := Try.sizeOf93
  v51 := Try.zeroValue93
  t60 := Try.underlying97
  a60 := Try.isAgg97
  z60 := Try.sizeOf97
  v60 := Try.zeroValue97
  t61 := Try.underlying98
  a61 := Try.isAgg98
  z61 := Try.sizeOf98
  v61 := Try.zeroValue98
  t67 := Try.underlying105
  a67 := Try.isAgg105
  z67 := Try.sizeOf105
  v67 := Try.zeroValue105
  t69 := Try.underlying37
  a69 := Try.isAgg37
  z69 := Try.sizeOf37
  v69 := Try.zeroValue37
  t75 := Try.underlying107
  a75 := Try.isAgg107
  z75 := Try.sizeOf107
  v75 := Try.zeroValue107
  t79 := Try.underlying111
  a79 := Try.isAgg111
  z79 := Try.sizeOf111
  v79 := Try.zeroValue111
  t83 := Try.underlying113
  a83 := Try.isAgg113
  z83 := Try.sizeOf113
  v83 := Try.zeroValue113
  t84 := Try.underlying114
  a84 := Try.isAgg114
  z84 := Try.sizeOf114
  v84 := Try.zeroValue114

theorem sort_calls (blk cap : Nat) (zs : List Int) (w : World) (hH : Sort.Holds (Value.int .i64) w blk 0 zs.toArray) (hblk : blk < w.heap.size) (hsz : zs.length < 4611686018427387904) :
    Calls Try.prog 55 #[.slice (some ⟨blk, 0, none⟩) zs.length cap] w fun e w' =>
      e = .returned (.tuple #[]) ∧ ∃ n os, w' = Sort.grow (Sort.putRow (Value.int .i64) (Sort.ahead w n) blk 0 (zs.mergeSort fun x y => decide (x ≤ y)).toArray) os :=
  calls_of_every_depth fun D => AnySG.slices_Sort_int_in sort_lays D blk 0 cap zs w hH hblk hsz
theorem ints_eq (xs : List Nat) : ints xs = (xs.map fun (k : Nat) => (k : Int)).map (Value.int .i64) := by
  unfold ints
  rw [List.map_map]
  rfl
theorem sorted_eq {xs S : List Nat} (hS : S.Perm xs) (hs : S.Pairwise (· ≤ ·)) : ((xs.map fun (k : Nat) => (k : Int)).mergeSort fun x y => decide (x ≤ y)) = S.map fun (k : Nat) => (k : Int) := by
  have h1 : ((xs.map fun (k : Nat) => (k : Int)).mergeSort fun x y => decide (x ≤ y)).Pairwise (fun a b => a ≤ b) := by
    have := List.pairwise_mergeSort (le := fun x y : Int => decide (x ≤ y)) (fun a b c h1 h2 => by simp at *; omega) (fun a b => by simp; omega) (xs.map fun (k : Nat) => (k : Int))
    exact this.imp (fun h => by simpa using h)
  have h2 : (S.map fun (k : Nat) => (k : Int)).Pairwise (fun a b => a ≤ b) := by
    rw [List.pairwise_map]
    exact hs.imp (fun h => by omega)
  refine List.Perm.eq_of_pairwise (fun a b _ _ h h' => by omega) h1 h2 ?_
  exact (List.mergeSort_perm _ _).trans (hS.symm.map _)
/-- slices.Sort of a row of one's own. -/
theorem sort_row {w : World} {B : Nat} {v : Value} {xs S : List Nat} (h : w.ownsRow B 3 1 v xs.length (ints xs)) (hne : xs ≠ []) (hl : xs.length ≤ 64) (hS : S.Perm xs) (hs : S.Pairwise (· ≤ ·)) :
    Calls Try.prog 55 #[v] w fun e w' => e = .returned (.tuple #[]) ∧ w'.ownsRow B 3 1 v S.length (ints S) ∧ w.grownBy w' v.ownBlock := by
  have hpos : 0 < xs.length := List.length_pos_iff.2 hne
  rcases h.2 with ⟨_, h0⟩ | ⟨g, cap, cur, rfl, hb, hg, h1, h2, h3, h4⟩
  · omega
  obtain ⟨zs, hz⟩ : ∃ zs : List Int, xs.map (fun (k : Nat) => (k : Int)) = zs := ⟨_, rfl⟩
  have hzl : zs.length = xs.length := by rw [← hz]; simp
  rw [Nat.mul_one, ints_eq, hz] at h4
  have hH := holds_of_blockI (ss := zs) hg (by rw [hzl]; exact h4)
  have hc := sort_calls g cap zs w hH (Array.getElem?_eq_some_iff.1 hg).1 (by omega)
  rw [hzl] at hc
  refine hc.mono ?_
  rintro e w' ⟨rfl, n, os, rfl⟩
  have he := sorted_eq hS hs
  rw [hz] at he
  rw [he]
  have hSl : S.length = xs.length := hS.length_eq
  refine ⟨rfl, ?_, grownBy_sortedI _⟩
  have := ownsRow_sortedI (w := w) (base := B) (g := g) (cap := cap) (n := n) (e := 3) (os := os) (cur := cur) (ss := zs) (ts := S.map fun (k : Nat) => (k : Int)) (by simp [hzl, hSl]) hb hg (by omega) h2 h3
  rw [hzl, ← hSl, ← ints_eq] at this
  rw [← hSl]
  exact this
end Go.Proofs.Ythkahbjcncbcfaa
