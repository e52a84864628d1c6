/-
  slices.SortFunc at the agenda's pairs: the library's contract, laid by hand at this program; inOrder, an order.
-/
import Derived.Test.YtjmiifgofedcnaaList
import Derived.Shelf.SlSortCmp.NoneTotal
namespace Go.Proofs.Ytjmiifgofedcnaa
open Go.RowKit Go.Shelf Ag

/-- Which of this program's numbers stand for the library's. -/
def sortRen : Ren where
  f := fun
    | 6 => 67
    | 15 => 78
    | 14 => 77
    | 28 => 90
    | 29 => 91
    | 20 => 82
    | 21 => 83
    | 22 => 84
    | 23 => 85
    | 24 => 86
    | 25 => 87
    | 26 => 88
    | 27 => 89
    | 46 => 93
    | 47 => 94
    | 48 => 95
    | 49 => 96
    | 50 => 97
    | 57 => 98
    | n => n
  t := fun
    | 22 => 85
    | 24 => 74
    | 25 => 105
    | 3 => 3
    | 39 => 108
    | 0 => 0
    | 53 => 118
    | 55 => 120
    | 4 => 4
    | 46 => 112
    | 45 => 111
    | 50 => 82
    | 5 => 5
    | 9 => 9
    | 66 => 121
    | 70 => 125
    | 76 => 127
    | 77 => 128
    | n => n
  g := fun n => n

theorem sort_lays : SlLaysF0.n6 Try.prog sortRen where
  mixed := by kernel_rfl
  f6 := ⟨Try.f67.name, by kernel_rfl, Try.func67.trans (congrArg some (by kernel_rfl))⟩
  f14 := ⟨Try.f77.name, by kernel_rfl, Try.func77.trans (congrArg some (by kernel_rfl))⟩
  f15 := Try.func78.trans (congrArg some (by kernel_rfl))
  f20 := ⟨Try.f82.name, by kernel_rfl, Try.func82.trans (congrArg some (by kernel_rfl))⟩
  f21 := ⟨Try.f83.name, by kernel_rfl, Try.func83.trans (congrArg some (by kernel_rfl))⟩
  f22 := ⟨Try.f84.name, by kernel_rfl, Try.func84.trans (congrArg some (by kernel_rfl))⟩
  f23 := ⟨Try.f85.name, by kernel_rfl, Try.func85.trans (congrArg some (by kernel_rfl))⟩
  f24 := ⟨Try.f86.name, by kernel_rfl, Try.func86.trans (congrArg some (by kernel_rfl))⟩
  f25 := ⟨Try.f87.name, by kernel_rfl, Try.func87.trans (congrArg some (by kernel_rfl))⟩
  f26 := ⟨Try.f88.name, by kernel_rfl, Try.func88.trans (congrArg some (by kernel_rfl))⟩
  f27 := ⟨Try.f89.name, by kernel_rfl, Try.func89.trans (congrArg some (by kernel_rfl))⟩
  f28 := Try.func90.trans (congrArg some (by kernel_rfl))
  f29 := Try.func91.trans (congrArg some (by kernel_rfl))
  f46 := ⟨Try.f93.name, by kernel_rfl, Try.func93.trans (congrArg some (by kernel_rfl))⟩
  f47 := Try.func94.trans (congrArg some (by kernel_rfl))
  f48 := Try.func95.trans (congrArg some (by kernel_rfl))
  f49 := ⟨Try.f96.name, by kernel_rfl, Try.func96.trans (congrArg some (by kernel_rfl))⟩
  f50 := ⟨Try.f97.name, by kernel_rfl, Try.func97.trans (congrArg some (by kernel_rfl))⟩
  f57 := ⟨Try.f98.name, by kernel_rfl, Try.func98.trans (congrArg some (by kernel_rfl))⟩
  t0 := Try.underlying0
  a0 := Try.isAgg0
  z0 := Try.sizeOf0
  v0 := Try.zeroValue0
  t3 := Try.underlying3
  a3 := Try.isAgg3
  z3 := Try.sizeOf3
  v3 := Try.zeroValue3
  t4 := Try.underlying4
  a4 := Try.isAgg4
  z4 := Try.sizeOf4
  v4 := Try.zeroValue4
  t5 := Try.underlying5
  a5 := Try.isAgg5
  z5 := Try.sizeOf5
  v5 := Try.zeroValue5
  t9 := Try.underlying9
  a9 := Try.isAgg9
  z9 := Try.sizeOf9
  v9 := Try.zeroValue9
  t22 := Try.underlying85
  a22 := Try.isAgg85
  z22 := Try.sizeOf85
  v22 := Try.zeroValue85
  t25 := Try.underlying105
  a25 := Try.isAgg105
  z25 := Try.sizeOf105
  v25 := Try.zeroValue105
  t39 := Try.underlying108
  a39 := Try.isAgg108
  z39 := Try.sizeOf108
  v39 := Try.zeroValue108
  t45 := Try.underlying111
  a45 := Try.isAgg111
  z45 := Try.sizeOf111
  v45 := Try.zeroValue111
  t46 := Try.underlying112
  a46 := Try.isAgg112
  z46 := Try.sizeOf112
  v46 := Try.zeroValue112
  t50 := Try.underlying82
  a50 := Try.isAgg82
  z50 := Try.sizeOf82
  v50 := Try.zeroValue82
  t53 := Try.underlying118
  a53 := Try.isAgg118
  z53 := Try.sizeOf118
  v53 := Try.zeroValue118
  t55 := Try.underlying120
  a55 := Try.isAgg120
  z55 := Try.sizeOf120
  v55 := Try.zeroValue120
  t66 := Try.underlying121
  a66 := Try.isAgg121
  z66 := Try.sizeOf121
  v66 := Try.zeroValue121
  t70 := Try.underlying125
  a70 := Try.isAgg125
  z70 := Try.sizeOf125
  v70 := Try.zeroValue125
  t76 := Try.underlying127
  a76 := Try.isAgg127
  z76 := Try.sizeOf127
  v76 := Try.zeroValue127
  t77 := Try.underlying128
  a77 := Try.isAgg128
  z77 := Try.sizeOf128
  v77 := Try.zeroValue128

namespace Ag
/-- A number and its time. -/
abbrev Pr := Int × Int
def En.pr (e : En) : Pr := (e.id, e.tm)
def encP (x : Pr) : List Value := [.int .i64 x.1, .int .i64 x.2]
def cfP (x y : Pr) : Int := ordV x.1 x.2 y.1 y.2
def enP (x : Pr) : En := ⟨x.1, x.2, .int .i64 0⟩
theorem lt_iff (x y : Pr) : ltOf cfP x y = true ↔ x.2 < y.2 ∨ (x.2 = y.2 ∧ x.1 < y.1) := bef_iff (enP x) (enP y)
theorem lt_no (x y : Pr) : ltOf cfP x y = false ↔ ¬ (x.2 < y.2 ∨ (x.2 = y.2 ∧ x.1 < y.1)) := by rw [← lt_iff]; simp
theorem swoP : Sort.SWO (ltOf cfP) where
  irrefl x := by rw [lt_no]; omega
  trans x y z h1 h2 := by rw [lt_iff] at *; omega
  ntrans x y z h1 h2 := by rw [lt_no] at *; omega
theorem totP (x y : Pr) (h1 : ltOf cfP x y = false) (h2 : ltOf cfP y x = false) : x = y := by
  rw [lt_no] at h1 h2
  exact Prod.ext (by omega) (by omega)
/-- Sorted, that list is the one in the order. -/
theorem sort_eq {d M : List Pr} (hp : d.Perm M) (hs : M.Pairwise (fun x y => ltOf cfP x y = true)) : d.mergeSort (fun x y => !ltOf cfP y x) = M := by
  have h1 : (d.mergeSort (fun x y => !ltOf cfP y x)).Perm M := (List.mergeSort_perm d _).trans hp
  have h2 : (d.mergeSort (fun x y => !ltOf cfP y x)).Pairwise (fun x y => (!ltOf cfP y x) = true) := List.pairwise_mergeSort (le := fun x y => !ltOf cfP y x) (fun a b c hab hbc => by
    simp only [Bool.not_eq_true', lt_no] at *
    omega) (fun a b => by
    by_cases h : ltOf cfP b a = true
    · have : ltOf cfP a b = false := by rw [lt_no]; rw [lt_iff] at h; omega
      simp [this]
    · simp only [Bool.not_eq_true] at h
      simp [h]) d
  refine List.Perm.eq_of_pairwise (le := fun x y => (!ltOf cfP y x) = true) (fun a b _ _ hab hba => ?_) h2 (hs.imp (fun {a b} hab => ?_)) h1
  · simp only [Bool.not_eq_true'] at hab hba
    exact totP a b hba hab
  · simp only [Bool.not_eq_true', lt_no]
    rw [lt_iff] at hab
    omega
end Ag
theorem cmp_lays (blk off size : Nat) (w : World) : CmpLays Try.prog 68 #[] encP 2 cfP blk off size w := fun _ _ _ _ x y => inOrder_any x.1 x.2 y.1 y.2 _
theorem sort_any {w : World} {blk cap : Nat} {d M : List Pr} (hp : d.Perm M) (hs : M.Pairwise (fun x y => ltOf cfP x y = true)) (hblk : blk < w.heap.size) (hsz : d.length ≤ 35184372088832) {cur : Array Value} (hc : w.heap[blk]? = some (.cells cur 74 (0, 0)))
    (hcur : ∀ j x, d[j]? = some x → cur[j * 2]? = some (.int .i64 x.1) ∧ cur[j * 2 + 1]? = some (.int .i64 x.2)) :
    Calls Try.prog 67 #[.slice (some ⟨blk, 0, none⟩) d.length cap, .func (.func 68) #[] #[]] w fun e w' => e = .returned (.tuple #[]) ∧ (∀ j x, M[j]? = some x → w'.cell? ⟨blk, j * 2, none⟩ = some (.int .i64 x.1) ∧ w'.cell? ⟨blk, j * 2 + 1, none⟩ = some (.int .i64 x.2)) ∧ Chg (fun k => k = blk) w w' := by
  have hH : Sort.HoldsK encP 2 w blk 0 d.toArray := by
    intro j hj
    rw [Sort.size_flatK] at hj
    have hj' : j / 2 < d.length := by simp at hj; omega
    have hd := hcur (j / 2) d[j / 2] (List.getElem?_eq_getElem hj')
    refine ⟨?_, frozen_at hc⟩
    rw [Sort.get_flatK _ _ _ _ hj, Nat.zero_add]
    have e1 : d.toArray[j / 2]! = d[j / 2] := by simp [hj']
    rw [e1]
    by_cases h2 : j % 2 = 0
    · rw [h2]
      refine cells_at hc ?_
      have := hd.1
      rw [show j / 2 * 2 = j by omega] at this
      exact this
    · have h1 : j % 2 = 1 := by omega
      rw [h1]
      refine cells_at hc ?_
      have := hd.2
      rw [show j / 2 * 2 + 1 = j by omega] at this
      exact this
  have hcon := AnyQ.slices_SortFunc_total sort_lays 2 Try.isAgg74 Try.sizeOf74 encP (fun _ => rfl) (fun x v hv => by simp [encP] at hv; rcases hv with rfl | rfl <;> rfl) cfP swoP 68 #[] blk 0 cap d.toArray w (enters_of Try.func68 (by kernel_rfl) rfl) (cmp_lays _ _ _ _) hH hblk (by simp; omega) totP
  have hcon' : Calls Try.prog 67 #[.slice (some ⟨blk, 0, none⟩) d.length cap, .func (.func 68) #[] #[]] w _ := hcon
  refine hcon'.mono ?_
  rintro e w' ⟨rfl, n, os, rfl⟩
  rw [sort_eq hp hs]
  have hW : SWK encP 2 w blk 0 M.toArray (sortWorldK encP 2 w blk 0 n M.toArray os) := ⟨n, os, rfl⟩
  have hh := hW.holds hblk hH (by simp [hp.length_eq])
  refine ⟨rfl, fun j x hx => ?_, ?_⟩
  · have hj := (List.getElem?_eq_some_iff.1 hx).1
    have ex : M.toArray[j]! = x := by
      have := (List.getElem?_eq_some_iff.1 hx).2
      simp [hj, this]
    have h0 := (hh.cell (i := j) (c := 0) (by simpa using hj) (by decide)).1
    have h1 := (hh.cell (i := j) (c := 1) (by simpa using hj) (by decide)).1
    rw [ex, Nat.zero_add] at h0 h1
    exact ⟨h0, h1⟩
  · refine ⟨rfl, rfl, rfl, ?_, fun k hk hne => ?_⟩
    · simp [sortWorldK, Sort.grow, Sort.putRowK, Sort.putRow, Sort.mapBlock, Sort.ahead]
    · show ((w.heap.modify blk _) ++ os)[k]? = w.heap[k]?
      rw [Array.getElem?_append_left (by simpa using hk), Array.getElem?_modify]
      have : blk ≠ k := fun e => hne e.symm
      simp [this]
end Go.Proofs.Ytjmiifgofedcnaa
