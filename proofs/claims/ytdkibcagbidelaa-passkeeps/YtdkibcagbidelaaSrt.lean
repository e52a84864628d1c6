/-
  slices.SortFunc at the runs: the library's contract, laid by hand at this program; by their ends, an order.
-/
import Derived.Test.YtdkibcagbidelaaPfR
import Derived.Test.YtdkibcagbidelaaPfP
import Derived.Test.YtdkibcagbidelaaCol
import Derived.Shelf.SlSortCmp.WholeK
namespace Go.Proofs.Ytdkibcagbidelaa
open Go.RowKit Go.Shelf Pr

/-- Which of this program's numbers stand for the library's. -/
def sortRen : Ren where
  f := fun
    | 6 => 61
    | 15 => 66
    | 14 => 65
    | 28 => 75
    | 29 => 76
    | 20 => 67
    | 21 => 68
    | 22 => 69
    | 23 => 70
    | 24 => 71
    | 25 => 72
    | 26 => 73
    | 27 => 74
    | 46 => 77
    | 47 => 78
    | 48 => 79
    | 49 => 80
    | 50 => 81
    | 57 => 82
    | n => n
  t := fun
    | 22 => 23
    | 24 => 45
    | 25 => 115
    | 3 => 3
    | 39 => 122
    | 0 => 0
    | 53 => 131
    | 55 => 133
    | 4 => 4
    | 46 => 125
    | 45 => 124
    | 50 => 96
    | 5 => 5
    | 9 => 9
    | 66 => 134
    | 70 => 138
    | 76 => 140
    | 77 => 73
    | n => n
  g := fun n => n

theorem sort_lays : SlLaysF0.n6 Try.prog sortRen where
  mixed := by kernel_rfl
  f6 := ⟨Try.f61.name, by kernel_rfl, Try.func61.trans (congrArg some (by kernel_rfl))⟩
  f14 := ⟨Try.f65.name, by kernel_rfl, Try.func65.trans (congrArg some (by kernel_rfl))⟩
  f15 := Try.func66.trans (congrArg some (by kernel_rfl))
  f20 := ⟨Try.f67.name, by kernel_rfl, Try.func67.trans (congrArg some (by kernel_rfl))⟩
  f21 := ⟨Try.f68.name, by kernel_rfl, Try.func68.trans (congrArg some (by kernel_rfl))⟩
  f22 := ⟨Try.f69.name, by kernel_rfl, Try.func69.trans (congrArg some (by kernel_rfl))⟩
  f23 := ⟨Try.f70.name, by kernel_rfl, Try.func70.trans (congrArg some (by kernel_rfl))⟩
  f24 := ⟨Try.f71.name, by kernel_rfl, Try.func71.trans (congrArg some (by kernel_rfl))⟩
  f25 := ⟨Try.f72.name, by kernel_rfl, Try.func72.trans (congrArg some (by kernel_rfl))⟩
  f26 := ⟨Try.f73.name, by kernel_rfl, Try.func73.trans (congrArg some (by kernel_rfl))⟩
  f27 := ⟨Try.f74.name, by kernel_rfl, Try.func74.trans (congrArg some (by kernel_rfl))⟩
  f28 := Try.func75.trans (congrArg some (by kernel_rfl))
  f29 := Try.func76.trans (congrArg some (by kernel_rfl))
  f46 := ⟨Try.f77.name, by kernel_rfl, Try.func77.trans (congrArg some (by kernel_rfl))⟩
  f47 := Try.func78.trans (congrArg some (by kernel_rfl))
  f48 := Try.func79.trans (congrArg some (by kernel_rfl))
  f49 := ⟨Try.f80.name, by kernel_rfl, Try.func80.trans (congrArg some (by kernel_rfl))⟩
  f50 := ⟨Try.f81.name, by kernel_rfl, Try.func81.trans (congrArg some (by kernel_rfl))⟩
  f57 := ⟨Try.f82.name, by kernel_rfl, Try.func82.trans (congrArg some (by kernel_rfl))⟩
  t0 := Try.underlying0
  a0 := Try.isAgg0
  z0 := Try.sizeOf0
  v0 := Try.zeroValue0
  t3 := Try.underlying3
  a3 := Try.isAgg3
  z3 := Try.sizeOf3
  v3 := Try.zeroValue3
  t4 := Try.underlying4
  a4 := Try.isAgg4
  z4 := Try.sizeOf4
  v4 := Try.zeroValue4
  t5 := Try.underlying5
  a5 := Try.isAgg5
  z5 := Try.sizeOf5
  v5 := Try.zeroValue5
  t9 := Try.underlying9
  a9 := Try.isAgg9
  z9 := Try.sizeOf9
  v9 := Try.zeroValue9
  t22 := Try.underlying23
  a22 := Try.isAgg23
  z22 := Try.sizeOf23
  v22 := Try.zeroValue23
  t25 := Try.underlying115
  a25 := Try.isAgg115
  z25 := Try.sizeOf115
  v25 := Try.zeroValue115
  t39 := Try.underlying122
  a39 := Try.isAgg122
  z39 := Try.sizeOf122
  v39 := Try.zeroValue122
  t45 := Try.underlying124
  a45 := Try.isAgg124
  z45 := Try.sizeOf124
  v45 := Try.zeroValue124
  t46 := Try.underlying125
  a46 := Try.isAgg125
  z46 := Try.sizeOf125
  v46 := Try.zeroValue125
  t50 := Try.underlying96
  a50 := Try.isAgg96
  z50 := Try.sizeOf96
  v50 := Try.zeroValue96
  t53 := Try.underlying131
  a53 := Try.isAgg131
  z53 := Try.sizeOf131
  v53 := Try.zeroValue131
  t55 := Try.underlying133
  a55 := Try.isAgg133
  z55 := Try.sizeOf133
  v55 := Try.zeroValue133
  t66 := Try.underlying134
  a66 := Try.isAgg134
  z66 := Try.sizeOf134
  v66 := Try.zeroValue134
  t70 := Try.underlying138
  a70 := Try.isAgg138
  z70 := Try.sizeOf138
  v70 := Try.zeroValue138
  t76 := Try.underlying140
  a76 := Try.isAgg140
  z76 := Try.sizeOf140
  v76 := Try.zeroValue140
  t77 := Try.underlying73
  a77 := Try.isAgg73
  z77 := Try.sizeOf73
  v77 := Try.zeroValue73



namespace Pr
instance : Inhabited Rn := ⟨⟨0, 0⟩⟩
def cfR (x y : Rn) : Int := cmpV x.en y.en
theorem lt_iff (x y : Rn) : ltOf cfR x y = true ↔ x.en < y.en := by
  unfold ltOf cfR cmpV
  by_cases h : x.en < y.en
  · simp [h]
  · by_cases h2 : y.en < x.en
    · simp [h, h2]
    · simp [h, h2]
theorem lt_no (x y : Rn) : ltOf cfR x y = false ↔ ¬ x.en < y.en := by rw [← lt_iff]; simp
theorem swoR : Sort.SWO (ltOf cfR) where
  irrefl x := by rw [lt_no]; omega
  trans x y z h1 h2 := by rw [lt_iff] at *; omega
  ntrans x y z h1 h2 := by rw [lt_no] at *; omega
def encL (r : Rn) : List Value := [.int .i64 r.nd, .int .i64 r.en]
end Pr
theorem cmp_lays (blk off size : Nat) (w : World) : CmpLays Try.prog 58 #[] encL 2 cfR blk off size w := fun _ _ _ _ x y => endCmp_any x y _

/-- slices.SortFunc by the ends: the same runs, in that order. -/
theorem sort_any {w : World} {blk cap : Nat} {d : List Rn} (hblk : blk < w.heap.size) (hsz : d.length ≤ 35184372088832) {cur : Array Value} (hc : w.heap[blk]? = some (.cells cur 45 (0, 0)))
    (hcur : ∀ j x, d[j]? = some x → cur[j * 2]? = some (.int .i64 x.nd) ∧ cur[j * 2 + 1]? = some (.int .i64 x.en)) :
    Calls Try.prog 61 #[.slice (some ⟨blk, 0, none⟩) d.length cap, .func (.func 58) #[] #[]] w fun e w' => e = .returned (.tuple #[]) ∧ ∃ M : List Rn, M.Perm d ∧ Srt M ∧ (∀ j x, M[j]? = some x → w'.cell? ⟨blk, j * 2, none⟩ = some (.int .i64 x.nd) ∧ w'.cell? ⟨blk, j * 2 + 1, none⟩ = some (.int .i64 x.en)) ∧ Chg (fun k => k = blk) w w' := by
  have hH : Sort.HoldsK encL 2 w blk 0 d.toArray := by
    intro j hj
    rw [Sort.size_flatK] at hj
    have hj' : j / 2 < d.length := by simp at hj; omega
    have hd := hcur (j / 2) d[j / 2] (List.getElem?_eq_getElem hj')
    refine ⟨?_, frozen_at hc⟩
    rw [Sort.get_flatK _ _ _ _ hj, Nat.zero_add]
    have e1 : d.toArray[j / 2]! = d[j / 2] := by simp [hj']
    rw [e1]
    by_cases h2 : j % 2 = 0
    · rw [h2]
      refine cells_at hc ?_
      have := hd.1
      rw [show j / 2 * 2 = j by omega] at this
      exact this
    · have h1 : j % 2 = 1 := by omega
      rw [h1]
      refine cells_at hc ?_
      have := hd.2
      rw [show j / 2 * 2 + 1 = j by omega] at this
      exact this
  have hcon := AnyQ.slices_SortFunc sort_lays 2 Try.isAgg45 Try.sizeOf45 encL (fun _ => rfl) (fun x v hv => by simp [encL] at hv; rcases hv with rfl | rfl <;> rfl) cfR swoR 58 #[] blk 0 cap d.toArray w (enters_of Try.func58 (by kernel_rfl) rfl) (cmp_lays _ _ _ _) hH hblk (by simp; omega)
  have hcon' : Calls Try.prog 61 #[.slice (some ⟨blk, 0, none⟩) d.length cap, .func (.func 58) #[] #[]] w _ := hcon
  refine hcon'.mono ?_
  rintro e w' ⟨rfl, d', n, os, ⟨hz, _, hperm⟩, hsrt, rfl⟩
  have hz' : d'.size = d.length := by simpa using hz
  have hP : d'.toList.Perm d := by
    have e1 : d'.extract 0 d.toArray.size = d' := by
      rw [show d.toArray.size = d'.size by rw [hz]]
      simp
    have e2 : d.toArray.extract 0 d.toArray.size = d.toArray := by simp
    rw [e1, e2] at hperm
    simpa using hperm
  have hW : SWK encL 2 w blk 0 d' (sortWorldK encL 2 w blk 0 n d' os) := ⟨n, os, rfl⟩
  have hh := hW.holds hblk hH (by simp [hz'])
  refine ⟨rfl, d'.toList, hP, ?_, fun j x hx => ?_, ?_⟩
  · rw [Srt, List.pairwise_iff_getElem]
    intro i j hi hj hij
    have := hsrt i j (Nat.zero_le _) hij (by simp at hj ⊢; omega)
    rw [lt_no] at this
    have e1 : d'[i]! = d'.toList[i] := by simp at hi; simp [hi]
    have e2 : d'[j]! = d'.toList[j] := by simp at hj; simp [hj]
    rw [e1, e2] at this
    omega
  · have hj := (List.getElem?_eq_some_iff.1 hx).1
    have ex : d'[j]! = x := by
      have := (List.getElem?_eq_some_iff.1 hx).2
      simp at hj
      simp [hj] at this ⊢
      exact this
    have h0 := (hh.cell (i := j) (c := 0) (by simpa using hj) (by decide)).1
    have h1 := (hh.cell (i := j) (c := 1) (by simpa using hj) (by decide)).1
    rw [ex, Nat.zero_add] at h0 h1
    exact ⟨h0, h1⟩
  · refine ⟨rfl, rfl, rfl, ?_, fun k hk hne => ?_⟩
    · simp [sortWorldK, Sort.grow, Sort.putRowK, Sort.putRow, Sort.mapBlock, Sort.ahead]
    · show ((w.heap.modify blk _) ++ os)[k]? = w.heap[k]?
      rw [Array.getElem?_append_left (by simpa using hk), Array.getElem?_modify]
      have : blk ≠ k := fun e => hne e.symm
      simp [this]
end Go.Proofs.Ytdkibcagbidelaa
