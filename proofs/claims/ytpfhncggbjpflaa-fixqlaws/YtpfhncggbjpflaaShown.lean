/-
  THE STATEMENTS' HEAD: shown: some of the document's examples.
-/
import Derived.Test.YtpfhncggbjpflaaFixB
namespace Go.Proofs.Ytpfhncggbjpflaa
open Go.RowKit Wd
theorem of_ex (w : World) : Calls Try.prog 20 #[.int .i64 3] w fun e w' => e = .returned (.tuple #[.int .u64 12884901888, .bool true]) ∧ Below w.heap.size w w' := by
  have c := qof_any 3 (by omega) w
  rw [show ofV 3 = 12884901888 by decide +kernel, show ofB 3 = true by decide +kernel] at c
  exact c
theorem divUp_ex (w : World) : Calls Try.prog 18 #[.int .u64 4294967296, .int .u64 12884901888] w fun e w' => e = .returned (.tuple #[.int .u64 1431655766, .bool true]) ∧ Below w.heap.size w w' := by
  have c := divUp_any 4294967296 12884901888 ⟨by omega, by omega⟩ ⟨by omega, by omega⟩ w
  rw [show upV (4294967296 * 4294967296) 12884901888 = 1431655766 by decide +kernel, show upB (4294967296 * 4294967296) 12884901888 = true by decide +kernel] at c
  exact c
theorem divDown_ex (w : World) : Calls Try.prog 16 #[.int .u64 4294967296, .int .u64 12884901888] w fun e w' => e = .returned (.tuple #[.int .u64 1431655765, .bool true]) ∧ Below w.heap.size w w' := by
  have c := divDown_any 4294967296 12884901888 ⟨by omega, by omega⟩ ⟨by omega, by omega⟩ w
  rw [show dnV (4294967296 * 4294967296) 12884901888 = 1431655765 by decide +kernel, show dnB (4294967296 * 4294967296) 12884901888 = true by decide +kernel] at c
  exact c
theorem mulUp_ex (w : World) : Calls Try.prog 14 #[.int .u64 2147483648, .int .u64 3] w fun e w' => e = .returned (.tuple #[.int .u64 2, .bool true]) ∧ Below w.heap.size w w' := by
  have c := mulUp_any 2147483648 3 ⟨by omega, by omega⟩ ⟨by omega, by omega⟩ w
  rw [show upV (2147483648 * 3) 4294967296 = 2 by decide +kernel, show upB (2147483648 * 3) 4294967296 = true by decide +kernel] at c
  exact c
theorem sub_ex (w : World) : Calls Try.prog 10 #[.int .u64 1, .int .u64 2] w fun e w' => e = .returned (.tuple #[.int .u64 0, .bool false]) ∧ Below w.heap.size w w' := by
  have c := qsub_any 1 2 ⟨by omega, by omega⟩ ⟨by omega, by omega⟩ w
  rw [show subV 1 2 = 0 by decide +kernel, show subB 1 2 = false by decide +kernel] at c
  exact c
theorem part_ex (w : World) : Calls Try.prog 24 #[.int .u64 7, .int .u64 4611686018427387904] w fun e w' => e = .returned (.int .u64 3) ∧ Below w.heap.size w w' := by
  have c := part_any 7 4611686018427387904 ⟨by omega, by omega⟩ ⟨by omega, by omega⟩ w
  rw [show partV 7 4611686018427387904 = 3 by decide +kernel] at c
  exact c
theorem floor_ex (w : World) : Calls Try.prog 22 #[.int .u64 12884901893] w fun e w' => e = .returned (.int .i64 3) ∧ w' = w := by
  have c := floor_any 12884901893 ⟨by omega, by omega⟩ w
  rw [show (12884901893 : Int) / 4294967296 = 3 by decide +kernel] at c
  exact c

set_option maxHeartbeats 1000000 in
theorem shown_any (w : World) : Calls Try.prog 6 #[] w fun e w' => e = .returned (.bool true) ∧ Below w.heap.size w w' := by
  go_enter Try.func6, Try.ntmps6
  have HB : Below w.heap.size w w := Below.refl _ _
  go_wp2_with fail
  refine (of_ex _).mono ?_
  rintro e w' ⟨rfl, hb⟩
  replace HB := HB.trans (hb.mono HB.size)
  clear hb
  go_wp2_with fail
  refine (law_of 12884901888 true _).mono ?_
  rintro e w' ⟨rfl, hb⟩
  replace HB := HB.trans (hb.mono HB.size)
  clear hb
  go_wp2_with fail
  refine (divUp_ex _).mono ?_
  rintro e w' ⟨rfl, hb⟩
  replace HB := HB.trans (hb.mono HB.size)
  clear hb
  go_wp2_with fail
  refine (law_of 1431655766 true _).mono ?_
  rintro e w' ⟨rfl, hb⟩
  replace HB := HB.trans (hb.mono HB.size)
  clear hb
  go_wp2_with fail
  refine (divDown_ex _).mono ?_
  rintro e w' ⟨rfl, hb⟩
  replace HB := HB.trans (hb.mono HB.size)
  clear hb
  go_wp2_with fail
  refine (law_of 1431655765 true _).mono ?_
  rintro e w' ⟨rfl, hb⟩
  replace HB := HB.trans (hb.mono HB.size)
  clear hb
  go_wp2_with fail
  refine (mulUp_ex _).mono ?_
  rintro e w' ⟨rfl, hb⟩
  replace HB := HB.trans (hb.mono HB.size)
  clear hb
  go_wp2_with fail
  refine (law_of 2 true _).mono ?_
  rintro e w' ⟨rfl, hb⟩
  replace HB := HB.trans (hb.mono HB.size)
  clear hb
  go_wp2_with fail
  refine (sub_ex _).mono ?_
  rintro e w' ⟨rfl, hb⟩
  replace HB := HB.trans (hb.mono HB.size)
  clear hb
  go_wp2_with fail
  refine (law_of 0 false _).mono ?_
  rintro e w' ⟨rfl, hb⟩
  replace HB := HB.trans (hb.mono HB.size)
  clear hb
  go_wp2_with fail
  refine (part_ex _).mono ?_
  rintro e w' ⟨rfl, hb⟩
  replace HB := HB.trans (hb.mono HB.size)
  clear hb
  go_wp2_with fail
  refine (floor_ex _).mono ?_
  rintro e w' ⟨rfl, rfl⟩
  go_wp2
  go_ret
  exact ⟨rfl, HB⟩
end Go.Proofs.Ytpfhncggbjpflaa
