/-
  THE STATEMENTS FixqNumbers and FixqTells, walked.
-/
import Derived.Test.YtpfhncggbjpflaaShown
import Derived.Test.YtpfhncggbjpflaaFixR
namespace Go.Proofs.Ytpfhncggbjpflaa
open Go.RowKit Wd

theorem numbers_walk (w : World) : Calls Try.prog 5 #[] w fun e w' => e = .returned (.bool true) ∧ Below w.heap.size w w' := by
  go_enter Try.func5, Try.ntmps5
  have HB : Below w.heap.size w w := Below.refl _ _
  go_wp2_with fail
  refine (shown_any _).mono ?_
  rintro e w' ⟨rfl, hb⟩
  replace HB := HB.trans (hb.mono HB.size)
  clear hb
  go_wp2
  go_ret
  exact ⟨rfl, HB⟩

set_option maxHeartbeats 4000000 in
theorem tells_walk (a b n : Int) (ha : Word a) (hb : Word b) (hn : n < 9223372036854775808) (w : World) :
    Calls Try.prog 3 #[.int .u64 a, .int .u64 b, .int .i64 n] w fun e w' => e = .returned (.bool true) ∧ Below w.heap.size w w' := by
  go_enter Try.func3, Try.ntmps3
  have HB : Below w.heap.size w w := Below.refl _ _
  go_wp2_with fail
  refine (shown_any _).mono ?_
  rintro e w' ⟨rfl, hz⟩
  replace HB := HB.trans (hz.mono HB.size)
  clear hz
  go_wp2_with fail
  refine (qadd_any a b ha hb _).mono ?_
  rintro e w' ⟨rfl, hz⟩
  replace HB := HB.trans (hz.mono HB.size)
  clear hz
  go_wp2_with fail
  refine (law_of (narV (a + b)) (narB (a + b)) _).mono ?_
  rintro e w' ⟨rfl, hz⟩
  replace HB := HB.trans (hz.mono HB.size)
  clear hz
  go_wp2_with fail
  refine (rqadd_any a b ha hb _).mono ?_
  rintro e w' ⟨rfl, hz⟩
  replace HB := HB.trans (hz.mono HB.size)
  clear hz
  go_wp2_with fail
  refine (law_of (narV (a + b)) (narB (a + b)) _).mono ?_
  rintro e w' ⟨rfl, hz⟩
  replace HB := HB.trans (hz.mono HB.size)
  clear hz
  go_wp2_with fail
  refine (qsub_any a b ha hb _).mono ?_
  rintro e w' ⟨rfl, hz⟩
  replace HB := HB.trans (hz.mono HB.size)
  clear hz
  go_wp2_with fail
  refine (law_of (subV a b) (subB a b) _).mono ?_
  rintro e w' ⟨rfl, hz⟩
  replace HB := HB.trans (hz.mono HB.size)
  clear hz
  go_wp2_with fail
  refine (rqsub_any a b ha hb _).mono ?_
  rintro e w' ⟨rfl, hz⟩
  replace HB := HB.trans (hz.mono HB.size)
  clear hz
  go_wp2_with fail
  refine (law_of (subV a b) (subB a b) _).mono ?_
  rintro e w' ⟨rfl, hz⟩
  replace HB := HB.trans (hz.mono HB.size)
  clear hz
  go_wp2_with fail
  refine (mulDown_any a b ha hb _).mono ?_
  rintro e w' ⟨rfl, hz⟩
  replace HB := HB.trans (hz.mono HB.size)
  clear hz
  go_wp2_with fail
  refine (law_of (dnV (a * b) 4294967296) (dnB (a * b) 4294967296) _).mono ?_
  rintro e w' ⟨rfl, hz⟩
  replace HB := HB.trans (hz.mono HB.size)
  clear hz
  go_wp2_with fail
  refine (rmulDown_any a b ha hb _).mono ?_
  rintro e w' ⟨rfl, hz⟩
  replace HB := HB.trans (hz.mono HB.size)
  clear hz
  go_wp2_with fail
  refine (law_of (dnV (a * b) 4294967296) (dnB (a * b) 4294967296) _).mono ?_
  rintro e w' ⟨rfl, hz⟩
  replace HB := HB.trans (hz.mono HB.size)
  clear hz
  go_wp2_with fail
  refine (mulUp_any a b ha hb _).mono ?_
  rintro e w' ⟨rfl, hz⟩
  replace HB := HB.trans (hz.mono HB.size)
  clear hz
  go_wp2_with fail
  refine (law_of (upV (a * b) 4294967296) (upB (a * b) 4294967296) _).mono ?_
  rintro e w' ⟨rfl, hz⟩
  replace HB := HB.trans (hz.mono HB.size)
  clear hz
  go_wp2_with fail
  refine (rmulUp_any a b ha hb _).mono ?_
  rintro e w' ⟨rfl, hz⟩
  replace HB := HB.trans (hz.mono HB.size)
  clear hz
  go_wp2_with fail
  refine (law_of (upV (a * b) 4294967296) (upB (a * b) 4294967296) _).mono ?_
  rintro e w' ⟨rfl, hz⟩
  replace HB := HB.trans (hz.mono HB.size)
  clear hz
  go_wp2_with fail
  refine (divDown_any a b ha hb _).mono ?_
  rintro e w' ⟨rfl, hz⟩
  replace HB := HB.trans (hz.mono HB.size)
  clear hz
  go_wp2_with fail
  refine (law_of (dnV (a * 4294967296) b) (dnB (a * 4294967296) b) _).mono ?_
  rintro e w' ⟨rfl, hz⟩
  replace HB := HB.trans (hz.mono HB.size)
  clear hz
  go_wp2_with fail
  refine (rdivDown_any a b ha hb _).mono ?_
  rintro e w' ⟨rfl, hz⟩
  replace HB := HB.trans (hz.mono HB.size)
  clear hz
  go_wp2_with fail
  refine (law_of (dnV (a * 4294967296) b) (dnB (a * 4294967296) b) _).mono ?_
  rintro e w' ⟨rfl, hz⟩
  replace HB := HB.trans (hz.mono HB.size)
  clear hz
  go_wp2_with fail
  refine (divUp_any a b ha hb _).mono ?_
  rintro e w' ⟨rfl, hz⟩
  replace HB := HB.trans (hz.mono HB.size)
  clear hz
  go_wp2_with fail
  refine (law_of (upV (a * 4294967296) b) (upB (a * 4294967296) b) _).mono ?_
  rintro e w' ⟨rfl, hz⟩
  replace HB := HB.trans (hz.mono HB.size)
  clear hz
  go_wp2_with fail
  refine (rdivUp_any a b ha hb _).mono ?_
  rintro e w' ⟨rfl, hz⟩
  replace HB := HB.trans (hz.mono HB.size)
  clear hz
  go_wp2_with fail
  refine (law_of (upV (a * 4294967296) b) (upB (a * 4294967296) b) _).mono ?_
  rintro e w' ⟨rfl, hz⟩
  replace HB := HB.trans (hz.mono HB.size)
  clear hz
  go_wp2_with fail
  refine (qof_any n hn _).mono ?_
  rintro e w' ⟨rfl, hz⟩
  replace HB := HB.trans (hz.mono HB.size)
  clear hz
  go_wp2_with fail
  refine (law_of (ofV n) (ofB n) _).mono ?_
  rintro e w' ⟨rfl, hz⟩
  replace HB := HB.trans (hz.mono HB.size)
  clear hz
  go_wp2_with fail
  refine (rqof_any n hn _).mono ?_
  rintro e w' ⟨rfl, hz⟩
  replace HB := HB.trans (hz.mono HB.size)
  clear hz
  go_wp2_with fail
  refine (law_of (ofV n) (ofB n) _).mono ?_
  rintro e w' ⟨rfl, hz⟩
  replace HB := HB.trans (hz.mono HB.size)
  clear hz
  go_wp2_with fail
  refine (floor_any a ha _).mono ?_
  rintro e w' ⟨rfl, rfl⟩
  go_wp2_with fail
  refine (rfloor_any a ha _).mono ?_
  rintro e w' ⟨rfl, rfl⟩
  go_wp2_with fail
  refine (part_any a b ha hb _).mono ?_
  rintro e w' ⟨rfl, hz⟩
  replace HB := HB.trans (hz.mono HB.size)
  clear hz
  go_wp2_with fail
  refine (rpart_any a b ha hb _).mono ?_
  rintro e w' ⟨rfl, hz⟩
  replace HB := HB.trans (hz.mono HB.size)
  clear hz
  go_wp2
  go_ret
  exact ⟨rfl, HB⟩
end Go.Proofs.Ytpfhncggbjpflaa
