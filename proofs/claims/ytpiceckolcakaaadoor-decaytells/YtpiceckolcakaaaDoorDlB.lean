/-
  LAYER 10: DecayTells walked.
-/
import Derived.Test.YtpiceckolcakaaaDoorDlA
namespace Go.Proofs.YtpiceckolcakaaaDoor
open Go.RowKit Wd Ld

set_option maxHeartbeats 1000000 in
theorem tells_good (A : Asks) {p h u f n : Int} (hp : FitN p) (hh : FitN h) (hu : Word u) (hf : Word f) (hn : FitN n) (hb : ¬ BadF p h) (w : World) (hT : Tab w) :
    Calls Tryd.prog 3 #[.int .i64 p, .int .i64 h, .int .u64 u, .int .u64 f, .int .i64 n] w fun e w' => e = .returned (.bool true) ∧ Below w.heap.size w w' := by
  have c1 := A.good hp hh hb
  have c2 := rfactor_good hb
  have c3 := A.charge hu hn
  have c4 := rcharge_any hu hn.2
  have c5 := A.fade hu hf
  have c6 := rfade_any hu hf
  clear hb
  generalize chV u n = y at c3 c4
  generalize partV u f = z at c5 c6
  generalize ((halfN (expV p h) : Nat) : Int) = x at c1 c2
  go_enter Tryd.func3, Tryd.ntmps3
  have HB : Below w.heap.size w w := Below.refl _ _
  go_wp2_with fail
  refine (shown_any A _ hT).mono ?_
  rintro e w0 ⟨rfl, hz⟩
  replace HB := HB.trans (hz.mono HB.size)
  clear hz
  go_wp2_with fail
  refine (c1 _ (Tab.below HB hT)).mono ?_
  rintro e w1 ⟨rfl, hz⟩
  replace HB := HB.trans (hz.mono HB.size)
  clear hz
  go_wp2_with fail
  refine (c2 _).mono ?_
  rintro e w2 ⟨rfl, hz⟩
  replace HB := HB.trans (hz.mono HB.size)
  clear hz
  go_wp2_with fail
  refine (c3 _ (Tab.below HB hT)).mono ?_
  rintro e w3 ⟨rfl, hz⟩
  replace HB := HB.trans (hz.mono HB.size)
  clear hz
  go_wp2_with fail
  refine (c4 _).mono ?_
  rintro e w4 ⟨rfl, hz⟩
  replace HB := HB.trans (hz.mono HB.size)
  clear hz
  go_wp2_with fail
  refine (c5 _ (Tab.below HB hT)).mono ?_
  rintro e w5 ⟨rfl, hz⟩
  replace HB := HB.trans (hz.mono HB.size)
  clear hz
  go_wp2_with fail
  refine (c6 _).mono ?_
  rintro e w6 ⟨rfl, hz⟩
  replace HB := HB.trans (hz.mono HB.size)
  clear hz
  go_wp2
  go_ret
  exact ⟨rfl, HB⟩
set_option maxHeartbeats 1000000 in
theorem tells_bad (A : Asks) {p h u f n : Int} (hp : FitN p) (hh : FitN h) (hu : Word u) (hf : Word f) (hn : FitN n) (hb : BadF p h) (w : World) (hT : Tab w) :
    Calls Tryd.prog 3 #[.int .i64 p, .int .i64 h, .int .u64 u, .int .u64 f, .int .i64 n] w fun e w' => e = .returned (.bool true) ∧ Below w.heap.size w w' := by
  have c1 := A.bad hp hh hb
  have c2 := rfactor_bad hb
  have c3 := A.charge hu hn
  have c4 := rcharge_any hu hn.2
  have c5 := A.fade hu hf
  have c6 := rfade_any hu hf
  clear hb
  generalize chV u n = y at c3 c4
  generalize partV u f = z at c5 c6
  go_enter Tryd.func3, Tryd.ntmps3
  have HB : Below w.heap.size w w := Below.refl _ _
  go_wp2_with fail
  refine (shown_any A _ hT).mono ?_
  rintro e w0 ⟨rfl, hz⟩
  replace HB := HB.trans (hz.mono HB.size)
  clear hz
  go_wp2_with fail
  refine (c1 _ (Tab.below HB hT)).mono ?_
  rintro e w1 ⟨rfl, hz⟩
  replace HB := HB.trans (hz.mono HB.size)
  clear hz
  go_wp2_with fail
  refine (c2 _).mono ?_
  rintro e w2 ⟨rfl, hz⟩
  replace HB := HB.trans (hz.mono HB.size)
  clear hz
  go_wp2_with fail
  refine (c3 _ (Tab.below HB hT)).mono ?_
  rintro e w3 ⟨rfl, hz⟩
  replace HB := HB.trans (hz.mono HB.size)
  clear hz
  go_wp2_with fail
  refine (c4 _).mono ?_
  rintro e w4 ⟨rfl, hz⟩
  replace HB := HB.trans (hz.mono HB.size)
  clear hz
  go_wp2_with fail
  refine (c5 _ (Tab.below HB hT)).mono ?_
  rintro e w5 ⟨rfl, hz⟩
  replace HB := HB.trans (hz.mono HB.size)
  clear hz
  go_wp2_with fail
  refine (c6 _).mono ?_
  rintro e w6 ⟨rfl, hz⟩
  replace HB := HB.trans (hz.mono HB.size)
  clear hz
  go_wp2
  go_ret
  exact ⟨rfl, HB⟩
theorem tells_walk (A : Asks) {p h u f n : Int} (hp : FitN p) (hh : FitN h) (hu : Word u) (hf : Word f) (hn : FitN n) (w : World) (hT : Tab w) :
    Calls Tryd.prog 3 #[.int .i64 p, .int .i64 h, .int .u64 u, .int .u64 f, .int .i64 n] w fun e w' => e = .returned (.bool true) ∧ Below w.heap.size w w' := by
  by_cases hb : BadF p h
  · exact tells_bad A hp hh hu hf hn hb w hT
  · exact tells_good A hp hh hu hf hn hb w hT
end Go.Proofs.YtpiceckolcakaaaDoor
