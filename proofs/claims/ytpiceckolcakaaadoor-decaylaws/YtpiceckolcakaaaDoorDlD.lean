/-
  LAYER 10: DecayLaws walked.
-/
import Derived.Test.YtpiceckolcakaaaDoorDlA
import Derived.Test.YtpiceckolcakaaaDoorMathL
namespace Go.Proofs.YtpiceckolcakaaaDoor
open Go.RowKit Wd Ld

def FadeC (u f a : Int) : Prop := ∀ w, Tab w → Calls Tryd.prog 13 #[.int .u64 u, .int .u64 f] w fun e w' => e = .returned (.int .u64 a) ∧ Below w.heap.size w w'
/-- Of two, faded one by one, and of both together. -/
theorem part_sum {u v f : Int} : partV (u + v) f = partV u f + partV v f ∨ partV (u + v) f = partV u f + partV v f + 1 := by
  unfold partV
  rw [Int.add_mul]
  generalize u * minV f = x
  generalize v * minV f = y
  omega
set_option maxHeartbeats 1000000 in
theorem laws_yes_lt_full (A : Asks) {u v f g a b c : Int} (hv : Word v) (hs : g < f) (cA : FadeC u g a) (cB : FadeC v g b) (cC : FadeC u f c) (h1 : ¬ u < a) (h2 : ¬ c < a) (ho : u ≤ v) (ho2 : ¬ v ≤ u) (h3 : ¬ b < a) (he : 18446744073709551615 - v < u) (w : World) (hT : Tab w) :
    Calls Tryd.prog 5 #[.int .u64 u, .int .u64 v, .int .u64 f, .int .u64 g] w fun e w' => e = .returned (.bool true) ∧ Below w.heap.size w w' := by
  have e0 : IntKind.u64.wrap (18446744073709551615 - v) = 18446744073709551615 - v := by rw [IntKind.wrap_u64]; obtain ⟨_, _⟩ := hv; omega
  clear hv
  go_enter Tryd.func5, Tryd.ntmps5
  have HB : Below w.heap.size w w := Below.refl _ _
  go_wp2_with fail
  refine (shown_any A _ (Tab.below HB hT)).mono ?_
  rintro e w0 ⟨rfl, hz⟩
  replace HB := HB.trans (hz.mono HB.size)
  clear hz
  go_wp2_with fail
  refine (cA _ (Tab.below HB hT)).mono ?_
  rintro e w1 ⟨rfl, hz⟩
  replace HB := HB.trans (hz.mono HB.size)
  clear hz
  go_wp2_with fail
  refine (cB _ (Tab.below HB hT)).mono ?_
  rintro e w2 ⟨rfl, hz⟩
  replace HB := HB.trans (hz.mono HB.size)
  clear hz
  go_wp2_with fail
  refine (cC _ (Tab.below HB hT)).mono ?_
  rintro e w3 ⟨rfl, hz⟩
  replace HB := HB.trans (hz.mono HB.size)
  clear hz
  go_wp2
  go_ret
  exact ⟨rfl, HB⟩
set_option maxHeartbeats 1000000 in
theorem laws_yes_lt_same (A : Asks) {u v f g a b c : Int} (hu : Word u) (hv : Word v) (hs : g < f) (cA : FadeC u g a) (cB : FadeC v g b) (cC : FadeC u f c) (h1 : ¬ u < a) (h2 : ¬ c < a) (ho : u ≤ v) (ho2 : ¬ v ≤ u) (h3 : ¬ b < a) (he : ¬ 18446744073709551615 - v < u) (cD : FadeC (u + v) g (a + b)) (ht : a + b < 18446744073709551616) (hab : 0 ≤ a + b) (w : World) (hT : Tab w) :
    Calls Tryd.prog 5 #[.int .u64 u, .int .u64 v, .int .u64 f, .int .u64 g] w fun e w' => e = .returned (.bool true) ∧ Below w.heap.size w w' := by
  have e0 : IntKind.u64.wrap (18446744073709551615 - v) = 18446744073709551615 - v := by rw [IntKind.wrap_u64]; obtain ⟨_, _⟩ := hv; omega
  have e1 : IntKind.u64.wrap (u + v) = u + v := by rw [IntKind.wrap_u64]; obtain ⟨_, _⟩ := hu; obtain ⟨_, _⟩ := hv; omega
  have e2 : IntKind.u64.wrap (a + b) = a + b := by rw [IntKind.wrap_u64]; omega
  clear hu hv ht hab
  go_enter Tryd.func5, Tryd.ntmps5
  have HB : Below w.heap.size w w := Below.refl _ _
  go_wp2_with fail
  refine (shown_any A _ (Tab.below HB hT)).mono ?_
  rintro e w0 ⟨rfl, hz⟩
  replace HB := HB.trans (hz.mono HB.size)
  clear hz
  go_wp2_with fail
  refine (cA _ (Tab.below HB hT)).mono ?_
  rintro e w1 ⟨rfl, hz⟩
  replace HB := HB.trans (hz.mono HB.size)
  clear hz
  go_wp2_with fail
  refine (cB _ (Tab.below HB hT)).mono ?_
  rintro e w2 ⟨rfl, hz⟩
  replace HB := HB.trans (hz.mono HB.size)
  clear hz
  go_wp2_with fail
  refine (cC _ (Tab.below HB hT)).mono ?_
  rintro e w3 ⟨rfl, hz⟩
  replace HB := HB.trans (hz.mono HB.size)
  clear hz
  go_wp2_with fail
  refine (cD _ (Tab.below HB hT)).mono ?_
  rintro e w4 ⟨rfl, hz⟩
  replace HB := HB.trans (hz.mono HB.size)
  clear hz
  go_wp2
  go_ret
  exact ⟨rfl, HB⟩
set_option maxHeartbeats 1000000 in
theorem laws_yes_lt_one (A : Asks) {u v f g a b c : Int} (hu : Word u) (hv : Word v) (hs : g < f) (cA : FadeC u g a) (cB : FadeC v g b) (cC : FadeC u f c) (h1 : ¬ u < a) (h2 : ¬ c < a) (ho : u ≤ v) (ho2 : ¬ v ≤ u) (h3 : ¬ b < a) (he : ¬ 18446744073709551615 - v < u) (cD : FadeC (u + v) g (a + b + 1)) (ht : a + b + 1 < 18446744073709551616) (hab : 0 ≤ a + b) (w : World) (hT : Tab w) :
    Calls Tryd.prog 5 #[.int .u64 u, .int .u64 v, .int .u64 f, .int .u64 g] w fun e w' => e = .returned (.bool true) ∧ Below w.heap.size w w' := by
  have e0 : IntKind.u64.wrap (18446744073709551615 - v) = 18446744073709551615 - v := by rw [IntKind.wrap_u64]; obtain ⟨_, _⟩ := hv; omega
  have e1 : IntKind.u64.wrap (u + v) = u + v := by rw [IntKind.wrap_u64]; obtain ⟨_, _⟩ := hu; obtain ⟨_, _⟩ := hv; omega
  have e2 : IntKind.u64.wrap (a + b) = a + b := by rw [IntKind.wrap_u64]; omega
  have e3 : IntKind.u64.wrap (a + b + 1) = a + b + 1 := by rw [IntKind.wrap_u64]; omega
  have e4 : ¬ a + b + 1 = a + b := by omega
  clear hu hv ht hab
  go_enter Tryd.func5, Tryd.ntmps5
  have HB : Below w.heap.size w w := Below.refl _ _
  go_wp2_with fail
  refine (shown_any A _ (Tab.below HB hT)).mono ?_
  rintro e w0 ⟨rfl, hz⟩
  replace HB := HB.trans (hz.mono HB.size)
  clear hz
  go_wp2_with fail
  refine (cA _ (Tab.below HB hT)).mono ?_
  rintro e w1 ⟨rfl, hz⟩
  replace HB := HB.trans (hz.mono HB.size)
  clear hz
  go_wp2_with fail
  refine (cB _ (Tab.below HB hT)).mono ?_
  rintro e w2 ⟨rfl, hz⟩
  replace HB := HB.trans (hz.mono HB.size)
  clear hz
  go_wp2_with fail
  refine (cC _ (Tab.below HB hT)).mono ?_
  rintro e w3 ⟨rfl, hz⟩
  replace HB := HB.trans (hz.mono HB.size)
  clear hz
  go_wp2_with fail
  refine (cD _ (Tab.below HB hT)).mono ?_
  rintro e w4 ⟨rfl, hz⟩
  replace HB := HB.trans (hz.mono HB.size)
  clear hz
  go_wp2
  go_ret
  exact ⟨rfl, HB⟩
set_option maxHeartbeats 1000000 in
theorem laws_yes_eq_full (A : Asks) {u v f g a b c : Int} (hv : Word v) (hs : g < f) (cA : FadeC u g a) (cB : FadeC v g b) (cC : FadeC u f c) (h1 : ¬ u < a) (h2 : ¬ c < a) (ho : u ≤ v) (ho2 : v ≤ u) (h3 : ¬ b < a) (h4 : ¬ a < b) (he : 18446744073709551615 - v < u) (w : World) (hT : Tab w) :
    Calls Tryd.prog 5 #[.int .u64 u, .int .u64 v, .int .u64 f, .int .u64 g] w fun e w' => e = .returned (.bool true) ∧ Below w.heap.size w w' := by
  have e0 : IntKind.u64.wrap (18446744073709551615 - v) = 18446744073709551615 - v := by rw [IntKind.wrap_u64]; obtain ⟨_, _⟩ := hv; omega
  clear hv
  go_enter Tryd.func5, Tryd.ntmps5
  have HB : Below w.heap.size w w := Below.refl _ _
  go_wp2_with fail
  refine (shown_any A _ (Tab.below HB hT)).mono ?_
  rintro e w0 ⟨rfl, hz⟩
  replace HB := HB.trans (hz.mono HB.size)
  clear hz
  go_wp2_with fail
  refine (cA _ (Tab.below HB hT)).mono ?_
  rintro e w1 ⟨rfl, hz⟩
  replace HB := HB.trans (hz.mono HB.size)
  clear hz
  go_wp2_with fail
  refine (cB _ (Tab.below HB hT)).mono ?_
  rintro e w2 ⟨rfl, hz⟩
  replace HB := HB.trans (hz.mono HB.size)
  clear hz
  go_wp2_with fail
  refine (cC _ (Tab.below HB hT)).mono ?_
  rintro e w3 ⟨rfl, hz⟩
  replace HB := HB.trans (hz.mono HB.size)
  clear hz
  go_wp2
  go_ret
  exact ⟨rfl, HB⟩
set_option maxHeartbeats 1000000 in
theorem laws_yes_eq_same (A : Asks) {u v f g a b c : Int} (hu : Word u) (hv : Word v) (hs : g < f) (cA : FadeC u g a) (cB : FadeC v g b) (cC : FadeC u f c) (h1 : ¬ u < a) (h2 : ¬ c < a) (ho : u ≤ v) (ho2 : v ≤ u) (h3 : ¬ b < a) (h4 : ¬ a < b) (he : ¬ 18446744073709551615 - v < u) (cD : FadeC (u + v) g (a + b)) (ht : a + b < 18446744073709551616) (hab : 0 ≤ a + b) (w : World) (hT : Tab w) :
    Calls Tryd.prog 5 #[.int .u64 u, .int .u64 v, .int .u64 f, .int .u64 g] w fun e w' => e = .returned (.bool true) ∧ Below w.heap.size w w' := by
  have e0 : IntKind.u64.wrap (18446744073709551615 - v) = 18446744073709551615 - v := by rw [IntKind.wrap_u64]; obtain ⟨_, _⟩ := hv; omega
  have e1 : IntKind.u64.wrap (u + v) = u + v := by rw [IntKind.wrap_u64]; obtain ⟨_, _⟩ := hu; obtain ⟨_, _⟩ := hv; omega
  have e2 : IntKind.u64.wrap (a + b) = a + b := by rw [IntKind.wrap_u64]; omega
  clear hu hv ht hab
  go_enter Tryd.func5, Tryd.ntmps5
  have HB : Below w.heap.size w w := Below.refl _ _
  go_wp2_with fail
  refine (shown_any A _ (Tab.below HB hT)).mono ?_
  rintro e w0 ⟨rfl, hz⟩
  replace HB := HB.trans (hz.mono HB.size)
  clear hz
  go_wp2_with fail
  refine (cA _ (Tab.below HB hT)).mono ?_
  rintro e w1 ⟨rfl, hz⟩
  replace HB := HB.trans (hz.mono HB.size)
  clear hz
  go_wp2_with fail
  refine (cB _ (Tab.below HB hT)).mono ?_
  rintro e w2 ⟨rfl, hz⟩
  replace HB := HB.trans (hz.mono HB.size)
  clear hz
  go_wp2_with fail
  refine (cC _ (Tab.below HB hT)).mono ?_
  rintro e w3 ⟨rfl, hz⟩
  replace HB := HB.trans (hz.mono HB.size)
  clear hz
  go_wp2_with fail
  refine (cD _ (Tab.below HB hT)).mono ?_
  rintro e w4 ⟨rfl, hz⟩
  replace HB := HB.trans (hz.mono HB.size)
  clear hz
  go_wp2
  go_ret
  exact ⟨rfl, HB⟩
set_option maxHeartbeats 1000000 in
theorem laws_yes_eq_one (A : Asks) {u v f g a b c : Int} (hu : Word u) (hv : Word v) (hs : g < f) (cA : FadeC u g a) (cB : FadeC v g b) (cC : FadeC u f c) (h1 : ¬ u < a) (h2 : ¬ c < a) (ho : u ≤ v) (ho2 : v ≤ u) (h3 : ¬ b < a) (h4 : ¬ a < b) (he : ¬ 18446744073709551615 - v < u) (cD : FadeC (u + v) g (a + b + 1)) (ht : a + b + 1 < 18446744073709551616) (hab : 0 ≤ a + b) (w : World) (hT : Tab w) :
    Calls Tryd.prog 5 #[.int .u64 u, .int .u64 v, .int .u64 f, .int .u64 g] w fun e w' => e = .returned (.bool true) ∧ Below w.heap.size w w' := by
  have e0 : IntKind.u64.wrap (18446744073709551615 - v) = 18446744073709551615 - v := by rw [IntKind.wrap_u64]; obtain ⟨_, _⟩ := hv; omega
  have e1 : IntKind.u64.wrap (u + v) = u + v := by rw [IntKind.wrap_u64]; obtain ⟨_, _⟩ := hu; obtain ⟨_, _⟩ := hv; omega
  have e2 : IntKind.u64.wrap (a + b) = a + b := by rw [IntKind.wrap_u64]; omega
  have e3 : IntKind.u64.wrap (a + b + 1) = a + b + 1 := by rw [IntKind.wrap_u64]; omega
  have e4 : ¬ a + b + 1 = a + b := by omega
  clear hu hv ht hab
  go_enter Tryd.func5, Tryd.ntmps5
  have HB : Below w.heap.size w w := Below.refl _ _
  go_wp2_with fail
  refine (shown_any A _ (Tab.below HB hT)).mono ?_
  rintro e w0 ⟨rfl, hz⟩
  replace HB := HB.trans (hz.mono HB.size)
  clear hz
  go_wp2_with fail
  refine (cA _ (Tab.below HB hT)).mono ?_
  rintro e w1 ⟨rfl, hz⟩
  replace HB := HB.trans (hz.mono HB.size)
  clear hz
  go_wp2_with fail
  refine (cB _ (Tab.below HB hT)).mono ?_
  rintro e w2 ⟨rfl, hz⟩
  replace HB := HB.trans (hz.mono HB.size)
  clear hz
  go_wp2_with fail
  refine (cC _ (Tab.below HB hT)).mono ?_
  rintro e w3 ⟨rfl, hz⟩
  replace HB := HB.trans (hz.mono HB.size)
  clear hz
  go_wp2_with fail
  refine (cD _ (Tab.below HB hT)).mono ?_
  rintro e w4 ⟨rfl, hz⟩
  replace HB := HB.trans (hz.mono HB.size)
  clear hz
  go_wp2
  go_ret
  exact ⟨rfl, HB⟩
set_option maxHeartbeats 1000000 in
theorem laws_yes_gt_full (A : Asks) {u v f g a b c : Int} (hv : Word v) (hs : g < f) (cA : FadeC u g a) (cB : FadeC v g b) (cC : FadeC u f c) (h1 : ¬ u < a) (h2 : ¬ c < a) (ho : ¬ u ≤ v) (ho2 : v ≤ u) (h4 : ¬ a < b) (he : 18446744073709551615 - v < u) (w : World) (hT : Tab w) :
    Calls Tryd.prog 5 #[.int .u64 u, .int .u64 v, .int .u64 f, .int .u64 g] w fun e w' => e = .returned (.bool true) ∧ Below w.heap.size w w' := by
  have e0 : IntKind.u64.wrap (18446744073709551615 - v) = 18446744073709551615 - v := by rw [IntKind.wrap_u64]; obtain ⟨_, _⟩ := hv; omega
  clear hv
  go_enter Tryd.func5, Tryd.ntmps5
  have HB : Below w.heap.size w w := Below.refl _ _
  go_wp2_with fail
  refine (shown_any A _ (Tab.below HB hT)).mono ?_
  rintro e w0 ⟨rfl, hz⟩
  replace HB := HB.trans (hz.mono HB.size)
  clear hz
  go_wp2_with fail
  refine (cA _ (Tab.below HB hT)).mono ?_
  rintro e w1 ⟨rfl, hz⟩
  replace HB := HB.trans (hz.mono HB.size)
  clear hz
  go_wp2_with fail
  refine (cB _ (Tab.below HB hT)).mono ?_
  rintro e w2 ⟨rfl, hz⟩
  replace HB := HB.trans (hz.mono HB.size)
  clear hz
  go_wp2_with fail
  refine (cC _ (Tab.below HB hT)).mono ?_
  rintro e w3 ⟨rfl, hz⟩
  replace HB := HB.trans (hz.mono HB.size)
  clear hz
  go_wp2
  go_ret
  exact ⟨rfl, HB⟩
set_option maxHeartbeats 1000000 in
theorem laws_yes_gt_same (A : Asks) {u v f g a b c : Int} (hu : Word u) (hv : Word v) (hs : g < f) (cA : FadeC u g a) (cB : FadeC v g b) (cC : FadeC u f c) (h1 : ¬ u < a) (h2 : ¬ c < a) (ho : ¬ u ≤ v) (ho2 : v ≤ u) (h4 : ¬ a < b) (he : ¬ 18446744073709551615 - v < u) (cD : FadeC (u + v) g (a + b)) (ht : a + b < 18446744073709551616) (hab : 0 ≤ a + b) (w : World) (hT : Tab w) :
    Calls Tryd.prog 5 #[.int .u64 u, .int .u64 v, .int .u64 f, .int .u64 g] w fun e w' => e = .returned (.bool true) ∧ Below w.heap.size w w' := by
  have e0 : IntKind.u64.wrap (18446744073709551615 - v) = 18446744073709551615 - v := by rw [IntKind.wrap_u64]; obtain ⟨_, _⟩ := hv; omega
  have e1 : IntKind.u64.wrap (u + v) = u + v := by rw [IntKind.wrap_u64]; obtain ⟨_, _⟩ := hu; obtain ⟨_, _⟩ := hv; omega
  have e2 : IntKind.u64.wrap (a + b) = a + b := by rw [IntKind.wrap_u64]; omega
  clear hu hv ht hab
  go_enter Tryd.func5, Tryd.ntmps5
  have HB : Below w.heap.size w w := Below.refl _ _
  go_wp2_with fail
  refine (shown_any A _ (Tab.below HB hT)).mono ?_
  rintro e w0 ⟨rfl, hz⟩
  replace HB := HB.trans (hz.mono HB.size)
  clear hz
  go_wp2_with fail
  refine (cA _ (Tab.below HB hT)).mono ?_
  rintro e w1 ⟨rfl, hz⟩
  replace HB := HB.trans (hz.mono HB.size)
  clear hz
  go_wp2_with fail
  refine (cB _ (Tab.below HB hT)).mono ?_
  rintro e w2 ⟨rfl, hz⟩
  replace HB := HB.trans (hz.mono HB.size)
  clear hz
  go_wp2_with fail
  refine (cC _ (Tab.below HB hT)).mono ?_
  rintro e w3 ⟨rfl, hz⟩
  replace HB := HB.trans (hz.mono HB.size)
  clear hz
  go_wp2_with fail
  refine (cD _ (Tab.below HB hT)).mono ?_
  rintro e w4 ⟨rfl, hz⟩
  replace HB := HB.trans (hz.mono HB.size)
  clear hz
  go_wp2
  go_ret
  exact ⟨rfl, HB⟩
set_option maxHeartbeats 1000000 in
theorem laws_yes_gt_one (A : Asks) {u v f g a b c : Int} (hu : Word u) (hv : Word v) (hs : g < f) (cA : FadeC u g a) (cB : FadeC v g b) (cC : FadeC u f c) (h1 : ¬ u < a) (h2 : ¬ c < a) (ho : ¬ u ≤ v) (ho2 : v ≤ u) (h4 : ¬ a < b) (he : ¬ 18446744073709551615 - v < u) (cD : FadeC (u + v) g (a + b + 1)) (ht : a + b + 1 < 18446744073709551616) (hab : 0 ≤ a + b) (w : World) (hT : Tab w) :
    Calls Tryd.prog 5 #[.int .u64 u, .int .u64 v, .int .u64 f, .int .u64 g] w fun e w' => e = .returned (.bool true) ∧ Below w.heap.size w w' := by
  have e0 : IntKind.u64.wrap (18446744073709551615 - v) = 18446744073709551615 - v := by rw [IntKind.wrap_u64]; obtain ⟨_, _⟩ := hv; omega
  have e1 : IntKind.u64.wrap (u + v) = u + v := by rw [IntKind.wrap_u64]; obtain ⟨_, _⟩ := hu; obtain ⟨_, _⟩ := hv; omega
  have e2 : IntKind.u64.wrap (a + b) = a + b := by rw [IntKind.wrap_u64]; omega
  have e3 : IntKind.u64.wrap (a + b + 1) = a + b + 1 := by rw [IntKind.wrap_u64]; omega
  have e4 : ¬ a + b + 1 = a + b := by omega
  clear hu hv ht hab
  go_enter Tryd.func5, Tryd.ntmps5
  have HB : Below w.heap.size w w := Below.refl _ _
  go_wp2_with fail
  refine (shown_any A _ (Tab.below HB hT)).mono ?_
  rintro e w0 ⟨rfl, hz⟩
  replace HB := HB.trans (hz.mono HB.size)
  clear hz
  go_wp2_with fail
  refine (cA _ (Tab.below HB hT)).mono ?_
  rintro e w1 ⟨rfl, hz⟩
  replace HB := HB.trans (hz.mono HB.size)
  clear hz
  go_wp2_with fail
  refine (cB _ (Tab.below HB hT)).mono ?_
  rintro e w2 ⟨rfl, hz⟩
  replace HB := HB.trans (hz.mono HB.size)
  clear hz
  go_wp2_with fail
  refine (cC _ (Tab.below HB hT)).mono ?_
  rintro e w3 ⟨rfl, hz⟩
  replace HB := HB.trans (hz.mono HB.size)
  clear hz
  go_wp2_with fail
  refine (cD _ (Tab.below HB hT)).mono ?_
  rintro e w4 ⟨rfl, hz⟩
  replace HB := HB.trans (hz.mono HB.size)
  clear hz
  go_wp2
  go_ret
  exact ⟨rfl, HB⟩
set_option maxHeartbeats 1000000 in
theorem laws_no_lt_full (A : Asks) {u v f g a b c : Int} (hv : Word v) (hs : ¬ g < f) (cA : FadeC u f a) (cB : FadeC v f b) (cC : FadeC u g c) (h1 : ¬ u < a) (h2 : ¬ c < a) (ho : u ≤ v) (ho2 : ¬ v ≤ u) (h3 : ¬ b < a) (he : 18446744073709551615 - v < u) (w : World) (hT : Tab w) :
    Calls Tryd.prog 5 #[.int .u64 u, .int .u64 v, .int .u64 f, .int .u64 g] w fun e w' => e = .returned (.bool true) ∧ Below w.heap.size w w' := by
  have e0 : IntKind.u64.wrap (18446744073709551615 - v) = 18446744073709551615 - v := by rw [IntKind.wrap_u64]; obtain ⟨_, _⟩ := hv; omega
  clear hv
  go_enter Tryd.func5, Tryd.ntmps5
  have HB : Below w.heap.size w w := Below.refl _ _
  go_wp2_with fail
  refine (shown_any A _ (Tab.below HB hT)).mono ?_
  rintro e w0 ⟨rfl, hz⟩
  replace HB := HB.trans (hz.mono HB.size)
  clear hz
  go_wp2_with fail
  refine (cA _ (Tab.below HB hT)).mono ?_
  rintro e w1 ⟨rfl, hz⟩
  replace HB := HB.trans (hz.mono HB.size)
  clear hz
  go_wp2_with fail
  refine (cB _ (Tab.below HB hT)).mono ?_
  rintro e w2 ⟨rfl, hz⟩
  replace HB := HB.trans (hz.mono HB.size)
  clear hz
  go_wp2_with fail
  refine (cC _ (Tab.below HB hT)).mono ?_
  rintro e w3 ⟨rfl, hz⟩
  replace HB := HB.trans (hz.mono HB.size)
  clear hz
  go_wp2
  go_ret
  exact ⟨rfl, HB⟩
set_option maxHeartbeats 1000000 in
theorem laws_no_lt_same (A : Asks) {u v f g a b c : Int} (hu : Word u) (hv : Word v) (hs : ¬ g < f) (cA : FadeC u f a) (cB : FadeC v f b) (cC : FadeC u g c) (h1 : ¬ u < a) (h2 : ¬ c < a) (ho : u ≤ v) (ho2 : ¬ v ≤ u) (h3 : ¬ b < a) (he : ¬ 18446744073709551615 - v < u) (cD : FadeC (u + v) f (a + b)) (ht : a + b < 18446744073709551616) (hab : 0 ≤ a + b) (w : World) (hT : Tab w) :
    Calls Tryd.prog 5 #[.int .u64 u, .int .u64 v, .int .u64 f, .int .u64 g] w fun e w' => e = .returned (.bool true) ∧ Below w.heap.size w w' := by
  have e0 : IntKind.u64.wrap (18446744073709551615 - v) = 18446744073709551615 - v := by rw [IntKind.wrap_u64]; obtain ⟨_, _⟩ := hv; omega
  have e1 : IntKind.u64.wrap (u + v) = u + v := by rw [IntKind.wrap_u64]; obtain ⟨_, _⟩ := hu; obtain ⟨_, _⟩ := hv; omega
  have e2 : IntKind.u64.wrap (a + b) = a + b := by rw [IntKind.wrap_u64]; omega
  clear hu hv ht hab
  go_enter Tryd.func5, Tryd.ntmps5
  have HB : Below w.heap.size w w := Below.refl _ _
  go_wp2_with fail
  refine (shown_any A _ (Tab.below HB hT)).mono ?_
  rintro e w0 ⟨rfl, hz⟩
  replace HB := HB.trans (hz.mono HB.size)
  clear hz
  go_wp2_with fail
  refine (cA _ (Tab.below HB hT)).mono ?_
  rintro e w1 ⟨rfl, hz⟩
  replace HB := HB.trans (hz.mono HB.size)
  clear hz
  go_wp2_with fail
  refine (cB _ (Tab.below HB hT)).mono ?_
  rintro e w2 ⟨rfl, hz⟩
  replace HB := HB.trans (hz.mono HB.size)
  clear hz
  go_wp2_with fail
  refine (cC _ (Tab.below HB hT)).mono ?_
  rintro e w3 ⟨rfl, hz⟩
  replace HB := HB.trans (hz.mono HB.size)
  clear hz
  go_wp2_with fail
  refine (cD _ (Tab.below HB hT)).mono ?_
  rintro e w4 ⟨rfl, hz⟩
  replace HB := HB.trans (hz.mono HB.size)
  clear hz
  go_wp2
  go_ret
  exact ⟨rfl, HB⟩
set_option maxHeartbeats 1000000 in
theorem laws_no_lt_one (A : Asks) {u v f g a b c : Int} (hu : Word u) (hv : Word v) (hs : ¬ g < f) (cA : FadeC u f a) (cB : FadeC v f b) (cC : FadeC u g c) (h1 : ¬ u < a) (h2 : ¬ c < a) (ho : u ≤ v) (ho2 : ¬ v ≤ u) (h3 : ¬ b < a) (he : ¬ 18446744073709551615 - v < u) (cD : FadeC (u + v) f (a + b + 1)) (ht : a + b + 1 < 18446744073709551616) (hab : 0 ≤ a + b) (w : World) (hT : Tab w) :
    Calls Tryd.prog 5 #[.int .u64 u, .int .u64 v, .int .u64 f, .int .u64 g] w fun e w' => e = .returned (.bool true) ∧ Below w.heap.size w w' := by
  have e0 : IntKind.u64.wrap (18446744073709551615 - v) = 18446744073709551615 - v := by rw [IntKind.wrap_u64]; obtain ⟨_, _⟩ := hv; omega
  have e1 : IntKind.u64.wrap (u + v) = u + v := by rw [IntKind.wrap_u64]; obtain ⟨_, _⟩ := hu; obtain ⟨_, _⟩ := hv; omega
  have e2 : IntKind.u64.wrap (a + b) = a + b := by rw [IntKind.wrap_u64]; omega
  have e3 : IntKind.u64.wrap (a + b + 1) = a + b + 1 := by rw [IntKind.wrap_u64]; omega
  have e4 : ¬ a + b + 1 = a + b := by omega
  clear hu hv ht hab
  go_enter Tryd.func5, Tryd.ntmps5
  have HB : Below w.heap.size w w := Below.refl _ _
  go_wp2_with fail
  refine (shown_any A _ (Tab.below HB hT)).mono ?_
  rintro e w0 ⟨rfl, hz⟩
  replace HB := HB.trans (hz.mono HB.size)
  clear hz
  go_wp2_with fail
  refine (cA _ (Tab.below HB hT)).mono ?_
  rintro e w1 ⟨rfl, hz⟩
  replace HB := HB.trans (hz.mono HB.size)
  clear hz
  go_wp2_with fail
  refine (cB _ (Tab.below HB hT)).mono ?_
  rintro e w2 ⟨rfl, hz⟩
  replace HB := HB.trans (hz.mono HB.size)
  clear hz
  go_wp2_with fail
  refine (cC _ (Tab.below HB hT)).mono ?_
  rintro e w3 ⟨rfl, hz⟩
  replace HB := HB.trans (hz.mono HB.size)
  clear hz
  go_wp2_with fail
  refine (cD _ (Tab.below HB hT)).mono ?_
  rintro e w4 ⟨rfl, hz⟩
  replace HB := HB.trans (hz.mono HB.size)
  clear hz
  go_wp2
  go_ret
  exact ⟨rfl, HB⟩
set_option maxHeartbeats 1000000 in
theorem laws_no_eq_full (A : Asks) {u v f g a b c : Int} (hv : Word v) (hs : ¬ g < f) (cA : FadeC u f a) (cB : FadeC v f b) (cC : FadeC u g c) (h1 : ¬ u < a) (h2 : ¬ c < a) (ho : u ≤ v) (ho2 : v ≤ u) (h3 : ¬ b < a) (h4 : ¬ a < b) (he : 18446744073709551615 - v < u) (w : World) (hT : Tab w) :
    Calls Tryd.prog 5 #[.int .u64 u, .int .u64 v, .int .u64 f, .int .u64 g] w fun e w' => e = .returned (.bool true) ∧ Below w.heap.size w w' := by
  have e0 : IntKind.u64.wrap (18446744073709551615 - v) = 18446744073709551615 - v := by rw [IntKind.wrap_u64]; obtain ⟨_, _⟩ := hv; omega
  clear hv
  go_enter Tryd.func5, Tryd.ntmps5
  have HB : Below w.heap.size w w := Below.refl _ _
  go_wp2_with fail
  refine (shown_any A _ (Tab.below HB hT)).mono ?_
  rintro e w0 ⟨rfl, hz⟩
  replace HB := HB.trans (hz.mono HB.size)
  clear hz
  go_wp2_with fail
  refine (cA _ (Tab.below HB hT)).mono ?_
  rintro e w1 ⟨rfl, hz⟩
  replace HB := HB.trans (hz.mono HB.size)
  clear hz
  go_wp2_with fail
  refine (cB _ (Tab.below HB hT)).mono ?_
  rintro e w2 ⟨rfl, hz⟩
  replace HB := HB.trans (hz.mono HB.size)
  clear hz
  go_wp2_with fail
  refine (cC _ (Tab.below HB hT)).mono ?_
  rintro e w3 ⟨rfl, hz⟩
  replace HB := HB.trans (hz.mono HB.size)
  clear hz
  go_wp2
  go_ret
  exact ⟨rfl, HB⟩
set_option maxHeartbeats 1000000 in
theorem laws_no_eq_same (A : Asks) {u v f g a b c : Int} (hu : Word u) (hv : Word v) (hs : ¬ g < f) (cA : FadeC u f a) (cB : FadeC v f b) (cC : FadeC u g c) (h1 : ¬ u < a) (h2 : ¬ c < a) (ho : u ≤ v) (ho2 : v ≤ u) (h3 : ¬ b < a) (h4 : ¬ a < b) (he : ¬ 18446744073709551615 - v < u) (cD : FadeC (u + v) f (a + b)) (ht : a + b < 18446744073709551616) (hab : 0 ≤ a + b) (w : World) (hT : Tab w) :
    Calls Tryd.prog 5 #[.int .u64 u, .int .u64 v, .int .u64 f, .int .u64 g] w fun e w' => e = .returned (.bool true) ∧ Below w.heap.size w w' := by
  have e0 : IntKind.u64.wrap (18446744073709551615 - v) = 18446744073709551615 - v := by rw [IntKind.wrap_u64]; obtain ⟨_, _⟩ := hv; omega
  have e1 : IntKind.u64.wrap (u + v) = u + v := by rw [IntKind.wrap_u64]; obtain ⟨_, _⟩ := hu; obtain ⟨_, _⟩ := hv; omega
  have e2 : IntKind.u64.wrap (a + b) = a + b := by rw [IntKind.wrap_u64]; omega
  clear hu hv ht hab
  go_enter Tryd.func5, Tryd.ntmps5
  have HB : Below w.heap.size w w := Below.refl _ _
  go_wp2_with fail
  refine (shown_any A _ (Tab.below HB hT)).mono ?_
  rintro e w0 ⟨rfl, hz⟩
  replace HB := HB.trans (hz.mono HB.size)
  clear hz
  go_wp2_with fail
  refine (cA _ (Tab.below HB hT)).mono ?_
  rintro e w1 ⟨rfl, hz⟩
  replace HB := HB.trans (hz.mono HB.size)
  clear hz
  go_wp2_with fail
  refine (cB _ (Tab.below HB hT)).mono ?_
  rintro e w2 ⟨rfl, hz⟩
  replace HB := HB.trans (hz.mono HB.size)
  clear hz
  go_wp2_with fail
  refine (cC _ (Tab.below HB hT)).mono ?_
  rintro e w3 ⟨rfl, hz⟩
  replace HB := HB.trans (hz.mono HB.size)
  clear hz
  go_wp2_with fail
  refine (cD _ (Tab.below HB hT)).mono ?_
  rintro e w4 ⟨rfl, hz⟩
  replace HB := HB.trans (hz.mono HB.size)
  clear hz
  go_wp2
  go_ret
  exact ⟨rfl, HB⟩
set_option maxHeartbeats 1000000 in
theorem laws_no_eq_one (A : Asks) {u v f g a b c : Int} (hu : Word u) (hv : Word v) (hs : ¬ g < f) (cA : FadeC u f a) (cB : FadeC v f b) (cC : FadeC u g c) (h1 : ¬ u < a) (h2 : ¬ c < a) (ho : u ≤ v) (ho2 : v ≤ u) (h3 : ¬ b < a) (h4 : ¬ a < b) (he : ¬ 18446744073709551615 - v < u) (cD : FadeC (u + v) f (a + b + 1)) (ht : a + b + 1 < 18446744073709551616) (hab : 0 ≤ a + b) (w : World) (hT : Tab w) :
    Calls Tryd.prog 5 #[.int .u64 u, .int .u64 v, .int .u64 f, .int .u64 g] w fun e w' => e = .returned (.bool true) ∧ Below w.heap.size w w' := by
  have e0 : IntKind.u64.wrap (18446744073709551615 - v) = 18446744073709551615 - v := by rw [IntKind.wrap_u64]; obtain ⟨_, _⟩ := hv; omega
  have e1 : IntKind.u64.wrap (u + v) = u + v := by rw [IntKind.wrap_u64]; obtain ⟨_, _⟩ := hu; obtain ⟨_, _⟩ := hv; omega
  have e2 : IntKind.u64.wrap (a + b) = a + b := by rw [IntKind.wrap_u64]; omega
  have e3 : IntKind.u64.wrap (a + b + 1) = a + b + 1 := by rw [IntKind.wrap_u64]; omega
  have e4 : ¬ a + b + 1 = a + b := by omega
  clear hu hv ht hab
  go_enter Tryd.func5, Tryd.ntmps5
  have HB : Below w.heap.size w w := Below.refl _ _
  go_wp2_with fail
  refine (shown_any A _ (Tab.below HB hT)).mono ?_
  rintro e w0 ⟨rfl, hz⟩
  replace HB := HB.trans (hz.mono HB.size)
  clear hz
  go_wp2_with fail
  refine (cA _ (Tab.below HB hT)).mono ?_
  rintro e w1 ⟨rfl, hz⟩
  replace HB := HB.trans (hz.mono HB.size)
  clear hz
  go_wp2_with fail
  refine (cB _ (Tab.below HB hT)).mono ?_
  rintro e w2 ⟨rfl, hz⟩
  replace HB := HB.trans (hz.mono HB.size)
  clear hz
  go_wp2_with fail
  refine (cC _ (Tab.below HB hT)).mono ?_
  rintro e w3 ⟨rfl, hz⟩
  replace HB := HB.trans (hz.mono HB.size)
  clear hz
  go_wp2_with fail
  refine (cD _ (Tab.below HB hT)).mono ?_
  rintro e w4 ⟨rfl, hz⟩
  replace HB := HB.trans (hz.mono HB.size)
  clear hz
  go_wp2
  go_ret
  exact ⟨rfl, HB⟩
set_option maxHeartbeats 1000000 in
theorem laws_no_gt_full (A : Asks) {u v f g a b c : Int} (hv : Word v) (hs : ¬ g < f) (cA : FadeC u f a) (cB : FadeC v f b) (cC : FadeC u g c) (h1 : ¬ u < a) (h2 : ¬ c < a) (ho : ¬ u ≤ v) (ho2 : v ≤ u) (h4 : ¬ a < b) (he : 18446744073709551615 - v < u) (w : World) (hT : Tab w) :
    Calls Tryd.prog 5 #[.int .u64 u, .int .u64 v, .int .u64 f, .int .u64 g] w fun e w' => e = .returned (.bool true) ∧ Below w.heap.size w w' := by
  have e0 : IntKind.u64.wrap (18446744073709551615 - v) = 18446744073709551615 - v := by rw [IntKind.wrap_u64]; obtain ⟨_, _⟩ := hv; omega
  clear hv
  go_enter Tryd.func5, Tryd.ntmps5
  have HB : Below w.heap.size w w := Below.refl _ _
  go_wp2_with fail
  refine (shown_any A _ (Tab.below HB hT)).mono ?_
  rintro e w0 ⟨rfl, hz⟩
  replace HB := HB.trans (hz.mono HB.size)
  clear hz
  go_wp2_with fail
  refine (cA _ (Tab.below HB hT)).mono ?_
  rintro e w1 ⟨rfl, hz⟩
  replace HB := HB.trans (hz.mono HB.size)
  clear hz
  go_wp2_with fail
  refine (cB _ (Tab.below HB hT)).mono ?_
  rintro e w2 ⟨rfl, hz⟩
  replace HB := HB.trans (hz.mono HB.size)
  clear hz
  go_wp2_with fail
  refine (cC _ (Tab.below HB hT)).mono ?_
  rintro e w3 ⟨rfl, hz⟩
  replace HB := HB.trans (hz.mono HB.size)
  clear hz
  go_wp2
  go_ret
  exact ⟨rfl, HB⟩
set_option maxHeartbeats 1000000 in
theorem laws_no_gt_same (A : Asks) {u v f g a b c : Int} (hu : Word u) (hv : Word v) (hs : ¬ g < f) (cA : FadeC u f a) (cB : FadeC v f b) (cC : FadeC u g c) (h1 : ¬ u < a) (h2 : ¬ c < a) (ho : ¬ u ≤ v) (ho2 : v ≤ u) (h4 : ¬ a < b) (he : ¬ 18446744073709551615 - v < u) (cD : FadeC (u + v) f (a + b)) (ht : a + b < 18446744073709551616) (hab : 0 ≤ a + b) (w : World) (hT : Tab w) :
    Calls Tryd.prog 5 #[.int .u64 u, .int .u64 v, .int .u64 f, .int .u64 g] w fun e w' => e = .returned (.bool true) ∧ Below w.heap.size w w' := by
  have e0 : IntKind.u64.wrap (18446744073709551615 - v) = 18446744073709551615 - v := by rw [IntKind.wrap_u64]; obtain ⟨_, _⟩ := hv; omega
  have e1 : IntKind.u64.wrap (u + v) = u + v := by rw [IntKind.wrap_u64]; obtain ⟨_, _⟩ := hu; obtain ⟨_, _⟩ := hv; omega
  have e2 : IntKind.u64.wrap (a + b) = a + b := by rw [IntKind.wrap_u64]; omega
  clear hu hv ht hab
  go_enter Tryd.func5, Tryd.ntmps5
  have HB : Below w.heap.size w w := Below.refl _ _
  go_wp2_with fail
  refine (shown_any A _ (Tab.below HB hT)).mono ?_
  rintro e w0 ⟨rfl, hz⟩
  replace HB := HB.trans (hz.mono HB.size)
  clear hz
  go_wp2_with fail
  refine (cA _ (Tab.below HB hT)).mono ?_
  rintro e w1 ⟨rfl, hz⟩
  replace HB := HB.trans (hz.mono HB.size)
  clear hz
  go_wp2_with fail
  refine (cB _ (Tab.below HB hT)).mono ?_
  rintro e w2 ⟨rfl, hz⟩
  replace HB := HB.trans (hz.mono HB.size)
  clear hz
  go_wp2_with fail
  refine (cC _ (Tab.below HB hT)).mono ?_
  rintro e w3 ⟨rfl, hz⟩
  replace HB := HB.trans (hz.mono HB.size)
  clear hz
  go_wp2_with fail
  refine (cD _ (Tab.below HB hT)).mono ?_
  rintro e w4 ⟨rfl, hz⟩
  replace HB := HB.trans (hz.mono HB.size)
  clear hz
  go_wp2
  go_ret
  exact ⟨rfl, HB⟩
set_option maxHeartbeats 1000000 in
theorem laws_no_gt_one (A : Asks) {u v f g a b c : Int} (hu : Word u) (hv : Word v) (hs : ¬ g < f) (cA : FadeC u f a) (cB : FadeC v f b) (cC : FadeC u g c) (h1 : ¬ u < a) (h2 : ¬ c < a) (ho : ¬ u ≤ v) (ho2 : v ≤ u) (h4 : ¬ a < b) (he : ¬ 18446744073709551615 - v < u) (cD : FadeC (u + v) f (a + b + 1)) (ht : a + b + 1 < 18446744073709551616) (hab : 0 ≤ a + b) (w : World) (hT : Tab w) :
    Calls Tryd.prog 5 #[.int .u64 u, .int .u64 v, .int .u64 f, .int .u64 g] w fun e w' => e = .returned (.bool true) ∧ Below w.heap.size w w' := by
  have e0 : IntKind.u64.wrap (18446744073709551615 - v) = 18446744073709551615 - v := by rw [IntKind.wrap_u64]; obtain ⟨_, _⟩ := hv; omega
  have e1 : IntKind.u64.wrap (u + v) = u + v := by rw [IntKind.wrap_u64]; obtain ⟨_, _⟩ := hu; obtain ⟨_, _⟩ := hv; omega
  have e2 : IntKind.u64.wrap (a + b) = a + b := by rw [IntKind.wrap_u64]; omega
  have e3 : IntKind.u64.wrap (a + b + 1) = a + b + 1 := by rw [IntKind.wrap_u64]; omega
  have e4 : ¬ a + b + 1 = a + b := by omega
  clear hu hv ht hab
  go_enter Tryd.func5, Tryd.ntmps5
  have HB : Below w.heap.size w w := Below.refl _ _
  go_wp2_with fail
  refine (shown_any A _ (Tab.below HB hT)).mono ?_
  rintro e w0 ⟨rfl, hz⟩
  replace HB := HB.trans (hz.mono HB.size)
  clear hz
  go_wp2_with fail
  refine (cA _ (Tab.below HB hT)).mono ?_
  rintro e w1 ⟨rfl, hz⟩
  replace HB := HB.trans (hz.mono HB.size)
  clear hz
  go_wp2_with fail
  refine (cB _ (Tab.below HB hT)).mono ?_
  rintro e w2 ⟨rfl, hz⟩
  replace HB := HB.trans (hz.mono HB.size)
  clear hz
  go_wp2_with fail
  refine (cC _ (Tab.below HB hT)).mono ?_
  rintro e w3 ⟨rfl, hz⟩
  replace HB := HB.trans (hz.mono HB.size)
  clear hz
  go_wp2_with fail
  refine (cD _ (Tab.below HB hT)).mono ?_
  rintro e w4 ⟨rfl, hz⟩
  replace HB := HB.trans (hz.mono HB.size)
  clear hz
  go_wp2
  go_ret
  exact ⟨rfl, HB⟩
theorem laws_yes (A : Asks) {u v f g : Int} (hu : Word u) (hv : Word v) (hf : Word f) (hg : Word g) (hs : g < f) (w : World) (hT : Tab w) :
    Calls Tryd.prog 5 #[.int .u64 u, .int .u64 v, .int .u64 f, .int .u64 g] w fun e w' => e = .returned (.bool true) ∧ Below w.heap.size w w' := by
  have cA : FadeC u g (partV u g) := A.fade hu hg
  have cB : FadeC v g (partV v g) := A.fade hv hg
  have cC : FadeC u f (partV u f) := A.fade hu hf
  have h1 : ¬ u < partV u g := Int.not_lt.2 (part_le hu)
  have h2 : ¬ partV u f < partV u g := Int.not_lt.2 (part_mono2 hu (Int.le_of_lt hs))
  have h3 : u ≤ v → ¬ partV v g < partV u g := fun h => Int.not_lt.2 (part_mono1 hg h)
  have h4 : v ≤ u → ¬ partV u g < partV v g := fun h => Int.not_lt.2 (part_mono1 hg h)
  have na := part_nonneg hu hg
  have nb := part_nonneg hv hg
  have hu' := hu
  have hv' := hv
  obtain ⟨_, _⟩ := hu'
  obtain ⟨_, _⟩ := hv'
  by_cases o1 : u ≤ v
  · by_cases o2 : v ≤ u
    · by_cases he : 18446744073709551615 - v < u
      · exact laws_yes_eq_full A hv hs cA cB cC h1 h2 o1 o2 (h3 o1) (h4 o2) he w hT
      · have cD : FadeC (u + v) g (partV (u + v) g) := A.fade ⟨by omega, by omega⟩ hg
        have ht : partV (u + v) g < 18446744073709551616 := by have := part_le (a := u + v) (f := g) ⟨by omega, by omega⟩; omega
        rcases part_sum (u := u) (v := v) (f := g) with es | es
        · rw [es] at cD ht
          exact laws_yes_eq_same A hu hv hs cA cB cC h1 h2 o1 o2 (h3 o1) (h4 o2) he cD ht (by omega) w hT
        · rw [es] at cD ht
          exact laws_yes_eq_one A hu hv hs cA cB cC h1 h2 o1 o2 (h3 o1) (h4 o2) he cD ht (by omega) w hT
    · by_cases he : 18446744073709551615 - v < u
      · exact laws_yes_lt_full A hv hs cA cB cC h1 h2 o1 o2 (h3 o1) he w hT
      · have cD : FadeC (u + v) g (partV (u + v) g) := A.fade ⟨by omega, by omega⟩ hg
        have ht : partV (u + v) g < 18446744073709551616 := by have := part_le (a := u + v) (f := g) ⟨by omega, by omega⟩; omega
        rcases part_sum (u := u) (v := v) (f := g) with es | es
        · rw [es] at cD ht
          exact laws_yes_lt_same A hu hv hs cA cB cC h1 h2 o1 o2 (h3 o1) he cD ht (by omega) w hT
        · rw [es] at cD ht
          exact laws_yes_lt_one A hu hv hs cA cB cC h1 h2 o1 o2 (h3 o1) he cD ht (by omega) w hT
  · have o2 : v ≤ u := by omega
    by_cases he : 18446744073709551615 - v < u
    · exact laws_yes_gt_full A hv hs cA cB cC h1 h2 o1 o2 (h4 o2) he w hT
    · have cD : FadeC (u + v) g (partV (u + v) g) := A.fade ⟨by omega, by omega⟩ hg
      have ht : partV (u + v) g < 18446744073709551616 := by have := part_le (a := u + v) (f := g) ⟨by omega, by omega⟩; omega
      rcases part_sum (u := u) (v := v) (f := g) with es | es
      · rw [es] at cD ht
        exact laws_yes_gt_same A hu hv hs cA cB cC h1 h2 o1 o2 (h4 o2) he cD ht (by omega) w hT
      · rw [es] at cD ht
        exact laws_yes_gt_one A hu hv hs cA cB cC h1 h2 o1 o2 (h4 o2) he cD ht (by omega) w hT
theorem laws_no (A : Asks) {u v f g : Int} (hu : Word u) (hv : Word v) (hf : Word f) (hg : Word g) (hs : ¬ g < f) (w : World) (hT : Tab w) :
    Calls Tryd.prog 5 #[.int .u64 u, .int .u64 v, .int .u64 f, .int .u64 g] w fun e w' => e = .returned (.bool true) ∧ Below w.heap.size w w' := by
  have cA : FadeC u f (partV u f) := A.fade hu hf
  have cB : FadeC v f (partV v f) := A.fade hv hf
  have cC : FadeC u g (partV u g) := A.fade hu hg
  have h1 : ¬ u < partV u f := Int.not_lt.2 (part_le hu)
  have h2 : ¬ partV u g < partV u f := Int.not_lt.2 (part_mono2 hu (Int.not_lt.1 hs))
  have h3 : u ≤ v → ¬ partV v f < partV u f := fun h => Int.not_lt.2 (part_mono1 hf h)
  have h4 : v ≤ u → ¬ partV u f < partV v f := fun h => Int.not_lt.2 (part_mono1 hf h)
  have na := part_nonneg hu hf
  have nb := part_nonneg hv hf
  have hu' := hu
  have hv' := hv
  obtain ⟨_, _⟩ := hu'
  obtain ⟨_, _⟩ := hv'
  by_cases o1 : u ≤ v
  · by_cases o2 : v ≤ u
    · by_cases he : 18446744073709551615 - v < u
      · exact laws_no_eq_full A hv hs cA cB cC h1 h2 o1 o2 (h3 o1) (h4 o2) he w hT
      · have cD : FadeC (u + v) f (partV (u + v) f) := A.fade ⟨by omega, by omega⟩ hf
        have ht : partV (u + v) f < 18446744073709551616 := by have := part_le (a := u + v) (f := f) ⟨by omega, by omega⟩; omega
        rcases part_sum (u := u) (v := v) (f := f) with es | es
        · rw [es] at cD ht
          exact laws_no_eq_same A hu hv hs cA cB cC h1 h2 o1 o2 (h3 o1) (h4 o2) he cD ht (by omega) w hT
        · rw [es] at cD ht
          exact laws_no_eq_one A hu hv hs cA cB cC h1 h2 o1 o2 (h3 o1) (h4 o2) he cD ht (by omega) w hT
    · by_cases he : 18446744073709551615 - v < u
      · exact laws_no_lt_full A hv hs cA cB cC h1 h2 o1 o2 (h3 o1) he w hT
      · have cD : FadeC (u + v) f (partV (u + v) f) := A.fade ⟨by omega, by omega⟩ hf
        have ht : partV (u + v) f < 18446744073709551616 := by have := part_le (a := u + v) (f := f) ⟨by omega, by omega⟩; omega
        rcases part_sum (u := u) (v := v) (f := f) with es | es
        · rw [es] at cD ht
          exact laws_no_lt_same A hu hv hs cA cB cC h1 h2 o1 o2 (h3 o1) he cD ht (by omega) w hT
        · rw [es] at cD ht
          exact laws_no_lt_one A hu hv hs cA cB cC h1 h2 o1 o2 (h3 o1) he cD ht (by omega) w hT
  · have o2 : v ≤ u := by omega
    by_cases he : 18446744073709551615 - v < u
    · exact laws_no_gt_full A hv hs cA cB cC h1 h2 o1 o2 (h4 o2) he w hT
    · have cD : FadeC (u + v) f (partV (u + v) f) := A.fade ⟨by omega, by omega⟩ hf
      have ht : partV (u + v) f < 18446744073709551616 := by have := part_le (a := u + v) (f := f) ⟨by omega, by omega⟩; omega
      rcases part_sum (u := u) (v := v) (f := f) with es | es
      · rw [es] at cD ht
        exact laws_no_gt_same A hu hv hs cA cB cC h1 h2 o1 o2 (h4 o2) he cD ht (by omega) w hT
      · rw [es] at cD ht
        exact laws_no_gt_one A hu hv hs cA cB cC h1 h2 o1 o2 (h4 o2) he cD ht (by omega) w hT
theorem laws_walk (A : Asks) {u v f g : Int} (hu : Word u) (hv : Word v) (hf : Word f) (hg : Word g) (w : World) (hT : Tab w) :
    Calls Tryd.prog 5 #[.int .u64 u, .int .u64 v, .int .u64 f, .int .u64 g] w fun e w' => e = .returned (.bool true) ∧ Below w.heap.size w w' := by
  by_cases hs : g < f
  · exact laws_yes A hu hv hf hg hs w hT
  · exact laws_no A hu hv hf hg hs w hT
end Go.Proofs.YtpiceckolcakaaaDoor
