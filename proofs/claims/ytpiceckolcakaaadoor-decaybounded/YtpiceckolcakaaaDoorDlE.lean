/-
  LAYER 10: DecayBounded walked.
-/
import Derived.Test.YtpiceckolcakaaaDoorDlA
import Derived.WalkMore
import Derived.Deep.LoopGhost
namespace Go.Proofs.YtpiceckolcakaaaDoor
open Go.RowKit Wd Ld

def IntsAt (w : World) (ao : Option Addr) (l : List Int) : Prop := ∃ g o, (0 < l.length → ao = some ⟨g, o, none⟩) ∧ ∀ j n, l[j]? = some n → w.cell? ⟨g, o + j, none⟩ = some (.int .i64 n)
/-- What is left behind a fade. -/
def Left (M E : Nat) (v : Nat) : Prop := ∃ u, u ≤ M * kN E * 4294967296 ∧ v * 9223372036854775808 ≤ u * halfN E
theorem left_zero (M E : Nat) : Left M E 0 := ⟨0, Nat.zero_le _, by omega⟩
theorem left_next {M E n v : Nat} (he : 0 < E) (hn : n ≤ M) (h : Left M E v) : v + n * 4294967296 ≤ M * kN E * 4294967296 ∧ Left M E ((v + n * 4294967296) * halfN E / 9223372036854775808) := by
  obtain ⟨u, h1, h2⟩ := h
  have h3 := k_step he hn h1 h2
  exact ⟨h3, _, h3, Nat.div_mul_le_self _ _⟩
theorem room {M E : Nat} (hM : M ≤ 1048576) (hK : kN E ≤ 2048) : M * kN E * 4294967296 ≤ 9223372036854775808 := by
  have : M * kN E ≤ 1048576 * 2048 := Nat.mul_le_mul hM hK
  omega
theorem ch_nat {v n : Nat} (h : v + n * 4294967296 < 18446744073709551616) : chV v n = ((v + n * 4294967296 : Nat) : Int) := by
  unfold chV
  rw [if_neg (by omega)]
  have e1 : narV ((n : Int) * 4294967296) = n * 4294967296 := by unfold narV; rw [if_pos (by omega)]
  rw [e1]
  unfold narV
  rw [if_pos (by omega)]
  omega
theorem part_nat (u E : Nat) : partV u (halfN E : Nat) = ((u * halfN E / 9223372036854775808 : Nat) : Int) := by
  have ht := half_top E
  unfold partV minV
  have e : (if ((halfN E : Nat) : Int) < 9223372036854775808 then ((halfN E : Nat) : Int) else 9223372036854775808) = (halfN E : Nat) := by split <;> omega
  rw [e, ← Int.natCast_mul]
  generalize u * halfN E = x
  omega

theorem bounded_bad (A : Asks) {p h m : Int} {ao : Option Addr} {l : List Int} {c : Nat} (hp : FitN p) (hh : FitN h) (hb : BadF p h) (w : World) (hT : Tab w) :
    Calls Tryd.prog 6 #[.int .i64 p, .int .i64 h, .int .i64 m, .slice ao l.length c] w fun e w' => e = .returned (.bool true) ∧ Below w.heap.size w w' := by
  have c1 := A.bad hp hh hb
  generalize l.length = q
  clear hb
  go_enter Tryd.func6, Tryd.ntmps6
  have HB : Below w.heap.size w w := Below.refl _ _
  go_wp2_with fail
  refine (shown_any A _ (Tab.below HB hT)).mono ?_
  rintro e w0 ⟨rfl, hz⟩
  replace HB := HB.trans (hz.mono HB.size)
  clear hz
  go_wp2_with fail
  refine (c1 _ (Tab.below HB hT)).mono ?_
  rintro e w1 ⟨rfl, hz⟩
  replace HB := HB.trans (hz.mono HB.size)
  clear hz
  go_wp2
  go_ret
  exact ⟨rfl, HB⟩
theorem bounded_few (A : Asks) {p h m : Int} {ao : Option Addr} {l : List Int} {c : Nat} (hp : FitN p) (hh : FitN h) (hb : ¬ BadF p h) (hm : m < 1) (w : World) (hT : Tab w) :
    Calls Tryd.prog 6 #[.int .i64 p, .int .i64 h, .int .i64 m, .slice ao l.length c] w fun e w' => e = .returned (.bool true) ∧ Below w.heap.size w w' := by
  have c1 := A.good hp hh hb
  generalize ((halfN (expV p h) : Nat) : Int) = f at c1
  generalize l.length = q
  clear hb
  go_enter Tryd.func6, Tryd.ntmps6
  have HB : Below w.heap.size w w := Below.refl _ _
  go_wp2_with fail
  refine (shown_any A _ (Tab.below HB hT)).mono ?_
  rintro e w0 ⟨rfl, hz⟩
  replace HB := HB.trans (hz.mono HB.size)
  clear hz
  go_wp2_with fail
  refine (c1 _ (Tab.below HB hT)).mono ?_
  rintro e w1 ⟨rfl, hz⟩
  replace HB := HB.trans (hz.mono HB.size)
  clear hz
  go_wp2
  go_ret
  exact ⟨rfl, HB⟩
theorem bounded_many (A : Asks) {p h m : Int} {ao : Option Addr} {l : List Int} {c : Nat} (hp : FitN p) (hh : FitN h) (hb : ¬ BadF p h) (hm0 : ¬ m < 1) (hm : 1048576 < m) (w : World) (hT : Tab w) :
    Calls Tryd.prog 6 #[.int .i64 p, .int .i64 h, .int .i64 m, .slice ao l.length c] w fun e w' => e = .returned (.bool true) ∧ Below w.heap.size w w' := by
  have c1 := A.good hp hh hb
  generalize ((halfN (expV p h) : Nat) : Int) = f at c1
  generalize l.length = q
  clear hb
  go_enter Tryd.func6, Tryd.ntmps6
  have HB : Below w.heap.size w w := Below.refl _ _
  go_wp2_with fail
  refine (shown_any A _ (Tab.below HB hT)).mono ?_
  rintro e w0 ⟨rfl, hz⟩
  replace HB := HB.trans (hz.mono HB.size)
  clear hz
  go_wp2_with fail
  refine (c1 _ (Tab.below HB hT)).mono ?_
  rintro e w1 ⟨rfl, hz⟩
  replace HB := HB.trans (hz.mono HB.size)
  clear hz
  go_wp2
  go_ret
  exact ⟨rfl, HB⟩
end Go.Proofs.YtpiceckolcakaaaDoor
