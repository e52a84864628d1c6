/-
  THE CONTRACTS OF PACKAGE fixq: its nine calls.
  THE CONTRACTS OF PACKAGE fixq: its nine calls.
-/
import Derived.Test.YtjgllfpnmmopdaaFix
namespace Go.Proofs.Ytjgllfpnmmopdaa
open Go.RowKit Wd

namespace Wd
theorem word32 : Word 4294967296 := ⟨by omega, by omega⟩
theorem word63 : Word 9223372036854775808 := ⟨by omega, by omega⟩
theorem add_words {a b : Int} (ha : Word a) (hb : Word b) : addV a b = a + b ∧ Num (a + b) := by
  obtain ⟨_, _⟩ := ha; obtain ⟨_, _⟩ := hb
  have h : a + b ≤ top := by unfold top; omega
  exact ⟨by unfold addV; rw [if_pos h], by omega, h⟩
theorem sub_words {a b : Int} (ha : Word a) (hb : Word b) : Word (subV a b) := by
  obtain ⟨_, _⟩ := ha; obtain ⟨_, _⟩ := hb
  unfold subV Word; split <;> omega
end Wd

theorem divDown_any (a b : Int) (ha : Word a) (hb : Word b) (w : World) :
    Calls Try.prog 68 #[.int .u64 a, .int .u64 b] w fun e w' => e = .returned (.tuple #[.int .u64 (dnV (a * 4294967296) b), .bool (dnB (a * 4294967296) b)]) ∧ Below w.heap.size w w' := by
  go_enter Try.func68, Try.ntmps68
  go_wp2_with fail
  refine (mul_any a 4294967296 ha word32 _).mono ?_
  rintro e w1 ⟨rfl, hb1⟩
  go_wp2_with fail
  refine (down_num (a * 4294967296) b (mul_num ha word32) hb _).mono ?_
  rintro e w2 ⟨rfl, hb2⟩
  go_wp2
  go_ret2
  exact ⟨rfl, hb1.trans (hb2.mono hb1.size)⟩
theorem divUp_any (a b : Int) (ha : Word a) (hb : Word b) (w : World) :
    Calls Try.prog 69 #[.int .u64 a, .int .u64 b] w fun e w' => e = .returned (.tuple #[.int .u64 (upV (a * 4294967296) b), .bool (upB (a * 4294967296) b)]) ∧ Below w.heap.size w w' := by
  go_enter Try.func69, Try.ntmps69
  go_wp2_with fail
  refine (mul_any a 4294967296 ha word32 _).mono ?_
  rintro e w1 ⟨rfl, hb1⟩
  go_wp2_with fail
  refine (up_num (a * 4294967296) b (mul_num ha word32) hb _).mono ?_
  rintro e w2 ⟨rfl, hb2⟩
  go_wp2
  go_ret2
  exact ⟨rfl, hb1.trans (hb2.mono hb1.size)⟩

end Go.Proofs.Ytjgllfpnmmopdaa
namespace Go.Proofs.Ytjgllfpnmmopdaa
open Go.RowKit Wd

namespace Wd
end Wd

end Go.Proofs.Ytjgllfpnmmopdaa
