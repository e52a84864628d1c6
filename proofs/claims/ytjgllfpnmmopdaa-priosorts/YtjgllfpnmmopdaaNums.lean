/-
  THE CONTRACTS OF PACKAGE wide ONCE MORE, over numbers: each argument as its two words.
-/
import Derived.Test.YtjgllfpnmmopdaaWid
import Derived.Test.YtjgllfpnmmopdaaWideD
import Derived.Test.YtjgllfpnmmopdaaMth
namespace Go.Proofs.Ytjgllfpnmmopdaa
open Go.RowKit Wd

theorem add_num (u v : Int) (hu : Num u) (hv : Num v) (w : World) :
    Calls Try.prog 64 #[.agg #[.int .u64 (hiW u), .int .u64 (loW u)], .agg #[.int .u64 (hiW v), .int .u64 (loW v)]] w fun e w' =>
      e = .returned (.tuple #[.agg #[.int .u64 (hiW (addV u v)), .int .u64 (loW (addV u v))], .bool (addB u v)]) ∧ Below w.heap.size w w' := by
  have c := add_any (hiW u) (loW u) (hiW v) (loW v) (hi_word hu) (lo_word u) (hi_word hv) (lo_word v) w
  rw [val_words, val_words] at c
  exact c
theorem div_num (u b : Int) (hu : Num u) (hb : Word b) (w : World) :
    Calls Try.prog 75 #[.agg #[.int .u64 (hiW u), .int .u64 (loW u)], .int .u64 b] w fun e w' =>
      e = .returned (.tuple #[.agg #[.int .u64 (hiW (divV u b)), .int .u64 (loW (divV u b))], .int .u64 (remV u b), .bool (divB b)]) ∧ Below w.heap.size w w' := by
  have c := div_any (hiW u) (loW u) b (hi_word hu) (lo_word u) hb w
  rw [val_words] at c
  exact c
theorem times_num (u b : Int) (hu : Num u) (hb : Word b) (w : World) :
    Calls Try.prog 54 #[.agg #[.int .u64 (hiW u), .int .u64 (loW u)], .int .u64 b] w fun e w' =>
      e = .returned (.tuple #[.agg #[.int .u64 (hiW (timV u b)), .int .u64 (loW (timV u b))], .bool (timB u b)]) ∧ Below w.heap.size w w' := by
  have c := times_any (hiW u) (loW u) b (hi_word hu) (lo_word u) hb w
  rw [val_words] at c
  exact c
theorem of_num (r : Int) (hr : Word r) (w : World) :
    Calls Try.prog 62 #[.int .u64 r] w fun e w' => e = .returned (.agg #[.int .u64 (hiW r), .int .u64 (loW r)]) ∧ Below w.heap.size w w' := by
  have c := of_any r w
  rw [(hi_small hr).1, (hi_small hr).2]
  exact c
end Go.Proofs.Ytjgllfpnmmopdaa
