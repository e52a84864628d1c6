/-
  THE STATEMENT LedgerRaw: the walk.
-/
import Derived.Test.YtegpamoglifojaaDoorLwA
import Derived.Test.YtegpamoglifojaaDoorRwb
namespace Go.Proofs.YtegpamoglifojaaDoor
open Go.RowKit Wd Ld Cg Lg

theorem rawlaw_any {w : World} (hT : Tab w) {ao bo : Option Addr} {js : List Jb} {xs : List Int} {c c' : Nat} (hJ : JobsAt w ao js) (hl : js.length ≤ 140737488355328) (hA : IntsAt w bo xs) (hl' : xs.length ≤ 140737488355328) (now : Int) :
    Calls Tryd.prog 4 #[.slice ao js.length c, .slice bo xs.length c', .int .i64 now] w fun e w' => e = .returned (.bool true) ∧ Below w.heap.size w w' := by
  go_enter Tryd.func4, Tryd.ntmps4
  go_wp2_with fail
  refine (shown_any _ hT).mono ?_
  rintro e w1 ⟨rfl, b1⟩
  go_wp2_with fail
  refine (raw_any (hJ.below b1) hl (hA.below b1) hl' now).mono ?_
  rintro e w2 ⟨rfl, b2⟩
  have b12 := b1.trans (b2.mono b1.size)
  clear b1 b2
  go_wp2_with fail
  refine (rraw_any (hJ.below b12) hl (hA.below b12) hl' now).mono ?_
  rintro e w3 ⟨rfl, b3⟩
  have b13 := b12.trans (b3.mono b12.size)
  clear b12 b3
  go_wp2
  go_ret
  exact ⟨by simp, b13⟩
end Go.Proofs.YtegpamoglifojaaDoor
