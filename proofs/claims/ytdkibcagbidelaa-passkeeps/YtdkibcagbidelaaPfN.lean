/-
  Package profile: Steps, At.
-/
import Derived.Test.YtdkibcagbidelaaPfB
namespace Go.Proofs.Ytdkibcagbidelaa
open Go.RowKit Go.Shelf Pr

attribute [local go_sem] Oper.semAt_some

def cellsS (s : Stp) : Array Value := #[.int .i64 s.at_, .int .i64 s.fr]
theorem flatS_take {l : List Stp} {k : Nat} {s : Stp} (h : l[k]? = some s) : flatS (l.take (k + 1)) = flatS (l.take k) ++ [.int .i64 s.at_, .int .i64 s.fr] := by
  rw [List.take_add_one, h, flatS_app]; rfl

end Go.Proofs.Ytdkibcagbidelaa
