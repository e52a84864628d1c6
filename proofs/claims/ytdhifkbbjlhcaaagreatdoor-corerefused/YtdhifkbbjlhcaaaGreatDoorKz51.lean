import Derived.Test.YtdhifkbbjlhcaaaGreatDoorKz0
import Derived.Test.YtdhifkbbjlhcaaaGreatDoorRows
import Derived.JoinedOf
set_option maxRecDepth 20000
set_option maxHeartbeats 4000000
set_option linter.defProp false
namespace Go.Proofs.YtdhifkbbjlhcaaaGreatDoor
open Go.Proofs.Tryz
section
def MI:joinedFacts Tryz.pinned.checked.prog 8 f8 Rows.coreRefusedSpec Rows.coreRefusedRow=true:=by
 exact ae9
def MJ:joinedFacts Tryz.pinned.checked.prog 5 f5 Rows.coreStarvesSpec Rows.coreStarvesRow=true:=by
 exact ae9
def R6:joinedFacts Tryz.pinned.checked.prog 4 f4 Rows.coreNeverSpec Rows.coreNeverRow=true:=by
 exact ae9
end
end Go.Proofs.YtdhifkbbjlhcaaaGreatDoor
