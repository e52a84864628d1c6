/-
  TEXTS: WpT.
-/
import Derived.Test.YtceoibfliggalaaGreatDoorKw18
import Derived.RowKit
