/-
  TEXTS: WpT.
-/
import Derived.Test.YtceoibfliggalaaGreatDoorKr16
import Derived.RowKit
