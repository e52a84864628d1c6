/-
  TEXTS: WpT.
-/
import Derived.Test.YtceoibfliggalaaGreatDoorKv28
import Derived.RowKit
