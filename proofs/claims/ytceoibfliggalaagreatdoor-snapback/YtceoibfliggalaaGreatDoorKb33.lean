/-
  TEXTS: WpT.
-/
import Derived.Test.YtceoibfliggalaaGreatDoorKb27
import Derived.RowKit
