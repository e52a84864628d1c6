/-
 IDEALABOVE walked.
-/
import Derived.Test.YtdkbmligaodpmaaGreatDoorTkBqz
import Derived.Test.YtdkbmligaodpmaaGreatDoorTkAqz
import Derived.Test.YtdkbmligaodpmaaGreatDoorXrmz
import Derived.Test.YtdkbmligaodpmaaGreatDoorXriz
import Derived.Test.YtdkbmligaodpmaaGreatDoorXrfz
import Derived.Test.YtdkbmligaodpmaaGreatDoorXiyz
namespace Go.Proofs.YtdkbmligaodpmaaGreatDoor
open Go.RowKit Wd Tr Cg Ld

theorem St.chg {w x y : World} {g : Nat} {c : Cf} {K : Nat → Prop} (h : St w g c x) (hc : Chg K x y) (hg : ¬ K g) (hK : ∀ i, K i → w.heap.size ≤ i) : St w g c y := by
 obtain ⟨s0, s1, s2, s3, s4, s5, s6, s7, hB, hz⟩ := h
 exact ⟨hc.cell s0 hg, hc.cell s1 hg, hc.cell s2 hg, hc.cell s3 hg, hc.cell s4 hg, hc.cell s5 hg, hc.cell s6 hg, hc.cell s7 hg, hc.below hB hz hK, Nat.le_trans hz hc.size⟩
end Go.Proofs.YtdkbmligaodpmaaGreatDoor
