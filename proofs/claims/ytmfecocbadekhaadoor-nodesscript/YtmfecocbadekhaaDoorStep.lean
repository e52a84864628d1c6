/-
  step: every step.
-/
import Derived.Test.YtmfecocbadekhaaDoorStepT
import Derived.Test.YtmfecocbadekhaaDoorStepU
import Derived.Test.YtmfecocbadekhaaDoorStepG
import Derived.Test.YtmfecocbadekhaaDoorStepH
import Derived.Test.YtmfecocbadekhaaDoorStepK
import Derived.Test.YtmfecocbadekhaaDoorStepL
import Derived.Test.YtmfecocbadekhaaDoorStepO
namespace Go.Proofs.YtmfecocbadekhaaDoor
open Go.RowKit Nd

theorem step_any (H : Nat) (s : St) (sec : Bool) (kind nn : Int) (la : Option Addr) (m lc gL oL : Nat) (f : Nat → Int) (w : World) (hT : Two w H s) (hfew : s.es.length ≤ 310) (hFG : s.G1 = s.F1)
    (hao : 0 < m → la = some ⟨gL, oL, none⟩) (hnil : la = none → m = 0 ∧ lc = 0) (hm : m * 8 ≤ 140737488351232) (hcL : ∀ j, j < m → w.cell? ⟨gL, oL + j, none⟩ = some (.int .i64 (f j))) (hgL : gL < w.heap.size) (hgn : gL ∉ s.blks H) :
    Calls Tryd.prog 9 #[.agg #[.pointer (some ⟨s.b1, 0, none⟩), .pointer (some ⟨s.d1, 0, none⟩)], .agg #[.pointer (some ⟨s.b2, 0, none⟩), .pointer (some ⟨s.d2, 0, none⟩)], .pointer (some ⟨H, 0, none⟩), .agg #[.bool sec, .int .i64 kind, .int .i64 nn, .slice la m lc]] w fun e w' =>
      ∃ s', e = .returned (.tuple #[.agg #[.pointer (some ⟨s'.b1, 0, none⟩), .pointer (some ⟨s'.d1, 0, none⟩)], .bool true]) ∧ Mv w H s 2 w' s' ∧ s'.G1 = s'.F1 := by
  by_cases h0 : kind < 0 ∨ 6 < kind
  · exact step_other H s sec kind nn la m lc w hT hFG h0
  · obtain rfl | rfl | rfl | rfl | rfl | rfl | rfl : kind = 0 ∨ kind = 1 ∨ kind = 2 ∨ kind = 3 ∨ kind = 4 ∨ kind = 5 ∨ kind = 6 := by omega
    · by_cases h1 : nn < 1
      · exact step_take0 H s sec nn la m lc w hT hfew hFG h1
      · by_cases h2 : (lst s.F1).length < nn
        · exact step_take1 H s sec nn la m lc w hT hfew hFG (by omega) h2
        · obtain ⟨k, rfl⟩ : ∃ k : Nat, nn = k := ⟨nn.toNat, by omega⟩
          exact step_take2 H s sec k la m lc w hT hfew hFG (by omega) (by omega)
    · exact step_claim H s sec nn la m lc gL oL f w hT hFG hao hnil hm hcL hgL hgn
    · exact step_give H s sec nn la m lc gL oL f w hT hFG hao hnil hm hcL hgL hgn
    · exact step_has H s sec nn la m lc w hT hFG
    · exact step_list H s sec nn la m lc w hT hfew hFG
    · exact step_clone H s sec nn la m lc w hT
    · exact step_spoil H s sec nn la m lc w hT hfew hFG
end Go.Proofs.YtmfecocbadekhaaDoor
