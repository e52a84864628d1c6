/-
  LAYER 17: the reference's Check (made by gen17c.py).
-/
import Derived.Test.YtbcinapnnlfnbaaAuNq
import Derived.Test.YtbcinapnnlfnbaaXru
import Derived.Test.YtbcinapnnlfnbaaXld
import Derived.Deep.QuietTactic
namespace Go.Proofs.Ytbcinapnnlfnbaa
open Go.RowKit Wd Tr Cg Lg

theorem bel_drawU (W : World) (n : Nat) : Below W.heap.size W (W.drewN n) := by
  rw [World.drewN]
  exact ⟨rfl, rfl, rfl, Nat.le_refl _, fun _ _ => rfl⟩
theorem vmap_at {ps : List Pj} {i : Nat} {p : Pj} (h : ps[i]? = some p) : (ps.map Pj.v)[i]? = some p.v := by rw [List.getElem?_map, h]; rfl
theorem row_at {W : World} {jo : Option Addr} {ps : List Pj} (h : PjsAt W jo ps) : ∃ g o, (0 < ps.length → jo = some ⟨g, o, none⟩) ∧ ∀ x, Below W.heap.size W x → ∀ (k : Nat) (q : Pj), ps[k]? = some q → JbAt x g (o + k * 8) q.jb := by
  obtain ⟨⟨g, o, hg, hcl⟩, _⟩ := h
  exact ⟨g, o, fun h => hg (by rw [List.length_map]; exact h), fun x hx k q hq => (hcl k q.jb (by rw [List.getElem?_map, hq]; rfl)).below hx⟩
end Go.Proofs.Ytbcinapnnlfnbaa
