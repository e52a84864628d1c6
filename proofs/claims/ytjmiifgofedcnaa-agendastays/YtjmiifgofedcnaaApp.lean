/-
  'append' to a row that the program itself made: the row stays where it is, or lies in a new block.
-/
import Derived.Test.YtjmiifgofedcnaaClr
import Derived.WalkKit
import Derived.WalkSpells
import Derived.ArgAppend
import Derived.Laws.AppendOwnNone
import Derived.Deep.LoopGhost
import Derived.RowKit3
namespace Go.Proofs.Ytjmiifgofedcnaa
open Go.RowKit
variable {P : Program}

/-- Where a row lies behind an append: where it lay, or in a new block. -/
def Moved (w : World) (ao ao' : Option Addr) : Prop := ao' = ao ∨ ∃ g, w.heap.size ≤ g ∧ ao' = some ⟨g, 0, none⟩

theorem owns_shape {w : World} {base e sz n : Nat} {v : Value} {xs : List Value} (h : w.ownsRow base e sz v n xs) : (v = .slice none 0 0 ∧ n = 0) ∨ ∃ g cap, v = .slice (some ⟨g, 0, none⟩) n cap ∧ base ≤ g ∧ n ≤ cap := by
  rcases h.2 with h | ⟨g, cap, cur, rfl, hb, _, hn, _⟩
  · exact .inl h
  · exact .inr ⟨g, cap, rfl, hb, hn⟩
theorem owns_low {w : World} {base e sz n : Nat} {v : Value} {xs : List Value} (h : w.ownsRow base e sz v n xs) : w.ownsRow 0 e sz v n xs := by
  refine ⟨h.1, ?_⟩
  rcases h.2 with h | ⟨g, cap, cur, rfl, hb, rest⟩
  · exact .inl h
  · exact .inr ⟨g, cap, cur, rfl, Nat.zero_le _, rest⟩

theorem wpList_app (w : World) {ops : Array Oper} {rest : List Oper} {o : Oper} {a : Act} {Q : Exit → Act → World → Prop}
    (hgd : o.guard = none) (s x : Operand) (t : TypeId) (ho : o.op = .call { callee := .builtin .append, args := #[s, x], argTypes := #[t, t] })
    (e : TypeId) (i : TypeInfo) (z : Value) (bytes : Nat) (h1 : P.underlying t = some (.slice e)) (h2 : P.info? e = some i) (h3 : i.zero = some z) (sz : Nat) (h4 : i.size = sz) (h5 : i.bytes = bytes) (h6 : z.cells.size = sz) (h7 : 0 < sz)
    (ao : Option Addr) (n cap : Nat) (xs : List Value) (hs : a.eval s = .slice ao n cap) (hown : w.ownsRow 0 e sz (.slice ao n cap) n xs)
    (ad : Addr) (m c : Nat) (news : List Value) (hx : a.eval x = .slice (some ad) m c) (hl : news.length = m * sz) (hnews : ∀ j u, news[j]? = some u → w.cell? (ad.add j) = some u) (hone : ∀ u ∈ news, u.oneCell' = true)
    (b1 : n + m ≤ maxLen) (b2 : (n + m) * bytes ≤ 140737488355328)
    (hK : ∀ ao' cap' w', w'.ownsRow 0 e sz (.slice ao' (n + m) cap') (n + m) (xs ++ news) → w.grownBy w' (ao.map (·.block)) → Moved w ao ao' → wpList P ops Q rest (a.put o.dst (.slice ao' (n + m) cap')) w') :
    wpList P ops Q (o :: rest) a w := by
  rcases owns_shape hown with ⟨hv, hn0⟩ | ⟨g, cap', hv, _, hnc⟩
  · simp only [Value.slice.injEq] at hv
    obtain ⟨rfl, rfl, rfl⟩ := hv
    by_cases hm : m = 0
    · subst hm
      refine wpList_append_own w hgd s x t ho 0 e i z sz bytes h1 h2 h3 h4 h5 h6 h7 _ 0 xs hs hown ad 0 c news hx hl hnews hone b1 b2 (Nat.zero_le _) fun v' w' k1 k2 k3 => ?_
      obtain rfl := k3.2 ⟨rfl, rfl⟩
      exact hK none 0 w' k1 k2 (.inl rfl)
    · have hxs : xs.length = 0 * sz := hown.1
      refine wpList_append_grows w hgd s x t ho e i z sz bytes h1 h2 h3 h4 h5 h6 h7 none 0 0 xs hs (fun _ => ⟨rfl, rfl⟩) hxs (fun _ h => by cases h) ad m c news hx hl hnews hone (by omega) b1 b2 fun v' w' k1 k2 => ?_
      rcases owns_shape k1 with ⟨_, h0⟩ | ⟨g, cap', rfl, hg, _⟩
      · omega
      · exact hK _ cap' w' (owns_low k1) k2 (.inr ⟨g, hg, rfl⟩)
  · simp only [Value.slice.injEq, true_and] at hv
    obtain ⟨rfl, rfl⟩ := hv
    by_cases hfit : n + m ≤ cap
    · refine wpList_append_fits w hgd s x t ho 0 e i sz h1 h2 h4 g n cap xs hs hown ad m c news hx hl hnews hone hfit fun w' k1 k2 => ?_
      exact hK _ cap w' k1 k2 (.inl rfl)
    · refine wpList_append_grows w hgd s x t ho e i z sz bytes h1 h2 h3 h4 h5 h6 h7 (some ⟨g, 0, none⟩) n cap xs hs (fun h => by cases h) hown.1 (fun b hb j u hu => by
        cases hb
        exact hown.cells (g := g) rfl j u hu) ad m c news hx hl hnews hone (by omega) b1 b2 fun v' w' k1 k2 => ?_
      rcases owns_shape k1 with ⟨_, h0⟩ | ⟨g', cap', rfl, hg, _⟩
      · omega
      · refine hK _ cap' w' (owns_low k1) ⟨k2.os, k2.tape, k2.output, k2.size, fun k hk _ => k2.block k hk (by simp)⟩ (.inr ⟨g', hg, rfl⟩)
end Go.Proofs.Ytjmiifgofedcnaa
