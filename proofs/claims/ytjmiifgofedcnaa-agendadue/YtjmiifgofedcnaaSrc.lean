/-
  'append(row, src...)'.
-/
import Derived.Test.YtjmiifgofedcnaaApp
namespace Go.Proofs.Ytjmiifgofedcnaa
open Go.RowKit Ag

section
variable {P : Program}
theorem gr_id (w : World) (r : Option Nat) : w.grownBy w r := ⟨rfl, rfl, rfl, Nat.le_refl _, fun _ _ _ => rfl⟩
/-- 'append(row, src...)', src whatever: nil, or a list somewhere. -/
theorem wpList_appS (w : World) {ops : Array Oper} {rest : List Oper} {o : Oper} {a : Act} {Q : Exit → Act → World → Prop}
    (hgd : o.guard = none) (s x : Operand) (t : TypeId) (ho : o.op = .call { callee := .builtin .append, args := #[s, x], argTypes := #[t, t] })
    (e : TypeId) (i : TypeInfo) (z : Value) (bytes : Nat) (h1 : P.underlying t = some (.slice e)) (h2 : P.info? e = some i) (h3 : i.zero = some z) (h4 : i.size = 1) (h5 : i.bytes = bytes) (h6 : z.cells.size = 1)
    (ao : Option Addr) (n cap : Nat) (xs : List Value) (hs : a.eval s = .slice ao n cap) (hown : w.ownsRow 0 e 1 (.slice ao n cap) n xs)
    (sa : Option Addr) (m c : Nat) (news : List Value) (hx : a.eval x = .slice sa m c) (hl : news.length = m) (hsa : sa = none → m = 0 ∧ c = 0) (hnews : ∀ ad, sa = some ad → ∀ j u, news[j]? = some u → w.cell? (ad.add j) = some u) (hone : ∀ u ∈ news, u.oneCell' = true)
    (b1 : n + m ≤ maxLen) (b2 : (n + m) * bytes ≤ 140737488355328)
    (hK : ∀ ao' cap' w', w'.ownsRow 0 e 1 (.slice ao' (n + m) cap') (n + m) (xs ++ news) → w.grownBy w' (ao.map (·.block)) → Moved w ao ao' → wpList P ops Q rest (a.put o.dst (.slice ao' (n + m) cap')) w') :
    wpList P ops Q (o :: rest) a w := by
  cases sa with
  | none =>
    obtain ⟨rfl, rfl⟩ := hsa rfl
    have hn : news = [] := List.eq_nil_of_length_eq_zero hl
    subst hn
    refine wpList_append_own_none hgd s x t ho 0 e i 1 h1 h2 _ n xs hs hown hx ?_
    have := hK ao cap w (by simpa using hown) (gr_id _ _) (.inl rfl)
    simpa using this
  | some ad => exact wpList_app w hgd s x t ho e i z bytes h1 h2 h3 1 h4 h5 h6 (by decide) ao n cap xs hs hown ad m c news hx (by omega) (hnews ad rfl) hone b1 b2 hK
end
end Go.Proofs.Ytjmiifgofedcnaa
