/-
  Layer 5's statements: what several of them share: a list that was lent, rows of runs, append of any runs.
-/
import Derived.Test.YtljkllhpghjbiaaLwC
import Derived.Test.YtljkllhpghjbiaaPfB
namespace Go.Proofs.Ytljkllhpghjbiaa
open Go.RowKit Pr

theorem runs_row {w : World} {B : Nat} {v : Value} {l : List Rn} (h : w.ownsRow B 42 2 v l.length (flatR l)) : ∃ ao cap, v = .slice ao l.length cap ∧ RunsAt w ao l := by
  rcases row_cases h with ⟨rfl, rfl⟩ | ⟨g, cap, cur, rfl, hb, hg, h1, h2, hc⟩
  · exact ⟨none, 0, rfl, 0, 0, fun h => by simp at h, fun k r hr => by simp at hr⟩
  · exact ⟨_, _, rfl, g, 0, fun _ => rfl, fun k r hr => by rw [Nat.zero_add]; exact ⟨cells_at hg (hc k r hr).1, cells_at hg (hc k r hr).2⟩⟩
/-- A list with one more behind its end, in a block of its own. -/
theorem lent_row {w : World} {B : Nat} {v : Value} {l : List Rn} {x : Rn} (h : w.ownsRow B 42 2 v (l.length + 1) (flatR (l ++ [x]))) : ∃ g cap cur, v = .slice (some ⟨g, 0, none⟩) (l.length + 1) cap ∧ B ≤ g ∧ w.heap[g]? = some (.cells cur 42 (0, 0)) ∧ l.length + 1 ≤ cap ∧ cap ≤ maxLen ∧
    (∀ j y, (l ++ [x])[j]? = some y → cur[j * 2]? = some (.int .i64 y.nd) ∧ cur[j * 2 + 1]? = some (.int .i64 y.en)) ∧ RunsAt w (some ⟨g, 0, none⟩) l := by
  have hl : (l ++ [x]).length = l.length + 1 := by simp
  rcases row_cases (l := l ++ [x]) (by rw [hl]; exact h) with ⟨_, h0⟩ | ⟨g, cap, cur, hv, hb, hg, h1, h2, hc⟩
  · simp at h0
  · rw [hl] at hv h1
    refine ⟨g, cap, cur, hv, hb, hg, h1, h2, hc, g, 0, fun _ => rfl, fun k r hr => ?_⟩
    have := hc k r (by rw [List.getElem?_append_left (List.getElem?_eq_some_iff.1 hr).1]; exact hr)
    rw [Nat.zero_add]
    exact ⟨cells_at hg this.1, cells_at hg this.2⟩
theorem shA_any (need : Int) (o : Option Stp) : ∃ xa xm xb, shA need o = .tuple #[.int .i64 xa, .int .i64 xm, .bool xb] := by
  cases o with
  | none => exact ⟨0, 0, false, rfl⟩
  | some s => exact ⟨_, _, _, rfl⟩
/-- append of runs, also of none. -/
theorem wpList_append_any {P : Program} {w : World} {ops : Array Oper} {rest : List Oper} {o : Oper} {a : Act} {Q : Exit → Act → World → Prop} (hgd : o.guard = none) (s x : Operand) (t : TypeId)
    (ho : o.op = .call { callee := .builtin .append, args := #[s, x], argTypes := #[t, t] })
    (base : Nat) (e : TypeId) (i : TypeInfo) (z : Value) (size bytes : Nat) (ht : P.underlying t = some (.slice e)) (hi : P.info? e = some i) (hz : i.zero = some z)
    (hsize : i.size = size) (hby : i.bytes = bytes) (hzs : z.cells.size = size) (hsz : 0 < size)
    (v : Value) (n : Nat) (xs : List Value) (hs : a.eval s = v) (hown : w.ownsRow base e size v n xs)
    (ao : Option Addr) (m c : Nat) (news : List Value) (hx : a.eval x = .slice ao m c) (hnil : ao = none → m = 0 ∧ c = 0) (hl : news.length = m * size) (hnews : ∀ ad, ao = some ad → ∀ j u, news[j]? = some u → w.cell? (ad.add j) = some u) (h1 : ∀ u ∈ news, u.oneCell' = true)
    (h63 : n + m ≤ maxLen) (hbytes : (n + m) * bytes ≤ 140737488355328) (hbase : base ≤ w.heap.size)
    (h : ∀ v' w', w'.ownsRow base e size v' (n + m) (xs ++ news) → w.grownBy w' v.ownBlock → wpList P ops Q rest (a.put o.dst v') w') :
    wpList P ops Q (o :: rest) a w := by
  cases ao with
  | none =>
    obtain ⟨rfl, rfl⟩ := hnil rfl
    have hn0 : news = [] := List.length_eq_zero_iff.1 (by rw [hl]; omega)
    subst hn0
    exact wpList_append_own_none hgd s x t ho base e i size ht hi v n xs hs hown hx (h v w (by simpa using hown) ⟨rfl, rfl, rfl, Nat.le_refl _, fun _ _ _ => rfl⟩)
  | some ad => exact wpList_append_own_at _ hgd s x t ho base e i z size bytes ht hi hz hsize hby hzs hsz v n xs hs hown ad m c news hx hl (hnews ad rfl) h1 h63 hbytes hbase (fun v' w' g1 g2 _ _ => h v' w' g1 g2)
theorem runs_flat {W : World} {ao : Option Addr} {l : List Rn} (h : RunsAt W ao l) : ∀ ad, ao = some ad → ∀ j u, (flatR l)[j]? = some u → W.cell? (ad.add j) = some u := by
  intro ad had j u hu
  obtain ⟨g, o, h1, h2⟩ := h
  have hj : 0 < l.length := by
    have := (List.getElem?_eq_some_iff.1 hu).1
    rw [flatR_len] at this
    omega
  rw [h1 hj] at had
  injection had with had
  subst had
  exact flatR_cell h2 j u hu
end Go.Proofs.Ytljkllhpghjbiaa
