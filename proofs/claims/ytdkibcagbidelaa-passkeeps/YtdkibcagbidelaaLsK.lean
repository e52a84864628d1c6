/-
  LAYER 15: rows and blocks that stay; an append of any list, and two operations of which any may come first, at a step of a region that draws.
-/
import Derived.Test.YtdkibcagbidelaaMcJ
import Derived.Test.YtdkibcagbidelaaApW
import Derived.Test.YtdkibcagbidelaaApX
import Derived.Deep.AppendLies
namespace Go.Proofs.Ytdkibcagbidelaa
open Go.RowKit Pr

theorem add_plain (g o j : Nat) : (⟨g, o, none⟩ : Addr).add j = ⟨g, o + j, none⟩ := by unfold Addr.add; split <;> simp_all
theorem flatW_one (l : List Wt) : ∀ u ∈ flatW l, u.oneCell' = true := by
  induction l with
  | nil => intro u h; cases h
  | cons r l ih =>
    intro u h
    simp only [flatW, List.mem_cons] at h
    rcases h with rfl | rfl | rfl | h
    · rfl
    · rfl
    · rfl
    · exact ih u h
theorem flatW_cell {W : World} {g o : Nat} {l : List Wt} (h : ∀ k r, l[k]? = some r → W.cell? ⟨g, o + k * 3, none⟩ = some (.int .i64 r.job) ∧ W.cell? ⟨g, o + k * 3 + 1, none⟩ = some (.int .i64 r.nd) ∧ W.cell? ⟨g, o + k * 3 + 2, none⟩ = some (.int .i64 r.lm)) : ∀ j u, (flatW l)[j]? = some u → W.cell? ((⟨g, o, none⟩ : Addr).add j) = some u := by
  intro j u hu
  rw [add_plain]
  have hj : j < l.length * 3 := by rw [← flatW_len]; exact (List.getElem?_eq_some_iff.1 hu).1
  obtain ⟨r, hr⟩ : ∃ r, l[j / 3]? = some r := ⟨_, List.getElem?_eq_getElem (by omega)⟩
  obtain ⟨e1, e2, e3⟩ := flatW_at l _ r hr
  obtain ⟨c1, c2, c3⟩ := h _ r hr
  rcases (by omega : j % 3 = 0 ∨ j % 3 = 1 ∨ j % 3 = 2) with hm | hm | hm
  · have e : j = j / 3 * 3 := by omega
    rw [← e] at e1 c1
    rw [e1] at hu
    injection hu with hu
    rw [← hu]; exact c1
  · have e : j = j / 3 * 3 + 1 := by omega
    rw [← e] at e2
    rw [show o + j / 3 * 3 + 1 = o + j by omega] at c2
    rw [e2] at hu
    injection hu with hu
    rw [← hu]; exact c2
  · have e : j = j / 3 * 3 + 2 := by omega
    rw [← e] at e3
    rw [show o + j / 3 * 3 + 2 = o + j by omega] at c3
    rw [e3] at hu
    injection hu with hu
    rw [← hu]; exact c3
theorem rowB {W W' : World} (b : Below W.heap.size W W') {B e sz n : Nat} {v : Value} {vs : List Value} (h : W.ownsRow B e sz v n vs) : W'.ownsRow B e sz v n vs := row_keep h (fun k hk => by obtain ⟨_, cs, hc⟩ := row_tag h hk; exact b.block k (lt_of_blk hc))
theorem bk {W W' : World} (b : Below W.heap.size W W') {i : Nat} {o : Obj} (h : W.heap[i]? = some o) : W'.heap[i]? = some o := (b.block i (lt_of_blk h)).trans h
theorem step_append_any {P : Program} {w : World} {ops : Array Oper} {o : Oper} {a : Act} {K : Act → World → Prop} {Q : Exit → Act → World → Prop} {E : Prop} (hgd : o.guard = none) (s x : Operand) (t : TypeId)
    (ho : o.op = .call { callee := .builtin .append, args := #[s, x], argTypes := #[t, t] })
    (base : Nat) (e : TypeId) (i : TypeInfo) (z : Value) (size bytes : Nat) (ht : P.underlying t = some (.slice e)) (hi : P.info? e = some i) (hz : i.zero = some z)
    (hsize : i.size = size) (hby : i.bytes = bytes) (hzs : z.cells.size = size) (hsz : 0 < size)
    (v : Value) (n : Nat) (xs : List Value) (hs : a.eval s = v) (hown : w.ownsRow base e size v n xs)
    (ao : Option Addr) (m c : Nat) (news : List Value) (hx : a.eval x = .slice ao m c) (hnil : ao = none → m = 0 ∧ c = 0) (hl : news.length = m * size) (hnews : ∀ ad, ao = some ad → ∀ j u, news[j]? = some u → w.cell? (ad.add j) = some u) (h1 : ∀ u ∈ news, u.oneCell' = true)
    (h63 : n + m ≤ maxLen) (hbytes : ((n + m) + (n + m) / 4 + 192) * bytes ≤ 281474976710656) (hbase : base ≤ w.heap.size)
    (h : ∀ v' w', w'.ownsRow base e size v' (n + m) (xs ++ news) → w.grownBy w' v.ownBlock → K (a.put o.dst v') w') :
    if Region.wanted o (yielded ops a.tmps) = true then Oper.wp P o a w K Q else E := by
  have hw : Region.wanted o (yielded ops a.tmps) = true := by simp [Region.wanted, hgd]
  rw [if_pos hw]
  cases ao with
  | none =>
    obtain ⟨rfl, rfl⟩ := hnil rfl
    have hn0 : news = [] := List.length_eq_zero_iff.1 (by rw [hl]; omega)
    subst hn0
    have hrun := run_append_owned_none (P := P) (w := w) base t o.type e i size ht hi v n xs hown
    unfold Oper.wp
    simp [execOp, ho, resolve, invoke, builtin, hs, hx, hrun, Result.andThen]
    exact h v w (by simpa using hown) ⟨rfl, rfl, rfl, Nat.le_refl _, fun _ _ _ => rfl⟩
  | some ad => exact wp_append_own_wide w s x t ho base e i z size bytes ht hi hz hsize hby hzs hsz v n xs hs hown ad m c news hx hl (hnews ad rfl) h1 h63 hbytes hbase (fun v' w' g1 g2 _ => h v' w' g1 g2)
theorem last_two {P : Program} {ops : Array Oper} {Q : Exit → Act → World → Prop} {md : Region.Mode} {S : World → Prop} {L : Nat} {i j : Nat} {oi oj : Oper} {fuel : Nat} {listed : Array Bool} {a : Act} {w : World} (hr : Region.ready md ops listed = [i, j]) (hi : ops[i]? = some oi) (hj : ops[j]? = some oj)
    (h1 : ∀ K' : Act → World → Prop, Shut (∀ a w, (i ≠ L → S w) → ((i ≠ L → S w) → wpLast P md ops Q S L fuel (listed.setIfInBounds i true) a w) → K' a w) → if Region.wanted oi (yielded ops a.tmps) = true then Oper.wp P oi a w K' Q else K' (a.put oi.dst undef) w)
    (h2 : ∀ K' : Act → World → Prop, Shut (∀ a w, (j ≠ L → S w) → ((j ≠ L → S w) → wpLast P md ops Q S L fuel (listed.setIfInBounds j true) a w) → K' a w) → if Region.wanted oj (yielded ops a.tmps) = true then Oper.wp P oj a w K' Q else K' (a.put oj.dst undef) w) :
    wpLast P md ops Q S L (fuel + 1) listed a w := by
  refine ⟨fun e => (by rw [hr] at e; cases e), fun k hk => ?_⟩
  rw [hr] at hk
  obtain rfl | rfl : k = i ∨ k = j := by simpa using hk
  · exact wpOp_step hi (fun K' hK => h1 K' (fun a w hS hW => hK a w ⟨hS, hW hS⟩))
  · exact wpOp_step hj (fun K' hK => h2 K' (fun a w hS hW => hK a w ⟨hS, hW hS⟩))
end Go.Proofs.Ytdkibcagbidelaa
