/-
  AgendaShares, walked.
-/
import Derived.Test.YtjmiifgofedcnaaShown
import Derived.Test.YtjmiifgofedcnaaCL
namespace Go.Proofs.Ytjmiifgofedcnaa
open Go.RowKit Ag

section
variable {P : Program}
theorem gr_refl (w : World) (r : Option Nat) : w.grownBy w r := ⟨rfl, rfl, rfl, Nat.le_refl _, fun _ _ _ => rfl⟩
/-- 'append(row, src...)', src whatever: nil, or a list somewhere. -/
theorem wpList_appSrc (w : World) {ops : Array Oper} {rest : List Oper} {o : Oper} {a : Act} {Q : Exit → Act → World → Prop}
    (hgd : o.guard = none) (s x : Operand) (t : TypeId) (ho : o.op = .call { callee := .builtin .append, args := #[s, x], argTypes := #[t, t] })
    (e : TypeId) (i : TypeInfo) (z : Value) (bytes : Nat) (h1 : P.underlying t = some (.slice e)) (h2 : P.info? e = some i) (h3 : i.zero = some z) (h4 : i.size = 1) (h5 : i.bytes = bytes) (h6 : z.cells.size = 1)
    (ao : Option Addr) (n cap : Nat) (xs : List Value) (hs : a.eval s = .slice ao n cap) (hown : w.ownsRow 0 e 1 (.slice ao n cap) n xs)
    (sa : Option Addr) (m c : Nat) (news : List Value) (hx : a.eval x = .slice sa m c) (hl : news.length = m) (hsa : sa = none → m = 0 ∧ c = 0) (hnews : ∀ ad, sa = some ad → ∀ j u, news[j]? = some u → w.cell? (ad.add j) = some u) (hone : ∀ u ∈ news, u.oneCell' = true)
    (b1 : n + m ≤ maxLen) (b2 : (n + m) * bytes ≤ 140737488355328)
    (hK : ∀ ao' cap' w', w'.ownsRow 0 e 1 (.slice ao' (n + m) cap') (n + m) (xs ++ news) → w.grownBy w' (ao.map (·.block)) → Moved w ao ao' → wpList P ops Q rest (a.put o.dst (.slice ao' (n + m) cap')) w') :
    wpList P ops Q (o :: rest) a w := by
  cases sa with
  | none =>
    obtain ⟨rfl, rfl⟩ := hsa rfl
    have hn : news = [] := List.eq_nil_of_length_eq_zero hl
    subst hn
    refine wpList_append_own_none hgd s x t ho 0 e i 1 h1 h2 _ n xs hs hown hx ?_
    have := hK ao cap w (by simpa using hown) (gr_refl _ _) (.inl rfl)
    simpa using this
  | some ad => exact wpList_app w hgd s x t ho e i z bytes h1 h2 h3 1 h4 h5 h6 (by decide) ao n cap xs hs hown ad m c news hx (by omega) (hnews ad rfl) hone b1 b2 hK
end
theorem own_one (w : World) (x : Int) : (w.alloc (.cells #[.int .i64 x] 3)).ownsRow 0 3 1 (.slice (some ⟨w.heap.size, 0, none⟩) 1 1) 1 [.int .i64 x] :=
  ⟨rfl, .inr ⟨w.heap.size, 1, #[.int .i64 x], rfl, Nat.zero_le _, heap_alloc_new w _, by omega, by decide, rfl, rfl⟩⟩
/-- A list of the statement's own: its first cell. -/
structure Mine (w0 : World) (g : Nat) (v : Int) (w : World) : Prop where
  blk : ∃ cs, w.heap[g]? = some (.cells cs 3 (0, 0)) ∧ cs[0]? = some (.int .i64 v)
  lo : w0.heap.size ≤ g
section
variable {w0 w w1 : World} {g : Nat} {v : Int} {K : Nat → Prop}
theorem Mine.cell (h : Mine w0 g v w) : w.cell? ⟨g, 0, none⟩ = some (.int .i64 v) := h.blk.elim fun _ hc => cells_at hc.1 hc.2
theorem Mine.frozen (h : Mine w0 g v w) : w.frozen? ⟨g, 0, none⟩ = false := h.blk.elim fun _ hc => frozen_at hc.1
theorem Mine.lt (h : Mine w0 g v w) : g < w.heap.size := h.blk.elim fun _ hc => (Array.getElem?_eq_some_iff.1 hc.1).1
theorem Mine.kept (h : Mine w0 g v w) (c : Chg K w w1) (hk : ¬ K g) : Mine w0 g v w1 := ⟨h.blk.elim fun cs hc => ⟨cs, (c.block g h.lt hk).trans hc.1, hc.2⟩, h.lo⟩
theorem Mine.set (h : Mine w0 g v w) (u : Int) : Mine w0 g u (w.setCell ⟨g, 0, none⟩ (.int .i64 u)) := by
  obtain ⟨cs, hc, h0⟩ := h.blk
  refine ⟨⟨_, heap_setCell_same w g 0 cs 3 _ hc, ?_⟩, h.lo⟩
  have := (Array.getElem?_eq_some_iff.1 h0).1
  exact Array.getElem?_setIfInBounds_self_of_lt this
end

set_option maxHeartbeats 4000000 in
set_option maxRecDepth 20000 in
theorem shares_any (i t : Int) (hi : wfI i) (hit : wfI t) (sa : Option Addr) (n c : Nat) (news : List Value) (w : World) (hl : news.length = n) (hsa : sa = none → n = 0 ∧ c = 0) (hnews : ∀ ad, sa = some ad → ∀ j u, news[j]? = some u → w.cell? (ad.add j) = some u) (hone : ∀ u ∈ news, u.oneCell' = true) (hb : n * 8 ≤ 140737488351232) :
    Calls Try.prog 7 #[.int .i64 i, .int .i64 t, .slice sa n c] w fun e w' => e = .returned (.bool true) ∧ Below w.heap.size w w' := by
  obtain ⟨i0, hi0, hz0, hz1, hz2⟩ := info_parts Try.inf3S
  go_enter Try.func7, Try.ntmps7
  go_wp2_with fail
  refine (shown_any w).mono ?_
  rintro e w1 ⟨rfl, b1⟩
  go_wp2_with fail
  refine (new_L w1).mono ?_
  rintro e w2 ⟨rfl, r2, b2⟩
  have n2 : Nw 89 91 w (w1.heap.size + 1) w1.heap.size none [] w2 := ⟨r2, b1.trans (b2.mono b1.size), by have := b1.size; rintro k (rfl | rfl | ⟨g, hg, _⟩) <;> first | omega | cases hg⟩
  have hlt2 := n2.agn.lt
  clear r2 b2 b1
  generalize w1.heap.size + 1 = a at n2 hlt2 ⊢
  generalize w1.heap.size = m at n2 hlt2 ⊢
  have hnews2 : ∀ o, ∀ ad, sa = some ad → ∀ j u, news[j]? = some u → (w2.alloc o).cell? (ad.add j) = some u := fun o ad had j u hu => cell_al ((Chg.of_below n2.bel (fun _ => False)).cell (hnews ad had j u hu) (fun h => h)) o
  go_upto_region 5 with (first
    | (at_builtin; refine wpList_appSrc _ rfl (.tmp 19) (.tmp 20) 38 rfl 3 i0 (.int .i64 0) 8 Try.underlying38 hi0 hz0 hz1 hz2 rfl _ 1 1 _ rfl (own_one _ 1) sa n c news rfl hl hsa (hnews2 _) hone (Nat.le_trans (m := 35184372088832) (by omega) (by decide)) (by omega) ?_; intro ao' cap' w3 hrow hgr hmv))
  obtain ⟨g, rfl, hg⟩ : ∃ g, ao' = some ⟨g, 0, none⟩ ∧ w2.heap.size ≤ g := by
    rcases hmv with h1 | ⟨g, h1, h2⟩
    · exact ⟨_, h1, Nat.le_refl _⟩
    · exact ⟨g, h2, by rw [World.size_alloc] at h1; omega⟩
  have b3 : Below w2.heap.size w2 w3 := by
    have h0 : Below w2.heap.size w2 (w2.alloc (.cells #[.int .i64 1] 3)) := (Below.refl _ _).alloc (Nat.le_refl _) _
    exact h0.grown hgr h0.size (fun k e => by simp at e; omega)
  have q3 : Mine w2 g 1 w3 := by
    refine ⟨?_, hg⟩
    rcases hrow.2 with ⟨hv, _⟩ | ⟨g', cp, cur, hv, _, hgg, hn, _, hsz, htk⟩
    · simp at hv
    · simp at hv
      obtain ⟨rfl, rfl⟩ := hv
      refine ⟨cur, hgg, ?_⟩
      have : (cur.toList.take ((1 + n) * 1))[0]? = some (.int .i64 1) := by rw [htk]; rfl
      rw [List.getElem?_take_of_lt (by omega), Array.getElem?_toList] at this
      exact this
  have hz2' := n2.bel.size
  have n3 := n2.grown b3
  have nk2 : ¬ Kag a m none g := fun h => by have := hlt2 g h; omega
  clear hrow hgr hmv n2 b3
  go_wp2_with fail
  refine (add_yes_L n3.agn i t (some ⟨g, 0, none⟩) (1 + n) cap' hi hit (by simp) (by simp)).mono ?_
  rintro e w4 ⟨rfl, ao4, r4, m4, c4⟩
  have n4 := n3.turned r4 m4 c4
  have q4 := q3.kept c4 nk2
  have nk4 : ¬ Kag a m ao4 g := fun h => nk2 (kag_moved m4 q3.lt h)
  clear n3 q3 r4 m4 c4
  obtain ⟨f, hf⟩ : ∃ f : En, f = ⟨i, t, .slice (some ⟨g, 0, none⟩) (1 + n) cap'⟩ := ⟨_, rfl⟩
  have hins : insL (⟨i, t, .slice (some ⟨g, 0, none⟩) (1 + n) cap'⟩ : En) [] = [f] := by rw [hf]; rfl
  have fi : f.id = i := by rw [hf]
  have ft : f.tm = t := by rw [hf]
  have fx : f.x = .slice (some ⟨g, 0, none⟩) (1 + n) cap' := by rw [hf]
  rw [hins] at n4
  clear hins hf
  go_wp2_with fail
  refine (clone_L n4.agn (by simp)).mono ?_
  rintro e w5 ⟨b, mb, aob, rfl, r5, b5, k5⟩
  have n5 := n4.grown b5
  have q5 := q4.kept (Chg.of_below b5 (fun _ => False)) (fun h => h)
  have n5lt := n4.agn.lt
  have nk5 : ¬ Kag b mb aob g := fun h => by have := k5 g h; have := q4.lt; omega
  have hz4 := n4.bel.size
  have nb5 : Nw 89 91 w b mb aob [f] w5 := ⟨r5, n5.bel, fun k h => by have := k5 k h; omega⟩
  clear r5 b5
  have q6 := q5.set 7
  have c6 : Chg (fun k => k = g) w5 (w5.setCell ⟨g, 0, none⟩ (.int .i64 7)) := (Chg.refl _ _).setCell _ _ (.inl rfl)
  have e5 := q5.cell
  have f5 := q5.frozen
  have hsz2 : w.heap.size ≤ g := by have := q5.lo; omega
  have n6 : Nw 89 91 w a m ao4 [f] (w5.setCell ⟨g, 0, none⟩ (.int .i64 7)) := ⟨n5.agn.kept c6 (fun k hk e => nk4 (e ▸ hk)), c6.below n5.bel n5.bel.size (fun k e => by omega), n5.new⟩
  have nb6 : Nw 89 91 w b mb aob [f] (w5.setCell ⟨g, 0, none⟩ (.int .i64 7)) := ⟨nb5.agn.kept c6 (fun k hk e => nk5 (e ▸ hk)), n6.bel, nb5.new⟩
  clear n5 nb5 q5 c6 q4 n4
  go_wp2_with fail
  generalize w5.setCell ⟨g, 0, none⟩ (.int .i64 7) = w6 at *
  have h7 := get_yes_L n6.agn f (by simp)
  rw [fi, ft, fx] at h7
  refine h7.mono ?_
  rintro e w7 ⟨rfl, g7⟩
  have n7 := n6.grown g7.below
  have nb7 := nb6.grown g7.below
  have q7 := q6.kept (Chg.of_below g7.below (fun _ => False)) (fun h => h)
  clear h7 n6 nb6 q6 g7
  go_wp2_with fail
  have h8 := get_yes_L nb7.agn f (by simp)
  rw [fi, ft, fx] at h8
  refine h8.mono ?_
  rintro e w8 ⟨rfl, g8⟩
  have n8 := n7.grown g8.below
  have nb8 := nb7.grown g8.below
  have q8 := q7.kept (Chg.of_below g8.below (fun _ => False)) (fun h => h)
  clear h8 n7 nb7 q7 g8
  have e8 := q8.cell
  have hneg : (1 : Int) + (n : Int) ≠ 0 := by omega
  go_wp2_with fail
  have h9 := drop_yes_L n8.agn f (by simp)
  rw [fi] at h9
  have hdel : delL i [f] = [] := by simp [delL, fi]
  rw [hdel] at h9
  refine h9.mono ?_
  rintro e w9 ⟨rfl, r9, c9⟩
  have n9 := n8.turned r9 (.inl rfl) c9
  have nb9 : Nw 89 91 w b mb aob [f] w9 := ⟨nb8.agn.kept c9 (fun k hk hK => by have := k5 k hk; have := n5lt k hK; omega), n9.bel, nb8.new⟩
  clear h9 n8 nb8 r9 c9
  go_wp2_with fail
  refine (len_L n9.agn).mono ?_
  rintro e w10 ⟨rfl, rfl⟩
  go_wp2_with fail
  refine (len_L nb9.agn).mono ?_
  rintro e w11 ⟨rfl, rfl⟩
  go_wp2_with fail
  refine (drop_no_L n9.agn i hi (by simp)).mono ?_
  rintro e w12 ⟨rfl, rfl⟩
  go_wp2
  go_ret
  exact ⟨rfl, n9.bel⟩
end Go.Proofs.Ytjmiifgofedcnaa
