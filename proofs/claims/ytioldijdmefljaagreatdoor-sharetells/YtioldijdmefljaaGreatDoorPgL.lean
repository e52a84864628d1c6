/-
  Package tree: lay.
-/
import Derived.Test.YtioldijdmefljaaGreatDoorPgB
import Derived.Deep.RegionLaw
import Derived.Deep.CutBlock
import Derived.Deep.DeepCutAuto
namespace Go.Proofs.YtioldijdmefljaaGreatDoor
open Go.RowKit Tr

/-- 'append' to a row of one's own, at a step of a region that draws. -/
theorem step_app {P : Program} {ops : Array Oper} {o : Oper} {a : Act} {w : World} {K : Act → World → Prop} {Q : Exit → Act → World → Prop} {E : Prop}
    (hgd : o.guard = none) (s x : Operand) (t : TypeId) (ho : o.op = .call { callee := .builtin .append, args := #[s, x], argTypes := #[t, t] })
    (e : TypeId) (i : TypeInfo) (z : Value) (size bytes : Nat) (h1 : P.underlying t = some (.slice e)) (h2 : P.info? e = some i) (h3 : i.zero = some z) (h4 : i.size = size) (h5 : i.bytes = bytes) (h6 : z.cells.size = size) (h7 : 0 < size)
    (v : Value) (n : Nat) (xs : List Value) (hs : a.eval s = v) (hown : w.ownsRow 0 e size v n xs)
    (ad : Addr) (m c : Nat) (news : List Value) (hx : a.eval x = .slice (some ad) m c) (hl : news.length = m * size) (hnews : ∀ j u, news[j]? = some u → w.cell? (ad.add j) = some u) (hone : ∀ u ∈ news, u.oneCell' = true)
    (b1 : n + m ≤ maxLen) (b2 : (n + m) * bytes ≤ 140737488355328)
    (hK : ∀ v' w', w'.ownsRow 0 e size v' (n + m) (xs ++ news) → w.grownBy w' v.ownBlock → (v'.ownBlock = v.ownBlock ∨ v'.ownBlock = some w.heap.size) → K (a.put o.dst v') w') :
    if Region.wanted o (yielded ops a.tmps) = true then Oper.wp P o a w K Q else E := by
  have hw : Region.wanted o (yielded ops a.tmps) = true := by simp [Region.wanted, hgd]
  rw [if_pos hw]
  obtain ⟨v', w', hrun, r1, r2, _, r4⟩ := run_append_own_at (P := P) w 0 t o.type e i z size bytes h1 h2 h3 h4 h5 h6 h7 v n xs hown ad m c news hl hnews hone b1 b2 (Nat.zero_le _)
  unfold Oper.wp
  simp [execOp, ho, resolve, invoke, builtin, hs, hx, hrun, Result.andThen]
  exact hK _ _ r1 r2 r4

/-- In the midst of lay: the list is longer, the maps are as they were. -/
structure LayA (w0 w : World) (t : Nat) (v0 v : Value) (m : Nat) (kv : Value) (ks : List Nat) (l : List Ac) (K : Nat → Nat → Bool) (b : Nat) (a : Ac) : Prop where
  blk : w.heap[t]? = some (.cells #[v, .map (some m), kv] 134 (0, 0))
  row : w.ownsRow 0 32 5 v (l.length + 1) (flatA (l ++ [a]))
  nms : ∃ D, w.ownsMap Tryz.prog 9 (plainElem Tryz.prog 3) m l.length D ∧ NmD D l
  krow : w.ownsRow 0 138 1 kv ks.length (mapsV ks)
  kids : ∀ i k, ks[i]? = some k → SetAt w k (K i)
  box : w.heap[b]? = some (.cells #[.string a.nm, .int .i64 a.pa, .int .i64 a.sh, .bool a.cl, .int .u64 a.us] 32 (0, 0))
  chg : Chg (PK t v0 m kv ks) w0 w
  new : ∀ j, v.ownBlock = some j → v0.ownBlock = some j ∨ w0.heap.size ≤ j
theorem own_tag {W : World} {B e sz n : Nat} {v : Value} {vs : List Value} (h : W.ownsRow B e sz v n vs) : ∀ j, v.ownBlock = some j → ∃ cs, W.heap[j]? = some (.cells cs e (0, 0)) := by
  intro j hj
  rcases h.2 with ⟨rfl, _⟩ | ⟨g, cap, cur, rfl, hb, hg, r⟩
  · simp [Value.ownBlock] at hj
  · simp [Value.ownBlock] at hj
    subst hj
    exact ⟨cur, hg⟩
theorem map_tag {W : World} {k : TypeId} {R : Value → Option (DataW Unit × List MemPlace)} {b n : Nat} {D : DataW Unit} (h : W.ownsMap Tryz.prog k R b n D) : ∃ es c, W.heap[b]? = some (.map es c) := by
  obtain ⟨es, c, h1, _⟩ := h
  exact ⟨es, c, h1⟩
theorem set_tag {W : World} {b : Nat} {P : Nat → Bool} (h : SetAt W b P) : ∃ es c, W.heap[b]? = some (.map es c) := by
  obtain ⟨D, h1, _⟩ := h
  exact map_tag h1
theorem PT.layA {w0 wb W w1 : World} {t : Nat} {v v' : Value} {m : Nat} {kv : Value} {ks : List Nat} {l : List Ac} {K : Nat → Nat → Bool} {a : Ac} (h : PT w0 t v m kv ks l K) (hb : Below w0.heap.size w0 wb) {b : Nat} (hbb : w0.heap.size ≤ b)
    (hbox : wb.heap[b]? = some (.cells #[.string a.nm, .int .i64 a.pa, .int .i64 a.sh, .bool a.cl, .int .u64 a.us] 32 (0, 0))) (hW : Below wb.heap.size wb W)
    (hrow : w1.ownsRow 0 32 5 v' (l.length + 1) (flatA l ++ flatA [a])) (hg : W.grownBy w1 v.ownBlock) (hat : v'.ownBlock = v.ownBlock ∨ v'.ownBlock = some W.heap.size) :
    w1.cell? ⟨t, 0, none⟩ = some v ∧ w1.frozen? ⟨t, 0, none⟩ = false ∧ LayA w0 (w1.setCell ⟨t, 0, none⟩ v') t v v' m kv ks l K b a := by
  have hbs := (Array.getElem?_eq_some_iff.1 hbox).1
  have h1 := (h.below hb).below hW
  have hlt := h.lt
  have hsz : w0.heap.size ≤ W.heap.size := Nat.le_trans hb.size hW.size
  have tv : ∀ j, v.ownBlock = some j → ∃ cs, W.heap[j]? = some (.cells cs 32 (0, 0)) := own_tag h1.row
  have keep : ∀ j, j < W.heap.size → v.ownBlock ≠ some j → w1.heap[j]? = W.heap[j]? := fun j hj hn => hg.block j hj (fun e => hn e.symm)
  have hbW : W.heap[b]? = some (.cells #[.string a.nm, .int .i64 a.pa, .int .i64 a.sh, .bool a.cl, .int .u64 a.us] 32 (0, 0)) := (hW.block b hbs).trans hbox
  have nt : v.ownBlock ≠ some t := fun e => by
    obtain ⟨cs, hc⟩ := tv t e
    rw [h1.blk] at hc
    cases hc
  have g1 := (keep t (h1.lt t (.inl rfl)) nt).trans h1.blk
  have g2 := heap_setCell_same w1 t 0 _ 134 v' g1
  have other : ∀ j, j ≠ t → (w1.setCell ⟨t, 0, none⟩ v').heap[j]? = w1.heap[j]? := fun j hj => Below.heap_setCell _ _ _ _ hj
  have k2 : ∀ j, j < W.heap.size → v.ownBlock ≠ some j → j ≠ t → (w1.setCell ⟨t, 0, none⟩ v').heap[j]? = W.heap[j]? := fun j hj hn ht => (other j ht).trans (keep j hj hn)
  refine ⟨cells_at g1 rfl, frozen_at g1, ⟨g2, ?_, ?_, ?_, fun i k hk => ?_, ?_, ?_, fun j hj => ?_⟩⟩
  · rw [flatA_app]
    refine row_of hrow (fun j hj => other j (fun e => ?_))
    subst e
    obtain ⟨cs, hc⟩ := own_tag hrow j hj
    rw [g1] at hc
    cases hc
  · obtain ⟨D, hD1, hD2⟩ := h1.nms
    obtain ⟨es, c, hm⟩ := map_tag hD1
    refine ⟨D, ?_, hD2⟩
    obtain ⟨es', c', q1, q2⟩ := hD1
    refine ⟨es', c', (k2 m (h1.lt m (.inr (.inr (.inl rfl)))) (fun e => ?_) (fun e => ?_)).trans q1, q2⟩
    · obtain ⟨cs, hc⟩ := tv m e
      rw [hm] at hc
      cases hc
    · subst e
      rw [h1.blk] at hm
      cases hm
  · refine row_of h1.krow (fun j hj => ?_)
    obtain ⟨cs, hc⟩ := own_tag h1.krow j hj
    refine k2 j (h1.lt j (.inr (.inr (.inr (.inl hj))))) (fun e => ?_) (fun e => ?_)
    · obtain ⟨cs', hc'⟩ := tv j e
      rw [hc] at hc'
      cases hc'
    · subst e
      rw [h1.blk] at hc
      cases hc
  · have hs := h1.kids i k hk
    obtain ⟨es, c, hm⟩ := set_tag hs
    refine hs.kept (k2 k hs.lt (fun e => ?_) (fun e => ?_))
    · obtain ⟨cs, hc⟩ := tv k e
      rw [hm] at hc
      cases hc
    · subst e
      rw [h1.blk] at hm
      cases hm
  · refine (k2 b (Nat.lt_of_lt_of_le hbs hW.size) (fun e => ?_) (fun e => ?_)).trans hbW
    · have := hlt b (.inr (.inl e))
      omega
    · have := hlt t (.inl rfl)
      omega
  · have c1 : Chg (PK t v m kv ks) w0 W := (Chg.of_below hb _).trans (Chg.of_below hW (PK t v m kv ks)) (fun _ _ h => h)
    have c2 : Chg (PK t v m kv ks) w0 w1 := c1.trans (Chg.of_gr hg (K := PK t v m kv ks) (fun k e => .inl (.inr (.inl e)))) (fun _ _ h => h)
    exact c2.setCell _ _ (.inl (.inl rfl))
  · rcases hat with e | e
    · exact .inl (e ▸ hj)
    · rw [e] at hj
      cases hj
      exact .inr hsz
end Go.Proofs.YtioldijdmefljaaGreatDoor
