/-
  Package tree: a cell of an account, a map of children turned; hang.
-/
import Derived.Test.YtioldijdmefljaaGreatDoorPgM
namespace Go.Proofs.YtioldijdmefljaaGreatDoor
open Go.RowKit Tr

theorem keyLitI (n : Nat) : WideAt.IsKeyLit (KI n) := trivial
theorem set_small {W : World} {k N : Nat} {D : DataW Unit} {P : Nat → Bool} (h : W.ownsMap Tryz.prog 3 unitElem k N D) (hD : SetD D P) (hP : ∀ j, P j = true → j < 64) : W.ownsMap Tryz.prog 3 unitElem k 64 D := by
  obtain ⟨es', e', hpw, hkl⟩ := h.entries keyedI
  obtain ⟨es, clock, hb, F, hs, hDe⟩ := h
  refine ⟨es, clock, hb, F, ?_, hDe⟩
  have hlen : es'.length = es.size := by
    rw [hDe] at e'
    injection e' with e'
    rw [← e', length_sorted]
    simp
  rw [← hlen]
  have hnd : (es'.map (·.1)).Nodup := by
    rw [List.nodup_iff_pairwise_ne, List.pairwise_map]
    exact hpw
  have hsub : es'.map (·.1) ⊆ (List.range 64).map KI := by
    intro x hx
    obtain ⟨p, hp, rfl⟩ := List.mem_map.1 hx
    have hh : Maps.has D p.1 = true := by
      rw [e', Maps.has_eq]
      exact List.any_eq_true.2 ⟨p, hp, WideAt.sameKey_self (hkl p hp)⟩
    obtain ⟨j, hj, hPj⟩ := (hD p.1).1 hh
    rw [hj]
    exact List.mem_map.2 ⟨j, List.mem_range.2 (hP j hPj), rfl⟩
  have := hnd.length_le_of_subset hsub
  simpa using this
theorem SetD.put {D : DataW Unit} {P : Nat → Bool} (h : SetD D P) (hm : Maps.IsMap D) (n : Nat) (d : DataW Unit) : SetD (D.put (KI n) d) (fun j => P j || j == n) := by
  intro kl
  by_cases e : kl = KI n
  · subst e
    rw [Maps.has_put_same hm (keyLitI n)]
    exact ⟨fun _ => ⟨n, rfl, by simp⟩, fun _ => rfl⟩
  · rw [Maps.has_put_other e, h kl]
    refine ⟨fun ⟨j, h1, h2⟩ => ⟨j, h1, by simp [h2]⟩, fun ⟨j, h1, h2⟩ => ⟨j, h1, ?_⟩⟩
    have : j ≠ n := fun e' => e (e' ▸ h1)
    simpa [this] using h2
theorem SetD.del {D : DataW Unit} {P : Nat → Bool} (h : SetD D P) (n : Nat) : SetD (D.del (KI n)) (fun j => P j && !(j == n)) := by
  intro kl
  by_cases e : kl = KI n
  · subst e
    rw [Maps.has_del_same]
    refine ⟨fun h => (by cases h), fun ⟨j, h1, h2⟩ => ?_⟩
    have := KI_inj h1
    subst this
    simp at h2
  · rw [Maps.has_del_other e, h kl]
    refine ⟨fun ⟨j, h1, h2⟩ => ⟨j, h1, ?_⟩, fun ⟨j, h1, h2⟩ => ⟨j, h1, ?_⟩⟩
    · have : j ≠ n := fun e' => e (e' ▸ h1)
      simp [h2, this]
    · simp at h2
      exact h2.1
theorem find_set {a' : Ac} : ∀ {l : List Ac} {n : Nat} {a : Ac}, l[n]? = some a → a'.nm = a.nm → ∀ s, findV (l.set n a') s = findV l s
  | [], n, a, h, _, _ => by simp at h
  | b :: l, 0, a, h, e, s => by
    simp at h
    subst h
    simp [findV, e]
  | b :: l, n + 1, a, h, e, s => by
    have := find_set (l := l) (n := n) (by simpa using h) e s
    simp [findV, this]
section
variable {W : World} {t : Nat} {v : Value} {m : Nat} {kv : Value} {ks : List Nat} {l : List Ac} {K : Nat → Nat → Bool}
theorem PT.acell {n : Nat} {a : Ac} (h : PT W t v m kv ks l K) (ha : l[n]? = some a) : ∃ g c, v = .slice (some ⟨g, 0, none⟩) l.length c ∧ AcAt W g (n * 5) a ∧ ∀ k, W.frozen? ⟨g, k, none⟩ = false := by
  have hk := (List.getElem?_eq_some_iff.1 ha).1
  rcases h.row.2 with ⟨_, h0⟩ | ⟨g, cap, cur, rfl, hb, hg, h1, h2, h3, h4⟩
  · omega
  · refine ⟨g, cap, rfl, ?_, fun k => frozen_at hg⟩
    obtain ⟨e0, e1, e2, e3, e4⟩ := flatA_at l n a ha
    rw [← h4, List.getElem?_take_of_lt (by omega), Array.getElem?_toList] at e0 e1 e2 e3 e4
    exact ⟨cells_at hg e0, cells_at hg e1, cells_at hg e2, cells_at hg e3, cells_at hg e4⟩
theorem PT.kcell {p k : Nat} (h : PT W t v m kv ks l K) (hp : ks[p]? = some k) : ∃ g c, kv = .slice (some ⟨g, 0, none⟩) l.length c ∧ W.cell? ⟨g, p, none⟩ = some (.map (some k)) ∧ ∀ j, W.frozen? ⟨g, j, none⟩ = false := by
  have hk := (List.getElem?_eq_some_iff.1 hp).1
  rw [← h.klen]
  rcases h.krow.2 with ⟨_, h0⟩ | ⟨g, cap, cur, rfl, hb, hg, h1, h2, h3, h4⟩
  · omega
  · refine ⟨g, cap, rfl, ?_, fun k => frozen_at hg⟩
    have e0 : (mapsV ks)[p]? = some (.map (some k)) := by simp [mapsV, hp]
    rw [← h4, List.getElem?_take_of_lt (by omega), Array.getElem?_toList] at e0
    exact cells_at hg e0
/-- A cell of an account is written. -/
theorem PT.setA {l' : List Ac} {g k : Nat} {x : Value} (h : PT W t v m kv ks l K) (hg : v.ownBlock = some g) (hf : (flatA l).set k x = flatA l') (hl : l'.length = l.length) (hn : ∀ s, findV l' s = findV l s) :
    PT (W.setCell ⟨g, k, none⟩ x) t v m kv ks l' K ∧ Chg (PK t v m kv ks) W (W.setCell ⟨g, k, none⟩ x) := by
  have hr := h.row
  obtain ⟨cs, hcs⟩ := own_tag h.row g hg
  have other : ∀ j, j ≠ g → (W.setCell ⟨g, k, none⟩ x).heap[j]? = W.heap[j]? := fun j hj => Below.heap_setCell _ _ _ _ hj
  refine ⟨⟨(other t (fun e => ?_)).trans h.blk, ?_, ?_, row_of h.krow (fun j hj => other j (fun e => ?_)), by rw [hl]; exact h.klen, fun i k' hk => ?_, h.nodup, h.apart⟩, (Chg.refl _ W).setCell _ _ (.inl (.inr (.inl hg)))⟩
  · subst e
    rw [h.blk] at hcs
    cases hcs
  · rcases hr.2 with ⟨rfl, _⟩ | ⟨g', cap, cur, rfl, hb, hgg, h1, h2, h3, h4⟩
    · simp [Value.ownBlock] at hg
    · simp [Value.ownBlock] at hg
      subst hg
      have e1 := heap_setCell_same W g' k cur 32 x hgg
      refine ⟨?_, .inr ⟨g', cap, _, by rw [hl], hb, e1, by rw [hl]; exact h1, h2, by simpa using h3, ?_⟩⟩
      · rw [← hf, List.length_set, hl]; exact hr.1
      · rw [Array.toList_setIfInBounds, hl, List.take_set, h4, hf]
  · obtain ⟨D, hD1, hD2⟩ := h.nms
    obtain ⟨es, c, hmt⟩ := map_tag hD1
    obtain ⟨es', c', q1, q2⟩ := hD1
    refine ⟨D, ⟨es', c', (other m (fun e => ?_)).trans q1, by rw [hl]; exact q2⟩, fun s => by rw [hn]; exact hD2 s⟩
    subst e
    rw [hmt] at hcs
    cases hcs
  · subst e
    obtain ⟨cs', hc'⟩ := own_tag h.krow j hj
    rw [hcs] at hc'
    cases hc'
  · have hs := h.kids i k' hk
    obtain ⟨es, c, hmt⟩ := set_tag hs
    refine hs.kept (other k' (fun e => ?_))
    subst e
    rw [hmt] at hcs
    cases hcs
/-- A map of children is turned. -/
theorem PT.setK {W' : World} {p k : Nat} {P : Nat → Bool} (h : PT W t v m kv ks l K) (hp : ks[p]? = some k) (ht : W.mapTurned W' k) (hs : SetAt W' k P) : PT W' t v m kv ks l (fun i j => if i = p then P j else K i j) ∧ Chg (PK t v m kv ks) W W' := by
  have hmem := List.mem_of_getElem? hp
  obtain ⟨es, c, hkt⟩ := set_tag (h.kids p k hp)
  have g := ht.grown
  have other : ∀ j, j < W.heap.size → j ≠ k → W'.heap[j]? = W.heap[j]? := fun j hj hn => g.block j hj (fun e => hn (Option.some.inj e))
  have ne1 : ∀ j cs e f, W.heap[j]? = some (.cells cs e f) → j ≠ k := fun j cs e f hj e' => by
    subst e'
    rw [hkt] at hj
    cases hj
  refine ⟨⟨(other t (h.lt t (.inl rfl)) (ne1 _ _ _ _ h.blk)).trans h.blk, row_of h.row (fun j hj => ?_), ?_, row_of h.krow (fun j hj => ?_), h.klen, fun i k' hk => ?_, h.nodup, h.apart⟩, (Chg.refl _ W).turned ht (.inr (.inr (.inr (.inr hmem))))⟩
  · obtain ⟨cs, hc⟩ := own_tag h.row j hj
    exact other j (Array.getElem?_eq_some_iff.1 hc).1 (ne1 _ _ _ _ hc)
  · obtain ⟨D, hD1, hD2⟩ := h.nms
    have hlt := hD1.lt
    obtain ⟨es', c', q1, q2⟩ := hD1
    exact ⟨D, ⟨es', c', (other m hlt (fun e => h.apart (e ▸ hmem))).trans q1, q2⟩, hD2⟩
  · obtain ⟨cs, hc⟩ := own_tag h.krow j hj
    exact other j (Array.getElem?_eq_some_iff.1 hc).1 (ne1 _ _ _ _ hc)
  · by_cases e : i = p
    · subst e
      rw [hp] at hk
      cases hk
      simpa using hs
    · have hs' := h.kids i k' hk
      have hne : k' ≠ k := fun e' => by
        subst e'
        exact e ((List.getElem?_inj (List.getElem?_eq_some_iff.1 hk).1 h.nodup).1 (hk.trans hp.symm))
      simp only [if_neg e]
      exact hs'.kept (other k' hs'.lt hne)
/-- One more child; one less. -/
def hangK (K : Nat → Nat → Bool) (n p : Nat) : Nat → Nat → Bool := fun i j => if i = p then (K p j || j == n) else K i j
def dropK (K : Nat → Nat → Bool) (n q : Nat) : Nat → Nat → Bool := fun i j => if i = q then (K q j && !(j == n)) else K i j
theorem PT.hung {n p k : Nat} (h : PT W t v m kv ks l K) (hp : ks[p]? = some k) (hn : n < 64) (h64 : ∀ j, K p j = true → j < 64) :
    ∃ W', (Instr.mapUpdate 138 (.map (some k)) (.int .i64 (n : Int)) (.agg #[])).run Tryz.prog W = .ok () W' ∧ PT W' t v m kv ks l (hangK K n p) ∧ Chg (PK t v m kv ks) W W' := by
  obtain ⟨D, hD1, hD2⟩ := h.kids p k hp
  obtain ⟨W', hrun, ho, ht⟩ := hD1.store keyedI Tryz.underlying138 (by decide) (keyI (n := n) (by omega)) unitElem_mk
  have hs := hD2.put hD1.isMap n (.agg [])
  refine ⟨W', hrun, h.setK hp ht ⟨_, set_small ho hs (fun j hj => ?_), hs⟩⟩
  simp at hj
  rcases hj with hj | hj
  · exact h64 j hj
  · omega
set_option maxRecDepth 20000 in
theorem PT.dropped {n q k : Nat} (h : PT W t v m kv ks l K) (hq : ks[q]? = some k) (hn : n < 64) (ty : TypeId) :
    ∃ W', (Builtin.delete_ #[138, 3] ty #[.map (some k), .int .i64 (n : Int)]).run Tryz.prog W = .ok (.tuple #[]) W' ∧ PT W' t v m kv ks l (dropK K n q) ∧ Chg (PK t v m kv ks) W W' := by
  obtain ⟨D, hD1, hD2⟩ := h.kids q k hq
  obtain ⟨W', hrun, ho, ht⟩ := hD1.drop keyedI Tryz.underlying138 (keyI (n := n) (by omega)) ty
  exact ⟨W', hrun, h.setK hq ht ⟨_, ho, hD2.del n⟩⟩
end
set_option maxHeartbeats 2000000 in
set_option maxRecDepth 20000 in
theorem hang_any {w : World} {t : Nat} {v : Value} {m : Nat} {kv : Value} {ks : List Nat} {l : List Ac} {K : Nat → Nat → Bool} (h : PT w t v m kv ks l K) {n p : Nat} (hl : l.length ≤ 64) (hn : n < l.length) (hp : p < l.length) (h64 : ∀ j, K p j = true → j < 64) :
    Calls Tryz.prog 73 #[.pointer (some ⟨t, 0, none⟩), .int .i64 n, .int .i64 p] w fun e w' => e = .returned (.tuple #[]) ∧ PT w' t v m kv ks (mvV l n p) (hangK K n p) ∧ Chg (PK t v m kv ks) w w' := by
  obtain ⟨a, ha⟩ : ∃ a, l[n]? = some a := ⟨_, List.getElem?_eq_getElem hn⟩
  obtain ⟨k, hk⟩ : ∃ k, ks[p]? = some k := ⟨_, List.getElem?_eq_getElem (by rw [h.klen]; exact hp)⟩
  obtain ⟨ao, c, rfl, c0, c1, c2, _⟩ := h.cells
  obtain ⟨g, c', hv, ⟨d0, d1, d2, d3, d4⟩, hfr⟩ := h.acell ha
  cases hv
  obtain ⟨h1, ch1⟩ := h.setA (g := g) (l' := mvV l n p) rfl (by rw [flatA_pa l n a p ha]; unfold mvV; rw [ha]) (mv_len _) (fun s => by unfold mvV; rw [ha]; exact find_set (a' := { a with pa := (p : Int) }) ha rfl s)
  obtain ⟨kg, kc, rfl, e0, _⟩ := h1.kcell hk
  rw [mv_len] at h1 ch1 c2 ⊢
  obtain ⟨ao1, c1', hv1, f0, f1, f2, _⟩ := h1.cells
  obtain ⟨W', hrun, h2, ch2⟩ := h1.hung (n := n) hk (by omega) h64
  have hn' : (n : Int) < l.length := by omega
  have hp' : (p : Int) < l.length := by omega
  have H2 : Hid _ := h2
  have C2 : Hid _ := ch1.trans ch2 (fun _ _ h => h)
  clear h h1 h2 ch1 ch2 hv1 f0
  go_enter Tryz.func73, Tryz.ntmps73
  go_wp2

  go_end0
  exact ⟨rfl, H2.out, C2.out⟩
end Go.Proofs.YtioldijdmefljaaGreatDoor
