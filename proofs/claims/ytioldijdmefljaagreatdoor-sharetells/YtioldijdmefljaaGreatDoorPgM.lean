/-
  Package tree: lay, to its end.
-/
import Derived.Test.YtioldijdmefljaaGreatDoorPgL
namespace Go.Proofs.YtioldijdmefljaaGreatDoor
open Go.RowKit Tr

theorem find_app (l : List Ac) (a : Ac) (s : ByteArray) : findV (l ++ [a]) s = (findV l s).or (if a.nm = s then some l.length else none) := by
  induction l with
  | nil =>
    show (if a.nm = s then some 0 else (findV [] s).map (· + 1)) = _
    by_cases h : a.nm = s
    · simp [h, findV]
    · simp [h, findV]
  | cons b l ih =>
    show (if b.nm = s then some 0 else (findV (l ++ [a]) s).map (· + 1)) = (if b.nm = s then some 0 else (findV l s).map (· + 1)).or _
    by_cases h : b.nm = s
    · simp [h]
    · rw [if_neg h, if_neg h, ih]
      cases findV l s with
      | some k => simp
      | none =>
        by_cases h2 : a.nm = s
        · simp [h2]
        · simp [h2]
theorem keyLitS (s : ByteArray) : WideAt.IsKeyLit (KS s) := trivial
theorem NmD.add {D : DataW Unit} {l : List Ac} (h : NmD D l) (hD : Maps.IsMap D) {a : Ac} (hf : findV l a.nm = none) : NmD (D.put (KS a.nm) (.lit (.int .i64 (l.length : Int)))) (l ++ [a]) := by
  intro s
  rw [find_app]
  by_cases e : a.nm = s
  · subst e
    rw [hf, if_pos rfl]
    refine ⟨Maps.has_put_same hD (keyLitS _) _, fun k hk z => ?_⟩
    simp at hk
    subst hk
    exact Maps.atKey_put_same hD (keyLitS _) _ _
  · have hne : KS s ≠ KS a.nm := fun x => e (KS_inj x).symm
    rw [if_neg e, Option.or_none]
    obtain ⟨h1, h2⟩ := h s
    refine ⟨(Maps.has_put_other hne _).trans h1, fun k hk z => ?_⟩
    rw [Maps.atKey_put_other hne]
    exact h2 k hk z
/-- In the midst of lay: the name stands in the map. -/
structure LayB (w0 w : World) (t : Nat) (v0 v : Value) (m : Nat) (kv : Value) (ks : List Nat) (l : List Ac) (K : Nat → Nat → Bool) (a : Ac) : Prop where
  blk : w.heap[t]? = some (.cells #[v, .map (some m), kv] 134 (0, 0))
  row : w.ownsRow 0 32 5 v (l.length + 1) (flatA (l ++ [a]))
  nms : ∃ D, w.ownsMap Tryz.prog 9 (plainElem Tryz.prog 3) m (l.length + 1) D ∧ NmD D (l ++ [a])
  krow : w.ownsRow 0 138 1 kv ks.length (mapsV ks)
  kids : ∀ i k, ks[i]? = some k → SetAt w k (K i)
  chg : Chg (PK t v0 m kv ks) w0 w
  new : ∀ j, v.ownBlock = some j → v0.ownBlock = some j ∨ w0.heap.size ≤ j
theorem Chg.turned {K : Nat → Prop} {w w1 w2 : World} {b : Nat} (h : Chg K w w1) (k : w1.mapTurned w2 b) (hK : K b) : Chg K w w2 := h.trans (K' := fun i => i = b) (Chg.of_gr k.grown (fun _ e => .inl (Option.some.inj e).symm)) (fun _ _ e => e ▸ hK)
theorem LayA.name {w0 w : World} {t : Nat} {v0 v : Value} {m : Nat} {kv : Value} {ks : List Nat} {l : List Ac} {K : Nat → Nat → Bool} {b : Nat} {a : Ac} (h : LayA w0 w t v0 v m kv ks l K b a) (hs : a.nm.size ≤ maxLen) (hf : findV l a.nm = none) (hl : l.length < 64) (hm : m ∉ ks) :
    w.cell? ⟨t, 1, none⟩ = some (.map (some m)) ∧ w.cell? ⟨b, 0, none⟩ = some (.string a.nm) ∧ ∃ w3, (Instr.mapUpdate 131 (.map (some m)) (.string a.nm) (.int .i64 (l.length : Int))).run Tryz.prog w.drew = .ok () w3 ∧ LayB w0 w3 t v0 v m kv ks l K a := by
  refine ⟨cells_at h.blk rfl, cells_at h.box rfl, ?_⟩
  obtain ⟨D, hD1, hD2⟩ := h.nms
  obtain ⟨es0, c0, hmt⟩ := map_tag hD1
  have hD1' : w.drew.ownsMap Tryz.prog 9 (plainElem Tryz.prog 3) m l.length D := hD1
  obtain ⟨w3, hrun, ho3, ht3⟩ := hD1'.store keyedS Tryz.underlying131 (Nat.lt_of_lt_of_le hl (by decide)) (keyS hs) (plainElem_int Tryz.underlying3 (wfN (k := l.length) (by omega)))
  have g3 := ht3.grown
  have keep : ∀ j, j < w.heap.size → j ≠ m → w3.heap[j]? = w.heap[j]? := fun j hj hn => g3.block j hj (fun e => hn (Option.some.inj e))
  have nm1 : ∀ j cs e f, w.heap[j]? = some (.cells cs e f) → j ≠ m := fun j cs e f hj e' => by
    subst e'
    rw [hmt] at hj
    cases hj
  refine ⟨w3, hrun, ⟨(keep t (Array.getElem?_eq_some_iff.1 h.blk).1 (nm1 _ _ _ _ h.blk)).trans h.blk, ?_, ⟨_, ho3, hD2.add hD1.isMap hf⟩, ?_, fun i k hk => ?_, ?_, h.new⟩⟩
  · refine row_of h.row (fun j hj => ?_)
    obtain ⟨cs, hc⟩ := own_tag h.row j hj
    exact keep j (Array.getElem?_eq_some_iff.1 hc).1 (nm1 _ _ _ _ hc)
  · refine row_of h.krow (fun j hj => ?_)
    obtain ⟨cs, hc⟩ := own_tag h.krow j hj
    exact keep j (Array.getElem?_eq_some_iff.1 hc).1 (nm1 _ _ _ _ hc)
  · have hk1 := h.kids i k hk
    exact hk1.kept (keep k hk1.lt (fun e => hm (e ▸ List.mem_of_getElem? hk)))
  · exact h.chg.drew.turned ht3 (.inr (.inr (.inl rfl)))
theorem setD_none : SetD (.map [] : DataW Unit) (fun _ => false) := fun kl => ⟨fun h => (by cases h), fun ⟨j, _, h⟩ => (by cases h)⟩
theorem LayB.last {w0 w w1 : World} {t : Nat} {v0 v : Value} {m : Nat} {kv kv' : Value} {ks : List Nat} {l : List Ac} {K : Nat → Nat → Bool} {a : Ac} (h : LayB w0 w t v0 v m kv ks l K a) (hlen : ks.length = l.length) (hnd : ks.Nodup) (hm : m ∉ ks) (hK : ∀ j, K l.length j = false)
    (hrow : w1.ownsRow 0 138 1 kv' (ks.length + 1) (mapsV ks ++ [.map (some w.heap.size)])) (hg : ((w.alloc (.map #[] 0)).alloc (.cells #[.map (some w.heap.size)] 138)).grownBy w1 kv.ownBlock) (hat : kv'.ownBlock = kv.ownBlock ∨ kv'.ownBlock = some (w.heap.size + 2)) :
    w1.cell? ⟨t, 2, none⟩ = some kv ∧ w1.frozen? ⟨t, 2, none⟩ = false ∧ PT (w1.setCell ⟨t, 2, none⟩ kv') t v m kv' (ks ++ [w.heap.size]) (l ++ [a]) K ∧ Chg (PK t v0 m kv ks) w0 (w1.setCell ⟨t, 2, none⟩ kv') ∧ (∀ j, PK t v m kv' (ks ++ [w.heap.size]) j → PK t v0 m kv ks j ∨ w0.heap.size ≤ j) := by
  have hsz := h.chg.size
  obtain ⟨W, hW⟩ : ∃ W, (w.alloc (.map #[] 0)).alloc (.cells #[.map (some w.heap.size)] 138) = W := ⟨_, rfl⟩
  rw [hW] at hg
  have hWs : W.heap.size = w.heap.size + 2 := by rw [← hW]; simp
  have hbW : Below w.heap.size w W := by rw [← hW]; exact ((Below.refl _ w).alloc (Nat.le_refl _) _).alloc (by simp) _
  have hnew : W.heap[w.heap.size]? = some (.map #[] 0) := by
    rw [← hW]
    exact (Below.heap_alloc _ _ _ (by simp)).trans (heap_alloc_new w _)
  have tk : ∀ j, kv.ownBlock = some j → ∃ cs, w.heap[j]? = some (.cells cs 138 (0, 0)) := own_tag h.krow
  have keep : ∀ j, j < W.heap.size → kv.ownBlock ≠ some j → w1.heap[j]? = W.heap[j]? := fun j hj hn => hg.block j hj (fun e => hn e.symm)
  have keep0 : ∀ j, j < w.heap.size → kv.ownBlock ≠ some j → w1.heap[j]? = w.heap[j]? := fun j hj hn => (keep j (by omega) hn).trans (hbW.block j hj)
  have tlt := (Array.getElem?_eq_some_iff.1 h.blk).1
  have nt : kv.ownBlock ≠ some t := fun e => by
    obtain ⟨cs, hc⟩ := tk t e
    rw [h.blk] at hc
    cases hc
  have g1 := (keep0 t tlt nt).trans h.blk
  have g2 := heap_setCell_same w1 t 2 _ 134 kv' g1
  have other : ∀ j, j ≠ t → (w1.setCell ⟨t, 2, none⟩ kv').heap[j]? = w1.heap[j]? := fun j hj => Below.heap_setCell _ _ _ _ hj
  have k2 : ∀ j, j < w.heap.size → kv.ownBlock ≠ some j → j ≠ t → (w1.setCell ⟨t, 2, none⟩ kv').heap[j]? = w.heap[j]? := fun j hj hn ht => (other j ht).trans (keep0 j hj hn)
  have mne : ∀ j es c, w.heap[j]? = some (.map es c) → kv.ownBlock ≠ some j ∧ j ≠ t := fun j es c hj => by
    refine ⟨fun e => ?_, fun e => ?_⟩
    · obtain ⟨cs, hc⟩ := tk j e
      rw [hj] at hc
      cases hc
    · subst e
      rw [h.blk] at hj
      cases hj
  have hnk : w.heap.size ∉ ks := fun hx => by
    obtain ⟨i, hi⟩ := List.getElem?_of_mem hx
    have := (h.kids i _ hi).lt
    omega
  refine ⟨cells_at g1 rfl, frozen_at g1, ⟨g2, ?_, ?_, ?_, by simp [hlen], fun i k hk => ?_, ?_, ?_⟩, ?_, ?_⟩
  · have hr := row_of h.row (w' := w1.setCell ⟨t, 2, none⟩ kv') (fun j hj => by
      obtain ⟨cs, hc⟩ := own_tag h.row j hj
      refine k2 j (Array.getElem?_eq_some_iff.1 hc).1 (fun e => ?_) (fun e => ?_)
      · obtain ⟨cs', hc'⟩ := tk j e
        rw [hc] at hc'
        cases hc'
      · subst e
        rw [h.blk] at hc
        cases hc)
    simpa using hr
  · obtain ⟨D, hD1, hD2⟩ := h.nms
    obtain ⟨es, c, hmt⟩ := map_tag hD1
    obtain ⟨e1, e2⟩ := mne m es c hmt
    obtain ⟨es', c', q1, q2⟩ := hD1
    exact ⟨D, ⟨es', c', (k2 m (Array.getElem?_eq_some_iff.1 hmt).1 e1 e2).trans q1, by simpa using q2⟩, hD2⟩
  · have hr := row_of hrow (w' := w1.setCell ⟨t, 2, none⟩ kv') (fun j hj => other j (fun e => by
      subst e
      obtain ⟨cs, hc⟩ := own_tag hrow j hj
      rw [g1] at hc
      cases hc))
    simpa [mapsV] using hr
  · by_cases hi : i < ks.length
    · rw [List.getElem?_append_left hi] at hk
      have hs := h.kids i k hk
      obtain ⟨es, c, hmt⟩ := set_tag hs
      obtain ⟨e1, e2⟩ := mne k es c hmt
      exact hs.kept (k2 k hs.lt e1 e2)
    · rw [List.getElem?_append_right (by omega)] at hk
      have hi' : i - ks.length < 1 := by simpa using (List.getElem?_eq_some_iff.1 hk).1
      have : i = l.length := by omega
      subst this
      rw [show l.length - ks.length = 0 by omega] at hk
      simp at hk
      subst hk
      have hKf : K l.length = fun _ => false := funext hK
      rw [hKf]
      refine ⟨.map [], ?_, setD_none⟩
      have hm0 := (World.ownsMap_made (H := Unit) w Tryz.prog 3 unitElem).mono (Nat.zero_le 64)
      obtain ⟨es, c, q1, q2⟩ := hm0
      rw [heap_alloc_new] at q1
      cases q1
      refine ⟨#[], 0, ?_, q2⟩
      refine (other _ (by omega)).trans ((keep _ (by omega) (fun e => ?_)).trans hnew)
      obtain ⟨cs, hc⟩ := tk _ e
      have := (Array.getElem?_eq_some_iff.1 hc).1
      omega
  · rw [List.nodup_append]
    refine ⟨hnd, by simp, fun x hx y hy => ?_⟩
    simp at hy
    subst hy
    exact fun e => hnk (e ▸ hx)
  · simp only [List.mem_append, List.mem_singleton, not_or]
    refine ⟨hm, fun e => ?_⟩
    obtain ⟨D, hD1, _⟩ := h.nms
    have := hD1.lt
    omega
  · have c1 : Chg (PK t v0 m kv ks) w0 W := h.chg.trans (Chg.of_below hbW (PK t v0 m kv ks)) (fun _ _ h => h)
    have c2 : Chg (PK t v0 m kv ks) w0 w1 := c1.trans (Chg.of_gr hg (K := PK t v0 m kv ks) (fun k e => .inl (.inr (.inr (.inr (.inl e)))))) (fun _ _ h => h)
    exact c2.setCell _ _ (.inl (.inl rfl))
  · rintro j (rfl | hj | rfl | hj | hj)
    · exact .inl (.inl rfl)
    · rcases h.new j hj with e | e
      · exact .inl (.inr (.inl e))
      · exact .inr e
    · exact .inl (.inr (.inr (.inl rfl)))
    · rcases hat with e | e
      · exact .inl (.inr (.inr (.inr (.inl (e ▸ hj)))))
      · rw [e] at hj
        cases hj
        exact .inr (by omega)
    · simp only [List.mem_append, List.mem_singleton] at hj
      rcases hj with e | e
      · exact .inl (.inr (.inr (.inr (.inr e))))
      · exact .inr (by omega)
theorem Tryz.inf138 : (Tryz.prog.info? 138).map (fun i => (i.zero, i.size, i.bytes)) = some (some (.map none), 1, 8) := by kernel_rfl
set_option maxRecDepth 20000 in
theorem sl_shape {w : World} {B e sz n : Nat} {v : Value} {vs : List Value} (h : w.ownsRow B e sz v n vs) : ∃ ao c, v = .slice ao n c := by
  rcases h.2 with ⟨rfl, h0⟩ | ⟨g, cap, cur, rfl, _⟩
  · exact ⟨none, 0, by rw [h0]⟩
  · exact ⟨_, _, rfl⟩
set_option maxRecDepth 20000 in
theorem wb_al (wb : World) (o : Obj) : Below wb.heap.size wb (wb.drew.alloc o) := (⟨rfl, rfl, rfl, Nat.le_refl _, fun _ _ => rfl⟩ : Below wb.heap.size wb wb.drew).alloc (Nat.le_refl _) o
set_option maxHeartbeats 2000000 in
set_option maxRecDepth 20000 in
theorem lay_any {w : World} {t : Nat} {v : Value} {m : Nat} {kv : Value} {ks : List Nat} {l : List Ac} {K : Nat → Nat → Bool} (h : PT w t v m kv ks l K) (a : Ac) (hs : a.nm.size ≤ maxLen) (hf : findV l a.nm = none) (hl : l.length < 64) (hK : ∀ j, K l.length j = false) :
    Calls Tryz.prog 71 #[.pointer (some ⟨t, 0, none⟩), acV a] w fun e w' => e = .returned (.int .i64 l.length) ∧ ∃ v' kv' k', PT w' t v' m kv' (ks ++ [k']) (l ++ [plainAc a]) K ∧ Chg (PK t v m kv ks) w w' ∧ (∀ j, PK t v' m kv' (ks ++ [k']) j → PK t v m kv ks j ∨ w.heap.size ≤ j) := by
  have hmm := @run_makeMap Tryz.prog
  obtain ⟨i0, hi0, hz0, hz1, hz2⟩ := info_parts Tryz.inf32
  obtain ⟨i1, hi1, hy0, hy1, hy2⟩ := info_parts Tryz.inf138
  obtain ⟨wb, hwb⟩ : ∃ wb, w.alloc (.cells #[.string a.nm, .int .i64 a.pa, .int .i64 a.sh, .bool a.cl, .int .u64 0] 32) = wb := ⟨_, rfl⟩
  have bb : Below w.heap.size w wb := by rw [← hwb]; exact (Below.refl _ w).alloc (Nat.le_refl _) _
  have y : wb.heap[w.heap.size]? = some (.cells #[.string (plainAc a).nm, .int .i64 (plainAc a).pa, .int .i64 (plainAc a).sh, .bool (plainAc a).cl, .int .u64 (plainAc a).us] 32 (0, 0)) := by rw [← hwb]; exact heap_alloc_new w _
  obtain ⟨ao, c, rfl, c0, c1, c2, _⟩ := (h.below bb).cells
  obtain ⟨ao', c', hv0, d0, _, _, _⟩ := h.cells
  cases hv0
  have d1 : (w.alloc (.cells #[.string a.nm, .int .i64 a.pa, .int .i64 a.sh, .bool a.cl, .int .u64 a.us] 32)).cell? ⟨t, 0, none⟩ = some (.slice ao l.length c) := cellB ((Below.refl _ w).alloc (Nat.le_refl _) _) d0
  obtain ⟨⟨x0, x1, x2, x3, x4⟩, _⟩ := cells5 y
  simp only [plainAc] at x0 x1 x2 x3 x4
  have c0' : (wb.alloc (.cells #[.string a.nm, .int .i64 a.pa, .int .i64 a.sh, .bool a.cl, .int .u64 0] 32)).cell? ⟨t, 0, none⟩ = some (.slice ao l.length c) := cellB ((Below.refl _ wb).alloc (Nat.le_refl _) _) c0
  have hrow := (h.below bb).row
  have H : Hid _ := h
  have Y : Hid _ := y
  have hfa : flatA [plainAc a] = [.string a.nm, .int .i64 a.pa, .int .i64 a.sh, .bool a.cl, .int .u64 0] := rfl
  unfold acV
  clear h y
  go_enter Tryz.func71, Tryz.ntmps71
  go_upto_region 3 with fail
  go_cut [19] (fun p wc => ∃ v', p = v' ∧ LayA w wc t (.slice ao l.length c) v' m kv ks l K w.heap.size (plainAc a))
  case first =>
    go_region_law (refine step_app rfl (.tmp 16) (.tmp 18) 24 rfl 32 i0 _ 5 48 Tryz.underlying24 hi0 hz0 hz1 hz2 rfl (by decide) (.slice ao l.length c) l.length (flatA l) (by simp [Act.eval]) (hrow.alloc _) ⟨wb.heap.size, 0, none⟩ 1 1 [.string a.nm, .int .i64 a.pa, .int .i64 a.sh, .bool a.cl, .int .u64 0] (by simp [Act.eval]) rfl (new_cells wb.drew _ 32) (fun u hu => by simp at hu; rcases hu with rfl | rfl | rfl | rfl | rfl <;> rfl) (Nat.le_trans (m := 35184372088832) (by omega) (by decide)) (by omega) ?_; intro v' w1 r1 g1 r4; obtain ⟨ao2, cc2, rfl⟩ := sl_shape r1; obtain ⟨e0, e1, LA⟩ := H.out.layA (a := plainAc a) bb (Nat.le_refl _) Y.out (wb_al wb _) r1 g1 r4)
    all_goals (go_wp2; go_meet)
    all_goals exact ⟨_, rfl, LA⟩
  case rest =>
    obtain ⟨v', rfl, LA⟩ := hcut
    obtain ⟨e0, e1, w3, hrun, LB⟩ := LA.name hs hf hl H.out.apart
    have LBH : Hid _ := LB
    clear LB LA
    simp only [plainAc] at e0 e1 hrun
    go_upto_region 4 with fail
    go_cut [] (fun wc => LayB w wc t (.slice ao l.length c) u19 m kv ks l K (plainAc a))
    case first =>
      go_region
      all_goals (go_wp2; go_meet)
      all_goals exact LBH.out
    case rest =>
      clear hrun e0 e1 LBH
      have e2 := cells_at hcut.blk (k := 2) rfl
      have kr := hcut.krow
      have LBH : Hid _ := hcut
      clear hcut
      have hk64 : ks.length < 64 := by rw [H.out.klen]; exact hl
      have hnc : ∀ i u, [Value.map (some wc.heap.size)][i]? = some u → ((wc.alloc (.map #[] 0)).alloc (.cells #[.map (some wc.heap.size)] 138)).cell? ((⟨wc.heap.size + 1, 0, none⟩ : Addr).add i) = some u := by
        have := cell_one_new (wc.alloc (.map #[] 0)) (.map (some wc.heap.size)) 138
        rwa [World.size_alloc] at this
      go_wp2_with (at_builtin; refine wpList_append_own_at _ rfl (.tmp 33) (.tmp 35) 132 rfl 0 138 i1 _ 1 8 Tryz.underlying132 hi1 hy0 hy1 hy2 rfl (by decide) kv ks.length (mapsV ks) rfl ((kr.alloc _).alloc _) ⟨wc.heap.size + 1, 0, none⟩ 1 1 [.map (some wc.heap.size)] rfl rfl hnc (fun u hu => by simp at hu; subst hu; rfl) ?_ ?_ (Nat.zero_le _) ?_; exact (Nat.le_trans (m := 35184372088832) (by omega) (by decide)); omega; intro kv' w1 r1 g1 _ r4; obtain ⟨ao2, cc2, rfl⟩ := sl_shape r1; obtain ⟨z0, z1, z2, z3, z4⟩ := LBH.out.last H.out.klen H.out.nodup H.out.apart hK r1 g1 (by simpa using r4))
      go_ret
      exact ⟨rfl, _, _, _, z2, z3, z4⟩
end Go.Proofs.YtioldijdmefljaaGreatDoor
