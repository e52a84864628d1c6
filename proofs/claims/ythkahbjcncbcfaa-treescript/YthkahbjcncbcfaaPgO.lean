/-
  Package tree: Clone.
-/
import Derived.Test.YthkahbjcncbcfaaPgN
namespace Go.Proofs.Ythkahbjcncbcfaa
open Go.RowKit Tr

/-- A clone that is being made. -/
structure CT (w0 W : World) (t : Nat) (v : Value) (m : Nat) (kv : Value) (ks : List Nat) (l : List Ac) (K : Nat → Nat → Bool) : Prop where
  blk : W.heap[t]? = some (.cells #[v, .map (some m), kv] 65 (0, 0))
  row : W.ownsRow 0 39 5 v l.length (flatA l)
  nms : ∃ D, W.ownsMap Try.prog 9 (plainElem Try.prog 3) m l.length D ∧ NmD D l
  krow : W.ownsRow 0 72 1 kv ks.length (mapsV ks)
  kids : ∀ i k, ks[i]? = some k → SetAt W k (K i)
  nodup : ks.Nodup
  apart : m ∉ ks
  lo : ∀ j, PK t v m kv ks j → w0.heap.size ≤ j
  bel : Below w0.heap.size w0 W
section
variable {w0 W : World} {t : Nat} {v : Value} {m : Nat} {kv : Value} {ks : List Nat} {l : List Ac} {K : Nat → Nat → Bool}
theorem CT.drew (h : CT w0 W t v m kv ks l K) : CT w0 W.drew t v m kv ks l K := ⟨h.blk, h.row, h.nms, h.krow, h.kids, h.nodup, h.apart, h.lo, h.bel.drew⟩
theorem CT.pt (h : CT w0 W t v m kv ks l K) (hl : ks.length = l.length) : PT W t v m kv ks l K := ⟨h.blk, h.row, h.nms, h.krow, hl, h.kids, h.nodup, h.apart⟩
theorem CT.step {w1 : World} {kv' : Value} {es : Array MapEntry} {clock : Nat} {D : DataW Unit} (h : CT w0 W t v m kv ks l K)
    (ho : (W.alloc (.map es clock)).ownsMap Try.prog 3 unitElem W.heap.size 64 D) (hD : SetD D (K ks.length))
    (hrow : w1.ownsRow 0 72 1 kv' (ks.length + 1) (mapsV ks ++ [.map (some W.heap.size)])) (hg : ((W.alloc (.map es clock)).alloc (.cells #[.map (some W.heap.size)] 72)).grownBy w1 kv.ownBlock) (hat : kv'.ownBlock = kv.ownBlock ∨ kv'.ownBlock = some (W.heap.size + 2)) :
    w1.cell? ⟨t, 2, none⟩ = some kv ∧ w1.frozen? ⟨t, 2, none⟩ = false ∧ CT w0 (w1.setCell ⟨t, 2, none⟩ kv') t v m kv' (ks ++ [W.heap.size]) l K := by
  have hsz := h.bel.size
  obtain ⟨X, hX⟩ : ∃ X, (W.alloc (.map es clock)).alloc (.cells #[.map (some W.heap.size)] 72) = X := ⟨_, rfl⟩
  have hoX : X.ownsMap Try.prog 3 unitElem W.heap.size 64 D := by rw [← hX]; exact ho.alloc _
  rw [hX] at hg
  have hWs : X.heap.size = W.heap.size + 2 := by rw [← hX]; simp
  have hbW : Below W.heap.size W X := by rw [← hX]; exact ((Below.refl _ W).alloc (Nat.le_refl _) _).alloc (by simp) _
  have tk : ∀ j, kv.ownBlock = some j → ∃ cs, W.heap[j]? = some (.cells cs 72 (0, 0)) := own_tag h.krow
  have keep : ∀ j, j < X.heap.size → kv.ownBlock ≠ some j → w1.heap[j]? = X.heap[j]? := fun j hj hn => hg.block j hj (fun e => hn e.symm)
  have keep0 : ∀ j, j < W.heap.size → kv.ownBlock ≠ some j → w1.heap[j]? = W.heap[j]? := fun j hj hn => (keep j (by omega) hn).trans (hbW.block j hj)
  have tlt := (Array.getElem?_eq_some_iff.1 h.blk).1
  have nt : kv.ownBlock ≠ some t := fun e => by
    obtain ⟨cs, hc⟩ := tk t e
    rw [h.blk] at hc
    cases hc
  have g1 := (keep0 t tlt nt).trans h.blk
  have g2 := heap_setCell_same w1 t 2 _ 65 kv' g1
  have other : ∀ j, j ≠ t → (w1.setCell ⟨t, 2, none⟩ kv').heap[j]? = w1.heap[j]? := fun j hj => Below.heap_setCell _ _ _ _ hj
  have k2 : ∀ j, j < W.heap.size → kv.ownBlock ≠ some j → j ≠ t → (w1.setCell ⟨t, 2, none⟩ kv').heap[j]? = W.heap[j]? := fun j hj hn ht => (other j ht).trans (keep0 j hj hn)
  have mne : ∀ j es c, W.heap[j]? = some (.map es c) → kv.ownBlock ≠ some j ∧ j ≠ t := fun j es c hj => by
    refine ⟨fun e => ?_, fun e => ?_⟩
    · obtain ⟨cs, hc⟩ := tk j e
      rw [hj] at hc
      cases hc
    · subst e
      rw [h.blk] at hj
      cases hj
  have hnk : W.heap.size ∉ ks := fun hx => by
    obtain ⟨i, hi⟩ := List.getElem?_of_mem hx
    have := (h.kids i _ hi).lt
    omega
  refine ⟨cells_at g1 rfl, frozen_at g1, ⟨g2, ?_, ?_, ?_, fun i k hk => ?_, ?_, ?_, ?_, ?_⟩⟩
  · exact row_of h.row (fun j hj => by
      obtain ⟨cs, hc⟩ := own_tag h.row j hj
      refine k2 j (Array.getElem?_eq_some_iff.1 hc).1 (fun e => ?_) (fun e => ?_)
      · obtain ⟨cs', hc'⟩ := tk j e
        rw [hc] at hc'
        cases hc'
      · subst e
        rw [h.blk] at hc
        cases hc)
  · obtain ⟨D, hD1, hD2⟩ := h.nms
    obtain ⟨es, c, hmt⟩ := map_tag hD1
    obtain ⟨e1, e2⟩ := mne m es c hmt
    obtain ⟨es', c', q1, q2⟩ := hD1
    exact ⟨D, ⟨es', c', (k2 m (Array.getElem?_eq_some_iff.1 hmt).1 e1 e2).trans q1, q2⟩, hD2⟩
  · have hr := row_of hrow (w' := w1.setCell ⟨t, 2, none⟩ kv') (fun j hj => other j (fun e => by
      subst e
      obtain ⟨cs, hc⟩ := own_tag hrow j hj
      rw [g1] at hc
      cases hc))
    simpa [mapsV] using hr
  · by_cases hi : i < ks.length
    · rw [List.getElem?_append_left hi] at hk
      have hs := h.kids i k hk
      obtain ⟨es, c, hmt⟩ := set_tag hs
      obtain ⟨e1, e2⟩ := mne k es c hmt
      exact hs.kept (k2 k hs.lt e1 e2)
    · rw [List.getElem?_append_right (by omega)] at hk
      have hi' : i - ks.length < 1 := by simpa using (List.getElem?_eq_some_iff.1 hk).1
      have : i = ks.length := by omega
      subst this
      simp at hk
      subst hk
      refine SetAt.kept ⟨D, hoX, hD⟩ ?_
      refine (other _ (by omega)).trans (keep _ (by omega) (fun e => ?_))
      obtain ⟨cs, hc⟩ := tk _ e
      have := (Array.getElem?_eq_some_iff.1 hc).1
      omega
  · rw [List.nodup_append]
    refine ⟨h.nodup, by simp, fun x hx y hy => ?_⟩
    simp at hy
    subst hy
    exact fun e => hnk (e ▸ hx)
  · simp only [List.mem_append, List.mem_singleton, not_or]
    refine ⟨h.apart, fun e => ?_⟩
    obtain ⟨D, hD1, _⟩ := h.nms
    have := hD1.lt
    omega
  · rintro j (rfl | hj | rfl | hj | hj)
    · exact h.lo _ (.inl rfl)
    · exact h.lo _ (.inr (.inl hj))
    · exact h.lo _ (.inr (.inr (.inl rfl)))
    · rcases hat with e | e
      · exact h.lo _ (.inr (.inr (.inr (.inl (e ▸ hj)))))
      · rw [e] at hj
        cases hj
        omega
    · simp only [List.mem_append, List.mem_singleton] at hj
      rcases hj with e | e
      · exact h.lo _ (.inr (.inr (.inr (.inr e))))
      · omega
  · have b1 : Below w0.heap.size w0 X := h.bel.trans (hbW.mono hsz)
    have b2 := b1.grown hg b1.size (fun j e => h.lo j (.inr (.inr (.inr (.inl e)))))
    exact b2.setCell (p := ⟨t, 2, none⟩) (h.lo t (.inl rfl)) _
end
theorem keepT {w w1 w2 : World} {t m : Nat} {ao : Option Addr} {n cap : Nat} (hb : Below w1.heap.size w1 w2) (h : w1.cell? ⟨t, 0, none⟩ = some (.slice ao n cap) ∧ w1.cell? ⟨t, 1, none⟩ = some (.map (some m)) ∧ Below w.heap.size w w1) :
    w2.cell? ⟨t, 0, none⟩ = some (.slice ao n cap) ∧ w2.cell? ⟨t, 1, none⟩ = some (.map (some m)) ∧ Below w.heap.size w w2 := ⟨cellB hb h.1, cellB hb h.2.1, h.2.2.trans (hb.mono h.2.2.size)⟩

/-- A call of maps.Clone, at a step of a region that draws. -/
theorem step_mc {ops : Array Oper} {o : Oper} {a : Act} {w : World} {K : Act → World → Prop} {Q : Exit → Act → World → Prop} {E : Prop} (hgd : o.guard = none) (x : Operand)
    (ho : o.op = .call { callee := .value (.func 34), args := #[x], argTypes := #[72] }) (vx : Value) (hx : a.eval x = vx) (R : Ending → World → Prop) (hc : Calls Try.prog 34 #[vx] w R)
    (hK : ∀ e w', R e w' → ∃ v, e = .returned v ∧ K (a.put o.dst v) w') :
    if Region.wanted o (yielded ops a.tmps) = true then Oper.wp Try.prog o a w K Q else E := by
  have hw : Region.wanted o (yielded ops a.tmps) = true := by simp [Region.wanted, hgd]
  rw [if_pos hw]
  unfold Oper.wp
  have hr : (execOp a.eval o).run Try.prog w = .ok (.enter 34 #[vx]) w := by
    subst hx
    simp [execOp, ho, resolve, invoke, go_sem]
  rw [hr, Oper.upon_enter]
  refine hc.mono ?_
  intro e w' h
  obtain ⟨v, rfl, hk⟩ := hK e w' h
  exact hk
theorem map_new (W : World) (o : Obj) (x : Value) : ∀ i u, [x][i]? = some u → ((W.alloc o).alloc (.cells #[x] 72)).cell? ((⟨W.heap.size + 1, 0, none⟩ : Addr).add i) = some u := by
  have := cell_one_new (W.alloc o) x 72
  rwa [World.size_alloc] at this
set_option maxHeartbeats 4000000 in
set_option maxRecDepth 20000 in
theorem pclone_any {w : World} {t : Nat} {v : Value} {m : Nat} {kv : Value} {ks : List Nat} {l : List Ac} {K : Nat → Nat → Bool} (h : PT w t v m kv ks l K) (hl : l.length ≤ 64) (hne : l ≠ []) :
    Calls Try.prog 12 #[.pointer (some ⟨t, 0, none⟩)] w fun e w' => ∃ t' v' m' kv' ks', e = .returned (.pointer (some ⟨t', 0, none⟩)) ∧ PT w' t' v' m' kv' ks' l K ∧ (∀ j, PK t' v' m' kv' ks' j → w.heap.size ≤ j) ∧ Below w.heap.size w w' := by
  obtain ⟨ao, c, rfl, c0, c1, c2, ha⟩ := h.cells
  obtain ⟨ad, rfl⟩ : ∃ ad, ao = some ad := by
    obtain ⟨g, o, hg, _⟩ := ha
    exact ⟨_, hg (List.length_pos_iff.2 hne)⟩
  obtain ⟨i1, hi1, hy0, hy1, hy2⟩ := info_parts Try.inf72
  obtain ⟨D, hD1, hD2⟩ := h.nms
  have hn48 : l.length * 48 ≤ 140737488355328 := by omega
  have H : Hid _ := h
  have HD2 : Hid _ := hD2
  have hmlt := hD1.lt
  clear h hD2
  go_enter Try.func12, Try.ntmps12
  go_wp2_with fail
  go_region_held3 (fun w' => w'.cell? ⟨t, 0, none⟩ = some (.slice (some ad) l.length c) ∧ w'.cell? ⟨t, 1, none⟩ = some (.map (some m)) ∧ Below w.heap.size w w') (first | exact ⟨c0, c1, (Below.refl _ w).drew⟩ | exact keepT (by assumption) (by assumption) | (refine keepT ?_ (by assumption); exact (Below.refl _ _).alloc (Nat.le_refl _) _))
    (first
    | (go_at_call 32; have hB : Below w.heap.size w _ := (by assumption : _ ∧ _ ∧ _).2.2; refine (sclone_any (ha.below hB) hn48).mono ?_; rintro e x ⟨v', rfl, hrow', hbx⟩; obtain ⟨ao', cap', rfl⟩ := sl_shape hrow')
    | (go_at_call 33; have hB : Below w.heap.size w _ := (by assumption : _ ∧ _ ∧ _).2.2; refine (mclone_s (hD1.kept (row := none) ⟨hB.os, hB.tape, hB.output, hB.size, fun i hi _ => hB.block i hi⟩ (by simp))).mono ?_; rintro e y ⟨rfl, hoy, es, clock, rfl⟩))
  rename_i hB0 hHeld
  obtain ⟨Y, hY⟩ : ∃ Y, (x.alloc (.map es clock)).alloc (.cells #[.slice ao' l.length cap', .map (some x.heap.size), .slice none 0 0] 65) = Y := ⟨_, rfl⟩
  have hxs := hB.size
  have hCT : CT w Y (x.heap.size + 1) (.slice ao' l.length cap') x.heap.size (.slice none 0 0) [] l K := by
    rw [← hY]
    refine ⟨?_, ((own_base hrow' (Nat.zero_le _)).alloc _).alloc _, ⟨D, hoy.alloc _, HD2.out⟩, World.ownsRow_nil _ _ _ _, fun i k h => (by simp at h), List.nodup_nil, by simp, ?_, ?_⟩
    · have := heap_alloc_new (x.alloc (.map es clock)) (.cells #[.slice ao' l.length cap', .map (some x.heap.size), .slice none 0 0] 65)
      rwa [World.size_alloc] at this
    · rintro j (rfl | hj | rfl | hj | hj)
      · omega
      · exact (hrow'.lt j hj).1
      · omega
      · simp [Value.ownBlock] at hj
      · cases hj
    · exact (hB.alloc hB.size _).alloc (by simp; omega) _
  rw [hY]
  obtain ⟨ct, hct⟩ : ∃ ct, x.heap.size + 1 = ct := ⟨_, rfl⟩
  obtain ⟨m', hm'⟩ : ∃ m', x.heap.size = m' := ⟨_, rfl⟩
  obtain ⟨v', hv'⟩ : ∃ v' : Value, .slice ao' l.length cap' = v' := ⟨_, rfl⟩
  rw [hct, hm', hv'] at hCT
  rw [hct, hm', hv']
  have hpos : 0 < l.length := List.length_pos_iff.2 hne
  obtain ⟨k0, hk0⟩ : ∃ k, ks[0]? = some k := ⟨_, List.getElem?_eq_getElem (by rw [H.out.klen]; exact hpos)⟩
  obtain ⟨kg, kc, rfl, _, _⟩ := H.out.kcell hk0
  have hkc : ∀ j k, ks[j]? = some k → w.cell? ⟨kg, j, none⟩ = some (.map (some k)) := fun j k hk => by
    obtain ⟨kg', kc', hv, hc, _⟩ := H.out.kcell hk
    cases hv
    exact hc
  have d2 := cellB (hCT.bel) c2
  have HKC : Hid _ := hkc
  have HCT : Hid _ := hCT
  clear hHeld hY hoy hrow' hbx hB hB0 hct hm' hv' hkc hCT ha hD1 HD2 c0 c1 c2 hk0 hxs
  obtain ⟨q, hq⟩ : ∃ q, l.length = q := ⟨_, rfl⟩
  have HQ : Hid (l.length = q) := hq
  rw [hq] at d2 hl
  clear hn48 hpos hq
  go_wp2_with fail
  go_loopg [23] q (fun gk p wr => ∃ j : Nat, j + gk = q ∧ p = .int .i64 j ∧ ∃ kv' ks', ks'.length = j ∧ CT w wr ct v' m' kv' ks' l K)
  case atStart => exact ⟨0, by omega, rfl, _, [], rfl, HCT.out⟩
  case round =>
    obtain ⟨j, hj, rfl, kvj, ksj, hkl, hC⟩ := hrel
    by_cases hlt : j < q
    · have hlt' : (j : Int) < q := by omega
      obtain ⟨k, hk⟩ : ∃ k, ks[j]? = some k := ⟨_, List.getElem?_eq_getElem (by rw [H.out.klen, HQ.out]; exact hlt)⟩
      have e0 := cellB hC.bel (HKC.out j k hk)
      obtain ⟨Dk, hDk1, hDk2⟩ := H.out.kids j k hk
      have hB := hC.bel
      have hDr : wr.drew.ownsMap Try.prog 3 unitElem k 64 Dk := hDk1.kept (row := none) ⟨hB.os, hB.tape, hB.output, hB.size, fun i hi _ => hB.block i hi⟩ (by simp)
      have hmc := mclone_i hDr
      have c2 := cells_at hC.blk (k := 2) rfl
      have f1 : ∀ o, (wr.alloc o).cell? ⟨ct, 2, none⟩ = some kvj := fun o => cellB ((Below.refl _ wr).alloc (Nat.le_refl _) _) c2
      have f2 : ∀ o o', ((wr.alloc o).alloc o').cell? ⟨ct, 2, none⟩ = some kvj := fun o o' => cellB (((Below.refl _ wr).alloc (Nat.le_refl _) _).alloc (by simp) _) c2
      have hkr := hC.krow
      have hks : ksj.length < 64 := by omega
      have HC : Hid _ := hC.drew
      have HDk2 : Hid (SetD Dk (K ksj.length)) := hkl ▸ hDk2
      clear hB hDr hDk1 hDk2 hC hk
      go_upto_region 5 with fail
      go_region_law (first
        | (refine step_mc rfl (.tmp 32) rfl (.map (some k)) (by simp [Act.eval, Act.put]) _ hmc ?_; rintro e y ⟨rfl, hoy, es1, clock1, rfl⟩; refine ⟨_, rfl, ?_⟩)
        | (refine step_app rfl (.tmp 31) (.tmp 34) 63 rfl 72 i1 _ 1 8 Try.underlying63 hi1 hy0 hy1 hy2 rfl (by decide) kvj ksj.length (mapsV ksj) (by simp [Act.eval]) ((hkr.alloc _).alloc _) ⟨wr.heap.size + 1, 0, none⟩ 1 1 [.map (some wr.heap.size)] (by simp [Act.eval]) rfl ?_ (fun u hu => by simp at hu; subst hu; rfl) (Nat.le_trans (m := 35184372088832) (by omega) (by decide)) (by omega) ?_; exact (map_new _ _ _); intro kv2 w1 r1 g1 r4; obtain ⟨ao2, cc2, rfl⟩ := sl_shape r1; obtain ⟨z0, z1, z2⟩ := HC.out.step hoy HDk2.out r1 g1 (by simpa using r4)))
      all_goals
        go_wp2
        go_roundg (q - (j + 1))
        case measure => omega
        case rel =>
          rw [hkl] at z2
          exact ⟨j + 1, by omega, rfl, _, ksj ++ [wr.heap.size], by simp; exact hkl, z2⟩
    · obtain rfl : j = q := by omega
      have hP := hC.pt (by rw [HQ.out]; exact hkl)
      have hlo := hC.lo
      have hbl := hC.bel
      clear hC
      go_wp2
      go_ret
      exact ⟨ct, v', m', kvj, ksj, rfl, hP, hlo, hbl⟩
end Go.Proofs.Ythkahbjcncbcfaa
