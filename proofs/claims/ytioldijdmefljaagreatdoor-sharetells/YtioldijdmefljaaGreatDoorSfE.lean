/-
  LAYER 13: package share: what Shares and Effective do at each account.
-/
import Derived.Test.YtioldijdmefljaaGreatDoorSfD
import Derived.Test.YtioldijdmefljaaGreatDoorSfL
namespace Go.Proofs.YtioldijdmefljaaGreatDoor
open Go.RowKit Wd Tr Go.Maps

theorem Acs.lo {W W' : World} {B g o : Nat} {l : List Ac} (h : Acs W g o l) (b : Below B W W') (hg : ∀ (k : Nat) (a : Ac), l[k]? = some a → g < B) : Acs W' g o l := fun k a ha => (h k a ha).lo b (hg k a ha)
/-- A row of L words in a block of its own. -/
def RowF (W : World) (b L : Nat) (f : Nat → Int) : Prop := ∃ cur, W.heap[b]? = some (.cells cur 30 (0, 0)) ∧ cur.size = L ∧ ∀ j, j < L → cur[j]? = some (.int .u64 (f j))
def updF (f : Nat → Int) (k : Nat) (x : Int) : Nat → Int := fun j => if j = k then x else f j
section
variable {W W' : World} {b L : Nat} {f : Nat → Int}
theorem RowF.cell (h : RowF W b L f) {j : Nat} (hj : j < L) : W.cell? ⟨b, j, none⟩ = some (.int .u64 (f j)) := by
  obtain ⟨cur, h1, _, h3⟩ := h
  exact cells_at h1 (h3 j hj)
theorem RowF.free (h : RowF W b L f) (j : Nat) : W.frozen? ⟨b, j, none⟩ = false := by
  obtain ⟨cur, h1, _⟩ := h
  exact frozen_at h1
theorem RowF.lt (h : RowF W b L f) : b < W.heap.size := by
  obtain ⟨cur, h1, _⟩ := h
  exact (Array.getElem?_eq_some_iff.1 h1).1
theorem RowF.same (h : RowF W b L f) (e : W'.heap[b]? = W.heap[b]?) : RowF W' b L f := by
  obtain ⟨cur, h1, h2⟩ := h
  exact ⟨cur, e.trans h1, h2⟩
theorem RowF.below (h : RowF W b L f) (e : Below W.heap.size W W') : RowF W' b L f := h.same (e.block b h.lt)
theorem RowF.set (h : RowF W b L f) (k : Nat) (x : Int) : RowF (W.setCell ⟨b, k, none⟩ (.int .u64 x)) b L (updF f k x) := by
  obtain ⟨cur, h1, h2, h3⟩ := h
  refine ⟨_, heap_setCell_same W b k cur _ _ h1, by simpa using h2, fun j hj => ?_⟩
  unfold updF
  by_cases e : j = k
  · subst e
    rw [if_pos rfl]
    simp [h2, hj]
  · rw [if_neg e, Array.getElem?_setIfInBounds_ne (fun x => e x.symm)]
    exact h3 j hj
theorem RowF.other (h : RowF W b L f) {g k : Nat} {v : Value} (e : b ≠ g) : RowF (W.setCell ⟨g, k, none⟩ v) b L f := h.same (heap_setCell_other W ⟨g, k, none⟩ b v e)
theorem RowF.congr {f' : Nat → Int} (h : RowF W b L f) (e : ∀ j, j < L → f j = f' j) : RowF W b L f' := by
  obtain ⟨cur, h1, h2, h3⟩ := h
  exact ⟨cur, h1, h2, fun j hj => by rw [← e j hj]; exact h3 j hj⟩
end
/-- What lies in memory while shares are told: the places of the two rows, the family. -/
structure InvS (WF : World) (m g o c g1 g2 g3 nb db : Nat) (l : List Ac) (D : Nat → Prop) (w : World) : Prop where
  bel : Chg (fun j => j = nb ∨ j = db) WF w
  c1 : w.cell? ⟨g1, 0, none⟩ = some (.slice (some ⟨nb, 0, none⟩) l.length l.length)
  c2 : w.cell? ⟨g2, 0, none⟩ = some (.slice (some ⟨g, o, none⟩) l.length c)
  c2' : w.cell? ⟨g2, 1, none⟩ = some (.map (some m))
  c3 : w.cell? ⟨g3, 0, none⟩ = some (.slice (some ⟨db, 0, none⟩) l.length l.length)
  num : ∃ f, RowF w nb l.length f ∧ ∀ j, j < l.length → D j → f j = numV l j
  den : ∃ f, RowF w db l.length f ∧ ∀ j, j < l.length → D j → f j = denV l j
  ne : nb ≠ db
theorem InvS.st {WF : World} {m g o c g1 g2 g3 nb db : Nat} {l : List Ac} {D : Nat → Prop} {x y : World} (h : InvS WF m g o c g1 g2 g3 nb db l D x) (b : Below x.heap.size x y) : InvS WF m g o c g1 g2 g3 nb db l D y := by
  obtain ⟨f, f1, f2⟩ := h.num
  obtain ⟨f', f1', f2'⟩ := h.den
  exact ⟨h.bel.trans (Chg.of_below b _) (fun _ _ h => h), cellB b h.c1, cellB b h.c2, cellB b h.c2', cellB b h.c3, ⟨f, f1.below b, f2⟩, ⟨f', f1'.below b, f2'⟩, h.ne⟩
theorem keepS4 {W w : World} {a0 a1 a2 a3 : Addr} {v0 v1 v2 v3 : Value} (hb : Below W.heap.size W w) (h : W.cell? a0 = some v0 ∧ W.cell? a1 = some v1 ∧ W.cell? a2 = some v2 ∧ W.cell? a3 = some v3) : w.cell? a0 = some v0 ∧ w.cell? a1 = some v1 ∧ w.cell? a2 = some v2 ∧ w.cell? a3 = some v3 :=
  ⟨keepC hb h.1, keepC hb h.2.1, keepC hb h.2.2.1, keepC hb h.2.2.2⟩
theorem far_cell {W : World} {b k g j : Nat} {u v : Value} (h : W.cell? ⟨g, j, none⟩ = some v) (hne : g ≠ b ∨ j ≠ k) : (W.setCell ⟨b, k, none⟩ u).cell? ⟨g, j, none⟩ = some v := by
  have e : (⟨b, k, none⟩ : Addr) ≠ ⟨g, j, none⟩ := fun e => by
    injection e with e1 e2 e3
    omega
  rw [World.cell?_setCell_other W ⟨b, k, none⟩ ⟨g, j, none⟩ u e]
  exact h
theorem setS4 {W : World} {g1 g2 nb k pk : Nat} {u v0 v1 v2 v3 : Value} (n1 : g1 ≠ nb) (n2 : g2 ≠ nb) (hk : pk ≠ k) (h : W.cell? ⟨g1, 0, none⟩ = some v0 ∧ W.cell? ⟨g2, 0, none⟩ = some v1 ∧ W.cell? ⟨g2, 1, none⟩ = some v2 ∧ W.cell? ⟨nb, pk, none⟩ = some v3) :
    (W.setCell ⟨nb, k, none⟩ u).cell? ⟨g1, 0, none⟩ = some v0 ∧ (W.setCell ⟨nb, k, none⟩ u).cell? ⟨g2, 0, none⟩ = some v1 ∧ (W.setCell ⟨nb, k, none⟩ u).cell? ⟨g2, 1, none⟩ = some v2 ∧ (W.setCell ⟨nb, k, none⟩ u).cell? ⟨nb, pk, none⟩ = some v3 :=
  ⟨far_cell h.1 (.inl n1), far_cell h.2.1 (.inl n2), far_cell h.2.2.1 (.inl n2), far_cell h.2.2.2 (.inr hk)⟩
set_option maxHeartbeats 2000000 in
set_option maxRecDepth 20000 in
theorem visS_any {WF : World} {B m g o c g1 g2 g3 nb db : Nat} {l : List Ac} {v : Nat → Value} (hwu : Wu l) (hac' : ∀ x, Chg (fun j => j = nb ∨ j = db) WF x → Acs x g o l) (hbr : ∀ x, Chg (fun j => j = nb ∨ j = db) WF x → Bro x B m l l.length v)
    (n1 : g1 ≠ nb) (n2 : g2 ≠ nb) (n3 : g3 ≠ nb) (d1 : g1 ≠ db) (d2 : g2 ≠ db) (d3 : g3 ≠ db) (D : Nat → Prop) (k : Nat) (w : World) (hi : InvS WF m g o c g1 g2 g3 nb db l D w) (hk0 : k ≠ 0) (hk : k < l.length) (hDp : D (up l k)) (hDk : ¬ D k) :
    Calls Tryz.prog 16 #[.int .i64 (k : Int), .int .i64 (up l k : Nat), .pointer (some ⟨g1, 0, none⟩), .pointer (some ⟨g2, 0, none⟩), .pointer (some ⟨g3, 0, none⟩)] w fun e w' => e = .returned (.tuple #[]) ∧ InvS WF m g o c g1 g2 g3 nb db l (fun j => D j ∨ j = k) w' ∧ Chg (fun j => j = nb ∨ j = db) w w' := by
  obtain ⟨fn, hfn, hfn'⟩ := hi.num
  obtain ⟨fd, hfd, hfd'⟩ := hi.den
  have hul := hwu.up_lt hk
  have hl64 := hwu.len
  have HLK : Hid (∀ x, Chg (fun j => j = nb ∨ j = db) WF x → (Instr.lookup 40 (.map (some m)) (.int .i64 (up l k : Nat)) false).run Tryz.prog x = .ok (.agg #[v (up l k), .int .u64 (tog l (up l k))]) x) := fun x hx => (hbr x hx).look hl64 hul
  have hfl := fld1 (v (up l k)) (.int .u64 (tog l (up l k)))
  obtain ⟨a, ha, hac⟩ := (hac' w hi.bel).at hk
  have hs := hwu.shOk k a ha
  have hb1 := den_word hwu hk
  have hb2 := den_word hwu hul
  have ht := tog_word hwu (up l k)
  have e1 := num_up hwu hk hk0
  have e2 := den_up hwu hk hk0
  rw [sh_of ha] at e1
  have k3 : IntKind.u64.wrap (numV l (up l k) * a.sh) = numV l k := by rw [← e1, IntKind.wrap_u64]; omega
  have k4 : IntKind.u64.wrap (denV l (up l k) * tog l (up l k)) = denV l k := by rw [← e2, IntKind.wrap_u64]; omega
  have p1 := hfn.cell hul
  rw [hfn' _ hul hDp] at p1
  have p2 := hfd.cell hul
  rw [hfd' _ hul hDp] at p2
  have p3 := hfn.cell hk
  have p4 := hfd.cell hk
  have f3 := hfn.free k
  have f4 := hfd.free k
  have HSH : Hid (∀ x, Below w.heap.size w x → Calls Tryz.prog 17 #[.agg #[.slice (some ⟨g, o, none⟩) l.length c, .map (some m)], .int .i64 (k : Int)] x fun e w' => e = .returned (.int .u64 a.sh) ∧ Below x.heap.size x w') := fun x hx => fshares_any (c := c) (m := m) ((hac' x (hi.bel.trans (Chg.of_below hx _) (fun _ _ h => h))) k a ha) hk (by omega) hs.2
  obtain ⟨q1, q2, q2', q3⟩ := (⟨hi.c1, hi.c2, hi.c2', hi.c3⟩ : _ ∧ _ ∧ _ ∧ _)
  have hne := hi.ne
  have hkp := hwu.up_ne hk hk0
  have HFN : Hid (RowF w nb l.length fn ∧ ∀ j, j < l.length → D j → fn j = numV l j) := ⟨hfn, hfn'⟩
  have HFD : Hid (RowF w db l.length fd ∧ ∀ j, j < l.length → D j → fd j = denV l j) := ⟨hfd, hfd'⟩
  have HI : Hid (InvS WF m g o c g1 g2 g3 nb db l D w) := hi
  have hk' : (k : Int) < l.length := by omega
  have hu' : ((up l k : Nat) : Int) < l.length := by omega
  have HD : Hid _ := hDk
  clear hi hfn hfn' hfd hfd' hs hb1 hb2 ht e1 e2 hac ha hDp hDk hk0 hul hl64 hbr hac'
  obtain ⟨N2, hN2⟩ : ∃ N, numV l k = N := ⟨_, rfl⟩
  obtain ⟨D2, hD2⟩ : ∃ N, denV l k = N := ⟨_, rfl⟩
  rw [hN2] at k3
  rw [hD2] at k4
  have HN2 : Hid _ := hN2
  have HD2 : Hid _ := hD2
  have HQ : Hid (w.cell? ⟨g1, 0, none⟩ = some (.slice (some ⟨nb, 0, none⟩) l.length l.length) ∧ w.cell? ⟨g2, 0, none⟩ = some (.slice (some ⟨g, o, none⟩) l.length c) ∧ w.cell? ⟨g2, 1, none⟩ = some (.map (some m)) ∧ w.cell? ⟨g3, 0, none⟩ = some (.slice (some ⟨db, 0, none⟩) l.length l.length)) := ⟨q1, q2, q2', q3⟩
  clear hN2 hD2 hwu
  generalize numV l (up l k) = N1 at *
  generalize denV l (up l k) = D1 at *
  generalize tog l (up l k) = tg at *
  generalize v (up l k) = vu at *
  generalize a.sh = sh at *
  obtain ⟨pk, hpk⟩ : ∃ pk, up l k = pk := ⟨_, rfl⟩
  rw [hpk] at p1 p2 hu' HLK hkp ⊢
  clear hpk
  go_enter Tryz.func16, Tryz.ntmps16
  go_upto_region 0 with fail
  go_cut [0] (fun b wq => b = .int .i64 (k : Int) ∧ ∃ x, Below w.heap.size w x ∧ x.setCell ⟨nb, k, none⟩ (.int .u64 N2) = wq)
  case first =>
    have HS : Hid (w.drew.cell? ⟨g1, 0, none⟩ = some (.slice (some ⟨nb, 0, none⟩) l.length l.length) ∧ w.drew.cell? ⟨g2, 0, none⟩ = some (.slice (some ⟨g, o, none⟩) l.length c) ∧ w.drew.cell? ⟨g2, 1, none⟩ = some (.map (some m)) ∧ w.drew.cell? ⟨nb, pk, none⟩ = some (.int .u64 N1)) := ⟨q1, q2, q2', p1⟩
    clear q1 q2 q2' q3 p1 p2 p4 f4 hfl
    go_region_held3 (fun x => x.cell? ⟨g1, 0, none⟩ = some (.slice (some ⟨nb, 0, none⟩) l.length l.length) ∧ x.cell? ⟨g2, 0, none⟩ = some (.slice (some ⟨g, o, none⟩) l.length c) ∧ x.cell? ⟨g2, 1, none⟩ = some (.map (some m)) ∧ x.cell? ⟨nb, pk, none⟩ = some (.int .u64 N1)) (first | exact HS.out | exact keepS4 (by assumption) (by assumption) | exact setS4 n1 n2 hkp (by assumption))
      (first | (go_at_call 17; refine (HSH.out _ (drew_below _)).mono ?_; rintro e x ⟨rfl, hx⟩; have y3 := keepC hx p3; have y4 := keepF hx p3 f3))
    all_goals
      go_wp2
      go_meet
      exact ⟨rfl, x, (drew_below w).trans hx, rfl⟩
  case rest =>
    obtain ⟨rfl, x, hx, hw1⟩ := hcut
    have b1 : Chg (fun j => j = nb ∨ j = db) WF wc := by rw [← hw1]; exact (HI.out.bel.trans (Chg.of_below hx (fun j => j = nb ∨ j = db)) (fun _ _ h => h)).setCell _ _ (.inl (.inl rfl))
    have lk := HLK.out wc.drew b1.drew
    have z1 : wc.cell? ⟨g3, 0, none⟩ = some (.slice (some ⟨db, 0, none⟩) l.length l.length) := by rw [← hw1]; exact far_cell (keepC hx q3) (.inl n3)
    have z2 : wc.cell? ⟨db, pk, none⟩ = some (.int .u64 D1) := by rw [← hw1]; exact far_cell (keepC hx p2) (.inl (Ne.symm hne))
    have z3 : wc.cell? ⟨g2, 1, none⟩ = some (.map (some m)) := by rw [← hw1]; exact far_cell (keepC hx q2') (.inl n2)
    have RN : RowF wc nb l.length (updF fn k N2) := by rw [← hw1]; exact (HFN.out.1.below hx).set k N2
    have RD : RowF wc db l.length fd := by rw [← hw1]; exact (HFD.out.1.below hx).other (Ne.symm hne)
    have z4 := RD.cell hk
    have z5 := RD.free k
    have w1 : wc.cell? ⟨g1, 0, none⟩ = some (.slice (some ⟨nb, 0, none⟩) l.length l.length) := by rw [← hw1]; exact far_cell (keepC hx q1) (.inl n1)
    have w2 : wc.cell? ⟨g2, 0, none⟩ = some (.slice (some ⟨g, o, none⟩) l.length c) := by rw [← hw1]; exact far_cell (keepC hx q2) (.inl n2)
    have HJ : Hid (InvS WF m g o c g1 g2 g3 nb db l (fun j => D j ∨ j = k) (wc.setCell ⟨db, k, none⟩ (.int .u64 D2)).drew) := show InvS WF m g o c g1 g2 g3 nb db l (fun j => D j ∨ j = k) (wc.setCell ⟨db, k, none⟩ (.int .u64 D2)).drew from
      InvS.st ⟨b1.setCell _ _ (.inl (.inr rfl)), far_cell w1 (.inl d1), far_cell w2 (.inl d2), far_cell z3 (.inl d2), far_cell z1 (.inl d3), ⟨_, RN.other hne, fun j hj hd => by
          unfold updF
          by_cases e : j = k
          · rw [if_pos e, e, HN2.out]
          · rw [if_neg e]; exact HFN.out.2 j hj (hd.elim id (fun h => absurd h e))⟩, ⟨_, RD.set k D2, fun j hj hd => by
          unfold updF
          by_cases e : j = k
          · rw [if_pos e, e, HD2.out]
          · rw [if_neg e]; exact HFD.out.2 j hj (hd.elim id (fun h => absurd h e))⟩, hne⟩ (drew_below _)
    have HC : Hid (Chg (fun j => j = nb ∨ j = db) w (wc.setCell ⟨db, k, none⟩ (.int .u64 D2)).drew) := show Chg (fun j => j = nb ∨ j = db) w (wc.setCell ⟨db, k, none⟩ (.int .u64 D2)).drew by
      rw [← hw1]
      exact (((Chg.of_below hx _).setCell _ _ (.inl (.inl rfl))).setCell _ _ (.inl (.inr rfl))).drew
    clear b1 RN RD w1 w2 q1 q2 q2' q3 p1 p2 p3 p4 f3 f4 hx hw1 HFN HFD HLK HSH HI
    go_upto_region 1 with fail
    go_region
    all_goals
      go_wp2
      go_end0
      exact ⟨rfl, HJ.out, HC.out⟩
/-- What lies in memory while effective usages are told. -/
structure InvE (WF : World) (m g o c g1 g2 ub : Nat) (l : List Ac) (W : Int) (D : Nat → Prop) (w : World) : Prop where
  bel : Chg (fun j => j = ub) WF w
  c1 : w.cell? ⟨g1, 0, none⟩ = some (.slice (some ⟨ub, 0, none⟩) l.length l.length)
  c2 : w.cell? ⟨g2, 0, none⟩ = some (.slice (some ⟨g, o, none⟩) l.length c)
  c2' : w.cell? ⟨g2, 1, none⟩ = some (.map (some m))
  row : ∃ f, RowF w ub l.length f ∧ ∀ j, j < l.length → (D j → f j = efV l W j) ∧ (¬ D j → f j = uV l W j)
theorem InvE.st {WF : World} {m g o c g1 g2 ub : Nat} {l : List Ac} {W : Int} {D : Nat → Prop} {x y : World} (h : InvE WF m g o c g1 g2 ub l W D x) (b : Below x.heap.size x y) : InvE WF m g o c g1 g2 ub l W D y := by
  obtain ⟨f, f1, f2⟩ := h.row
  exact ⟨h.bel.trans (Chg.of_below b _) (fun _ _ h => h), cellB b h.c1, cellB b h.c2, cellB b h.c2', ⟨f, f1.below b, f2⟩⟩
set_option maxHeartbeats 2000000 in
set_option maxRecDepth 20000 in
theorem visE_any {WF : World} {B m g o c g1 g2 ub : Nat} {l : List Ac} {v : Nat → Value} {W : Int} (hwu : Wu l) (hus : UsOk l) (hW : WOk l W) (hac' : ∀ x, Chg (fun j => j = ub) WF x → Acs x g o l) (hbr : ∀ x, Chg (fun j => j = ub) WF x → Bro x B m l l.length v)
    (n1 : g1 ≠ ub) (n2 : g2 ≠ ub) (D : Nat → Prop) (k : Nat) (w : World) (hi : InvE WF m g o c g1 g2 ub l W D w) (hk0 : k ≠ 0) (hk : k < l.length) (hDp : D (up l k)) (hDk : ¬ D k) :
    Calls Tryz.prog 24 #[.int .i64 (k : Int), .int .i64 (up l k : Nat), .pointer (some ⟨g1, 0, none⟩), .pointer (some ⟨g2, 0, none⟩)] w fun e w' => e = .returned (.tuple #[]) ∧ InvE WF m g o c g1 g2 ub l W (fun j => D j ∨ j = k) w' ∧ Chg (fun j => j = ub) w w' := by
  obtain ⟨fn, hfn, hfn'⟩ := hi.row
  have hul := hwu.up_lt hk
  have hl64 := hwu.len
  have HLK : Hid (∀ x, Chg (fun j => j = ub) WF x → (Instr.lookup 40 (.map (some m)) (.int .i64 (up l k : Nat)) false).run Tryz.prog x = .ok (.agg #[v (up l k), .int .u64 (tog l (up l k))]) x) := fun x hx => (hbr x hx).look hl64 hul
  have hfl := fld1 (v (up l k)) (.int .u64 (tog l (up l k)))
  obtain ⟨a, ha, hac⟩ := (hac' w hi.bel).at hk
  have hs := hwu.shOk k a ha
  have ht := tog_word hwu (up l k)
  have hf := ef_falls hwu hus hW hk hk0
  have hw1 := ef_word hwu hus hW hk
  have hw2 := ef_word hwu hus hW hul
  have e1 := ef_up hwu W hk hk0
  have hst := sh_tog hwu hk hk0
  rw [sh_of ha] at e1 hst
  have k3 : IntKind.u64.wrap (efV l W (up l k) - uV l W k) = efV l W (up l k) - uV l W k := by rw [IntKind.wrap_u64]; omega
  have hpq := part_of (x := efV l W (up l k) - uV l W k) (by omega) hst.1 hst.2
  have k4 : IntKind.u64.wrap (uV l W k + (efV l W (up l k) - uV l W k) * a.sh / tog l (up l k)) = efV l W k := by rw [← e1, IntKind.wrap_u64]; omega
  have cP := spart_any (a := efV l W (up l k) - uV l W k) (n := a.sh) (d := tog l (up l k)) ⟨by omega, by omega⟩ ⟨by omega, by omega⟩ ⟨by omega, by omega⟩ (by omega)
  have p1 := hfn.cell hul
  rw [(hfn' _ hul).1 hDp] at p1
  have p3 := hfn.cell hk
  rw [(hfn' _ hk).2 hDk] at p3
  have f3 := hfn.free k
  have HSH : Hid (∀ x, Below w.heap.size w x → Calls Tryz.prog 17 #[.agg #[.slice (some ⟨g, o, none⟩) l.length c, .map (some m)], .int .i64 (k : Int)] x fun e w' => e = .returned (.int .u64 a.sh) ∧ Below x.heap.size x w') := fun x hx => fshares_any (c := c) (m := m) ((hac' x (hi.bel.trans (Chg.of_below hx _) (fun _ _ h => h))) k a ha) hk (by omega) hs.2
  obtain ⟨q1, q2, q2'⟩ := (⟨hi.c1, hi.c2, hi.c2'⟩ : _ ∧ _ ∧ _)
  have hkp := hwu.up_ne hk hk0
  have HFN : Hid (RowF w ub l.length fn ∧ ∀ j, j < l.length → (D j → fn j = efV l W j) ∧ (¬ D j → fn j = uV l W j)) := ⟨hfn, hfn'⟩
  have HI : Hid (InvE WF m g o c g1 g2 ub l W D w) := hi
  have hk' : (k : Int) < l.length := by omega
  have hu' : ((up l k : Nat) : Int) < l.length := by omega
  have HLW : Hid (∀ x, Below w.heap.size w x → (Instr.lookup 40 (.map (some m)) (.int .i64 (up l k : Nat)) false).run Tryz.prog x = .ok (.agg #[v (up l k), .int .u64 (tog l (up l k))]) x) := fun x hx => HLK.out x (hi.bel.trans (Chg.of_below hx _) (fun _ _ h => h))
  clear hi hfn hfn' hs ht hf hw1 hw2 e1 hst hpq hac ha hDp hDk hk0 hul hl64 hbr hac' HLK
  obtain ⟨N2, hN2⟩ : ∃ N, efV l W k = N := ⟨_, rfl⟩
  rw [hN2] at k4
  have HN2 : Hid _ := hN2
  clear hN2 hwu hW hus
  generalize (efV l W (up l k) - uV l W k) * a.sh / tog l (up l k) = Q at *
  generalize efV l W (up l k) = E1 at *
  obtain ⟨U1, hU1⟩ : ∃ U, uV l W k = U := ⟨_, rfl⟩
  rw [hU1] at k3 k4 p3 cP
  clear hU1
  generalize tog l (up l k) = tg at *
  generalize v (up l k) = vu at *
  generalize a.sh = sh at *
  obtain ⟨pk, hpk⟩ : ∃ pk, up l k = pk := ⟨_, rfl⟩
  rw [hpk] at p1 hu' HLW hkp ⊢
  clear hpk
  have lk0 := HLW.out w.drew (drew_below w)
  have HS : Hid (w.drew.cell? ⟨g1, 0, none⟩ = some (.slice (some ⟨ub, 0, none⟩) l.length l.length) ∧ w.drew.cell? ⟨g2, 0, none⟩ = some (.slice (some ⟨g, o, none⟩) l.length c) ∧ w.drew.cell? ⟨g2, 1, none⟩ = some (.map (some m)) ∧ w.drew.cell? ⟨ub, pk, none⟩ = some (.int .u64 E1)) := ⟨q1, q2, q2', p1⟩
  have HQ : Hid (w.cell? ⟨g1, 0, none⟩ = some (.slice (some ⟨ub, 0, none⟩) l.length l.length) ∧ w.cell? ⟨g2, 0, none⟩ = some (.slice (some ⟨g, o, none⟩) l.length c) ∧ w.cell? ⟨g2, 1, none⟩ = some (.map (some m))) := ⟨q1, q2, q2'⟩
  clear q1 q2 q2' p1
  go_enter Tryz.func24, Tryz.ntmps24
  go_upto_region 0 with fail
  refine wp_region_last (S := fun x => x.cell? ⟨g1, 0, none⟩ = some (.slice (some ⟨ub, 0, none⟩) l.length l.length) ∧ x.cell? ⟨g2, 0, none⟩ = some (.slice (some ⟨g, o, none⟩) l.length c) ∧ x.cell? ⟨g2, 1, none⟩ = some (.map (some m)) ∧ x.cell? ⟨ub, pk, none⟩ = some (.int .u64 E1) ∧ x.cell? ⟨ub, k, none⟩ = some (.int .u64 U1) ∧ Below w.heap.size w x) (L := 24) (by kernel_rfl) ?_
  have HS0 : (fun x : World => x.cell? ⟨g1, 0, none⟩ = some (.slice (some ⟨ub, 0, none⟩) l.length l.length) ∧ x.cell? ⟨g2, 0, none⟩ = some (.slice (some ⟨g, o, none⟩) l.length c) ∧ x.cell? ⟨g2, 1, none⟩ = some (.map (some m)) ∧ x.cell? ⟨ub, pk, none⟩ = some (.int .u64 E1) ∧ x.cell? ⟨ub, k, none⟩ = some (.int .u64 U1) ∧ Below w.heap.size w x) w.drew := ⟨HS.out.1, HS.out.2.1, HS.out.2.2.1, HS.out.2.2.2, p3, drew_below w⟩
  refine last_take (i := 0) (v := ?v0) rfl (by kernel_rfl) (by kernel_rfl) (by kernel_rfl) (by kernel_rfl) rfl (fun _ _ _ h => h) (by rfl) HS0 ?hy0 ?rest0
  case hy0 =>
    intro x hSx
    obtain ⟨s1, s2, s3, s4, s5, s6⟩ := hSx
    go_simp
    try (with_reducible rfl)
  simp only [Act.put, List.setIfInBounds_toArray, List.set_cons_zero, List.set_cons_succ]
  refine last_take (i := 1) (v := ?v1) rfl (by kernel_rfl) (by kernel_rfl) (by kernel_rfl) (by kernel_rfl) rfl (fun _ _ _ h => h) (by rfl) HS0 ?hy1 ?rest1
  case hy1 =>
    intro x hSx
    obtain ⟨s1, s2, s3, s4, s5, s6⟩ := hSx
    go_simp
    try (with_reducible rfl)
  simp only [Act.put, List.setIfInBounds_toArray, List.set_cons_zero, List.set_cons_succ]
  refine last_take (i := 2) (v := ?v2) rfl (by kernel_rfl) (by kernel_rfl) (by kernel_rfl) (by kernel_rfl) rfl (fun _ _ _ h => h) (by rfl) HS0 ?hy2 ?rest2
  case hy2 =>
    intro x hSx
    obtain ⟨s1, s2, s3, s4, s5, s6⟩ := hSx
    go_simp
    try (with_reducible rfl)
  simp only [Act.put, List.setIfInBounds_toArray, List.set_cons_zero, List.set_cons_succ]
  refine last_take (i := 3) (v := ?v3) rfl (by kernel_rfl) (by kernel_rfl) (by kernel_rfl) (by kernel_rfl) rfl (fun _ _ _ h => h) (by rfl) HS0 ?hy3 ?rest3
  case hy3 =>
    intro x hSx
    obtain ⟨s1, s2, s3, s4, s5, s6⟩ := hSx
    go_simp
    try (with_reducible rfl)
  simp only [Act.put, List.setIfInBounds_toArray, List.set_cons_zero, List.set_cons_succ]
  refine last_take (i := 4) (v := ?v4) rfl (by kernel_rfl) (by kernel_rfl) (by kernel_rfl) (by kernel_rfl) rfl (fun _ _ _ h => h) (by rfl) HS0 ?hy4 ?rest4
  case hy4 =>
    intro x hSx
    obtain ⟨s1, s2, s3, s4, s5, s6⟩ := hSx
    go_simp
    try (with_reducible rfl)
  simp only [Act.put, List.setIfInBounds_toArray, List.set_cons_zero, List.set_cons_succ]
  refine last_take (i := 5) (v := ?v5) rfl (by kernel_rfl) (by kernel_rfl) (by kernel_rfl) (by kernel_rfl) rfl (fun _ _ _ h => h) (by rfl) HS0 ?hy5 ?rest5
  case hy5 =>
    intro x hSx
    obtain ⟨s1, s2, s3, s4, s5, s6⟩ := hSx
    go_simp
    try (with_reducible rfl)
  simp only [Act.put, List.setIfInBounds_toArray, List.set_cons_zero, List.set_cons_succ]
  refine last_take (i := 6) (v := ?v6) rfl (by kernel_rfl) (by kernel_rfl) (by kernel_rfl) (by kernel_rfl) rfl (fun _ _ _ h => h) (by rfl) HS0 ?hy6 ?rest6
  case hy6 =>
    intro x hSx
    obtain ⟨s1, s2, s3, s4, s5, s6⟩ := hSx
    go_simp
    try (with_reducible rfl)
  simp only [Act.put, List.setIfInBounds_toArray, List.set_cons_zero, List.set_cons_succ]
  refine last_take (i := 7) (v := ?v7) rfl (by kernel_rfl) (by kernel_rfl) (by kernel_rfl) (by kernel_rfl) rfl (fun _ _ _ h => h) (by rfl) HS0 ?hy7 ?rest7
  case hy7 =>
    intro x hSx
    obtain ⟨s1, s2, s3, s4, s5, s6⟩ := hSx
    go_simp
    try (with_reducible rfl)
  simp only [Act.put, List.setIfInBounds_toArray, List.set_cons_zero, List.set_cons_succ]
  refine last_take (i := 8) (v := ?v8) rfl (by kernel_rfl) (by kernel_rfl) (by kernel_rfl) (by kernel_rfl) rfl (fun _ _ _ h => h) (by rfl) HS0 ?hy8 ?rest8
  case hy8 =>
    intro x hSx
    obtain ⟨s1, s2, s3, s4, s5, s6⟩ := hSx
    go_simp
    try (with_reducible rfl)
  simp only [Act.put, List.setIfInBounds_toArray, List.set_cons_zero, List.set_cons_succ]
  refine last_take (i := 9) (v := ?v9) rfl (by kernel_rfl) (by kernel_rfl) (by kernel_rfl) (by kernel_rfl) rfl (fun _ _ _ h => h) (by rfl) HS0 ?hy9 ?rest9
  case hy9 =>
    intro x hSx
    obtain ⟨s1, s2, s3, s4, s5, s6⟩ := hSx
    go_simp
    try (with_reducible rfl)
  simp only [Act.put, List.setIfInBounds_toArray, List.set_cons_zero, List.set_cons_succ]
  refine last_take (i := 10) (v := ?v10) rfl (by kernel_rfl) (by kernel_rfl) (by kernel_rfl) (by kernel_rfl) rfl (fun _ _ _ h => h) (by rfl) HS0 ?hy10 ?rest10
  case hy10 =>
    intro x hSx
    obtain ⟨s1, s2, s3, s4, s5, s6⟩ := hSx
    go_simp
    try (with_reducible rfl)
  simp only [Act.put, List.setIfInBounds_toArray, List.set_cons_zero, List.set_cons_succ]
  refine last_take (i := 11) (v := ?v11) rfl (by kernel_rfl) (by kernel_rfl) (by kernel_rfl) (by kernel_rfl) rfl (fun _ _ _ h => h) (by rfl) HS0 ?hy11 ?rest11
  case hy11 =>
    intro x hSx
    obtain ⟨s1, s2, s3, s4, s5, s6⟩ := hSx
    go_simp
    try (with_reducible rfl)
  simp only [Act.put, List.setIfInBounds_toArray, List.set_cons_zero, List.set_cons_succ]
  refine last_take (i := 12) (v := ?v12) rfl (by kernel_rfl) (by kernel_rfl) (by kernel_rfl) (by kernel_rfl) rfl (fun _ _ _ h => h) (by rfl) HS0 ?hy12 ?rest12
  case hy12 =>
    intro x hSx
    obtain ⟨s1, s2, s3, s4, s5, s6⟩ := hSx
    go_simp
    try (with_reducible rfl)
  simp only [Act.put, List.setIfInBounds_toArray, List.set_cons_zero, List.set_cons_succ]
  refine last_take (i := 13) (v := ?v13) rfl (by kernel_rfl) (by kernel_rfl) (by kernel_rfl) (by kernel_rfl) rfl (fun _ _ _ h => h) (by rfl) HS0 ?hy13 ?rest13
  case hy13 =>
    intro x hSx
    obtain ⟨s1, s2, s3, s4, s5, s6⟩ := hSx
    go_simp
    try (with_reducible rfl)
  simp only [Act.put, List.setIfInBounds_toArray, List.set_cons_zero, List.set_cons_succ]
  refine last_take (i := 14) (v := ?v14) rfl (by kernel_rfl) (by kernel_rfl) (by kernel_rfl) (by kernel_rfl) rfl (fun _ _ _ h => h) (by rfl) HS0 ?hy14 ?rest14
  case hy14 =>
    intro x hSx
    obtain ⟨s1, s2, s3, s4, s5, s6⟩ := hSx
    go_simp
    try (with_reducible rfl)
  simp only [Act.put, List.setIfInBounds_toArray, List.set_cons_zero, List.set_cons_succ]
  refine last_take (i := 16) (v := ?v16) rfl (by kernel_rfl) (by kernel_rfl) (by kernel_rfl) (by kernel_rfl) rfl (fun _ _ _ h => h) (by rfl) HS0 ?hy16 ?rest16
  case hy16 =>
    intro x hSx
    obtain ⟨s1, s2, s3, s4, s5, s6⟩ := hSx
    go_simp
    try (with_reducible rfl)
  simp only [Act.put, List.setIfInBounds_toArray, List.set_cons_zero, List.set_cons_succ]
  refine last_take (i := 17) (v := ?v17) rfl (by kernel_rfl) (by kernel_rfl) (by kernel_rfl) (by kernel_rfl) rfl (fun _ _ _ h => h) (by rfl) HS0 ?hy17 ?rest17
  case hy17 =>
    intro x hSx
    obtain ⟨s1, s2, s3, s4, s5, s6⟩ := hSx
    go_simp
    try (with_reducible rfl)
  simp only [Act.put, List.setIfInBounds_toArray, List.set_cons_zero, List.set_cons_succ]
  refine last_take (i := 18) (v := ?v18) rfl (by kernel_rfl) (by kernel_rfl) (by kernel_rfl) (by kernel_rfl) rfl (fun _ _ _ h => h) (by rfl) HS0 ?hy18 ?rest18
  case hy18 =>
    intro x hSx
    obtain ⟨s1, s2, s3, s4, s5, s6⟩ := hSx
    go_simp
    try (with_reducible rfl)
  simp only [Act.put, List.setIfInBounds_toArray, List.set_cons_zero, List.set_cons_succ]
  refine last_take (i := 19) (v := ?v19) rfl (by kernel_rfl) (by kernel_rfl) (by kernel_rfl) (by kernel_rfl) rfl (fun _ _ _ h => h) (by rfl) HS0 ?hy19 ?rest19
  case hy19 =>
    intro x hSx
    obtain ⟨s1, s2, s3, s4, s5, s6⟩ := hSx
    have lk := HLW.out x s6
    go_simp
    try (with_reducible rfl)
  simp only [Act.put, List.setIfInBounds_toArray, List.set_cons_zero, List.set_cons_succ]
  refine last_take (i := 20) (v := ?v20) rfl (by kernel_rfl) (by kernel_rfl) (by kernel_rfl) (by kernel_rfl) rfl (fun _ _ _ h => h) (by rfl) HS0 ?hy20 ?rest20
  case hy20 =>
    intro x hSx
    obtain ⟨s1, s2, s3, s4, s5, s6⟩ := hSx
    go_simp
    try (with_reducible rfl)
  simp only [Act.put, List.setIfInBounds_toArray, List.set_cons_zero, List.set_cons_succ]
  refine last_one (i := 15) (by kernel_rfl) rfl ?_
  intro K1 hK1
  go_simp
  refine (HSH.out _ (drew_below w)).mono ?_
  rintro e x ⟨rfl, hx⟩
  have HS1 : (fun x : World => x.cell? ⟨g1, 0, none⟩ = some (.slice (some ⟨ub, 0, none⟩) l.length l.length) ∧ x.cell? ⟨g2, 0, none⟩ = some (.slice (some ⟨g, o, none⟩) l.length c) ∧ x.cell? ⟨g2, 1, none⟩ = some (.map (some m)) ∧ x.cell? ⟨ub, pk, none⟩ = some (.int .u64 E1) ∧ x.cell? ⟨ub, k, none⟩ = some (.int .u64 U1) ∧ Below w.heap.size w x) x := ⟨keepC hx HS0.1, keepC hx HS0.2.1, keepC hx HS0.2.2.1, keepC hx HS0.2.2.2.1, keepC hx HS0.2.2.2.2.1, (drew_below w).trans hx⟩
  refine hK1.out _ _ (fun _ => HS1) (fun _ => ?_)
  clear hK1 K1
  refine last_one (i := 21) (by kernel_rfl) rfl ?_
  intro K2 hK2
  go_simp
  refine (cP _).mono ?_
  rintro e y ⟨rfl, hy⟩
  have HS2 : (fun x : World => x.cell? ⟨g1, 0, none⟩ = some (.slice (some ⟨ub, 0, none⟩) l.length l.length) ∧ x.cell? ⟨g2, 0, none⟩ = some (.slice (some ⟨g, o, none⟩) l.length c) ∧ x.cell? ⟨g2, 1, none⟩ = some (.map (some m)) ∧ x.cell? ⟨ub, pk, none⟩ = some (.int .u64 E1) ∧ x.cell? ⟨ub, k, none⟩ = some (.int .u64 U1) ∧ Below w.heap.size w x) y := ⟨keepC hy HS1.1, keepC hy HS1.2.1, keepC hy HS1.2.2.1, keepC hy HS1.2.2.2.1, keepC hy HS1.2.2.2.2.1, HS1.2.2.2.2.2.trans (hy.mono HS1.2.2.2.2.2.size)⟩
  refine hK2.out _ _ (fun _ => HS2) (fun _ => ?_)
  clear hK2 K2
  refine last_take (i := 22) (v := ?v22) rfl (by kernel_rfl) (by kernel_rfl) (by kernel_rfl) (by kernel_rfl) rfl (fun _ _ _ h => h) (by rfl) HS2 ?hy22 ?rest22
  case hy22 =>
    intro x hSx
    obtain ⟨s1, s2, s3, s4, s5, s6⟩ := hSx
    go_simp
    try (with_reducible rfl)
  simp only [Act.put, List.setIfInBounds_toArray, List.set_cons_zero, List.set_cons_succ]
  refine last_take (i := 23) (v := ?v23) rfl (by kernel_rfl) (by kernel_rfl) (by kernel_rfl) (by kernel_rfl) rfl (fun _ _ _ h => h) (by rfl) HS2 ?hy23 ?rest23
  case hy23 =>
    intro x hSx
    obtain ⟨s1, s2, s3, s4, s5, s6⟩ := hSx
    go_simp
    try (with_reducible rfl)
  simp only [Act.put, List.setIfInBounds_toArray, List.set_cons_zero, List.set_cons_succ]
  refine last_one (i := 24) (by kernel_rfl) rfl ?_
  intro K3 hK3
  have y5 : y.cell? ⟨ub, k, none⟩ = some (.int .u64 U1) := HS2.2.2.2.2.1
  have BY : Below w.heap.size w y := HS2.2.2.2.2.2
  have y6 := keepF BY p3 f3
  have HJ : Hid (InvE WF m g o c g1 g2 ub l W (fun j => D j ∨ j = k) (y.setCell ⟨ub, k, none⟩ (.int .u64 N2))) := show InvE WF m g o c g1 g2 ub l W (fun j => D j ∨ j = k) (y.setCell ⟨ub, k, none⟩ (.int .u64 N2)) from
    ⟨(HI.out.bel.trans (Chg.of_below BY (fun j => j = ub)) (fun _ _ h => h)).setCell _ _ (.inl rfl), far_cell HS2.1 (.inl n1), far_cell HS2.2.1 (.inl n2), far_cell HS2.2.2.1 (.inl n2), ⟨_, (HFN.out.1.below BY).set k N2, fun j hj => by
      unfold updF
      by_cases e : j = k
      · rw [if_pos e, e, HN2.out]
        exact ⟨fun _ => rfl, fun h => absurd (.inr rfl) h⟩
      · rw [if_neg e]
        exact ⟨fun h => (HFN.out.2 j hj).1 (h.elim id (fun h => absurd h e)), fun h => (HFN.out.2 j hj).2 (fun hd => h (.inl hd))⟩⟩⟩
  have HC : Hid (Chg (fun j => j = ub) w (y.setCell ⟨ub, k, none⟩ (.int .u64 N2))) := show Chg (fun j => j = ub) w (y.setCell ⟨ub, k, none⟩ (.int .u64 N2)) from (Chg.of_below BY _).setCell _ _ (.inl rfl)
  go_simp
  refine hK3.out _ _ (fun h => absurd rfl h) (fun _ => ?_)
  clear hK3 K3
  refine last_done (by kernel_rfl) ?_ _
  go_wp2
  go_end0
  exact ⟨rfl, HJ.out, HC.out⟩
end Go.Proofs.YtioldijdmefljaaGreatDoor
