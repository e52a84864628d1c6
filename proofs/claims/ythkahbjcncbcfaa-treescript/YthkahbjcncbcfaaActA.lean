/-
  act, to a pair of trees.
-/
import Derived.Test.YthkahbjcncbcfaaGrA
import Derived.Test.YthkahbjcncbcfaaRldA
import Derived.Test.YthkahbjcncbcfaaSamA
import Derived.Deep.RegionHeld3
namespace Go.Proofs.Ythkahbjcncbcfaa
open Go.RowKit Tr

theorem RefO.rk_lt {B : Nat} {W : World} {d : Nat} {v : Value} {l : List Ac} (h : RefO B W d v l) : ∀ k, RefK d v k → k < W.heap.size := by
  rintro k (rfl | hk)
  · exact (Array.getElem?_eq_some_iff.1 h.blk).1
  · exact (h.row.lt k hk).2
theorem RefO.chg {B : Nat} {W W' : World} {K : Nat → Prop} {d : Nat} {v : Value} {l : List Ac} (h : RefO B W d v l) (c : Chg K W W') (hK : ∀ k, RefK d v k → ¬ K k) : RefO B W' d v l :=
  ⟨(c.block d (h.rk_lt d (.inl rfl)) (hK d (.inl rfl))).trans h.blk, row_same h.row (fun k hk => c.block k (h.rk_lt k (.inr hk)) (hK k (.inr hk))), h.lo⟩
/-- What an act leaves. -/
def ActPost (S : Nat → Prop) (B : Nat) (w : World) (t d : Nat) (v : Value) (e : Ending) (w' : World) : Prop :=
  e = .returned (.bool true) ∧ ∃ l' v' m, w.heap.size ≤ m ∧ Wf l' ∧ Tree (fun k => S k ∨ (w.heap.size ≤ k ∧ k < m)) w' t l' (kidB l') ∧ RefO B w' d v' l' ∧ (∀ k, v'.ownBlock = some k → v.ownBlock = some k ∨ m ≤ k) ∧ Chg (fun k => S k ∨ RefK d v k) w w'
section
variable {S : Nat → Prop} {B : Nat} {w w0 w1 w2 w' : World} {t d : Nat} {v v' : Value} {l l1 : List Ac}
theorem ActPost.still (hT : Tree S w t l (kidB l)) (hR : RefO B w d v l) (hw : Wf l) (b : Below w.heap.size w w') : ActPost S B w t d v (.returned (.bool true)) w' :=
  ⟨rfl, l, v, w.heap.size, Nat.le_refl _, hw, (hT.below b).mono (fun _ _ h => .inl h), hR.below b, fun _ h => .inl h, Chg.of_below b _⟩
theorem ActPost.two (hS : ∀ k, S k → k < w.heap.size ∧ ¬ RefK d v k) (hR : RefO B w d v l) (b0 : Below w.heap.size w w0) (t1 : Tree (Ext S w0.heap.size) w1 t l1 (kidB l1)) (c1 : Chg S w0 w1) (r2 : RefO B w2 d v' l1) (c2 : Chg (RefK d v) w1 w2) (hv : v'.ownBlock = v.ownBlock ∨ ∃ k, w1.heap.size ≤ k ∧ v'.ownBlock = some k) (hw : Wf l1) :
    ActPost S B w t d v (.returned (.bool true)) w2 := by
  have s0 := b0.size
  have s1 := c1.size
  refine ⟨rfl, l1, v', w1.heap.size, by omega, hw, ?_, r2, fun k hk => ?_, ?_⟩
  · refine (t1.mono (S' := fun k => S k ∨ (w.heap.size ≤ k ∧ k < w1.heap.size)) (fun j hj h => ?_)).kept (fun j hj h => c2.block j hj (fun e => ?_))
    · rcases h with h | h
      · exact .inl h
      · exact .inr ⟨by omega, hj⟩
    · rcases h with h | h
      · exact (hS j h).2 e
      · have := hR.rk_lt j e
        omega
  · rcases hv with e | ⟨m, hm, e⟩
    · exact .inl (e ▸ hk)
    · rw [e] at hk
      cases hk
      exact .inr hm
  · exact ((Chg.of_below b0 (fun k => S k ∨ RefK d v k)).trans (c1.mono (K' := fun k => S k ∨ RefK d v k) (fun _ _ h => .inl h)) (fun _ _ h => h)).trans (c2.mono (K' := fun k => S k ∨ RefK d v k) (fun _ _ h => .inr h)) (fun _ _ h => h)
end
/-- The act's own copy of what is asked. -/
def AxB (b : Nat) (a : Ax) (W : World) : Prop := W.heap[b]? = some (.cells #[.int .i64 a.kd, .int .i64 a.wh, .string a.nm, .string a.pn, .int .i64 a.n] 31 (0, 0))
theorem AxB.kept {b : Nat} {a : Ax} {W W' : World} {K : Nat → Prop} (h : AxB b a W) (c : Chg K W W') (hK : ¬ K b) : AxB b a W' := (c.block _ (Array.getElem?_eq_some_iff.1 h).1 hK).trans h
theorem AxB.below {b : Nat} {a : Ax} {W W' : World} (h : AxB b a W) (c : Below W.heap.size W W') : AxB b a W' := (c.block _ (Array.getElem?_eq_some_iff.1 h).1).trans h
theorem AxB.c0 {b : Nat} {a : Ax} {W : World} (h : AxB b a W) : W.cell? ⟨b, 0, none⟩ = some (.int .i64 a.kd) := cells_at h rfl
theorem AxB.c1 {b : Nat} {a : Ax} {W : World} (h : AxB b a W) : W.cell? ⟨b, 1, none⟩ = some (.int .i64 a.wh) := cells_at h rfl
theorem AxB.c2 {b : Nat} {a : Ax} {W : World} (h : AxB b a W) : W.cell? ⟨b, 2, none⟩ = some (.string a.nm) := cells_at h rfl
theorem AxB.c3 {b : Nat} {a : Ax} {W : World} (h : AxB b a W) : W.cell? ⟨b, 3, none⟩ = some (.string a.pn) := cells_at h rfl
theorem AxB.c4 {b : Nat} {a : Ax} {W : World} (h : AxB b a W) : W.cell? ⟨b, 4, none⟩ = some (.int .i64 a.n) := cells_at h rfl
theorem AxB.asks {b : Nat} {a : Ax} {W : World} (h : AxB b a W) : W.cell? ⟨b, 2, none⟩ = some (.string a.nm) ∧ W.cell? ⟨b, 3, none⟩ = some (.string a.pn) ∧ W.cell? ⟨b, 4, none⟩ = some (.int .i64 a.n) := ⟨h.c2, h.c3, h.c4⟩
def axV (a : Ax) : Value := .agg #[.int .i64 a.kd, .int .i64 a.wh, .string a.nm, .string a.pn, .int .i64 a.n]

set_option maxHeartbeats 8000000 in
set_option maxRecDepth 20000 in
theorem act_any {S : Nat → Prop} {B : Nat} {w : World} {t d : Nat} {v : Value} {l : List Ac} (hT : Tree S w t l (kidB l)) (hR : RefO B w d v l) (hw : Wf l) (hS : ∀ k, S k → k < w.heap.size ∧ ¬ RefK d v k) (hB : B ≤ w.heap.size) (a : Ax) (ha : OkAx a) :
    Calls Try.prog 14 #[axV a, .pointer (some ⟨t, 0, none⟩), .pointer (some ⟨d, 0, none⟩)] w (ActPost S B w t d v) := by
  have hlen := hw.len
  have hl48 : l.length * 48 ≤ 140737488355328 := by omega
  have hl49 : l.length * 48 + 48 ≤ 140737488355328 := by omega
  obtain ⟨o1, o2⟩ := ha
  unfold axV
  obtain ⟨w0, hw0⟩ : ∃ w0, w.alloc (.cells #[.int .i64 a.kd, .int .i64 a.wh, .string a.nm, .string a.pn, .int .i64 a.n] 31) = w0 := ⟨_, rfl⟩
  have b0 : Below w.heap.size w w0 := by rw [← hw0]; exact (Below.refl _ w).alloc (Nat.le_refl _) _
  have a0 : AxB w.heap.size a w0 := by rw [← hw0]; exact heap_alloc_new w _
  have ham := among_any a.kd 6 w0 (by decide) (by decide)
  obtain ⟨p1, p2⟩ := amgV_in a.kd 6 (by decide)
  have hD : Below w0.heap.size w0 w0.drew := ⟨rfl, rfl, rfl, Nat.le_refl _, fun _ _ => rfl⟩
  have b1 : Below w.heap.size w w0.drew := b0.trans (hD.mono b0.size)
  have y0 := a0.c0
  have y2 := a0.c2
  have y3 := a0.c3
  have y4 := a0.c4
  have hSb : ¬ S w.heap.size := fun h => by have := (hS _ h).1; omega
  have hRb : ¬ RefK d v w.heap.size := fun h => by have := hR.rk_lt _ h; omega
  have t0 := hT.below b0
  have r0 := hR.below b0
  have t1 := hT.below b1
  have r1 := hR.below b1
  have s0 := b0.size
  have hSR : ∀ k, RefK d v k → ¬ S k := fun k h1 h2 => (hS k h2).2 h1
  have TT : Hid (Tree S w t l (kidB l)) := hT
  have RR : Hid (RefO B w d v l) := hR
  have HS : Hid _ := hS
  have HSR : Hid _ := hSR
  have A0 : Hid (AxB w.heap.size a w0) := a0
  have A1 : Hid (AxB w.heap.size a w0.drew) := a0.below hD
  have B0 : Hid _ := b0
  have B1 : Hid _ := b1
  have R0 : Hid (RefO B w0 d v l) := r0
  have R1 : Hid (RefO B w0.drew d v l) := r1
  have HW0 : Hid _ := hw0
  have HSb : Hid _ := hSb
  have HRb : Hid _ := hRb
  obtain ⟨kd, hkd⟩ : ∃ kd, amgV a.kd 6 = kd := ⟨_, rfl⟩
  rw [hkd] at ham p1 p2
  have hk : kd = 0 ∨ kd = 1 ∨ kd = 2 ∨ kd = 3 ∨ kd = 4 ∨ kd = 5 := by omega
  rcases hk with e0 | e1 | e2 | e3 | e4 | e5
  · subst e0
    have hp := tadd t0 hw o1 o2 a.n
    clear hT hR hS hSR a0 b0 b1 r0 r1 t0 t1 hw0 hSb hRb hkd
    go_enter Try.func14, Try.ntmps14
    go_wp2_with fail
    rw [HW0.out]
    refine ham.mono ?_
    rintro e wx ⟨rfl, rfl⟩
    go_wp2_with fail
    refine hp.mono ?_
    rintro e w1 ⟨rfl, t1, c1⟩
    have hr := radd_any (R0.out.chg c1 HSR.out) hl49 hw.paok (Nat.le_trans hB (Nat.le_trans s0 c1.size)) a.nm a.pn a.n
    have a1 := A0.out.kept c1 HSb.out
    have z2 := a1.c2
    have z3 := a1.c3
    have z4 := a1.c4
    have T1 : Hid (Tree (Ext S w0.heap.size) w1 t (addV l a.nm a.pn a.n).2.2 (kidB (addV l a.nm a.pn a.n).2.2)) := t1
    have C1 : Hid _ := c1
    clear t1 c1 a1 hp
    go_wp2_with fail
    refine hr.mono ?_
    rintro e w2 ⟨rfl, v', r2, c2, hv⟩
    have fin := ActPost.two HS.out RR.out B0.out T1.out C1.out r2 c2 hv (hw.addV _ _ _)
    clear r2 c2 hv hr
    go_wp2
    go_ret
    exact fin
  · subst e1
    have hp := tshares t1 o1 a.n
    clear hT hR hS hSR a0 b0 b1 r0 r1 t0 t1 hw0 hSb hRb hkd
    go_enter Try.func14, Try.ntmps14
    go_wp2_with fail
    rw [HW0.out]
    refine ham.mono ?_
    rintro e wx ⟨rfl, rfl⟩
    go_wp2_with fail
    go_region_held3 (fun w' => w'.cell? ⟨w.heap.size, 2, none⟩ = some (.string a.nm) ∧ w'.cell? ⟨w.heap.size, 3, none⟩ = some (.string a.pn) ∧ w'.cell? ⟨w.heap.size, 4, none⟩ = some (.int .i64 a.n)) (first | exact AxB.asks A1.out | exact AxB.asks a2 | exact AxB.asks a3)
      (first
      | (go_at_call 37; refine hp.mono ?_; rintro e w1 ⟨rfl, t2, c2⟩; have a2 := AxB.kept A1.out c2 HSb.out; have r2 := RefO.chg R1.out c2 HSR.out)
      | (go_at_call 38; refine (rshares_any r2 hl48 a.nm a.n).mono ?_; rintro e w2 ⟨rfl, r3, c3⟩; have a3 := AxB.kept a2 c3 HRb.out))
    all_goals (go_wp2; go_ret)
    all_goals exact ActPost.two HS.out RR.out B1.out t2 c2 r3 c3 (.inl rfl) (hw.sharesV _ _)
  · subst e2
    have hp := tmove t1 hw o1 o2
    clear hT hR hS hSR a0 b0 b1 r0 r1 t0 t1 hw0 hSb hRb hkd
    go_enter Try.func14, Try.ntmps14
    go_wp2_with fail
    rw [HW0.out]
    refine ham.mono ?_
    rintro e wx ⟨rfl, rfl⟩
    go_wp2_with fail
    go_region_held3 (fun w' => w'.cell? ⟨w.heap.size, 2, none⟩ = some (.string a.nm) ∧ w'.cell? ⟨w.heap.size, 3, none⟩ = some (.string a.pn) ∧ w'.cell? ⟨w.heap.size, 4, none⟩ = some (.int .i64 a.n)) (first | exact AxB.asks A1.out | exact AxB.asks a2 | exact AxB.asks a3)
      (first
      | (go_at_call 27; refine hp.mono ?_; rintro e w1 ⟨rfl, t2, c2⟩; have a2 := AxB.kept A1.out c2 HSb.out; have r2 := RefO.chg R1.out c2 HSR.out)
      | (go_at_call 39; refine (rmove_any r2 hl48 hw.paok hw.deps a.nm a.pn).mono ?_; rintro e w2 ⟨rfl, r3, c3⟩; have a3 := AxB.kept a2 c3 HRb.out))
    all_goals (go_wp2; go_ret)
    all_goals exact ActPost.two HS.out RR.out B1.out t2 c2 r3 c3 (.inl rfl) (hw.moveV _ _)
  · subst e3
    have hp := tclose t1 o1
    clear hT hR hS hSR a0 b0 b1 r0 r1 t0 t1 hw0 hSb hRb hkd
    go_enter Try.func14, Try.ntmps14
    go_wp2_with fail
    rw [HW0.out]
    refine ham.mono ?_
    rintro e wx ⟨rfl, rfl⟩
    go_wp2_with fail
    go_region_held3 (fun w' => w'.cell? ⟨w.heap.size, 2, none⟩ = some (.string a.nm) ∧ w'.cell? ⟨w.heap.size, 3, none⟩ = some (.string a.pn) ∧ w'.cell? ⟨w.heap.size, 4, none⟩ = some (.int .i64 a.n)) (first | exact AxB.asks A1.out | exact AxB.asks a2 | exact AxB.asks a3)
      (first
      | (go_at_call 40; refine hp.mono ?_; rintro e w1 ⟨rfl, t2, c2⟩; have a2 := AxB.kept A1.out c2 HSb.out; have r2 := RefO.chg R1.out c2 HSR.out)
      | (go_at_call 41; refine (rclose_any r2 hl48 a.nm).mono ?_; rintro e w2 ⟨rfl, r3, c3⟩; have a3 := AxB.kept a2 c3 HRb.out))
    all_goals (go_wp2; go_ret)
    all_goals exact ActPost.two HS.out RR.out B1.out t2 c2 r3 c3 (.inl rfl) (hw.closeV _)
  · subst e4
    have hp := tfind t0 o1
    have hr := rfind_any r0.ref hl48 a.nm
    unfold findA at hr
    clear hT hR hS hSR a0 b0 b1 r0 r1 t0 t1 hw0 hSb hRb hkd
    go_enter Try.func14, Try.ntmps14
    go_wp2_with fail
    rw [HW0.out]
    refine ham.mono ?_
    rintro e wx ⟨rfl, rfl⟩
    go_wp2_with fail
    refine hp.mono ?_
    rintro e wx ⟨rfl, rfl⟩
    go_wp2_with fail
    refine hr.mono ?_
    rintro e w2 ⟨rfl, b2⟩
    have fin := ActPost.still TT.out RR.out hw (B0.out.trans (b2.mono B0.out.size))
    clear b2 hr hp
    go_wp2
    go_ret
    exact fin
  · subst e5
    clear hT hR hS hSR a0 b0 b1 r0 r1 t0 t1 hw0 hSb hRb hkd
    go_enter Try.func14, Try.ntmps14
    go_wp2_with fail
    rw [HW0.out]
    refine ham.mono ?_
    rintro e wx ⟨rfl, rfl⟩
    have fin := ActPost.still TT.out RR.out hw B0.out
    go_wp2
    go_ret
    exact fin
end Go.Proofs.Ythkahbjcncbcfaa
