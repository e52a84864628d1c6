/-
  LAYER 12, LedgerScript: act.
-/
import Derived.Test.YtegpamoglifojaaDoorLwB
namespace Go.Proofs.YtegpamoglifojaaDoor
open Go.RowKit Wd Ld Cg Lg

/-- Behind an act: both as they must be; only their own blocks have turned, new ones are the program's (below m) or the reference's. -/
def ActPost (c : Cf) (F : Int) (B : Nat) (w : World) (t : Nat) (tv : Value) (d : Nat) (dv : Value) (e : Ending) (w' : World) : Prop :=
  e = .returned (.bool true) ∧ ∃ (l' : List Int) (tv' dv' : Value) (m : Nat), w.heap.size ≤ m ∧ l'.length ≤ 200 ∧ Led c.nodes F B w' t tv' l' ∧ RLed c F B w' d dv' l' ∧
    (∀ k, tv'.ownBlock = some k → tv.ownBlock = some k ∨ (w.heap.size ≤ k ∧ k < m)) ∧ (∀ k, dv'.ownBlock = some k → dv.ownBlock = some k ∨ m ≤ k) ∧ Chg (fun k => LK t tv k ∨ LK d dv k) w w'
section
variable {c : Cf} {F : Int} {B : Nat} {w w0 w1 w2 : World} {t d : Nat} {tv dv tv' dv' : Value} {l l' : List Int}
theorem ActPost.still (hP : Led c.nodes F B w t tv l) (hR : RLed c F B w d dv l) (h200 : l.length ≤ 200) (b : Below w.heap.size w w0) : ActPost c F B w t tv d dv (.returned (.bool true)) w0 :=
  ⟨rfl, l, tv, dv, w.heap.size, Nat.le_refl _, h200, hP.below b, hR.below b, fun _ hk => .inl hk, fun _ hk => .inl hk, Chg.of_below b _⟩
theorem ActPost.two (hP : Led c.nodes F B w t tv l) (hR : RLed c F B w d dv l) (ha : Apt t tv d dv) (h200 : l'.length ≤ 200) (b0 : Below w.heap.size w w0) (p1 : Led c.nodes F B w1 t tv' l') (c1 : Chg (LK t tv) w0 w1) (h1 : tv'.ownBlock = tv.ownBlock ∨ ∃ k, w0.heap.size ≤ k ∧ tv'.ownBlock = some k)
    (r2 : RLed c F B w2 d dv' l') (c2 : Chg (LK d dv) w1 w2) (h2 : dv'.ownBlock = dv.ownBlock ∨ ∃ k, w1.heap.size ≤ k ∧ dv'.ownBlock = some k) : ActPost c F B w t tv d dv (.returned (.bool true)) w2 := by
  have s0 := b0.size
  have s1 := c1.size
  refine ⟨rfl, l', tv', dv', w1.heap.size, by omega, h200, p1.chg c2 (fun k hk e => ?_), r2, fun k hk => ?_, fun k hk => ?_, ?_⟩
  · have hkd := hR.lk_lt k e
    rcases hk with rfl | hk
    · exact ha _ (.inl rfl) e
    · rcases h1 with x | ⟨j, hj, x⟩
      · rw [x] at hk
        exact ha _ (.inr hk) e
      · rw [x] at hk
        cases hk
        omega
  · rcases h1 with x | ⟨j, hj, x⟩
    · exact .inl (x ▸ hk)
    · have hlt := (p1.row.lt k hk).2
      rw [x] at hk
      cases hk
      exact .inr ⟨by omega, hlt⟩
  · rcases h2 with x | ⟨j, hj, x⟩
    · exact .inl (x ▸ hk)
    · rw [x] at hk
      cases hk
      exact .inr hj
  · exact ((Chg.of_below b0 (fun k => LK t tv k ∨ LK d dv k)).trans (c1.mono (K' := fun k => LK t tv k ∨ LK d dv k) (fun _ _ h => .inl h)) (fun _ _ h => h)).trans (c2.mono (K' := fun k => LK t tv k ∨ LK d dv k) (fun _ _ h => .inr h)) (fun _ _ h => h)
end
theorem AxB.asks {b : Nat} {x : Ax} {W : World} (h : AxB b x W) : W.cell? ⟨b, 2, none⟩ = some (.int .i64 x.ac) ∧ W.cell? ⟨b, 3, none⟩ = some (.int .i64 x.nd) := ⟨h.c2, h.c3⟩
set_option maxRecDepth 20000 in
set_option maxHeartbeats 4000000 in
theorem act_any {c : Cf} (hc : c.nodes < 9223372036854775808) {F : Int} (hF : Word F) {B : Nat} {w : World} {t d : Nat} {tv dv : Value} {l : List Int} (hP : Led c.nodes F B w t tv l) (hR : RLed c F B w d dv l) (ha : Apt t tv d dv) (hB : B ≤ w.heap.size) (h200 : l.length ≤ 200) (x : Ax) :
    Calls Tryd.prog 15 #[axV x, .pointer (some ⟨t, 0, none⟩), .pointer (some ⟨d, 0, none⟩)] w (ActPost c F B w t tv d dv) := by
  unfold axV
  obtain ⟨w0, hw0⟩ : ∃ w0, w.alloc (.cells #[.int .i64 x.kd, .int .i64 x.wh, .int .i64 x.ac, .int .i64 x.nd] 40) = w0 := ⟨_, rfl⟩
  have b0 : Below w.heap.size w w0 := by rw [← hw0]; exact (Below.refl _ w).alloc (Nat.le_refl _) _
  have a0 : AxB w.heap.size x w0 := by rw [← hw0]; exact heap_alloc_new w _
  have ham := among_any x.kd 4 w0 (by decide) (by decide)
  obtain ⟨p1, p2⟩ := amgV_in x.kd (n := 4) (by decide)
  have HPw : Hid (Led c.nodes F B w t tv l) := hP
  have HRw : Hid (RLed c F B w d dv l) := hR
  have HA : Hid (Apt t tv d dv) := ha
  have P0 : Hid (Led c.nodes F B w0 t tv l) := hP.below b0
  have R0 : Hid (RLed c F B w0 d dv l) := hR.below b0
  have B0 : Hid (Below w.heap.size w w0) := b0
  have A0 : Hid (AxB w.heap.size x w0) := a0
  have HW0 : Hid _ := hw0
  have s0 := b0.size
  have y0 := a0.c0
  obtain ⟨kd, hkd⟩ : ∃ kd, amgV x.kd 4 = kd := ⟨_, rfl⟩
  rw [hkd] at ham p1 p2
  clear hP hR ha b0 a0 hw0 hkd
  have hk : kd = 0 ∨ kd = 1 ∨ kd = 2 ∨ kd = 3 := by omega
  rcases hk with rfl | rfl | rfl | rfl
  · by_cases h2 : l.length < 200
    · have hll : ¬ (200 : Int) ≤ l.length := by omega
      go_enter Tryd.func15, Tryd.ntmps15
      go_wp2_with fail
      rw [HW0.out]
      refine ham.mono ?_
      rintro e wx ⟨rfl, rfl⟩
      go_wp2_with fail
      refine (rlist_any R0.out).mono ?_
      rintro e w1 ⟨v1, rfl, r1, b1⟩
      obtain ⟨ao1, c1, e1⟩ := sl_shape r1
      subst e1
      have P1 := P0.out.below b1
      have R1 := R0.out.below b1
      have B1 : Below w.heap.size w w1 := B0.out.trans (b1.mono s0)
      have s1 := B1.size
      clear r1 b1 ham
      go_wp2_with fail
      refine (open_led P1 (by omega) (by omega)).mono ?_
      rintro e w2 ⟨rfl, v2, P2, c2, h2'⟩
      have R2 := R1.chg c2 (fun k h1 h2 => HA.out k h2 h1)
      have s2 := c2.size
      go_wp2_with fail
      refine (ropen_led R2 (by omega) (by omega)).mono ?_
      rintro e w3 ⟨rfl, v3, R3, c3, h3'⟩
      have fin := ActPost.two HPw.out HRw.out HA.out (by simp; omega) B1 P2 c2 h2' R3 c3 h3'
      clear P1 R1 B1 P2 c2 h2' R2 R3 c3 h3'
      go_wp2
      go_ret
      exact ⟨by simp, fin.2⟩
    · have hll : (200 : Int) ≤ l.length := by omega
      go_enter Tryd.func15, Tryd.ntmps15
      go_wp2_with fail
      rw [HW0.out]
      refine ham.mono ?_
      rintro e wx ⟨rfl, rfl⟩
      go_wp2_with fail
      refine (rlist_any R0.out).mono ?_
      rintro e w1 ⟨v1, rfl, r1, b1⟩
      obtain ⟨ao1, c1, e1⟩ := sl_shape r1
      subst e1
      have fin := ActPost.still HPw.out HRw.out h200 (B0.out.trans (b1.mono s0))
      clear r1 b1 ham
      go_wp2
      go_ret
      exact ⟨by simp, fin.2⟩
  · have P1 : Hid (Led c.nodes F B w0.drew t tv l) := P0.out.below (drew_below w0)
    have R1 : Hid (RLed c F B w0.drew d dv l) := R0.out.below (drew_below w0)
    have A1 : Hid (AxB w.heap.size x w0.drew) := A0.out.below (drew_below w0)
    have B1 : Hid (Below w.heap.size w w0.drew) := B0.out.trans ((drew_below w0).mono s0)
    go_enter Tryd.func15, Tryd.ntmps15
    go_wp2_with fail
    rw [HW0.out]
    refine ham.mono ?_
    rintro e wx ⟨rfl, rfl⟩
    go_wp2_with fail
    go_region_held3 (fun w' => w'.cell? ⟨w.heap.size, 2, none⟩ = some (.int .i64 x.ac) ∧ w'.cell? ⟨w.heap.size, 3, none⟩ = some (.int .i64 x.nd)) (first | exact AxB.asks A1.out | exact AxB.asks a2 | exact AxB.asks a3)
      (first
      | (go_at_call 25; refine (charge_led P1.out hc x.ac x.nd).mono ?_; rintro e w2 ⟨rfl, P2, c2⟩; have a2 := AxB.led A1.out HPw.out (Nat.le_refl _) c2; have R2 := Lg1.chg R1.out c2 (fun k h1 h2 => HA.out k h2 h1))
      | (go_at_call 36; refine (rcharge_led R2 hc x.ac x.nd).mono ?_; rintro e w3 ⟨rfl, R3, c3⟩; have a3 := AxB.led a2 HRw.out (Nat.le_refl _) c3))
    all_goals (go_wp2; go_ret)
    all_goals exact ⟨by simp, (ActPost.two HPw.out HRw.out HA.out (by rw [chg_len]; exact h200) B1.out P2 c2 (.inl rfl) R3 c3 (.inl rfl)).2⟩
  · go_enter Tryd.func15, Tryd.ntmps15
    go_wp2_with fail
    rw [HW0.out]
    refine ham.mono ?_
    rintro e wx ⟨rfl, rfl⟩
    go_wp2_with fail
    refine (fade_led P0.out hF).mono ?_
    rintro e w2 ⟨rfl, P2, c2⟩
    have R2 := Lg1.chg R0.out c2 (fun k h1 h2 => HA.out k h2 h1)
    go_wp2_with fail
    refine (rfade_led R2 hF).mono ?_
    rintro e w3 ⟨rfl, R3, c3⟩
    have fin := ActPost.two HPw.out HRw.out HA.out (by rw [fade_len]; exact h200) B0.out P2 c2 (.inl rfl) R3 c3 (.inl rfl)
    clear P2 c2 R2 R3 c3
    go_wp2
    go_ret
    exact fin
  · go_enter Tryd.func15, Tryd.ntmps15
    go_wp2_with fail
    rw [HW0.out]
    refine ham.mono ?_
    rintro e wx ⟨rfl, rfl⟩
    have fin := ActPost.still HPw.out HRw.out h200 B0.out
    go_wp2
    go_ret
    exact fin
end Go.Proofs.YtegpamoglifojaaDoor
