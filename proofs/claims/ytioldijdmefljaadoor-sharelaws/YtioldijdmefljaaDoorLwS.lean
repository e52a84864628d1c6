/-
  LAYER 13: ShareLaws walked.
-/
import Derived.Test.YtioldijdmefljaaDoorSfZ
import Derived.Test.YtioldijdmefljaaDoorLwM
import Derived.Test.YtioldijdmefljaaDoorRldA
namespace Go.Proofs.YtioldijdmefljaaDoor
open Go.RowKit Wd Tr Go.Maps Cg Ld

/-- The accounts lie in a block of their own. -/
structure AccB (W : World) (b : Nat) (l : List Ac) : Prop where
  blk : ∃ cur, W.heap[b]? = some (.cells cur 37 (0, 0))
  acs : Acs W b 0 l
section
variable {W W' : World} {b : Nat} {l : List Ac} {u : Nat → Int}
theorem AccB.free (h : AccB W b l) (k : Nat) : W.frozen? ⟨b, k, none⟩ = false := by
  obtain ⟨cur, hc⟩ := h.blk
  exact frozen_at hc
theorem AccB.lt (h : AccB W b l) : b < W.heap.size := by
  obtain ⟨cur, hc⟩ := h.blk
  exact (Array.getElem?_eq_some_iff.1 hc).1
theorem AccB.below (h : AccB W b l) (c : Below W.heap.size W W') : AccB W' b l := by
  obtain ⟨cur, hc⟩ := h.blk
  exact ⟨⟨cur, heap_keep c hc⟩, h.acs.below c⟩
theorem AccB.us (h : AccB W b (usL l u)) {i : Nat} (hi : i < l.length) : W.cell? ⟨b, i * 5 + 4, none⟩ = some (.int .u64 (u i)) := by
  obtain ⟨a, ha⟩ : ∃ a, l[i]? = some a := ⟨_, List.getElem?_eq_getElem hi⟩
  have := (h.acs i _ (usL_at ha)).us
  rw [Nat.zero_add] at this
  exact this
theorem AccB.set (h : AccB W b (usL l u)) {i : Nat} (hi : i < l.length) {x : Int} {u' : Nat → Int} (hx : u' i = x) (ho : ∀ j, j < l.length → j ≠ i → u' j = u j) : AccB (W.setCell ⟨b, i * 5 + 4, none⟩ (.int .u64 x)) b (usL l u') := by
  obtain ⟨cur, hc⟩ := h.blk
  refine ⟨⟨_, heap_setCell_same _ _ _ _ _ _ hc⟩, fun k a ha => ?_⟩
  obtain ⟨a0, h0, rfl⟩ := usL_of ha
  have hk := (List.getElem?_eq_some_iff.1 h0).1
  have hat := h.acs k _ (usL_at h0)
  rw [Nat.zero_add] at hat ⊢
  refine ⟨far_cell hat.nm (.inr (by omega)), far_cell hat.pa (.inr (by omega)), far_cell hat.sh (.inr (by omega)), far_cell hat.cl (.inr (by omega)), ?_⟩
  by_cases e : k = i
  · subst e
    rw [World.cell?_setCell_same W ⟨b, k * 5 + 4, none⟩ _ hat.us]
    show _ = some (Value.int .u64 (u' k))
    rw [hx]
  · have := far_cell (u := .int .u64 x) (k := i * 5 + 4) (b := b) hat.us (.inr (by omega))
    show _ = some (Value.int .u64 (u' k))
    rw [ho k hk e]
    exact this
end
theorem acsAt2 {w : World} {g o : Nat} {l : List Ac} (h : Acs w g o l) : AcsAt w (some ⟨g, o, none⟩) l := ⟨g, o, fun _ => rfl, h⟩
theorem acsAt_of {w : World} {b : Nat} {l : List Ac} (h : Acs w b 0 l) : AcsAt w (some ⟨b, 0, none⟩) l := ⟨b, 0, fun _ => rfl, h⟩
set_option maxHeartbeats 2000000 in
set_option maxRecDepth 20000 in
theorem slaws_no {w : World} {ao : Option Addr} {l : List Ac} {c : Nat} {cf : Cf} {who more : Int} (hT : Tab w) (hA : AcsAt w ao l) (hs : ∀ a ∈ l, a.nm.size ≤ maxLen) (hus : UsOk l) (hn : l.length * 48 ≤ 140737488355328) (hc : l.length ≤ c) (hE : loadE l ≠ 0) :
    Calls Tryd.prog 3 #[cfV cf, .slice ao l.length c, .int .i64 who, .int .u64 more] w fun e w' => e = .returned (.bool true) ∧ Below w.heap.size w w' := by
  have hS := St.new w cf
  obtain ⟨w1, hw1⟩ : ∃ w1, w.alloc (.cells #[.int .i64 cf.nodes, .int .i64 cf.queue, .int .i64 cf.limit, .int .i64 cf.age, .int .i64 cf.fair, .int .i64 cf.size, .int .i64 cf.period, .int .i64 cf.half] 23) = w1 := ⟨_, rfl⟩
  rw [hw1] at hS
  have hsw := shown_any (Tab.below hS.bel hT)
  have HSH : Hid (∀ x, Below w.heap.size w x → Calls Tryd.prog 6 #[.slice ao l.length c] x (SharesP x l)) := fun x hx => shares_any (hA.below hx) hs hn hc
  have HEF : Hid (∀ x, Below w.heap.size w x → Calls Tryd.prog 7 #[cfV cf, .slice ao l.length c] x (EffP x cf l)) := fun x hx => effective_any (hA.below hx) hs hus hn hc
  have HFA : Hid (∀ x, Below w.heap.size w x → Calls Tryd.prog 8 #[cfV cf, .slice ao l.length c] x (FacP x cf l)) := fun x hx => factors_any (Tab.below hx hT) (hA.below hx) hs hus hn hc
  have HLD : Hid (∀ x, Below w.heap.size w x → Calls Tryd.prog 9 #[.slice ao l.length c] x (RLoadP x l)) := fun x hx => rload_any (hA.below hx) hn
  unfold cfV at *
  have HS : Hid (St w w.heap.size cf w1) := hS
  obtain ⟨L, hL⟩ : ∃ L, l.length = L := ⟨_, rfl⟩
  rw [hL] at HSH HEF HFA HLD ⊢
  obtain ⟨er, her⟩ : ∃ er, loadE l = er := ⟨_, rfl⟩
  have HER : Hid (loadE l = er) := her
  have hE' : (er == 0) = false := by rw [← her]; simp [hE]
  have HE : Hid (loadE l ≠ 0) := hE
  clear hT hA hs hus hn hc hS hL her hE
  go_enter Tryd.func3, Tryd.ntmps3
  go_wp2_with fail
  refine hsw.mono ?_
  rintro e w2 ⟨rfl, hb2⟩
  have S2 := keepW HS.out hb2
  have hsh := HSH.out w2 S2.bel
  have HS2 : Hid (St w w.heap.size cf w2) := S2
  clear hb2 S2 hsw
  go_wp2_with fail
  refine hsh.mono ?_
  rintro e w3 ⟨_, h2, hb3⟩
  obtain rfl := h2 HE.out
  have S3 := keepW HS2.out hb3
  have hef := HEF.out w3 S3.bel
  have HS3 : Hid (St w w.heap.size cf w3) := S3
  obtain ⟨s0, s1, s2, s3, s4, s5, s6, s7, _, _⟩ := id S3
  clear h2 hb3 S3 hsh
  go_wp2_with fail
  refine hef.mono ?_
  rintro e w4 ⟨_, h2, hb4⟩
  obtain rfl := h2 (fun h => HE.out h.1)
  have S4 := keepW HS3.out hb4
  have hfa := HFA.out w4 S4.bel
  have HS4 : Hid (St w w.heap.size cf w4) := S4
  clear h2 hb4 hef s0 s1 s2 s3 s4 s5 s6 s7
  obtain ⟨s0, s1, s2, s3, s4, s5, s6, s7, _, _⟩ := id S4
  clear S4
  go_wp2_with fail
  refine hfa.mono ?_
  rintro e w5 ⟨_, h2, hb5⟩
  obtain rfl := h2 (fun h => HE.out h.1)
  have S5 := keepW HS4.out hb5
  have hld := HLD.out w5 S5.bel
  have HS5 : Hid (St w w.heap.size cf w5) := S5
  clear h2 hb5 hfa s0 s1 s2 s3 s4 s5 s6 s7 S5
  go_wp2_with fail
  refine hld.mono ?_
  rintro e w6 ⟨_, h2, hb6⟩
  obtain rfl := h2 HE.out
  rw [HER.out]
  have HB : Hid (Below w.heap.size w w6) := (keepW HS5.out hb6).bel
  clear h2 hb6 hld
  go_wp2
  go_ret
  exact ⟨rfl, HB.out⟩
/- THE TREE's LISTS -/
set_option maxHeartbeats 2000000 in
set_option maxRecDepth 20000 in
theorem slaws_chk {w : World} {ao : Option Addr} {l : List Ac} {c : Nat} {cf : Cf} {who more : Int} (hT : Tab w) (hA : AcsAt w ao l) (hs : ∀ a ∈ l, a.nm.size ≤ maxLen) (hus : UsOk l) (hn : l.length * 48 ≤ 140737488355328) (hc : l.length ≤ c) (hE : loadE l = 0) (hK : chkZ cf ≠ 0) :
    Calls Tryd.prog 3 #[cfV cf, .slice ao l.length c, .int .i64 who, .int .u64 more] w fun e w' => e = .returned (.bool true) ∧ Below w.heap.size w w' := by
  have hS := St.new w cf
  obtain ⟨w1, hw1⟩ : ∃ w1, w.alloc (.cells #[.int .i64 cf.nodes, .int .i64 cf.queue, .int .i64 cf.limit, .int .i64 cf.age, .int .i64 cf.fair, .int .i64 cf.size, .int .i64 cf.period, .int .i64 cf.half] 23) = w1 := ⟨_, rfl⟩
  rw [hw1] at hS
  have hsw := shown_any (Tab.below hS.bel hT)
  have HSH : Hid (∀ x, Below w.heap.size w x → Calls Tryd.prog 6 #[.slice ao l.length c] x (SharesP x l)) := fun x hx => shares_any (hA.below hx) hs hn hc
  have HEF : Hid (∀ x, Below w.heap.size w x → Calls Tryd.prog 7 #[cfV cf, .slice ao l.length c] x (EffP x cf l)) := fun x hx => effective_any (hA.below hx) hs hus hn hc
  have HFA : Hid (∀ x, Below w.heap.size w x → Calls Tryd.prog 8 #[cfV cf, .slice ao l.length c] x (FacP x cf l)) := fun x hx => factors_any (Tab.below hx hT) (hA.below hx) hs hus hn hc
  have HLD : Hid (∀ x, Below w.heap.size w x → Calls Tryd.prog 9 #[.slice ao l.length c] x (RLoadP x l)) := fun x hx => rload_any (hA.below hx) hn
  have cK := rcheck_any cf
  unfold cfV at *
  have HS : Hid (St w w.heap.size cf w1) := hS
  obtain ⟨L, hL⟩ : ∃ L, l.length = L := ⟨_, rfl⟩
  have HL : Hid (l.length = L) := hL
  rw [hL] at HSH HEF HFA HLD ⊢
  obtain ⟨er, her⟩ : ∃ er, chkZ cf = er := ⟨_, rfl⟩
  have hK' : (er == 0) = false := by rw [← her]; simp [hK]
  rw [her] at cK
  have HE : Hid (loadE l = 0) := hE
  have HK : Hid (¬ (loadE l = 0 ∧ chkZ cf = 0)) := fun h => hK h.2
  clear hT hA hs hus hn hc hS hL her hE hK
  go_enter Tryd.func3, Tryd.ntmps3
  go_wp2_with fail
  refine hsw.mono ?_
  rintro e w2 ⟨rfl, hb2⟩
  have S2 := keepW HS.out hb2
  have hsh := HSH.out w2 S2.bel
  have HS2 : Hid (St w w.heap.size cf w2) := S2
  clear hb2 S2 hsw
  go_wp2_with fail
  refine hsh.mono ?_
  rintro e w3 ⟨h1, _, hb3⟩
  obtain ⟨nb, db, rfl, _⟩ := h1 HE.out
  rw [HL.out]
  have S3 := keepW HS2.out hb3
  have hef := HEF.out w3 S3.bel
  have HS3 : Hid (St w w.heap.size cf w3) := S3
  obtain ⟨s0, s1, s2, s3, s4, s5, s6, s7, _, _⟩ := id S3
  clear h1 hb3 S3 hsh
  go_wp2_with fail
  refine hef.mono ?_
  rintro e w4 ⟨_, h2, hb4⟩
  obtain rfl := h2 HK.out
  have S4 := keepW HS3.out hb4
  have hfa := HFA.out w4 S4.bel
  have HS4 : Hid (St w w.heap.size cf w4) := S4
  clear h2 hb4 hef s0 s1 s2 s3 s4 s5 s6 s7
  obtain ⟨s0, s1, s2, s3, s4, s5, s6, s7, _, _⟩ := id S4
  clear S4
  go_wp2_with fail
  refine hfa.mono ?_
  rintro e w5 ⟨_, h2, hb5⟩
  obtain rfl := h2 HK.out
  have S5 := keepW HS4.out hb5
  have hld := HLD.out w5 S5.bel
  have HS5 : Hid (St w w.heap.size cf w5) := S5
  clear h2 hb5 hfa s0 s1 s2 s3 s4 s5 s6 s7 S5
  go_wp2_with fail
  refine hld.mono ?_
  rintro e w6 ⟨h1, _, hb6⟩
  obtain ⟨d, v, rfl, _⟩ := h1 HE.out
  have S6 := keepW HS5.out hb6
  have HS6 : Hid (St w w.heap.size cf w6) := S6
  obtain ⟨s0, s1, s2, s3, s4, s5, s6, s7, _, _⟩ := id S6
  clear h1 hb6 hld S6
  go_wp2_with fail
  refine (cK _).mono ?_
  rintro e w7 ⟨rfl, hb7⟩
  have HB : Hid (Below w.heap.size w w7) := (keepW HS6.out hb7).bel
  clear hb7 s0 s1 s2 s3 s4 s5 s6 s7
  go_wp2
  go_ret
  exact ⟨rfl, HB.out⟩
theorem who_in {who : Int} {L : Nat} (h1 : -9223372036854775808 ≤ who) (h2 : who < 9223372036854775808) (hL : 0 < L) : ∃ i : Nat, i < L ∧ ((if who < 0 then -(who + 1) else who) : Int).tmod (L : Int) = i := by
  have hp : 0 ≤ (if who < 0 then -(who + 1) else who : Int) := by split <;> omega
  refine ⟨((if who < 0 then -(who + 1) else who : Int) % (L : Int)).toNat, ?_, ?_⟩
  · have := Int.emod_lt_of_pos (if who < 0 then -(who + 1) else who : Int) (show (0 : Int) < L by omega)
    have := Int.emod_nonneg (if who < 0 then -(who + 1) else who : Int) (show (L : Int) ≠ 0 by omega)
    omega
  · rw [Int.tmod_eq_emod_of_nonneg hp]
    have := Int.emod_nonneg (if who < 0 then -(who + 1) else who : Int) (show (L : Int) ≠ 0 by omega)
    omega
theorem keepS6 {W w w0 : World} {a0 a1 a2 a3 a4 a5 : Addr} {v0 v1 v2 v3 v4 v5 : Value} (hb : Below W.heap.size W w) (h : W.cell? a0 = some v0 ∧ W.cell? a1 = some v1 ∧ W.cell? a2 = some v2 ∧ W.cell? a3 = some v3 ∧ W.cell? a4 = some v4 ∧ W.cell? a5 = some v5 ∧ Below w0.heap.size w0 W) : w.cell? a0 = some v0 ∧ w.cell? a1 = some v1 ∧ w.cell? a2 = some v2 ∧ w.cell? a3 = some v3 ∧ w.cell? a4 = some v4 ∧ w.cell? a5 = some v5 ∧ Below w0.heap.size w0 w := by
  obtain ⟨h0, h1, h2, h3, h4, h5, hB⟩ := h
  exact ⟨keepC hb h0, keepC hb h1, keepC hb h2, keepC hb h3, keepC hb h4, keepC hb h5, hB.trans (hb.mono hB.size)⟩
theorem accB_of_row {w : World} {B : Nat} {v : Value} {l : List Ac} (h : w.ownsRow B 37 5 v l.length (flatA l)) (hp : 0 < l.length) : ∃ ab cap, v = .slice (some ⟨ab, 0, none⟩) l.length cap ∧ l.length ≤ cap ∧ B ≤ ab ∧ AccB w ab l := by
  rcases h.2 with ⟨_, h0⟩ | ⟨g, cap, cur, e, hb, hg, h1, _⟩
  · omega
  · obtain ⟨ao, c, e2, ⟨g', o', e3, hac⟩, _⟩ := acs_row h
    have e4 := e3 hp
    rw [e] at e2
    have e5 := Value.slice.inj e2
    rw [e4] at e5
    have e6 := Addr.mk.inj (Option.some.inj e5.1)
    refine ⟨g, cap, e, h1, hb, ⟨⟨cur, hg⟩, fun k a ha => ?_⟩⟩
    rw [e6.1, e6.2.1]
    exact hac k a ha
theorem row_out {w : World} {B L : Nat} {v : Value} {l : List Ac} (hL : l.length = L) (hp : 0 < L) (h : w.ownsRow B 37 5 v (0 + L) ([] ++ flatA l)) : ∃ ab cap, v = .slice (some ⟨ab, 0, none⟩) (0 + L) cap ∧ L ≤ cap ∧ B ≤ ab ∧ AccB w ab l := by
  subst hL
  rw [Nat.zero_add, List.nil_append] at h
  obtain ⟨ab, cap, h1, h2, h3, h4⟩ := accB_of_row h hp
  exact ⟨ab, cap, by rw [Nat.zero_add]; exact h1, h2, h3, h4⟩
/-- The share and usages of one account and its parent. -/
structure Lines (l : List Ac) (W : Int) (j : Nat) : Prop where
  f1 : ¬ (9223372036854775808 : Int) < facV l W j
  fe : (facV l W j == 9223372036854775808) = (efV l W j == 0)
  n1 : ¬ numV l j < 1
  nd : ¬ denV l j < numV l j
theorem lines {l : List Ac} (h : Wu l) (hu : UsOk l) {W : Int} (hW : WOk l W) {j : Nat} (hj : j < l.length) : Lines l W j := by
  obtain ⟨h1, h2, h3⟩ := fac_one h hu hW hj
  obtain ⟨d1, d2, _, _⟩ := den_word h hj
  refine ⟨by omega, ?_, by omega, by omega⟩
  by_cases e : efV l W j = 0
  · rw [h3.2 e, e]; rfl
  · have : facV l W j ≠ 9223372036854775808 := fun x => e (h3.1 x)
    rw [beq_eq_false_iff_ne.2 this, beq_eq_false_iff_ne.2 e]
set_option maxHeartbeats 4000000 in
set_option maxRecDepth 20000 in
theorem slaws_yes {w : World} {g o c : Nat} {l : List Ac} {cf : Cf} {who more : Int} (hT : Tab w) (hA : Acs w g o l) (hs : ∀ a ∈ l, a.nm.size ≤ maxLen) (hus : UsOk l) (hn : l.length * 48 ≤ 140737488355328) (hc : l.length ≤ c) (hE : loadE l = 0) (hK : chkZ cf = 0)
    (hw1 : -9223372036854775808 ≤ who) (hw2 : who < 9223372036854775808) (hm1 : 0 ≤ more) :
    Calls Tryd.prog 3 #[cfV cf, .slice (some ⟨g, o, none⟩) l.length c, .int .i64 who, .int .u64 more] w fun e w' => e = .returned (.bool true) ∧ Below w.heap.size w w' := by
  have hS := St.new w cf
  obtain ⟨w1, hww⟩ : ∃ w1, w.alloc (.cells #[.int .i64 cf.nodes, .int .i64 cf.queue, .int .i64 cf.limit, .int .i64 cf.age, .int .i64 cf.fair, .int .i64 cf.size, .int .i64 cf.period, .int .i64 cf.half] 23) = w1 := ⟨_, rfl⟩
  rw [hww] at hS
  have hsw := shown_any (Tab.below hS.bel hT)
  have HSH : Hid (∀ x, Below w.heap.size w x → Calls Tryd.prog 6 #[.slice (some ⟨g, o, none⟩) l.length c] x (SharesP x l)) := fun x hx => shares_any (acsAt2 (hA.below hx)) hs hn hc
  have HEF : Hid (∀ x, Below w.heap.size w x → Calls Tryd.prog 7 #[cfV cf, .slice (some ⟨g, o, none⟩) l.length c] x (EffP x cf l)) := fun x hx => effective_any (acsAt2 (hA.below hx)) hs hus hn hc
  have HFA : Hid (∀ x, Below w.heap.size w x → Calls Tryd.prog 8 #[cfV cf, .slice (some ⟨g, o, none⟩) l.length c] x (FacP x cf l)) := fun x hx => factors_any (Tab.below hx hT) (acsAt2 (hA.below hx)) hs hus hn hc
  have HLD : Hid (∀ x, Below w.heap.size w x → Calls Tryd.prog 9 #[.slice (some ⟨g, o, none⟩) l.length c] x (RLoadP x l)) := fun x hx => rload_any (acsAt2 (hA.below hx)) hn
  have cK := rcheck_any cf
  have hwu : Wu l := wf_load hE
  have hl := hwu.len
  have hp := hwu.pos
  have hfw := fl_word hK
  have hW : WOk l (wV l (flZ cf)) := wOk hwu hus hfw
  have cFl := rFloor_yes hK
  have hfl2 : 0 ≤ flZ cf ∧ flZ cf < 4611686018427387904 := by
    obtain ⟨r, _, _⟩ := chk_ok hK
    have := c_box r
    unfold flZ
    omega
  rw [show cZ cf * 4294967296 = flZ cf from rfl] at cFl
  have HFU : Hid (∀ x (b cc : Nat) (u : Nat → Int), AccB x b (usL l u) → UsOk (usL l u) → Below w.heap.size w x → l.length ≤ cc → Calls Tryd.prog 8 #[cfV cf, .slice (some ⟨b, 0, none⟩) l.length cc] x (FacP x cf (usL l u))) := fun x b cc u hx hu hb hcc => by
    have := factors_any (cf := cf) (c := cc) (Tab.below hb hT) (acsAt_of hx.acs) (usL_nm hs) hu (by rw [usL_len]; exact hn) (by rw [usL_len]; exact hcc)
    rw [usL_len] at this
    exact this
  unfold cfV at *
  have HS : Hid (St w w.heap.size cf w1) := hS
  have HA : Hid (Acs w g o l) := hA
  have HUS : Hid (UsOk l) := hus
  have HWU : Hid (Wu l) := hwu
  obtain ⟨L, hL⟩ : ∃ L, l.length = L := ⟨_, rfl⟩
  have HL : Hid (l.length = L) := hL
  obtain ⟨i0, hi0, hwi⟩ := who_in (L := L) hw1 hw2 (by omega)
  have hwp : 0 ≤ (if who < 0 then -(who + 1) else who : Int) ∧ (if who < 0 then -(who + 1) else who : Int) < 9223372036854775808 := by split <;> omega
  have kw1 : who < 0 → IntKind.i64.wrap (who + 1) = who + 1 := fun h => by rw [IntKind.wrap_i64]; omega
  have kw2 : who < 0 → IntKind.i64.wrap (-(who + 1)) = -(who + 1) := fun h => by rw [IntKind.wrap_i64]; omega
  rw [hL] at HSH HEF HFA HLD HFU hl hp ⊢
  rw [hK] at cK
  obtain ⟨W, hWW⟩ : ∃ W, wV l (flZ cf) = W := ⟨_, rfl⟩
  have HWW : Hid (wV l (flZ cf) = W) := hWW
  rw [hWW] at hW
  have HW : Hid (WOk l W) := hW
  have HE : Hid (loadE l = 0) := hE
  have HOK : Hid (loadE l = 0 ∧ chkZ cf = 0) := ⟨hE, hK⟩
  have hp' : ¬ ((L : Int) = 0) := by omega
  have hp'' : (0 : Int) < L := by omega
  clear hT hA hs hus hn hc hS hL hE hK hwu hfw hW hWW
  obtain ⟨FL, hFL⟩ : ∃ FL, flZ cf = FL := ⟨_, rfl⟩
  have HFL : Hid (flZ cf = FL) := hFL
  rw [hFL] at cFl hfl2
  clear hFL
  have HWI : Hid (i0 < L ∧ ((if who < 0 then -(who + 1) else who) : Int).tmod (L : Int) = i0) := ⟨hi0, hwi⟩
  have HWP : Hid _ := hwp
  clear hi0 hwi hwp
  go_enter Tryd.func3, Tryd.ntmps3
  go_wp2_with fail
  refine hsw.mono ?_
  rintro e w2 ⟨rfl, hb2⟩
  have S2 := keepW HS.out hb2
  have hsh := HSH.out w2 S2.bel
  have HS2 : Hid (St w w.heap.size cf w2) := S2
  clear hb2 S2 hsw
  go_wp2_with fail
  refine hsh.mono ?_
  rintro e w3 ⟨h1, _, hb3⟩
  obtain ⟨nb, db, rfl, _, _, _, rN, rD⟩ := h1 HE.out
  rw [HL.out] at rN rD ⊢
  have S3 := keepW HS2.out hb3
  have hef := HEF.out w3 S3.bel
  have HS3 : Hid (St w w.heap.size cf w3) := S3
  have HR3 : Hid (RowF w3 nb L (numV l) ∧ RowF w3 db L (denV l)) := ⟨rN, rD⟩
  obtain ⟨s0, s1, s2, s3, s4, s5, s6, s7, _, _⟩ := id S3
  clear h1 hb3 S3 hsh rN rD
  go_wp2_with fail
  refine hef.mono ?_
  rintro e w4 ⟨h1, _, hb4⟩
  obtain ⟨eb, rfl, _, rE⟩ := h1 HOK.out
  rw [HWW.out, HL.out] at rE
  rw [HL.out]
  have S4 := keepW HS3.out hb4
  have hfa := HFA.out w4 S4.bel
  have HS4 : Hid (St w w.heap.size cf w4) := S4
  have HR4 : Hid (RowF w4 nb L (numV l) ∧ RowF w4 db L (denV l) ∧ RowF w4 eb L (efV l W)) := ⟨HR3.out.1.below hb4, HR3.out.2.below hb4, rE⟩
  clear h1 hb4 hef s0 s1 s2 s3 s4 s5 s6 s7 rE
  obtain ⟨s0, s1, s2, s3, s4, s5, s6, s7, _, _⟩ := id S4
  clear S4
  go_wp2_with fail
  refine hfa.mono ?_
  rintro e w5 ⟨h1, _, hb5⟩
  obtain ⟨fb, rfl, _, rF⟩ := h1 HOK.out
  rw [HWW.out, HL.out] at rF
  rw [HL.out]
  have S5 := keepW HS4.out hb5
  have hld := HLD.out w5 S5.bel
  have HS5 : Hid (St w w.heap.size cf w5) := S5
  have HR5 : Hid (RowF w5 nb L (numV l) ∧ RowF w5 db L (denV l) ∧ RowF w5 eb L (efV l W) ∧ RowF w5 fb L (facV l W)) := ⟨HR4.out.1.below hb5, HR4.out.2.1.below hb5, HR4.out.2.2.below hb5, rF⟩
  clear h1 hb5 hfa s0 s1 s2 s3 s4 s5 s6 s7 S5 rF
  go_wp2_with fail
  refine hld.mono ?_
  rintro e w6 ⟨h1, _, hb6⟩
  obtain ⟨d, v, rfl, _⟩ := h1 HE.out
  have S6 := keepW HS5.out hb6
  have HS6 : Hid (St w w.heap.size cf w6) := S6
  have HR6 : Hid (RowF w6 nb L (numV l) ∧ RowF w6 db L (denV l) ∧ RowF w6 eb L (efV l W) ∧ RowF w6 fb L (facV l W)) := ⟨HR5.out.1.below hb6, HR5.out.2.1.below hb6, HR5.out.2.2.1.below hb6, HR5.out.2.2.2.below hb6⟩
  obtain ⟨s0, s1, s2, s3, s4, s5, s6, s7, _, _⟩ := id S6
  clear h1 hb6 hld S6
  go_wp2_with fail
  refine (cK _).mono ?_
  rintro e w7 ⟨rfl, hb7⟩
  have HS7 : Hid (St w w.heap.size cf w7) := keepW HS6.out hb7
  have HR7 : Hid (RowF w7 nb L (numV l) ∧ RowF w7 db L (denV l) ∧ RowF w7 eb L (efV l W) ∧ RowF w7 fb L (facV l W)) := ⟨HR6.out.1.below hb7, HR6.out.2.1.below hb7, HR6.out.2.2.1.below hb7, HR6.out.2.2.2.below hb7⟩
  clear hb7 s0 s1 s2 s3 s4 s5 s6 s7 HR3 HR4 HR5 HR6 HSH HEF HFA HLD
  go_wp2
  go_loopg [16] L (fun gk x wr => ∃ j : Nat, j + gk = L ∧ x = .int .i64 j ∧ Below w7.heap.size w7 wr)
  case atStart => exact ⟨0, by omega, rfl, Below.refl _ _⟩
  case round =>
    obtain ⟨j, hj, rfl, hb⟩ := hrel
    by_cases hlt : j < L
    · have hlt' : (j : Int) < L := by omega
      have hjl : j < l.length := by rw [HL.out]; exact hlt
      obtain ⟨rN, rD, rE, rF⟩ := HR7.out
      have cn := (rN.below hb).cell hlt
      have cd := (rD.below hb).cell hlt
      have ce := (rE.below hb).cell hlt
      have cf' := (rF.below hb).cell hlt
      obtain ⟨l1, l2, l3, l4⟩ := lines HWU.out HUS.out HW.out hjl
      obtain ⟨a, ha⟩ : ∃ a, l[j]? = some a := ⟨_, List.getElem?_eq_getElem hjl⟩
      have HBB : Hid (Below w7.heap.size w7 wr) := hb
      have xp := ((HA.out j a ha).below (HS7.out.bel)).below hb
      have xpa := xp.pa
      clear rN rD rE rF hb xp
      obtain ⟨NJ, hNJ⟩ : ∃ x, numV l j = x := ⟨_, rfl⟩
      obtain ⟨DJ, hDJ⟩ : ∃ x, denV l j = x := ⟨_, rfl⟩
      obtain ⟨EJ, hEJ⟩ : ∃ x, efV l W j = x := ⟨_, rfl⟩
      obtain ⟨FJ, hFJ⟩ : ∃ x, facV l W j = x := ⟨_, rfl⟩
      rw [hNJ] at cn l3 l4
      rw [hDJ] at cd l4
      rw [hEJ] at ce l2
      rw [hFJ] at cf' l1 l2
      have HJ : Hid (numV l j = NJ ∧ denV l j = DJ ∧ efV l W j = EJ) := ⟨hNJ, hDJ, hEJ⟩
      have HAt : Hid (l[j]? = some a) := ha
      clear hNJ hDJ hEJ hFJ ha
      have l2' : ((FJ == 9223372036854775808) != (EJ == 0)) = false := by rw [l2]; simp
      go_upto_region 19 with fail
      go_quiet (fail)
      obtain ⟨wq, hwq⟩ : ∃ wq, wr.drewN nq = wq := ⟨_, rfl⟩
      have bq : Below wr.heap.size wr wq := by rw [← hwq]; exact below_drewN (Below.refl _ _) _
      rw [hwq]
      have dn := keepC bq cn
      have dd := keepC bq cd
      have de := keepC bq ce
      have dp := keepC bq xpa
      have HBQ : Hid (Below w7.heap.size w7 wq) := HBB.out.trans (bq.mono HBB.out.size)
      clear hwq bq cn cd ce cf' xpa l1 l2 l2' l3 l4 HBB
      by_cases hj0 : j = 0
      · subst hj0
        rw [root_at HWU.out HAt.out] at dp
        simp only [Nat.zero_mul, Nat.add_zero] at dp
        go_upto_region 22 with fail
        go_quiet (fail)
        have HBR : Hid (Below w7.heap.size w7 (wq.drewN nq)) := below_drewN HBQ.out _
        clear dn dd de dp
        go_wp2
        go_roundg (L - (0 + 1))
        case measure => omega
        case rel => exact ⟨0 + 1, by omega, rfl, HBR.out⟩
      · have hul : up l j < L := by rw [← HL.out]; exact HWU.out.up_lt hjl
        rw [up_at HWU.out HAt.out hj0] at dp
        obtain ⟨rN, rD, rE, _⟩ := HR7.out
        have pn := (rN.below HBQ.out).cell hul
        have pd := (rD.below HBQ.out).cell hul
        have pe := (rE.below HBQ.out).cell hul
        obtain ⟨e1, e2, e3⟩ := HJ.out
        have hef := (ef_falls HWU.out HUS.out HW.out hjl hj0).2
        have hsf := share_falls HWU.out hjl hj0
        obtain ⟨b1, b2, _, b4⟩ := den_word HWU.out hjl
        obtain ⟨b5, b6, _, b8⟩ := den_word HWU.out (HWU.out.up_lt hjl)
        rw [e3] at hef
        rw [e1, e2] at hsf
        rw [e1] at b1 b2
        rw [e2] at b2 b4
        obtain ⟨pk, hpk⟩ : ∃ pk, up l j = pk := ⟨_, rfl⟩
        rw [hpk] at dp hul pn pd pe hef hsf b5 b6 b8
        obtain ⟨NP, hNP⟩ : ∃ x, numV l pk = x := ⟨_, rfl⟩
        obtain ⟨DP, hDP⟩ : ∃ x, denV l pk = x := ⟨_, rfl⟩
        obtain ⟨EP, hEP⟩ : ∃ x, efV l W pk = x := ⟨_, rfl⟩
        rw [hNP] at pn hsf b5 b6
        rw [hDP] at pd hsf b6 b8
        rw [hEP] at pe hef
        have cM1 := rmuln NJ DP ⟨by omega, by omega⟩ ⟨by omega, by omega⟩
        have cM2 := rmuln NP DJ ⟨by omega, by omega⟩ ⟨by omega, by omega⟩
        have cC := rcmp_num (NJ * DP) (NP * DJ)
        unfold nu at cC
        have hcm : ¬ 0 < cmpV (NJ * DP) (NP * DJ) := by unfold cmpV; split <;> (try split) <;> omega
        have hle : decide (EP < EJ) = false := by simp; omega
        have hle2 : ¬ EP < EJ := by omega
        have hul' : (pk : Int) < L := by omega
        have hpk0 : (0 : Int) ≤ pk := by omega
        obtain ⟨CV, hCV⟩ : ∃ x, cmpV (NJ * DP) (NP * DJ) = x := ⟨_, rfl⟩
        rw [hCV] at cC hcm
        have hcm2 : decide (0 < CV) = false := by simp; omega
        clear rN rD rE e1 e2 e3 hef hsf b1 b2 b4 b5 b6 b8 hpk hNP hDP hEP hCV hjl
        generalize hiW (NJ * DP) = H1 at *
        generalize loW (NJ * DP) = O1 at *
        generalize hiW (NP * DJ) = H2 at *
        generalize loW (NP * DJ) = O2 at *
        have HS9 : Hid (wq.drew.cell? ⟨nb, j, none⟩ = some (.int .u64 NJ) ∧ wq.drew.cell? ⟨db, j, none⟩ = some (.int .u64 DJ) ∧ wq.drew.cell? ⟨eb, j, none⟩ = some (.int .u64 EJ) ∧ wq.drew.cell? ⟨nb, pk, none⟩ = some (.int .u64 NP) ∧ wq.drew.cell? ⟨db, pk, none⟩ = some (.int .u64 DP) ∧ wq.drew.cell? ⟨eb, pk, none⟩ = some (.int .u64 EP) ∧ Below w7.heap.size w7 wq.drew) := ⟨dn, dd, de, pn, pd, pe, HBQ.out.drew⟩
        clear dn dd de pn pd pe
        go_upto_region 22 with fail
        go_region_held3 (fun x => x.cell? ⟨nb, j, none⟩ = some (.int .u64 NJ) ∧ x.cell? ⟨db, j, none⟩ = some (.int .u64 DJ) ∧ x.cell? ⟨eb, j, none⟩ = some (.int .u64 EJ) ∧ x.cell? ⟨nb, pk, none⟩ = some (.int .u64 NP) ∧ x.cell? ⟨db, pk, none⟩ = some (.int .u64 DP) ∧ x.cell? ⟨eb, pk, none⟩ = some (.int .u64 EP) ∧ Below w7.heap.size w7 x) (first | exact HS9.out | exact keepS6 (by assumption) (by assumption))
          (first
          | (go_at_call_of 12 (Value.int .u64 NJ); refine (cM1 _).mono ?_; rintro e x ⟨rfl, hx⟩)
          | (go_at_call_of 12 (Value.int .u64 NP); refine (cM2 _).mono ?_; rintro e x ⟨rfl, hx⟩)
          | (go_at_call 11; refine (cC _).mono ?_; rintro e x ⟨rfl, hx⟩))
        all_goals
          rename_i hz9
          have HBR : Hid (Below w7.heap.size w7 _) := hz9.2.2.2.2.2.2
          clear hz9 HS9
          go_wp2
          go_roundg (L - (j + 1))
          case measure => omega
          case rel => exact ⟨j + 1, by omega, rfl, HBR.out⟩
    · obtain rfl : j = L := by omega
      have S8 := keepW HS7.out hb
      have HS8 : Hid (St w w.heap.size cf wr) := S8
      clear hb S8 HR7
      generalize wr = w8 at *
      have hpb : ((j : Int) == 0) = false := by simp; omega
      obtain ⟨WW, hWW⟩ : ∃ x, (if who < 0 then -(who + 1) else who : Int) = x := ⟨_, rfl⟩
      have HW3 : Hid _ := hWW
      have hwi := HWI.out.2
      have hwp := HWP.out
      rw [hWW] at hwi hwp
      have hi0 := HWI.out.1
      have kwr : IntKind.i64.wrap (i0 : Int) = i0 := by rw [IntKind.wrap_i64]; omega
      clear hWW
      go_upto_if 191 with fail
      go_cut [2] (fun x wq => x = .int .i64 WW ∧ w8 = wq)
      case first =>
        by_cases hneg : who < 0
        · have k1 := kw1 hneg
          have k2 := kw2 hneg
          have HE3 : Hid (-(who + 1) = WW) := by have := HW3.out; rw [if_pos hneg] at this; exact this
          clear kw1 kw2 hwi hwp HW3
          go_wp2
          go_meet
          exact ⟨by rw [← HE3.out], rfl⟩
        · have HE3 : Hid (who = WW) := by have := HW3.out; rw [if_neg hneg] at this; exact this
          clear kw1 kw2 hwi hwp HW3
          go_wp2
          go_meet
          exact ⟨by rw [← HE3.out], rfl⟩
      case rest =>
      obtain ⟨rfl, rfl⟩ := hcut
      clear kw1 kw2 HW3
      obtain ⟨ii, hii, hz0, hz1, hz2⟩ := info_parts Tryd.inf37
      have hAr : Acs w8 g o l := HA.out.lo HS8.out.bel (fun k a ha => World.block_lt_of_cell? w _ (HA.out k a ha).nm)
      have HC : Hid (∀ ad, some (⟨g, o, none⟩ : Addr) = some ad → ∀ j u, (flatA l)[j]? = some u → (w8.alloc (.cells #[] 37)).cell? (ad.add j) = some u) := acs_flat (acsAt2 (hAr.below ((Below.refl _ _).alloc (Nat.le_refl _) _)))
      have HFL5 : Hid ((flatA l).length = j * 5) := by rw [← HL.out]; exact flatA_len l
      have HM : Hid _ := made0 w8 37 5
      clear hAr
      go_wp2_with (at_builtin; refine wpList_append_any rfl (.tmp 199) (.tmp 200) 24 rfl w8.heap.size 37 ii _ 5 48 Tryd.underlying24 hii hz0 hz1 hz2 rfl (by decide) (.slice (some ⟨w8.heap.size, 0, none⟩) 0 0) 0 [] rfl HM.out (some ⟨g, o, none⟩) j c (flatA l) rfl (fun h => by cases h) HFL5.out HC.out (flatA_one l) ?_ ?_ ?_ ?_; exact (Nat.le_trans (m := 35184372088832) (by omega) (by decide)); omega; (simp); intro v' w10 hown hgr; have hB10 : Below w8.heap.size w8 w10 := Below.grown ((Below.refl _ w8).alloc (Nat.le_refl _) (.cells #[] 37)) hgr (by simp) (fun k e => by simp [Value.ownBlock] at e; omega); have hS10 := keepW HS8.out hB10; obtain ⟨ab, cap, rfl, hcap, hab, hacc⟩ := row_out HL.out hp hown; have HAC : Hid (AccB w10 ab l) := hacc; have HS10 : Hid (St w w.heap.size cf w10) := hS10; have HB10 : Hid (Below w8.heap.size w8 w10) := hB10; have HAB : Hid (w8.heap.size ≤ ab ∧ j ≤ cap) := ⟨hab, hcap⟩; obtain ⟨s0, s1, s2, s3, s4, s5, s6, s7, _, _⟩ := id hS10; clear hown hgr hB10 hS10 hacc hab hcap)
      refine (cFl _).mono ?_
      rintro e w11 ⟨rfl, hb11⟩
      have HS11 : Hid (St w w.heap.size cf w11) := keepW HS10.out hb11
      have HB11 : Hid (Below w8.heap.size w8 w11) := HB10.out.trans (hb11.mono HB10.out.size)
      have HA11 : Hid (AccB w11 ab (usL l (usOf l))) := by rw [usL_own]; exact HAC.out.below hb11
      clear hb11 s0 s1 s2 s3 s4 s5 s6 s7 HAC HC HM HFL5 hwi hwp kwr
      have hfl0 := hfl2.1
      have HUN : Hid (∀ k, 0 ≤ usOf l k) := us_nn HUS.out
      go_wp2
      go_loopg [19, 20] j (fun gk r x wr => ∃ k : Nat, k + gk = j ∧ r = .int .u64 (rm (usOf l) FL k) ∧ x = .int .i64 k ∧ AccB wr ab (usL l (fun i => if i < k then cutU (usOf l) FL i else usOf l i)) ∧ Below w8.heap.size w8 wr)
      case atStart => exact ⟨0, by omega, rfl, rfl, by simpa using HA11.out, HB11.out⟩
      case round =>
        obtain ⟨k, hk, rfl, rfl, hac, hbv⟩ := hrel
        by_cases hlt : k < j
        · have hlt' : (k : Int) < j := by omega
          have hkl : k < l.length := by rw [HL.out]; exact hlt
          have c1 := hac.us hkl
          simp only [Nat.lt_irrefl, if_false] at c1
          have c2 := hac.free (k * 5 + 4)
          have hrm := rm_box HUN.out hfl0 k
          have hcu := cut_box HUN.out hfl0 k
          have hnx := rm_next (usOf l) FL k
          by_cases hgt : rm (usOf l) FL k < usOf l k
          · have hce : cutU (usOf l) FL k = rm (usOf l) FL k := if_pos hgt
            have HA2 : Hid (AccB (wr.setCell ⟨ab, k * 5 + 4, none⟩ (.int .u64 (rm (usOf l) FL k))) ab (usL l (fun i => if i < k + 1 then cutU (usOf l) FL i else usOf l i))) := hac.set hkl (by rw [if_pos (by omega), hce]) (fun i _ hne => by
              by_cases h : i < k
              · rw [if_pos h, if_pos (by omega)]
              · rw [if_neg h, if_neg (by omega)])
            have HB2 : Hid (Below w8.heap.size w8 (wr.setCell ⟨ab, k * 5 + 4, none⟩ (.int .u64 (rm (usOf l) FL k)))) := hbv.setCell HAB.out.1 _
            have HNX : Hid (rm (usOf l) FL (k + 1) = 0) := show rm (usOf l) FL (k + 1) = 0 by rw [hnx, hce]; omega
            have hz : IntKind.u64.wrap (rm (usOf l) FL k - rm (usOf l) FL k) = 0 := by rw [IntKind.wrap_u64]; omega
            clear hac hbv hrm hcu hnx hce
            obtain ⟨RM, hRM⟩ : ∃ x, rm (usOf l) FL k = x := ⟨_, rfl⟩
            obtain ⟨UK, hUK⟩ : ∃ x, usOf l k = x := ⟨_, rfl⟩
            rw [hRM] at hgt HA2 HB2 hz ⊢
            rw [hUK] at c1 hgt
            clear hRM hUK
            go_wp2
            go_roundg (j - (k + 1))
            case measure => omega
            case rel => exact ⟨k + 1, by omega, by rw [HNX.out], rfl, HA2.out, HB2.out⟩
          · have hce : cutU (usOf l) FL k = usOf l k := if_neg hgt
            have HA2 : Hid (AccB wr ab (usL l (fun i => if i < k + 1 then cutU (usOf l) FL i else usOf l i))) := by
              have : usL l (fun i => if i < k + 1 then cutU (usOf l) FL i else usOf l i) = usL l (fun i => if i < k then cutU (usOf l) FL i else usOf l i) := usL_congr (fun i _ => by
                by_cases h : i < k
                · rw [if_pos h, if_pos (by omega)]
                · rw [if_neg h]
                  by_cases e : i = k
                  · rw [if_pos (by omega), e, hce]
                  · rw [if_neg (by omega)])
              rw [this]
              exact hac
            have HB2 : Hid (Below w8.heap.size w8 wr) := hbv
            have HNX : Hid (rm (usOf l) FL (k + 1) = rm (usOf l) FL k - usOf l k) := by rw [hnx, hce]; exact rfl
            have hz : IntKind.u64.wrap (rm (usOf l) FL k - usOf l k) = rm (usOf l) FL k - usOf l k := by have := HUN.out k; rw [IntKind.wrap_u64]; omega
            clear hac hbv hrm hcu hnx hce
            obtain ⟨RM, hRM⟩ : ∃ x, rm (usOf l) FL k = x := ⟨_, rfl⟩
            obtain ⟨UK, hUK⟩ : ∃ x, usOf l k = x := ⟨_, rfl⟩
            rw [hRM, hUK] at hgt hz HNX
            rw [hRM]
            rw [hUK] at c1
            clear hRM hUK
            go_wp2
            go_roundg (j - (k + 1))
            case measure => omega
            case rel => exact ⟨k + 1, by omega, by rw [HNX.out], rfl, HA2.out, HB2.out⟩
        · obtain rfl : k = j := by omega
          have HAV : Hid (AccB wr ab (befL l FL)) := by
            have : befL l FL = usL l (fun i => if i < k then cutU (usOf l) FL i else usOf l i) := usL_congr (fun i hi => by rw [HL.out] at hi; rw [if_pos hi])
            rw [this]
            exact hac
          have HSV : Hid (St w w.heap.size cf wr) := show St w w.heap.size cf wr by
            obtain ⟨a0, a1, a2, a3, a4, a5, a6, a7, a8, a9⟩ := HS8.out
            have kk : ∀ {i : Nat} {v : Value}, w8.cell? ⟨w.heap.size, i, none⟩ = some v → wr.cell? ⟨w.heap.size, i, none⟩ = some v := fun h => keepC hbv h
            exact ⟨kk a0, kk a1, kk a2, kk a3, kk a4, kk a5, kk a6, kk a7, a8.trans (hbv.mono a9), Nat.le_trans a9 hbv.size⟩
          have hfa := HFU.out wr ab cap (cutU (usOf l) FL) HAV.out (bef_ok HUS.out hfl0) HSV.out.bel HAB.out.2
          obtain ⟨s0, s1, s2, s3, s4, s5, s6, s7, _, _⟩ := id HSV.out
          have hrm := rm_box HUN.out hfl0 k
          have hcu := cut_box HUN.out hfl0 i0
          have hrmi := rm_box HUN.out hfl0 i0
          clear hac hbv
          go_wp2_with fail
          refine hfa.mono ?_
          rintro e w12 ⟨h1, _, hb12⟩
          obtain ⟨bb, rfl, hbb, rB⟩ := h1 ⟨by rw [(usL_alike l _).load]; exact HE.out, HOK.out.2⟩
          have ew : wV (usL l (cutU (usOf l) FL)) (flZ cf) = FL := by rw [HFL.out]; exact bef_w HWU.out HUS.out hfl0
          rw [ew, usL_len, HL.out] at rB
          rw [usL_len, HL.out]
          have HRB : Hid (RowF w12 bb k (facV (befL l FL) FL)) := rB
          have hA12 : AccB w12 ab (befL l FL) := HAV.out.below hb12
          have hS12 : St w w.heap.size cf w12 := keepW HSV.out hb12
          have hablt : ab < wr.heap.size := HAV.out.lt
          have hkl : i0 < l.length := by rw [HL.out]; exact hi0
          have c1 := hA12.us hkl
          have c2 := hA12.free (i0 * 5 + 4)
          obtain ⟨RM, hRM⟩ : ∃ x, rm (usOf l) FL k = x := ⟨_, rfl⟩
          rw [hRM] at hrm ⊢
          have k1 : IntKind.u64.wrap (RM + 1) = RM + 1 := by rw [IntKind.wrap_u64]; omega
          have k2 : ¬ (RM + 1 = 0) := by omega
          have hx0 := Int.emod_nonneg more k2
          have hx1 := Int.emod_lt_of_pos more (show 0 < RM + 1 by omega)
          have k3 : more.tmod (RM + 1) = more % (RM + 1) := Int.tmod_eq_emod_of_nonneg hm1
          obtain ⟨X, hX⟩ : ∃ x, more % (RM + 1) = x := ⟨_, rfl⟩
          rw [hX] at hx0 hx1 k3
          have k4 : IntKind.u64.wrap X = X := by rw [IntKind.wrap_u64]; omega
          have k5 : IntKind.u64.wrap (cutU (usOf l) FL i0 + X) = cutU (usOf l) FL i0 + X := by rw [IntKind.wrap_u64]; omega
          have hxr : X ≤ rm (usOf l) FL l.length := by rw [HL.out, hRM]; omega
          obtain ⟨w13, hw13⟩ : ∃ w13, (w12.setCell ⟨ab, i0 * 5 + 4, none⟩ (.int .u64 (cutU (usOf l) FL i0 + X))).drew = w13 := ⟨_, rfl⟩
          have hA13 : AccB w13 ab (aftL l FL i0 X) := by
            rw [← hw13]
            exact (hA12.set hkl (u' := fun j => if j = i0 then cutU (usOf l) FL j + X else cutU (usOf l) FL j) (by rw [if_pos rfl]) (fun i _ hne => if_neg hne)).below (drew_below _)
          have hbab : bb ≠ ab := by omega
          have HRB3 : Hid (RowF w13 bb k (facV (befL l FL) FL)) := show RowF w13 bb k _ by rw [← hw13]; exact (HRB.out.other hbab).below (drew_below _)
          have hw8ab := HAB.out.1
          have HS13 : Hid (St w w.heap.size cf w13) := show St w w.heap.size cf w13 by
            rw [← hw13]
            obtain ⟨a0, a1, a2, a3, a4, a5, a6, a7, a8, a9⟩ := hS12
            have hz8 : w.heap.size < w8.heap.size := World.block_lt_of_cell? w8 _ HS8.out.1
            have hne : w.heap.size ≠ ab := by omega
            exact ⟨far_cell a0 (.inl hne), far_cell a1 (.inl hne), far_cell a2 (.inl hne), far_cell a3 (.inl hne), far_cell a4 (.inl hne), far_cell a5 (.inl hne), far_cell a6 (.inl hne), far_cell a7 (.inl hne), (a8.setCell (by simp; omega) _).drew, by simpa using a9⟩
          have hfa2 := HFU.out w13 ab cap (fun j => if j = i0 then cutU (usOf l) FL j + X else cutU (usOf l) FL j) hA13 (aft_ok HUS.out hfl0 hfl2.2 hx0 hxr) HS13.out.bel HAB.out.2
          have HXR : Hid (0 ≤ X ∧ X ≤ rm (usOf l) FL l.length ∧ i0 < l.length) := ⟨hx0, hxr, hkl⟩
          obtain ⟨CU, hCU⟩ : ∃ x, cutU (usOf l) FL i0 = x := ⟨_, rfl⟩
          have c1' : w12.cell? ⟨ab, i0 * 5 + 4, none⟩ = some (.int .u64 CU) := by rw [← hCU]; exact c1
          rw [hCU] at k5 hw13
          have hi0' : (i0 : Int) < k := by omega
          clear h1 hfa hb12 rB ew HRB hA12 hS12 hablt c1 hrm hcu hrmi hx0 hx1 hX hRM hxr hA13 hbab hw8ab hCU s0 s1 s2 s3 s4 s5 s6 s7 hkl
          go_upto_region 38 with fail
          go_region
          all_goals
            obtain ⟨s0, s1, s2, s3, s4, s5, s6, s7, _, _⟩ := id HS13.out
            go_wp2_with fail
            refine hfa2.mono ?_
            rintro e w14 ⟨h1, _, hb14⟩
            obtain ⟨gb, rfl, _, rG⟩ := h1 ⟨by rw [(usL_alike l _).load]; exact HE.out, HOK.out.2⟩
            have ew : wV (aftL l FL i0 X) (flZ cf) = FL := by rw [HFL.out]; exact aft_w HWU.out HUS.out hfl0 hfl2.2 HXR.out.2.2 HXR.out.1 HXR.out.2.1
            rw [show usL l (fun j => if j = i0 then cutU (usOf l) FL j + X else cutU (usOf l) FL j) = aftL l FL i0 X from rfl, ew] at rG
            rw [show (usL l (fun j => if j = i0 then cutU (usOf l) FL j + X else cutU (usOf l) FL j)).length = k by rw [usL_len, HL.out]]
            have HRG : Hid (RowF w14 gb k (facV (aftL l FL i0 X) FL)) := by
              have : (aftL l FL i0 X).length = k := by rw [aftL, usL_len, HL.out]
              rw [this] at rG
              exact rG
            have HRB4 : Hid (RowF w14 bb k (facV (befL l FL) FL)) := HRB3.out.below hb14
            have HB14 : Hid (Below w.heap.size w w14) := (keepW HS13.out hb14).bel
            clear h1 hfa2 hb14 rG ew s0 s1 s2 s3 s4 s5 s6 s7 c1' c2
            go_wp2
            go_loopg [23] k (fun gk x wz => ∃ n : Nat, n + gk = k ∧ x = .int .i64 n ∧ Below w14.heap.size w14 wz)
            case atStart => exact ⟨0, by omega, rfl, Below.refl _ _⟩
            case round =>
              obtain ⟨n, hn, rfl, hbn⟩ := hrel
              by_cases hlt : n < k
              · have hlt' : (n : Int) < k := by omega
                have y1 := (HRG.out.below hbn).cell hlt
                have y2 := (HRB4.out.below hbn).cell hlt
                have hle := aft_fac (i := i0) (x := X) HWU.out hfl0 HXR.out.1 (n := n) (by rw [HL.out]; exact hlt)
                have hle2 : ¬ facV (befL l FL) FL n < facV (aftL l FL i0 X) FL n := by omega
                have HBN : Hid _ := hbn
                clear hbn hle
                generalize facV (befL l FL) FL n = FB at *
                generalize facV (aftL l FL i0 X) FL n = FA at *
                go_upto_region 45 with fail
                go_quiet (fail)
                have HBR : Hid (Below w14.heap.size w14 (wr.drewN nq)) := below_drewN HBN.out _
                clear y1 y2
                go_wp2
                go_roundg (k - (n + 1))
                case measure => omega
                case rel => exact ⟨n + 1, by omega, rfl, HBR.out⟩
              · have HBN : Hid (Below w.heap.size w wr) := HB14.out.trans (hbn.mono HB14.out.size)
                clear hbn
                go_wp2
                go_ret
                exact ⟨rfl, HBN.out⟩
end Go.Proofs.YtioldijdmefljaaDoor
