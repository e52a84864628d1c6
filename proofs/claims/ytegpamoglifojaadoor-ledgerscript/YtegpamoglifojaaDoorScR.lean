/-
  THE STATEMENT LedgerScript: the walk.
-/
import Derived.Test.YtegpamoglifojaaDoorScF
import Derived.Test.YtegpamoglifojaaDoorLgb
namespace Go.Proofs.YtegpamoglifojaaDoor
open Go.RowKit Wd Ld Cg Lg

section
variable {c : Cf} {F : Int} {B N : Nat} {own : Nat → Lb} {f : Nat → Pt} {vA vB : Value} {W W' : World} {i : Nat}
/-- What region 23 reads. -/
def RdS (wb bA bB i pt pd : Nat) (x : Ax) (w' : World) : Prop := w'.cell? ⟨wb, 0, none⟩ = some (.int .i64 x.kd) ∧ w'.cell? ⟨wb, 1, none⟩ = some (.int .i64 x.wh) ∧ w'.cell? ⟨wb, 2, none⟩ = some (.int .i64 x.ac) ∧ w'.cell? ⟨wb, 3, none⟩ = some (.int .i64 x.nd) ∧ w'.cell? ⟨bA, i, none⟩ = some (.pointer (some ⟨pt, 0, none⟩)) ∧ w'.cell? ⟨bB, i, none⟩ = some (.pointer (some ⟨pd, 0, none⟩))
theorem Fam.cells {bA bB cA cB pt pd : Nat} (h : Fam c F B N own f (.slice (some ⟨bA, 0, none⟩) N cA) (.slice (some ⟨bB, 0, none⟩) N cB) W) (hi : i < N) (hpt : (f i).t = pt) (hpd : (f i).d = pd) : W.cell? ⟨bA, i, none⟩ = some (.pointer (some ⟨pt, 0, none⟩)) ∧ W.cell? ⟨bB, i, none⟩ = some (.pointer (some ⟨pd, 0, none⟩)) := by
  subst hpt hpd
  constructor
  · rw [h.rowA.cellAt i (by omega)]; simp [ptrT, hi]
  · rw [h.rowB.cellAt i (by omega)]; simp [ptrD, hi]
theorem rds_of {wb bA bB cA cB pt pd : Nat} {x : Ax} (h : Fam c F B N own f (.slice (some ⟨bA, 0, none⟩) N cA) (.slice (some ⟨bB, 0, none⟩) N cB) W) (hi : i < N) (hpt : (f i).t = pt) (hpd : (f i).d = pd) (hc : AxB wb x W) : RdS wb bA bB i pt pd x W :=
  ⟨hc.c0, hc.c1, hc.c2, hc.c3, (h.cells hi hpt hpd).1, (h.cells hi hpt hpd).2⟩
theorem Fam.shape (h : Fam c F B N own f vA vB W) (hN : 1 ≤ N) : ∃ bA cA bB cB, vA = .slice (some ⟨bA, 0, none⟩) N cA ∧ vB = .slice (some ⟨bB, 0, none⟩) N cB := by
  obtain ⟨bA, cA, e1, _⟩ := ptr_at h.rowA hN
  obtain ⟨bB, cB, e2, _⟩ := ptr_at h.rowB hN
  exact ⟨bA, cA, bB, cB, e1, e2⟩
theorem act_fam (hc : c.nodes < 9223372036854775808) (hF : Word F) (h : Fam c F B N own f vA vB W) (hB : B ≤ W.heap.size) (hi : i < N) {pt pd : Nat} (hpt : (f i).t = pt) (hpd : (f i).d = pd) (x : Ax) :
    Calls Tryd.prog 15 #[axV x, .pointer (some ⟨pt, 0, none⟩), .pointer (some ⟨pd, 0, none⟩)] W fun e w' => e = .returned (.bool true) ∧ ∃ own' f', Fam c F B N own' f' vA vB w' ∧ (f' i).t = pt ∧ (f' i).d = pd ∧ (∀ b y, own b = .x → AxB b y W → AxB b y w') ∧ Below B W w' := by
  subst hpt hpd
  have hp := h.ok i hi
  refine (act_any hc hF hp.tr hp.rf hp.apt hB hp.few x).mono fun e w' ⟨he, l', tv', dv', m, hm, hf, ht, hr, hv, hv', cc⟩ => ⟨he, _, _, h.turned hi hm hf ht hr hv hv' cc, by simp, by simp, fun b y hb hy => hy.kept cc (fun x => ?_), cc.below (Below.refl _ W) hB (fun k x => ?_)⟩
  · rcases x with x | x
    · have := hp.tl b x
      rw [hb] at this
      cases this
    · have := hp.rl b x
      rw [hb] at this
      cases this
  · rcases x with x | x
    · exact hp.tr.lk_lo k x
    · exact hp.rf.lk_lo k x
theorem same_fam (h : Fam c F B N own f vA vB W) (hi : i < N) {pt pd : Nat} (hpt : (f i).t = pt) (hpd : (f i).d = pd) :
    Calls Tryd.prog 16 #[.pointer (some ⟨pt, 0, none⟩), .pointer (some ⟨pd, 0, none⟩)] W fun e w' => e = .returned (.bool true) ∧ Below W.heap.size W w' := by
  subst hpt hpd
  have hp := h.ok i hi
  exact same_any hp.tr hp.rf
/-- The sums of a pair. -/
theorem sum_fam (h : Fam c F B N own f vA vB W) (hi : i < N) {pt pd : Nat} (hpt : (f i).t = pt) (hpd : (f i).d = pd) {so : Option Addr} {ss : List Int} {cs : Nat} (hS : IntsAt W so ss) (hl : ss.length ≤ 140737488355328) :
    ∃ U : Int, Calls Tryd.prog 17 #[.pointer (some ⟨pt, 0, none⟩), .slice so ss.length cs] W (fun e w' => e = .returned (.int .u64 U) ∧ w' = W) ∧ Calls Tryd.prog 18 #[.pointer (some ⟨pd, 0, none⟩), .slice so ss.length cs] W (fun e w' => e = .returned (.int .u64 U) ∧ w' = W) := by
  subst hpt hpd
  have hp := h.ok i hi
  exact ⟨_, sum_any hp.tr hS hl, rsum_any hp.rf hS hl⟩
end
theorem Tryd.inf29 : (Tryd.prog.info? 29).map (fun i => (i.zero, i.size, i.bytes)) = some (some (.pointer none), 1, 8) := by kernel_rfl
theorem Tryd.inf33 : (Tryd.prog.info? 33).map (fun i => (i.zero, i.size, i.bytes)) = some (some (.pointer none), 1, 8) := by kernel_rfl
theorem wd7 : Word 7 := ⟨by omega, by omega⟩
/-- The first of a row of one more. -/
theorem WdsAt.front {W : World} {B g c q : Nat} {us : List Int} {vs : List Value} (hq : us.length = q) (h : W.ownsRow B 28 1 (.slice (some ⟨g, 0, none⟩) (q + 1) c) (q + 1) (u64s us ++ vs)) : WdsAt W (some ⟨g, 0, none⟩) us := by
  refine ⟨g, 0, fun _ => rfl, fun k n hn => ?_⟩
  have hk := (List.getElem?_eq_some_iff.1 hn).1
  rw [Nat.zero_add, h.cellAt k (by omega), List.getElem?_append_left (by rw [u64s_len]; exact hk), u64s_at hn]
/-- A row that is its caller's, whatever it holds. -/
def RowE (W : World) (B : Nat) (v : Value) (n : Nat) : Prop := ∃ vs, W.ownsRow B 28 1 v n vs
theorem RowE.at {W : World} {B g n c j : Nat} (h : RowE W B (.slice (some ⟨g, 0, none⟩) n c) n) (hj : j < n) : B ≤ g ∧ g < W.heap.size ∧ (∃ x, W.cell? ⟨g, j, none⟩ = some x) ∧ W.frozen? ⟨g, j, none⟩ = false := by
  obtain ⟨vs, h⟩ := h
  have hl := h.1
  obtain ⟨x, hx⟩ : ∃ x, vs[j]? = some x := ⟨_, List.getElem?_eq_getElem (by omega)⟩
  exact ⟨(h.lt g rfl).1, (h.lt g rfl).2, ⟨x, by rw [h.cellAt j (by omega)]; exact hx⟩, h.frozenAt j⟩
theorem RowE.set {W : World} {B g n c : Nat} (h : RowE W B (.slice (some ⟨g, 0, none⟩) n c) n) (j : Nat) (u : Value) : RowE (W.setCell ⟨g, j, none⟩ u) B (.slice (some ⟨g, 0, none⟩) n c) n := by
  obtain ⟨vs, h⟩ := h
  exact ⟨_, (h.stored j u).1⟩
theorem St.eight {w x : World} {g : Nat} {c : Cf} (h : St w g c x) : x.cell? ⟨g, 0, none⟩ = some (.int .i64 c.nodes) ∧ x.cell? ⟨g, 1, none⟩ = some (.int .i64 c.queue) ∧ x.cell? ⟨g, 2, none⟩ = some (.int .i64 c.limit) ∧ x.cell? ⟨g, 3, none⟩ = some (.int .i64 c.age) ∧ x.cell? ⟨g, 4, none⟩ = some (.int .i64 c.fair) ∧ x.cell? ⟨g, 5, none⟩ = some (.int .i64 c.size) ∧ x.cell? ⟨g, 6, none⟩ = some (.int .i64 c.period) ∧ x.cell? ⟨g, 7, none⟩ = some (.int .i64 c.half) := by
  obtain ⟨h0, h1, h2, h3, h4, h5, h6, h7, _⟩ := h
  exact ⟨h0, h1, h2, h3, h4, h5, h6, h7⟩
set_option maxRecDepth 20000 in
set_option maxHeartbeats 1500000 in
theorem script_refused {w : World} (hT : Tab w) {uo ao so : Option Addr} {us : List Int} {m n cu ca cs : Nat} (hU : WdsAt w uo us) (hun : uo = none → us.length = 0 ∧ cu = 0) (hul : us.length * 8 ≤ 140737488351232) (c : Cf) {E : Int}
    (hn : ∀ (ao : Option Addr) (cp : Nat) (w : World), Calls Tryd.prog 9 #[cfV c, .slice ao us.length cp] w fun e w' => e = .returned (.tuple #[.pointer none, .int .i64 E]) ∧ Below w.heap.size w w')
    (hr : ∀ (ao : Option Addr) (cp : Nat) (w : World), Calls Tryd.prog 10 #[cfV c, .slice ao us.length cp] w fun e w' => e = .returned (.tuple #[.pointer none, .int .i64 E]) ∧ Below w.heap.size w w') :
    Calls Tryd.prog 3 #[cfV c, .slice uo us.length cu, .slice ao m ca, .slice so n cs] w fun e w' => e = .returned (.bool true) ∧ Below w.heap.size w w' := by
  obtain ⟨i28, hi0, hz0, hz1, hz2⟩ := info_parts Tryd.inf28
  unfold cfV at *
  have hS := St.new w c
  obtain ⟨q, hq⟩ : ∃ q, us.length = q := ⟨_, rfl⟩
  rw [hq] at hun hul hn hr ⊢
  have HQ : Hid (us.length = q) := hq
  have HUN : Hid (uo = none → q = 0 ∧ cu = 0) := hun
  have HFL : Hid ((u64s us).length = q * 1) := show (u64s us).length = q * 1 by rw [u64s_len]; omega
  have HUL2 : Hid (((q + 1) + (q + 1) / 4 + 192) * 8 ≤ 281474976710656) := show ((q + 1) + (q + 1) / 4 + 192) * 8 ≤ 281474976710656 by omega
  clear hq hun
  go_enter Tryd.func3, Tryd.ntmps3
  go_wp2_with fail
  refine (shown_any _ (Tab.below hS.bel hT)).mono ?_
  rintro e w1 ⟨rfl, b1⟩
  replace hS := keepW hS b1
  have hu1 := hU.below hS.bel
  have HU1 : Hid (WdsAt w1 uo us) := hu1
  have HS1 : Hid (St w w.heap.size c w1) := hS
  have hsz := hS.bel.size
  clear b1 hS hu1
  go_wp2_with (first
    | (at_builtin; refine wpList_append_any rfl (.const (.slice none 0 0)) (.tmp 23) 24 rfl w1.heap.size 28 i28 _ 1 8 Tryd.underlying24 hi0 hz0 hz1 hz2 rfl (by decide) (.slice none 0 0) 0 [] rfl (World.ownsRow_nil _ _ _ _) uo q cu (u64s us) rfl HUN.out HFL.out (WdsAt.cells HU1.out) (u64s_one us) (Nat.le_trans (m := 35184372088832) (by omega) (by decide)) (by omega) (Nat.le_refl _) ?_; intro v2 w2 o2 g2; rw [Nat.zero_add, List.nil_append] at o2; have b2 : Below w1.heap.size w1 w2 := (Below.refl _ w1).grown g2 (Nat.le_refl _) (fun k e => by simp [Value.ownBlock] at e); have z2 := b2.size)
    | (at_builtin; refine wpList_append_own_wide _ rfl (.tmp 24) (.tmp 25) 24 rfl w1.heap.size 28 i28 _ 1 8 Tryd.underlying24 hi0 hz0 hz1 hz2 rfl (by decide) v2 q (u64s us) rfl (o2.alloc _) ⟨w2.heap.size, 0, none⟩ 1 1 [.int .u64 7] rfl rfl (cell_one_new _ _ _) (fun u hu => by simp at hu; subst hu; rfl) (Nat.le_trans (m := 35184372088832) (by omega) (by decide)) HUL2.out (by simp; omega) ?_; intro v3 w3 o3 g3 _; have b3 : Below w1.heap.size w1 w3 := (b2.alloc z2 _).grown g3 (by simp; omega) (fun k e => (o2.lt k e).1)))
  obtain ⟨g, c3, e3, l3⟩ := own_some o3
  subst e3
  have S3 := keepW HS1.out b3
  have z3 := b3.size
  have Hb3 : Hid (Below w1.heap.size w1 w3) := b3
  have HO3 : Hid (w3.ownsRow w1.heap.size 28 1 (.slice (some ⟨g, 0, none⟩) (q + 1) c3) (q + 1) (u64s us ++ [.int .u64 7])) := o3
  have hg1 := (o3.lt g rfl).1
  have hg3 := (o3.lt g rfl).2
  have S3d : Hid (St w w.heap.size c w3.drew) := keepW S3 (drew_below w3)
  have hUo : WdsAt w3.drew (some ⟨g, 0, none⟩) us := (WdsAt.front HQ.out o3).below (drew_below w3)
  have q0 : (0 : Int) ≤ (q : Int) := by omega
  have q1 : (q : Int) ≤ c3 := by omega
  clear o3 g3 b3 b2 o2 g2 S3
  go_region_held3 (fun w' => w'.cell? ⟨w.heap.size, 0, none⟩ = some (.int .i64 c.nodes) ∧ w'.cell? ⟨w.heap.size, 1, none⟩ = some (.int .i64 c.queue) ∧ w'.cell? ⟨w.heap.size, 2, none⟩ = some (.int .i64 c.limit) ∧ w'.cell? ⟨w.heap.size, 3, none⟩ = some (.int .i64 c.age) ∧ w'.cell? ⟨w.heap.size, 4, none⟩ = some (.int .i64 c.fair) ∧ w'.cell? ⟨w.heap.size, 5, none⟩ = some (.int .i64 c.size) ∧ w'.cell? ⟨w.heap.size, 6, none⟩ = some (.int .i64 c.period) ∧ w'.cell? ⟨w.heap.size, 7, none⟩ = some (.int .i64 c.half))
    (first | exact St.eight S3d.out | exact St.eight S4)
    (first | (go_at_call 9; refine (hn _ _ _).mono ?_; rintro e w4 ⟨rfl, b4⟩; have S4 := keepW S3d.out b4))
  all_goals
    have HS4 : Hid (St w w.heap.size c w4) := S4
    have B34 : Below w3.heap.size w3 w4 := (drew_below w3).trans b4
    have HU4 : Hid (WdsAt w4 (some ⟨g, 0, none⟩) us) := hUo.below b4
    have HV4 : Hid (WdsAt w4 uo us) := (HU1.out.below Hb3.out).below B34
    have O4 := row_kept HO3.out B34
    have y7 : w4.cell? ⟨g, q, none⟩ = some (.int .u64 7) := by
      rw [O4.cellAt q (by omega), List.getElem?_append_right (by rw [u64s_len, HQ.out]; omega), u64s_len, HQ.out, Nat.sub_self]
      rfl
    obtain ⟨s0, s1, s2, s3, s4, s5, s6, s7, _⟩ := id S4
    clear S4 b4 B34 O4 hUo
    go_wp2_with fail
    refine (hr _ _ _).mono ?_
    rintro e w5 ⟨rfl, b5⟩
    have y75 := cellB b5 y7
    have hus := usages_any (c := c3) (c' := cu) (HU4.out.below b5) (HV4.out.below b5) (by rw [HQ.out]; omega)
    rw [HQ.out] at hus
    have HB5 : Hid (Below w.heap.size w w5) := (keepW HS4.out b5).bel
    clear s0 s1 s2 s3 s4 s5 s6 s7 y7 b5
    go_wp2_with fail
    refine hus.mono ?_
    rintro e w6 ⟨rfl, b6⟩
    have y76 := cellB b6 y75
    have HB6 : Hid (Below w.heap.size w w6) := HB5.out.trans (b6.mono HB5.out.size)
    clear y75 b6 hus
    go_wp2
    go_ret
    exact ⟨rfl, HB6.out⟩
end Go.Proofs.YtegpamoglifojaaDoor
