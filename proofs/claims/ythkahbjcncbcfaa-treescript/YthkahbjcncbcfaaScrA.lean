/-
  TreeScript: the walk.
-/
import Derived.Test.YthkahbjcncbcfaaScF
import Derived.Test.YthkahbjcncbcfaaShB
import Derived.Deep.RegionHeld3
namespace Go.Proofs.Ythkahbjcncbcfaa
open Go.RowKit Tr

/-- What region 12 reads. -/
def RdS (wb bA bB i pt pd : Nat) (x : Ax) (w' : World) : Prop := w'.cell? ⟨wb, 0, none⟩ = some (.int .i64 x.kd) ∧ w'.cell? ⟨wb, 1, none⟩ = some (.int .i64 x.wh) ∧ w'.cell? ⟨wb, 2, none⟩ = some (.string x.nm) ∧ w'.cell? ⟨wb, 3, none⟩ = some (.string x.pn) ∧ w'.cell? ⟨wb, 4, none⟩ = some (.int .i64 x.n) ∧ w'.cell? ⟨bA, i, none⟩ = some (.pointer (some ⟨pt, 0, none⟩)) ∧ w'.cell? ⟨bB, i, none⟩ = some (.pointer (some ⟨pd, 0, none⟩))
section
variable {B N : Nat} {own : Nat → Lb} {f : Nat → Pt} {vA vB : Value} {W W' : World} {i : Nat}
theorem Fam.cells {bA bB cA cB pt pd : Nat} (h : Fam B N own f (.slice (some ⟨bA, 0, none⟩) N cA) (.slice (some ⟨bB, 0, none⟩) N cB) W) (hi : i < N) (hpt : (f i).t = pt) (hpd : (f i).d = pd) : W.cell? ⟨bA, i, none⟩ = some (.pointer (some ⟨pt, 0, none⟩)) ∧ W.cell? ⟨bB, i, none⟩ = some (.pointer (some ⟨pd, 0, none⟩)) := by
  subst hpt hpd
  constructor
  · rw [h.rowA.cellAt i (by omega)]; simp [ptrT, hi]
  · rw [h.rowB.cellAt i (by omega)]; simp [ptrD, hi]
theorem rds_of {wb bA bB cA cB pt pd : Nat} {x : Ax} (h : Fam B N own f (.slice (some ⟨bA, 0, none⟩) N cA) (.slice (some ⟨bB, 0, none⟩) N cB) W) (hi : i < N) (hpt : (f i).t = pt) (hpd : (f i).d = pd) (hc : AxB wb x W) : RdS wb bA bB i pt pd x W :=
  ⟨hc.c0, hc.c1, hc.c2, hc.c3, hc.c4, (h.cells hi hpt hpd).1, (h.cells hi hpt hpd).2⟩
theorem Fam.shape (h : Fam B N own f vA vB W) (hN : 1 ≤ N) : ∃ bA cA bB cB, vA = .slice (some ⟨bA, 0, none⟩) N cA ∧ vB = .slice (some ⟨bB, 0, none⟩) N cB := by
  obtain ⟨bA, cA, e1, _⟩ := ptr_at h.rowA hN
  obtain ⟨bB, cB, e2, _⟩ := ptr_at h.rowB hN
  exact ⟨bA, cA, bB, cB, e1, e2⟩
theorem act_fam (h : Fam B N own f vA vB W) (hB : B ≤ W.heap.size) (hi : i < N) {pt pd : Nat} (hpt : (f i).t = pt) (hpd : (f i).d = pd) (a : Ax) (ha : OkAx a) :
    Calls Try.prog 14 #[axV a, .pointer (some ⟨pt, 0, none⟩), .pointer (some ⟨pd, 0, none⟩)] W fun e w' => e = .returned (.bool true) ∧ ∃ own' f', Fam B N own' f' vA vB w' ∧ (f' i).t = pt ∧ (f' i).d = pd ∧ (∀ b y, own b = .x → AxB b y W → AxB b y w') ∧ Below B W w' := by
  subst hpt hpd
  have hp := h.ok i hi
  have hT : Tree (fun k => own k = .p i ∧ B ≤ k ∧ k < W.heap.size) W (f i).t (f i).l (kidB (f i).l) := hp.tr.mono (fun j hj e => ⟨e.1, e.2, hj⟩)
  refine (act_any hT hp.rf hp.wf (fun k e => ⟨e.2.2, fun x => ?_⟩) hB a ha).mono fun e w' ⟨he, l', v', m, hm, hw, ht, hr, hv, c⟩ => ⟨he, _, _, h.turned hB hi hm hw ht hr hv c, by simp, by simp, fun b y hb hy => hy.kept c (fun x => ?_), c.below (Below.refl _ W) hB (fun k x => ?_)⟩
  · have := hp.rl k x
    rw [e.1] at this
    cases this
  · rcases x with x | x
    · rw [hb] at x
      cases x.1
    · have := hp.rl b x
      rw [hb] at this
      cases this
  · rcases x with x | x
    · exact x.2.1
    · rcases x with rfl | x
      · exact hp.rf.lo
      · exact (row_block hp.rf.row x).1
theorem same_fam (h : Fam B N own f vA vB W) (hi : i < N) {pt pd : Nat} (hpt : (f i).t = pt) (hpd : (f i).d = pd) :
    Calls Try.prog 15 #[.pointer (some ⟨pt, 0, none⟩), .pointer (some ⟨pd, 0, none⟩)] W fun e w' => e = .returned (.bool true) ∧ Below W.heap.size W w' := by
  subst hpt hpd
  have hp := h.ok i hi
  exact same_any hp.tr hp.rf.ref hp.wf
theorem own_some {e n : Nat} {v : Value} {vs : List Value} (h : W.ownsRow B e 1 v (n + 1) vs) : ∃ b cap, v = .slice (some ⟨b, 0, none⟩) (n + 1) cap ∧ n + 1 ≤ cap := by
  rcases h.2 with ⟨_, h0⟩ | ⟨b, cap, cur, h1, _, _, hc, _⟩
  · omega
  · exact ⟨b, cap, h1, hc⟩
end
theorem Try.inf24 : (Try.prog.info? 24).map (fun i => (i.zero, i.size, i.bytes)) = some (some (.pointer none), 1, 8) := by kernel_rfl
theorem Try.inf27 : (Try.prog.info? 27).map (fun i => (i.zero, i.size, i.bytes)) = some (some (.pointer none), 1, 8) := by kernel_rfl

set_option maxHeartbeats 8000000 in
set_option maxRecDepth 20000 in
theorem script_any {w : World} {ao : Option Addr} {xs : List Ax} {c : Nat} (hA : ActsAt w ao xs) (hok : ∀ a ∈ xs, OkAx a) (hn : xs.length * 56 ≤ 140737488355328) :
    Calls Try.prog 3 #[.slice ao xs.length c] w fun e w' => e = .returned (.bool true) ∧ Below w.heap.size w w' := by
  obtain ⟨iA, hiA, hzA0, hzA1, hzA2⟩ := info_parts Try.inf24
  obtain ⟨iB, hiB, hzB0, hzB1, hzB2⟩ := info_parts Try.inf27
  obtain ⟨g, o, hg, hc⟩ := hA
  obtain ⟨n, hq⟩ : ∃ n, xs.length = n := ⟨_, rfl⟩
  have HQ : Hid (xs.length = n) := hq
  rw [hq] at hg hn ⊢
  have HC : Hid _ := hc
  have HOK : Hid _ := hok
  have HG : Hid _ := hg
  clear hc hok hq hg
  go_enter Try.func3, Try.ntmps3
  go_wp2_with fail
  refine (shown_any w).mono ?_
  rintro e w1 ⟨rfl, b1⟩
  go_wp2_with (first
    | (go_at_call 9; refine (tnew _).mono ?_; rintro e w2 ⟨t, rfl, t2, b2⟩)
    | (go_at_call 10; refine (rnew_any _).mono ?_; rintro e w3 ⟨d, v, rfl, r3, b3⟩))
  have s1 := b1.size
  obtain ⟨own0, hF0⟩ := fam_start (B := w.heap.size) t2 s1 b2 r3 b3
  have hb0 : Below w.heap.size w (w3.alloc (.cells #[.pointer (some ⟨d, 0, none⟩)] 27)) := by
    have c1 := b1.trans (b2.mono b1.size)
    have c2 := c1.alloc c1.size (.cells #[.pointer (some ⟨t, 0, none⟩)] 24)
    have c3 := c2.trans (b3.mono c2.size)
    exact c3.alloc c3.size _
  have F0 : Hid _ := hF0
  have B0 : Hid _ := hb0
  clear hF0 hb0 t2 r3 b2 b3
  go_loopg [3, 4, 17] n (fun gk vA vB cc wr => ∃ (k N : Nat) (own : Nat → Lb) (F : Nat → Pt), k + gk = n ∧ cc = .int .i64 k ∧ 1 ≤ N ∧ N ≤ 5 ∧ Fam w.heap.size N own F vA vB wr ∧ Below w.heap.size w wr)
  case atStart => exact ⟨0, 1, own0, _, by omega, rfl, by omega, by omega, F0.out, B0.out⟩
  case round =>
    clear F0 B0
    obtain ⟨k, N, own, F, hk, rfl, hN1, hN5, hF, hbw⟩ := hrel
    by_cases hlt : k < n
    · have hlt' : (k : Int) < n := by omega
      obtain ⟨a, ha⟩ : ∃ a, xs[k]? = some a := ⟨_, List.getElem?_eq_getElem (by rw [HQ.out]; omega)⟩
      have hoa := HOK.out a (List.mem_of_getElem? ha)
      have HOA : Hid (OkAx a) := hoa
      obtain rfl := HG.out (by omega)
      obtain ⟨x0, x1, x2, x3, x4⟩ := (HC.out k a ha).below hbw (Nat.le_refl _)
      obtain ⟨bA, cA, bB, cB, eA, eB⟩ := hF.shape hN1
      subst eA eB
      obtain ⟨wn, hwn⟩ : ∃ wn, wr.alloc (.cells #[.int .i64 a.kd, .int .i64 a.wh, .string a.nm, .string a.pn, .int .i64 a.n] 31) = wn := ⟨_, rfl⟩
      have bwn : Below wr.heap.size wr wn := by rw [← hwn]; exact (Below.refl _ _).alloc (Nat.le_refl _) _
      have hCp : AxB wr.heap.size a wn := by rw [← hwn]; exact heap_alloc_new _ _
      obtain ⟨own1, ho1⟩ : ∃ own1 : Nat → Lb, own1 = fun k => if k < wr.heap.size then own k else .x := ⟨_, rfl⟩
      have hFn : Fam w.heap.size N own1 F (.slice (some ⟨bA, 0, none⟩) N cA) (.slice (some ⟨bB, 0, none⟩) N cB) wn := (hF.relb (fun k hk => by rw [ho1]; simp [hk])).below bwn
      have HX : Hid (own1 wr.heap.size = .x) := show own1 wr.heap.size = .x by rw [ho1]; simp
      have hbn : Below w.heap.size w wn := hbw.trans (bwn.mono hbw.size)
      have y0 := hCp.c0
      have y1 := hCp.c1
      obtain ⟨ha0, ha1⟩ := amgV_in a.wh N (by omega)
      obtain ⟨i, hi⟩ : ∃ i : Nat, amgV a.wh N = i := ⟨(amgV a.wh N).toNat, by omega⟩
      rw [hi] at ha0 ha1
      have hiN : i < N := by omega
      have hw1 := among_any a.wh N wn (by omega) (by omega)
      rw [hi] at hw1
      have hw2 := among_any a.kd 6 wn (by omega) (by omega)
      obtain ⟨hk0, hk6⟩ := amgV_in a.kd 6 (by omega)
      have FN : Hid (Fam w.heap.size N own1 F (.slice (some ⟨bA, 0, none⟩) N cA) (.slice (some ⟨bB, 0, none⟩) N cB) wn) := hFn
      have CP : Hid (AxB wr.heap.size a wn) := hCp
      have BN : Hid (Below w.heap.size w wn) := hbn
      have hbx : wr.heap.size < wn.heap.size := (Array.getElem?_eq_some_iff.1 hCp).1
      clear hF hbw hFn hCp hbn bwn hi ho1 ha hoa
      by_cases hcl : amgV a.kd 6 = 5 ∧ N < 5
      · obtain ⟨h4, h6⟩ := hcl
        have h6' : (N : Int) < 5 := by omega
        rw [h4] at hw2
        have hiN1 : i < N + 1 := by omega
        have hp0 := FN.out.ok i hiN
        obtain ⟨pt, hpt⟩ : ∃ pt, (F i).t = pt := ⟨_, rfl⟩
        obtain ⟨pd, hpd⟩ : ∃ pd, (F i).d = pd := ⟨_, rfl⟩
        obtain ⟨u5, u6⟩ := FN.out.cells hiN hpt hpd
        have hc5 := tclone hp0.tr hp0.wf
        rw [hpt] at hc5
        have hl48 : (F i).l.length * 48 ≤ 140737488355328 := by have := hp0.wf.len; omega
        have HPT : Hid _ := hpt
        have HPD : Hid _ := hpd
        clear hp0 hpt hpd
        go_wp2_with (first
          | (go_at_call_of 11 (Value.int IntKind.i64 a.wh); refine hw1.mono ?_; rintro e w5 ⟨rfl, rfl⟩)
          | (go_at_call_of 11 (Value.int IntKind.i64 a.kd); refine hw2.mono ?_; rintro e w5 ⟨rfl, rfl⟩)
          | (go_at_call 12; refine hc5.mono ?_; rintro e w5 ⟨t', rfl, r5, b5⟩; have ra5 := (Fam.below FN.out b5).rowA; have s5 := Nat.le_trans BN.out.size b5.size)
          | (at_builtin; refine wpList_append_own_at _ rfl (.tmp 35) (.tmp 41) 26 rfl w.heap.size 24 iA (.pointer none) 1 8 Try.underlying26 hiA hzA0 hzA1 hzA2 rfl (by decide) _ _ _ rfl (ra5.alloc _) ⟨w5.heap.size, 0, none⟩ 1 1 [.pointer (some ⟨t', 0, none⟩)] rfl rfl (cell_one_new _ _ _) (by intro u hu; simp at hu; subst hu; rfl) (Nat.le_trans (m := 35184372088832) (by omega) (by decide)) (by omega) (by simp; omega) ?_; intro vA' w6 o6 hg6 _ hat6; obtain ⟨bA', cA', e6, l6⟩ := own_some o6; subst e6; obtain ⟨ok6, rb6⟩ := Fam.half FN.out b5 hg6; have u7 : w6.cell? ⟨bB, i, none⟩ = some (.pointer (some ⟨pd, 0, none⟩)) := (by rw [rb6.cellAt i (by omega)]; simp [ptrD, hiN, HPD.out]); have hc7 := rclone_any (ok6 i hiN).rf.ref hl48; rw [HPD.out] at hc7)
          | (go_at_call 13; refine hc7.mono ?_; rintro e w7 ⟨d', v', rfl, q7, b7⟩; have rb7 : w7.ownsRow w.heap.size 27 1 _ N _ := row_kept rb6 b7; have c6 := grown_row hg6 ra5; have s6 := c6.size; have s7 := b7.size)
          | (at_builtin; refine wpList_append_own_at _ rfl (.tmp 43) (.tmp 49) 29 rfl w.heap.size 27 iB (.pointer none) 1 8 Try.underlying29 hiB hzB0 hzB1 hzB2 rfl (by decide) _ _ _ rfl (rb7.alloc _) ⟨w7.heap.size, 0, none⟩ 1 1 [.pointer (some ⟨d', 0, none⟩)] rfl rfl (cell_one_new _ _ _) (by intro u hu; simp at hu; subst hu; rfl) (Nat.le_trans (m := 35184372088832) (by omega) (by decide)) (by omega) (by simp; omega) ?_; intro vB' w8 o8 hg8 _ hat8; obtain ⟨bB', cB', e8, l8⟩ := own_some o8; subst e8))
        obtain ⟨own2, hoo, F8'⟩ := Fam.cloned FN.out BN.out.size hiN r5 b5 o6 hg6 hat6 q7 b7 o8 hg8 hat8
        have c8 := grown_row hg8 rb7
        have Cp5 := AxB.below CP.out b5
        have Cp6 := Cp5.kept c6 (fun h => by have z := FN.out.la _ h; rw [HX.out] at z; cases z)
        have Cp7 := Cp6.below b7
        have Cp8' := Cp7.kept c8 (fun h => by have z := FN.out.lb _ h; rw [HX.out] at z; cases z)
        have B5 : Below w.heap.size w w5 := BN.out.trans (b5.mono BN.out.size)
        have B6 : Below w.heap.size w w6 := c6.below B5 B5.size (fun j h => (ra5.lt j h).1)
        have B7' : Below w.heap.size w w7 := B6.trans (b7.mono B6.size)
        have B8' : Below w.heap.size w w8 := c8.below B7' B7'.size (fun j h => (rb7.lt j h).1)
        have HX2 : Hid (own2 wr.heap.size = .x) := (hoo _ hbx).trans HX.out
        obtain ⟨F', hF'⟩ : ∃ F' : Nat → Pt, F' = (fun j => if j = N then ⟨t', d', v', (F i).l⟩ else F j) := ⟨_, rfl⟩
        rw [← hF'] at F8'
        generalize hM : N + 1 = M at F8' hiN1 ⊢
        have hiM : (i : Int) < M := by omega
        have F8 : Hid (Fam w.heap.size M own2 F' (.slice (some ⟨bA', 0, none⟩) M cA') (.slice (some ⟨bB', 0, none⟩) M cB') w8) := F8'
        have Cp8H : Hid (AxB wr.heap.size a w8) := Cp8'
        have B8 : Hid _ := B8'
        clear F8' Cp8' B8' B7' B6 B5 Cp7 Cp6 Cp5 c6 c8 q7 b7 o8 hg8 r5 b5 o6 hg6 ok6 rb6 rb7 ra5 hc7 hc5 u5 u6 u7 y0 y1 hw1 hw2 hat6 hat8 hoo hF' HPT HPD
        have hdr : Below w8.heap.size w8 w8.drew := ⟨rfl, rfl, rfl, Nat.le_refl _, fun _ _ => rfl⟩
        have hFd := Fam.below F8.out hdr
        have hCd := AxB.below Cp8H.out hdr
        have hBd : Below w.heap.size w w8.drew := B8.out.trans (hdr.mono B8.out.size)
        obtain ⟨pt, hpt⟩ : ∃ pt, (F' i).t = pt := ⟨_, rfl⟩
        obtain ⟨pd, hpd⟩ : ∃ pd, (F' i).d = pd := ⟨_, rfl⟩
        have s0 := rds_of hFd hiN1 hpt hpd hCd
        have hact := act_fam hFd hBd.size hiN1 hpt hpd a HOA.out
        unfold axV at hact
        have S0 : Hid (RdS wr.heap.size bA' bB' i pt pd a w8.drew) := s0
        have CD : Hid (AxB wr.heap.size a w8.drew) := hCd
        have BD : Hid _ := hBd
        clear hFd hCd hBd s0 hdr hpt hpd
        go_region_held3 (fun w' => w'.cell? ⟨wr.heap.size, 0, none⟩ = some (.int .i64 a.kd) ∧ w'.cell? ⟨wr.heap.size, 1, none⟩ = some (.int .i64 a.wh) ∧ w'.cell? ⟨wr.heap.size, 2, none⟩ = some (.string a.nm) ∧ w'.cell? ⟨wr.heap.size, 3, none⟩ = some (.string a.pn) ∧ w'.cell? ⟨wr.heap.size, 4, none⟩ = some (.int .i64 a.n) ∧ w'.cell? ⟨bA', i, none⟩ = some (.pointer (some ⟨pt, 0, none⟩)) ∧ w'.cell? ⟨bB', i, none⟩ = some (.pointer (some ⟨pd, 0, none⟩))) (first | exact S0.out | exact S7 | exact S9)
          (first
          | (go_at_call 14; (refine hact.mono ?_; rintro e w7 ⟨rfl, own7, F7, f7, e7t, e7d, k7, b7⟩; have Cp7 := k7 _ _ HX2.out CD.out; have S7 : RdS wr.heap.size bA' bB' i pt pd a w7 := rds_of f7 hiN1 e7t e7d Cp7; have hsm := same_fam f7 hiN1 e7t e7d))
          | (go_at_call 15; (refine hsm.mono ?_; rintro e w9 ⟨rfl, b9⟩; have f9 := f7.below b9; have Cp9 := Cp7.below b9; have S9 : RdS wr.heap.size bA' bB' i pt pd a w9 := rds_of f9 hiN1 e7t e7d Cp9)))
        all_goals
          go_wp2
          go_roundg (n - (k + 1))
          case measure => omega
          case rel => exact ⟨k + 1, M, own7, F7, by omega, rfl, by omega, by omega, f9, (BD.out.trans b7).trans (b9.mono (BD.out.trans b7).size)⟩
      · have hg : (amgV a.kd 6 = 5 ∧ ¬ N < 5) ∨ ¬ amgV a.kd 6 = 5 := by
          by_cases h4 : amgV a.kd 6 = 5
          · exact .inl ⟨h4, fun h => hcl ⟨h4, h⟩⟩
          · exact .inr h4
        obtain ⟨kk, hkk⟩ : ∃ kk, amgV a.kd 6 = kk := ⟨_, rfl⟩
        rw [hkk] at hw2 hg
        clear hcl hkk hk0 hk6
        rcases hg with ⟨h4, h6⟩ | h4
        · subst h4
          have h6' : ¬ (N : Int) < 5 := by omega
          go_wp2_with (first
            | (go_at_call_of 11 (Value.int IntKind.i64 a.wh); refine hw1.mono ?_; rintro e w5 ⟨rfl, rfl⟩)
            | (go_at_call_of 11 (Value.int IntKind.i64 a.kd); refine hw2.mono ?_; rintro e w5 ⟨rfl, rfl⟩))
          have hdr : Below wn.heap.size wn wn.drew := ⟨rfl, rfl, rfl, Nat.le_refl _, fun _ _ => rfl⟩
          have hFd := Fam.below FN.out hdr
          have hCd := AxB.below CP.out hdr
          have hBd : Below w.heap.size w wn.drew := BN.out.trans (hdr.mono BN.out.size)
          obtain ⟨pt, hpt⟩ : ∃ pt, (F i).t = pt := ⟨_, rfl⟩
          obtain ⟨pd, hpd⟩ : ∃ pd, (F i).d = pd := ⟨_, rfl⟩
          have s0 := rds_of hFd hiN hpt hpd hCd
          have hact := act_fam hFd hBd.size hiN hpt hpd a HOA.out
          unfold axV at hact
          have S0 : Hid (RdS wr.heap.size bA bB i pt pd a wn.drew) := s0
          have CD : Hid (AxB wr.heap.size a wn.drew) := hCd
          have BD : Hid _ := hBd
          clear hFd hCd hBd s0 hdr hpt hpd
          go_region_held3 (fun w' => w'.cell? ⟨wr.heap.size, 0, none⟩ = some (.int .i64 a.kd) ∧ w'.cell? ⟨wr.heap.size, 1, none⟩ = some (.int .i64 a.wh) ∧ w'.cell? ⟨wr.heap.size, 2, none⟩ = some (.string a.nm) ∧ w'.cell? ⟨wr.heap.size, 3, none⟩ = some (.string a.pn) ∧ w'.cell? ⟨wr.heap.size, 4, none⟩ = some (.int .i64 a.n) ∧ w'.cell? ⟨bA, i, none⟩ = some (.pointer (some ⟨pt, 0, none⟩)) ∧ w'.cell? ⟨bB, i, none⟩ = some (.pointer (some ⟨pd, 0, none⟩))) (first | exact S0.out | exact S7 | exact S9)
            (first
            | (go_at_call 14; (refine hact.mono ?_; rintro e w7 ⟨rfl, own7, F7, f7, e7t, e7d, k7, b7⟩; have Cp7 := k7 _ _ HX.out CD.out; have S7 : RdS wr.heap.size bA bB i pt pd a w7 := rds_of f7 hiN e7t e7d Cp7; have hsm := same_fam f7 hiN e7t e7d))
            | (go_at_call 15; (refine hsm.mono ?_; rintro e w9 ⟨rfl, b9⟩; have f9 := f7.below b9; have Cp9 := Cp7.below b9; have S9 : RdS wr.heap.size bA bB i pt pd a w9 := rds_of f9 hiN e7t e7d Cp9)))
          all_goals
            go_wp2
            go_roundg (n - (k + 1))
            case measure => omega
            case rel => exact ⟨k + 1, N, own7, F7, by omega, rfl, by omega, by omega, f9, (BD.out.trans b7).trans (b9.mono (BD.out.trans b7).size)⟩
        · have h4' : (kk == 5) = false := by simp [h4]
          go_wp2_with (first
            | (go_at_call_of 11 (Value.int IntKind.i64 a.wh); refine hw1.mono ?_; rintro e w5 ⟨rfl, rfl⟩)
            | (go_at_call_of 11 (Value.int IntKind.i64 a.kd); refine hw2.mono ?_; rintro e w5 ⟨rfl, rfl⟩))
          have hdr : Below wn.heap.size wn wn.drew := ⟨rfl, rfl, rfl, Nat.le_refl _, fun _ _ => rfl⟩
          have hFd := Fam.below FN.out hdr
          have hCd := AxB.below CP.out hdr
          have hBd : Below w.heap.size w wn.drew := BN.out.trans (hdr.mono BN.out.size)
          obtain ⟨pt, hpt⟩ : ∃ pt, (F i).t = pt := ⟨_, rfl⟩
          obtain ⟨pd, hpd⟩ : ∃ pd, (F i).d = pd := ⟨_, rfl⟩
          have s0 := rds_of hFd hiN hpt hpd hCd
          have hact := act_fam hFd hBd.size hiN hpt hpd a HOA.out
          unfold axV at hact
          have S0 : Hid (RdS wr.heap.size bA bB i pt pd a wn.drew) := s0
          have CD : Hid (AxB wr.heap.size a wn.drew) := hCd
          have BD : Hid _ := hBd
          clear hFd hCd hBd s0 hdr hpt hpd
          go_region_held3 (fun w' => w'.cell? ⟨wr.heap.size, 0, none⟩ = some (.int .i64 a.kd) ∧ w'.cell? ⟨wr.heap.size, 1, none⟩ = some (.int .i64 a.wh) ∧ w'.cell? ⟨wr.heap.size, 2, none⟩ = some (.string a.nm) ∧ w'.cell? ⟨wr.heap.size, 3, none⟩ = some (.string a.pn) ∧ w'.cell? ⟨wr.heap.size, 4, none⟩ = some (.int .i64 a.n) ∧ w'.cell? ⟨bA, i, none⟩ = some (.pointer (some ⟨pt, 0, none⟩)) ∧ w'.cell? ⟨bB, i, none⟩ = some (.pointer (some ⟨pd, 0, none⟩))) (first | exact S0.out | exact S7 | exact S9)
            (first
            | (go_at_call 14; (refine hact.mono ?_; rintro e w7 ⟨rfl, own7, F7, f7, e7t, e7d, k7, b7⟩; have Cp7 := k7 _ _ HX.out CD.out; have S7 : RdS wr.heap.size bA bB i pt pd a w7 := rds_of f7 hiN e7t e7d Cp7; have hsm := same_fam f7 hiN e7t e7d))
            | (go_at_call 15; (refine hsm.mono ?_; rintro e w9 ⟨rfl, b9⟩; have f9 := f7.below b9; have Cp9 := Cp7.below b9; have S9 : RdS wr.heap.size bA bB i pt pd a w9 := rds_of f9 hiN e7t e7d Cp9)))
          all_goals
            go_wp2
            go_roundg (n - (k + 1))
            case measure => omega
            case rel => exact ⟨k + 1, N, own7, F7, by omega, rfl, by omega, by omega, f9, (BD.out.trans b7).trans (b9.mono (BD.out.trans b7).size)⟩
    · obtain ⟨bA, cA, bB, cB, eA, eB⟩ := hF.shape hN1
      subst eA eB
      have FN : Hid (Fam w.heap.size N own F (.slice (some ⟨bA, 0, none⟩) N cA) (.slice (some ⟨bB, 0, none⟩) N cB) wr) := hF
      have BN : Hid _ := hbw
      clear hF hbw
      go_wp2
      go_loopg [84] N (fun gj cj wr => ∃ j : Nat, j + gj = N ∧ cj = .int .i64 j ∧ Fam w.heap.size N own F (.slice (some ⟨bA, 0, none⟩) N cA) (.slice (some ⟨bB, 0, none⟩) N cB) wr ∧ Below w.heap.size w wr)
      case atStart => exact ⟨0, by omega, rfl, FN.out, BN.out⟩
      case round =>
        clear FN BN
        obtain ⟨j, hj, rfl, hF, hb⟩ := hrel
        by_cases hjN : j < N
        · have hdr : Below wr.heap.size wr wr.drew := ⟨rfl, rfl, rfl, Nat.le_refl _, fun _ _ => rfl⟩
          have hFd := hF.below hdr
          have hBd : Below w.heap.size w wr.drew := hb.trans (hdr.mono hb.size)
          obtain ⟨pt, hpt⟩ : ∃ pt, (F j).t = pt := ⟨_, rfl⟩
          obtain ⟨pd, hpd⟩ : ∃ pd, (F j).d = pd := ⟨_, rfl⟩
          have s0 := hFd.cells hjN hpt hpd
          have hsm := same_fam hFd hjN hpt hpd
          have S0 : Hid _ := s0
          have FD : Hid (Fam w.heap.size N own F (.slice (some ⟨bA, 0, none⟩) N cA) (.slice (some ⟨bB, 0, none⟩) N cB) wr.drew) := hFd
          have BD : Hid _ := hBd
          have HPT : Hid _ := hpt
          have HPD : Hid _ := hpd
          clear hF hb hFd hBd hdr s0 hpt hpd
          go_wp2_with fail
          go_region_held3 (fun w' => w'.cell? ⟨bA, j, none⟩ = some (.pointer (some ⟨pt, 0, none⟩)) ∧ w'.cell? ⟨bB, j, none⟩ = some (.pointer (some ⟨pd, 0, none⟩))) (first | exact S0.out | exact S8)
            (first
            | (go_at_call 15; refine hsm.mono ?_; rintro e w8 ⟨rfl, b8⟩; have F8 := Fam.below FD.out b8; have S8 := Fam.cells F8 hjN HPT.out HPD.out))
          all_goals
            go_wp2
            go_roundg (N - (j + 1))
            case measure => omega
            case rel => exact ⟨j + 1, by omega, rfl, F8, BD.out.trans (b8.mono BD.out.size)⟩
        · have HB : Hid _ := hb
          clear hb hF
          go_wp2
          go_ret
          exact ⟨rfl, HB.out⟩
end Go.Proofs.Ythkahbjcncbcfaa
