/-
  AgendaScript: the walk.
-/
import Derived.Test.YtjmiifgofedcnaaScrB
import Derived.Deep.RegionHeld3
namespace Go.Proofs.Ytjmiifgofedcnaa
open Go.RowKit Ag

/-- The act's copy in a round. -/
def Cpy (B : Nat) (x : Act5) (W : World) : Prop := W.heap[B]? = some (.cells #[.int .i64 x.kind, .int .i64 x.which, .int .i64 x.id, .int .i64 x.tm, .int .i64 x.x] 31 (0, 0))
theorem Cpy.kept {B : Nat} {x : Act5} {W W' : World} {K : Nat → Prop} (h : Cpy B x W) (c : Chg K W W') (hK : ¬ K B) : Cpy B x W' := (c.block _ (Array.getElem?_eq_some_iff.1 h).1 hK).trans h
theorem Cpy.below {B : Nat} {x : Act5} {W W' : World} (h : Cpy B x W) (c : Below W.heap.size W W') : Cpy B x W' := (c.block _ (Array.getElem?_eq_some_iff.1 h).1).trans h
theorem Cpy.tag {B : Nat} {x : Act5} {W : World} (h : Cpy B x W) : tg W B = 31 := tg_cells h
/-- What region 12 reads. -/
def RdS (wb bA bB i pa pd : Nat) (x : Act5) (w' : World) : Prop := w'.cell? ⟨wb, 0, none⟩ = some (.int .i64 x.kind) ∧ w'.cell? ⟨wb, 1, none⟩ = some (.int .i64 x.which) ∧ w'.cell? ⟨wb, 2, none⟩ = some (.int .i64 x.id) ∧ w'.cell? ⟨wb, 3, none⟩ = some (.int .i64 x.tm) ∧ w'.cell? ⟨wb, 4, none⟩ = some (.int .i64 x.x) ∧ w'.cell? ⟨bA, i, none⟩ = some (.pointer (some ⟨pa, 0, none⟩)) ∧ w'.cell? ⟨bB, i, none⟩ = some (.pointer (some ⟨pd, 0, none⟩))
theorem rds_of {wb bA bB i N cA cB B t : Nat} {x : Act5} {W : World} {F : Nat → Pt} (hF : Fam B t N F (.slice (some ⟨bA, 0, none⟩) N cA) (.slice (some ⟨bB, 0, none⟩) N cB) W) (hi : i < N) (hc : Cpy wb x W) : RdS wb bA bB i (F i).a (F i).d x W := by
  refine ⟨cells_at hc rfl, cells_at hc rfl, cells_at hc rfl, cells_at hc rfl, cells_at hc rfl, ?_, ?_⟩
  · rw [hF.rowA.cellAt i (by omega)]; simp [hi]
  · rw [hF.rowB.cellAt i (by omega)]; simp [hi]
theorem Fam.shape {B t N : Nat} {F : Nat → Pt} {vA vB : Value} {W : World} (h : Fam B t N F vA vB W) (hN : 1 ≤ N) : ∃ bA cA bB cB, vA = .slice (some ⟨bA, 0, none⟩) N cA ∧ vB = .slice (some ⟨bB, 0, none⟩) N cB := by
  obtain ⟨bA, cA, e1, _⟩ := ptr_at h.rowA hN
  obtain ⟨bB, cB, e2, _⟩ := ptr_at h.rowB hN
  exact ⟨bA, cA, bB, cB, e1, e2⟩

theorem own_some {W : World} {B e N : Nat} {v : Value} {vs : List Value} (h : W.ownsRow B e 1 v (N + 1) vs) : ∃ b cap, v = .slice (some ⟨b, 0, none⟩) (N + 1) cap ∧ N + 1 ≤ cap := by
  rcases owns_shape h with ⟨_, h0⟩ | ⟨b, cap, h1, _, hc⟩
  · omega
  · exact ⟨b, cap, h1, hc⟩
theorem Try.inf24 : (Try.prog.info? 24).map (fun i => (i.zero, i.size, i.bytes)) = some (some (.pointer none), 1, 8) := by kernel_rfl
theorem Try.inf27 : (Try.prog.info? 27).map (fun i => (i.zero, i.size, i.bytes)) = some (some (.pointer none), 1, 8) := by kernel_rfl

set_option maxHeartbeats 4000000 in
set_option maxRecDepth 20000 in
theorem script_any {w : World} {ao : Option Addr} {n c : Nat} {f : Nat → Act5} (hA : ActsAt w ao n f) (hwf : ∀ k, k < n → wfI (f k).id ∧ wfI (f k).tm) (hn : n * 40 ≤ 140737488351232) :
    Calls Try.prog 3 #[.slice ao n c] w fun e w' => e = .returned (.bool true) ∧ Below w.heap.size w w' := by
  obtain ⟨iA, hiA, hzA0, hzA1, hzA2⟩ := info_parts Try.inf24
  obtain ⟨iB, hiB, hzB0, hzB1, hzB2⟩ := info_parts Try.inf27
  go_enter Try.func3, Try.ntmps3
  go_wp2_with fail
  refine (shown_any w).mono ?_
  rintro e w1 ⟨rfl, b1⟩
  go_wp2_with (first
    | (go_at_call 9; refine (new_I _).mono ?_; rintro e w2 ⟨rfl, r2, b2⟩)
    | (go_at_call 10; refine (rnew_any _).mono ?_; rintro e w3 ⟨rfl, q3, b3⟩))
  have s1 := b1.size
  have s2 := b2.size
  have hF0 := fam_start (B := w.heap.size) r2 (by rintro k (rfl | rfl | ⟨g, hg, _⟩) <;> first | omega | cases hg) (by omega) b3 q3 (by simp; omega)
  have hb0 : Below w.heap.size w (w3.alloc (.cells #[.pointer (some ⟨w2.heap.size + 1, 0, none⟩)] 27)) := by
    have c1 := b1.trans (b2.mono b1.size)
    have c2 := c1.alloc c1.size (.cells #[.pointer (some ⟨w1.heap.size + 1, 0, none⟩)] 24)
    have c3 := c2.trans (b3.mono c2.size)
    exact c3.alloc c3.size _
  rw [World.size_alloc] at hF0
  have F0 : Hid _ := hF0
  have B0 : Hid _ := hb0
  clear hF0 hb0 r2 q3 b2 b3
  go_loopg [3, 4, 17] n (fun gk vA vB cc wr => ∃ (k N : Nat) (F : Nat → Pt), k + gk = n ∧ cc = .int .i64 k ∧ 1 ≤ N ∧ N ≤ 6 ∧ Fam w.heap.size k N F vA vB wr ∧ Below w.heap.size w wr)
  case atStart => exact ⟨0, 1, _, by omega, rfl, by omega, by omega, F0.out, B0.out⟩
  case round =>
    clear F0 B0
    obtain ⟨k, N, F, hk, rfl, hN1, hN6, hF, hbw⟩ := hrel
    by_cases hlt : k < n
    · obtain ⟨g, o, hao, hcs⟩ := hA.below hbw
      have hao := hao (by omega)
      subst hao
      obtain ⟨x0, x1, x2, x3, x4⟩ := hcs k hlt
      clear hcs
      obtain ⟨wi, wt⟩ := hwf k hlt
      obtain ⟨bA, cA, bB, cB, eA, eB⟩ := hF.shape hN1
      subst eA eB
      obtain ⟨wn, hwn⟩ : ∃ wn, wr.alloc (.cells #[.int .i64 (f k).kind, .int .i64 (f k).which, .int .i64 (f k).id, .int .i64 (f k).tm, .int .i64 (f k).x] 31) = wn := ⟨_, rfl⟩
      have bwn : Below wr.heap.size wr wn := by rw [← hwn]; exact (Below.refl _ _).alloc (Nat.le_refl _) _
      have hCp : Cpy wr.heap.size (f k) wn := by rw [← hwn]; exact heap_alloc_new _ _
      have hFn := hF.below bwn
      have hbn : Below w.heap.size w wn := hbw.trans (bwn.mono hbw.size)
      have y0 : wn.cell? ⟨wr.heap.size, 0, none⟩ = some (.int .i64 (f k).kind) := cells_at hCp rfl
      have y1 : wn.cell? ⟨wr.heap.size, 1, none⟩ = some (.int .i64 (f k).which) := cells_at hCp rfl
      obtain ⟨ha0, ha1⟩ := amgV_in (f k).which N (by omega)
      obtain ⟨i, hi⟩ : ∃ i : Nat, amgV (f k).which N = i := ⟨(amgV (f k).which N).toNat, by omega⟩
      rw [hi] at ha0 ha1
      have hiN : i < N := by omega
      have hw1 := among_any (f k).which N wn (by omega) (by omega)
      rw [hi] at hw1
      have hw2 := among_any (f k).kind 6 wn (by omega) (by omega)
      obtain ⟨hk0, hk6⟩ := amgV_in (f k).kind 6 (by omega)
      have FN : Hid _ := hFn
      have CP : Hid _ := hCp
      have BN : Hid _ := hbn
      clear hF hbw hFn hCp hbn bwn
      by_cases hcl : amgV (f k).kind 6 = 4 ∧ N < 6
      · obtain ⟨h4, h6⟩ := hcl
        rw [h4] at hw2
        have hiN1 : i < N + 1 := by omega
        have hp0 := FN.out.ok i hiN
        have hpl0 := hp0.len
        obtain ⟨_, _, _, _, _, u5, u6⟩ := rds_of FN.out hiN CP.out
        have hc5 := clone_I hp0.agn (by omega)
        have hone := hp0.int.one
        clear hp0
        go_wp2_with (first
          | (go_at_call_of 11 (Value.int IntKind.i64 (f k).which); refine hw1.mono ?_; rintro e w5 ⟨rfl, hw⟩; obtain rfl := hw.symm)
          | (go_at_call_of 11 (Value.int IntKind.i64 (f k).kind); refine hw2.mono ?_; rintro e w5 ⟨rfl, hw⟩; obtain rfl := hw.symm)
          | (go_at_call 12; refine hc5.mono ?_; rintro e w5 ⟨c', m', ao5, rfl, r5, b5, lo5⟩; have ra5 := (Fam.below FN.out b5).rowA; have s5 := Nat.le_trans BN.out.size b5.size)
          | (at_builtin; refine wpList_append_own_at _ rfl (.tmp 35) (.tmp 41) 26 rfl w.heap.size 24 iA (.pointer none) 1 8 Try.underlying26 hiA hzA0 hzA1 hzA2 rfl (by decide) _ _ _ rfl (ra5.alloc _) ⟨w5.heap.size, 0, none⟩ 1 1 [.pointer (some ⟨c', 0, none⟩)] rfl rfl (cell_one_new _ _ _) (by intro u hu; simp at hu; subst hu; rfl) (Nat.le_trans (m := 35184372088832) (by omega) (by decide)) (by omega) (by simp; omega) ?_; intro vA' w6 o6 hg6 _ hat6; obtain ⟨bA', cA', e6, l6⟩ := own_some o6; subst e6; obtain ⟨ok6, rb6⟩ := Fam.half FN.out b5 hg6; have u7 : w6.cell? ⟨bB, i, none⟩ = some (.pointer (some ⟨(F i).d, 0, none⟩)) := (by rw [rb6.cellAt i (by omega)]; simp [ptrB, hiN]); have hc7 := rclone_any (ok6 i hiN).ref hone (by omega))
          | (go_at_call 13; refine hc7.mono ?_; rintro e w7 ⟨d', rfl, hd', q7, b7⟩; have rb7 : w7.ownsRow w.heap.size 27 1 _ N _ := row_kept rb6 (fun j hj => b7.block j (rb6.lt j hj).2); have s6 := (grown_row hg6 ra5).1.size; have s7 := b7.size)
          | (at_builtin; refine wpList_append_own_at _ rfl (.tmp 43) (.tmp 49) 29 rfl w.heap.size 27 iB (.pointer none) 1 8 Try.underlying29 hiB hzB0 hzB1 hzB2 rfl (by decide) _ _ _ rfl (rb7.alloc _) ⟨w7.heap.size, 0, none⟩ 1 1 [.pointer (some ⟨d', 0, none⟩)] rfl rfl (cell_one_new _ _ _) (by intro u hu; simp at hu; subst hu; rfl) (Nat.le_trans (m := 35184372088832) (by omega) (by decide)) (by omega) (by simp; omega) ?_; intro vB' w8 o8 hg8 _ hat8; obtain ⟨bB', cB', e8, l8⟩ := own_some o8; subst e8))
        obtain ⟨F', F8'⟩ : ∃ F', Fam w.heap.size k (N + 1) F' (.slice (some ⟨bA', 0, none⟩) (N + 1) cA') (.slice (some ⟨bB', 0, none⟩) (N + 1) cB') w8 := ⟨_, Fam.cloned FN.out BN.out.size hiN r5 b5 lo5 o6 hg6 q7 b7 hd' o8 hg8⟩
        obtain ⟨c6, t6⟩ := grown_row hg6 ra5
        obtain ⟨c8, t8⟩ := grown_row hg8 rb7
        have Cp5 := Cpy.below CP.out b5
        have Cp6 := Cp5.kept c6 (fun h => by have z := t6 _ h; rw [Cp5.tag] at z; cases z)
        have Cp7 := Cp6.below b7
        have Cp8' := Cp7.kept c8 (fun h => by have z := t8 _ h; rw [Cp7.tag] at z; cases z)
        have B5 : Below w.heap.size w w5 := BN.out.trans (b5.mono BN.out.size)
        have B6 : Below w.heap.size w w6 := c6.below B5 B5.size (fun j h => (ra5.lt j h).1)
        have B7' : Below w.heap.size w w7 := B6.trans (b7.mono B6.size)
        have B8' : Below w.heap.size w w8 := c8.below B7' B7'.size (fun j h => (rb7.lt j h).1)
        generalize hM : N + 1 = M at F8' hiN1 ⊢
        have hiM : (i : Int) < M := by omega
        have F8 : Hid _ := F8'
        have Cp8H : Hid _ := Cp8'
        have B8 : Hid _ := B8'
        clear F8' Cp8' B8' B7' B6 B5 Cp7 Cp6 Cp5 c6 c8 t6 t8 q7 b7 hd' o8 hg8 r5 b5 lo5 o6 hg6 ok6 rb6 rb7 ra5 hc7 hc5 u5 u6 u7 y0 y1 hw1 hw2 hat6 hat8
        have hdr : Below w8.heap.size w8 w8.drew := (Below.refl _ w8).drew
        have hFd := Fam.below F8.out hdr
        have hCd := Cpy.below Cp8H.out hdr
        have hBd : Below w.heap.size w w8.drew := Below.drew B8.out
        have hp := hFd.ok i hiN1
        have hpl := hp.len
        have s0 := rds_of hFd hiN1 hCd
        obtain ⟨pa, hpa⟩ : ∃ pa, (F' i).a = pa := ⟨_, rfl⟩
        obtain ⟨pd, hpd⟩ : ∃ pd, (F' i).d = pd := ⟨_, rfl⟩
        rw [hpa, hpd] at s0
        have hact := act_any hp.agn hp.ref hp.int (f k).kind (f k).which (f k).id (f k).tm (f k).x wi wt (by omega)
        rw [hpa, hpd] at hact
        have S0 : Hid _ := s0
        have FD : Hid _ := hFd
        have CD : Hid _ := hCd
        have BD : Hid _ := hBd
        have HP : Hid _ := hp
        clear hFd hCd hBd hp s0 hdr
        go_region_held3 (fun w' => w'.cell? ⟨wr.heap.size, 0, none⟩ = some (.int .i64 (f k).kind) ∧ w'.cell? ⟨wr.heap.size, 1, none⟩ = some (.int .i64 (f k).which) ∧ w'.cell? ⟨wr.heap.size, 2, none⟩ = some (.int .i64 (f k).id) ∧ w'.cell? ⟨wr.heap.size, 3, none⟩ = some (.int .i64 (f k).tm) ∧ w'.cell? ⟨wr.heap.size, 4, none⟩ = some (.int .i64 (f k).x) ∧ w'.cell? ⟨bA', i, none⟩ = some (.pointer (some ⟨pa, 0, none⟩)) ∧ w'.cell? ⟨bB', i, none⟩ = some (.pointer (some ⟨pd, 0, none⟩))) (first | exact S0.out | exact S7 | exact S8)
          (first
          | (go_at_call 14; (refine hact.mono ?_; rintro e w7 ⟨rfl, ao', L', r7, q7, il7, hl7, hm7, c7⟩; rw [← hpa] at r7 c7; rw [← hpd] at q7 c7; have F7 := Fam.turned FD.out BD.out.size hiN1 r7 q7 il7 hl7 hm7 c7; have Cp7 := Cpy.kept CD.out c7 (fun h => by rcases h with h | h; (rcases Agn.tags HP.out.agn _ h with e | e | e <;> rw [Cpy.tag CD.out] at e <;> cases e); (have e := (Rf.tag HP.out.ref).1; rw [← h, Cpy.tag CD.out] at e; cases e)); have B7 : Below w.heap.size w w7 := c7.below BD.out BD.out.size (fun j h => by rcases h with h | rfl; (exact HP.out.lo j h); (exact HP.out.lod)); have S7 : RdS wr.heap.size bA' bB' i pa pd (f k) w7 := (by have z := rds_of F7 hiN1 Cp7; simp only [if_true] at z; rw [hpa, hpd] at z; exact z)))
          | (go_at_call 15; (rw [← hpa, ← hpd]; refine (same_any r7 q7 il7.one (by omega)).mono ?_; rintro e w9 ⟨rfl, b9⟩; have F9 := F7.below b9; have Cp8 := Cp7.below b9; have S8 : RdS wr.heap.size bA' bB' i pa pd (f k) w9 := (by have z := rds_of F9 hiN1 Cp8; simp only [if_true] at z; rw [hpa, hpd] at z; exact z))))
        all_goals
          go_wp2
          go_roundg (n - (k + 1))
          case measure => omega
          case rel => exact ⟨k + 1, M, _, by omega, rfl, by omega, by omega, F9, B7.trans (b9.mono B7.size)⟩
      · have hg : (amgV (f k).kind 6 == 4) = false ∨ ((amgV (f k).kind 6 == 4) = true ∧ ¬ N < 6) := by
          by_cases h4 : amgV (f k).kind 6 = 4
          · exact .inr ⟨by simp [h4], fun h => hcl ⟨h4, h⟩⟩
          · exact .inl (by simp [h4])
        rcases hg with h4 | ⟨h4, h6⟩
        · go_wp2_with (first
            | (go_at_call_of 11 (Value.int IntKind.i64 (f k).which); refine hw1.mono ?_; rintro e w5 ⟨rfl, hw⟩; obtain rfl := hw.symm)
            | (go_at_call_of 11 (Value.int IntKind.i64 (f k).kind); refine hw2.mono ?_; rintro e w5 ⟨rfl, hw⟩; obtain rfl := hw.symm))
          have hdr : Below wn.heap.size wn wn.drew := (Below.refl _ wn).drew
          have hFd := Fam.below FN.out hdr
          have hCd := Cpy.below CP.out hdr
          have hBd : Below w.heap.size w wn.drew := Below.drew BN.out
          have hp := hFd.ok i hiN
          have hpl := hp.len
          have s0 := rds_of hFd hiN hCd
          obtain ⟨pa, hpa⟩ : ∃ pa, (F i).a = pa := ⟨_, rfl⟩
          obtain ⟨pd, hpd⟩ : ∃ pd, (F i).d = pd := ⟨_, rfl⟩
          rw [hpa, hpd] at s0
          have hact := act_any hp.agn hp.ref hp.int (f k).kind (f k).which (f k).id (f k).tm (f k).x wi wt (by omega)
          rw [hpa, hpd] at hact
          have S0 : Hid _ := s0
          have FD : Hid _ := hFd
          have CD : Hid _ := hCd
          have BD : Hid _ := hBd
          have HP : Hid _ := hp
          clear hFd hCd hBd hp s0 hdr
          go_region_held3 (fun w' => w'.cell? ⟨wr.heap.size, 0, none⟩ = some (.int .i64 (f k).kind) ∧ w'.cell? ⟨wr.heap.size, 1, none⟩ = some (.int .i64 (f k).which) ∧ w'.cell? ⟨wr.heap.size, 2, none⟩ = some (.int .i64 (f k).id) ∧ w'.cell? ⟨wr.heap.size, 3, none⟩ = some (.int .i64 (f k).tm) ∧ w'.cell? ⟨wr.heap.size, 4, none⟩ = some (.int .i64 (f k).x) ∧ w'.cell? ⟨bA, i, none⟩ = some (.pointer (some ⟨pa, 0, none⟩)) ∧ w'.cell? ⟨bB, i, none⟩ = some (.pointer (some ⟨pd, 0, none⟩))) (first | exact S0.out | exact S7 | exact S8)
            (first
            | (go_at_call 14; (refine hact.mono ?_; rintro e w7 ⟨rfl, ao', L', r7, q7, il7, hl7, hm7, c7⟩; rw [← hpa] at r7 c7; rw [← hpd] at q7 c7; have F7 := Fam.turned FD.out BD.out.size hiN r7 q7 il7 hl7 hm7 c7; have Cp7 := Cpy.kept CD.out c7 (fun h => by rcases h with h | h; (rcases Agn.tags HP.out.agn _ h with e | e | e <;> rw [Cpy.tag CD.out] at e <;> cases e); (have e := (Rf.tag HP.out.ref).1; rw [← h, Cpy.tag CD.out] at e; cases e)); have B7 : Below w.heap.size w w7 := c7.below BD.out BD.out.size (fun j h => by rcases h with h | rfl; (exact HP.out.lo j h); (exact HP.out.lod)); have S7 : RdS wr.heap.size bA bB i pa pd (f k) w7 := (by have z := rds_of F7 hiN Cp7; simp only [if_true] at z; rw [hpa, hpd] at z; exact z)))
            | (go_at_call 15; (rw [← hpa, ← hpd]; refine (same_any r7 q7 il7.one (by omega)).mono ?_; rintro e w8 ⟨rfl, b8⟩; have F8 := F7.below b8; have Cp8 := Cp7.below b8; have S8 : RdS wr.heap.size bA bB i pa pd (f k) w8 := (by have z := rds_of F8 hiN Cp8; simp only [if_true] at z; rw [hpa, hpd] at z; exact z))))
          all_goals
            go_wp2
            go_roundg (n - (k + 1))
            case measure => omega
            case rel => exact ⟨k + 1, N, _, by omega, rfl, by omega, by omega, F8, B7.trans (b8.mono B7.size)⟩
        · go_wp2_with (first
            | (go_at_call_of 11 (Value.int IntKind.i64 (f k).which); refine hw1.mono ?_; rintro e w5 ⟨rfl, hw⟩; obtain rfl := hw.symm)
            | (go_at_call_of 11 (Value.int IntKind.i64 (f k).kind); refine hw2.mono ?_; rintro e w5 ⟨rfl, hw⟩; obtain rfl := hw.symm))
          have hdr : Below wn.heap.size wn wn.drew := (Below.refl _ wn).drew
          have hFd := Fam.below FN.out hdr
          have hCd := Cpy.below CP.out hdr
          have hBd : Below w.heap.size w wn.drew := Below.drew BN.out
          have hp := hFd.ok i hiN
          have hpl := hp.len
          have s0 := rds_of hFd hiN hCd
          obtain ⟨pa, hpa⟩ : ∃ pa, (F i).a = pa := ⟨_, rfl⟩
          obtain ⟨pd, hpd⟩ : ∃ pd, (F i).d = pd := ⟨_, rfl⟩
          rw [hpa, hpd] at s0
          have hact := act_any hp.agn hp.ref hp.int (f k).kind (f k).which (f k).id (f k).tm (f k).x wi wt (by omega)
          rw [hpa, hpd] at hact
          have S0 : Hid _ := s0
          have FD : Hid _ := hFd
          have CD : Hid _ := hCd
          have BD : Hid _ := hBd
          have HP : Hid _ := hp
          clear hFd hCd hBd hp s0 hdr
          go_region_held3 (fun w' => w'.cell? ⟨wr.heap.size, 0, none⟩ = some (.int .i64 (f k).kind) ∧ w'.cell? ⟨wr.heap.size, 1, none⟩ = some (.int .i64 (f k).which) ∧ w'.cell? ⟨wr.heap.size, 2, none⟩ = some (.int .i64 (f k).id) ∧ w'.cell? ⟨wr.heap.size, 3, none⟩ = some (.int .i64 (f k).tm) ∧ w'.cell? ⟨wr.heap.size, 4, none⟩ = some (.int .i64 (f k).x) ∧ w'.cell? ⟨bA, i, none⟩ = some (.pointer (some ⟨pa, 0, none⟩)) ∧ w'.cell? ⟨bB, i, none⟩ = some (.pointer (some ⟨pd, 0, none⟩))) (first | exact S0.out | exact S7 | exact S8)
            (first
            | (go_at_call 14; (refine hact.mono ?_; rintro e w7 ⟨rfl, ao', L', r7, q7, il7, hl7, hm7, c7⟩; rw [← hpa] at r7 c7; rw [← hpd] at q7 c7; have F7 := Fam.turned FD.out BD.out.size hiN r7 q7 il7 hl7 hm7 c7; have Cp7 := Cpy.kept CD.out c7 (fun h => by rcases h with h | h; (rcases Agn.tags HP.out.agn _ h with e | e | e <;> rw [Cpy.tag CD.out] at e <;> cases e); (have e := (Rf.tag HP.out.ref).1; rw [← h, Cpy.tag CD.out] at e; cases e)); have B7 : Below w.heap.size w w7 := c7.below BD.out BD.out.size (fun j h => by rcases h with h | rfl; (exact HP.out.lo j h); (exact HP.out.lod)); have S7 : RdS wr.heap.size bA bB i pa pd (f k) w7 := (by have z := rds_of F7 hiN Cp7; simp only [if_true] at z; rw [hpa, hpd] at z; exact z)))
            | (go_at_call 15; (rw [← hpa, ← hpd]; refine (same_any r7 q7 il7.one (by omega)).mono ?_; rintro e w8 ⟨rfl, b8⟩; have F8 := F7.below b8; have Cp8 := Cp7.below b8; have S8 : RdS wr.heap.size bA bB i pa pd (f k) w8 := (by have z := rds_of F8 hiN Cp8; simp only [if_true] at z; rw [hpa, hpd] at z; exact z))))
          all_goals
            go_wp2
            go_roundg (n - (k + 1))
            case measure => omega
            case rel => exact ⟨k + 1, N, _, by omega, rfl, by omega, by omega, F8, B7.trans (b8.mono B7.size)⟩
    · obtain ⟨bA, cA, bB, cB, eA, eB⟩ := hF.shape hN1
      subst eA eB
      have FN : Hid _ := hF
      have BN : Hid _ := hbw
      clear hF hbw
      go_wp2
      go_loopg [84] N (fun gj cj wr => ∃ j : Nat, j + gj = N ∧ cj = .int .i64 j ∧ Fam w.heap.size k N F (.slice (some ⟨bA, 0, none⟩) N cA) (.slice (some ⟨bB, 0, none⟩) N cB) wr ∧ Below w.heap.size w wr)
      case atStart => exact ⟨0, by omega, rfl, FN.out, BN.out⟩
      case round =>
        clear FN BN
        obtain ⟨j, hj, rfl, hF, hb⟩ := hrel
        by_cases hjN : j < N
        · have hdr : Below wr.heap.size wr wr.drew := (Below.refl _ wr).drew
          have hFd := hF.below hdr
          have hBd : Below w.heap.size w wr.drew := hb.drew
          have hp := hFd.ok j hjN
          have hpl := hp.len
          have s5 : wr.drew.cell? ⟨bA, j, none⟩ = some (.pointer (some ⟨(F j).a, 0, none⟩)) := by rw [hFd.rowA.cellAt j (by omega)]; simp [hjN]
          have s6 : wr.drew.cell? ⟨bB, j, none⟩ = some (.pointer (some ⟨(F j).d, 0, none⟩)) := by rw [hFd.rowB.cellAt j (by omega)]; simp [hjN]
          have hsm := same_any hp.agn hp.ref hp.int.one (by omega)
          have S0 : Hid _ := And.intro s5 s6
          have FD : Hid _ := hFd
          have BD : Hid _ := hBd
          clear hF hb hFd hBd hp hdr s5 s6
          go_wp2_with fail
          go_region_held3 (fun w' => w'.cell? ⟨bA, j, none⟩ = some (.pointer (some ⟨(F j).a, 0, none⟩)) ∧ w'.cell? ⟨bB, j, none⟩ = some (.pointer (some ⟨(F j).d, 0, none⟩))) (first | exact S0.out | exact S8)
            (first
            | (go_at_call 15; refine hsm.mono ?_; rintro e w8 ⟨rfl, b8⟩; have F8 := Fam.below FD.out b8; have S8 : w8.cell? ⟨bA, j, none⟩ = some (.pointer (some ⟨(F j).a, 0, none⟩)) ∧ w8.cell? ⟨bB, j, none⟩ = some (.pointer (some ⟨(F j).d, 0, none⟩)) := (by constructor; (rw [F8.rowA.cellAt j (by omega)]; simp [hjN]); (rw [F8.rowB.cellAt j (by omega)]; simp [hjN]))))
          all_goals
            go_wp2
            go_roundg (N - (j + 1))
            case measure => omega
            case rel => exact ⟨j + 1, by omega, rfl, F8, BD.out.trans (b8.mono BD.out.size)⟩
        · have HB : Hid _ := hb
          clear hb hF
          go_wp2
          go_ret
          exact ⟨rfl, HB.out⟩
end Go.Proofs.Ytjmiifgofedcnaa
