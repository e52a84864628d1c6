/-
  ProfileTells, walked: the three answers.
-/
import Derived.Test.YtljkllhpghjbiaaShown
import Derived.Test.YtljkllhpghjbiaaTelO
import Derived.Deep.CutBlock
import Derived.Deep.DeepCutAuto
import Derived.Deep.RegionHeld3
namespace Go.Proofs.Ytljkllhpghjbiaa
open Go.RowKit Pr

/-- Runs that are handed in. -/
structure Inp where
  ao : Option Addr
  l : List Rn
  c : Nat
structure InOk (w : World) (I : Inp) : Prop where
  runs : RunsAt w I.ao I.l
  nil : I.ao = none → I.l = [] ∧ I.c = 0
  len : I.l.length * 16 + 256 ≤ 140737488355328
def pickI (I1 I2 : Inp) (j : Nat) : Inp := if j = 1 then I2 else I1
theorem pick_ok {w : World} {I1 I2 : Inp} (h1 : InOk w I1) (h2 : InOk w I2) (j : Nat) : InOk w (pickI I1 I2 j) := by unfold pickI; split <;> assumption
theorem Try.inf26 : (Try.prog.info? 26).map (fun i => (i.zero, i.size, i.bytes)) = some (some (.slice none 0 0), 1, 24) := by kernel_rfl

/-- What one round asks, in whatever world. -/
structure Asks (w : World) (now free t need : Int) (ax : Option Addr) (lx : List Rn) (cx q : Nat) (S : List Stp) (xn xa xm : Int) (xb : Bool) : Prop where
  lend : ∀ W, Below w.heap.size w W → Calls Try.prog 8 #[.slice ax q cx] W fun e w' => ∃ g cap cur, e = .returned (.slice (some ⟨g, 0, none⟩) (q + 1) cap) ∧ W.heap.size ≤ g ∧ w'.heap[g]? = some (.cells cur 42 (0, 0)) ∧ q + 1 ≤ cap ∧
      (∀ j y, (lx ++ [⟨-77, 0⟩])[j]? = some y → cur[j * 2]? = some (.int .i64 y.nd) ∧ cur[j * 2 + 1]? = some (.int .i64 y.en)) ∧ RunsAt w' (some ⟨g, 0, none⟩) lx ∧ Below W.heap.size W w'
  steps : ∀ W ao' c', RunsAt W ao' lx → Calls Try.prog 9 #[.int .i64 now, .int .i64 free, .slice ao' q c'] W fun e w' => ∃ aS cS, e = .returned (.slice aS S.length cS) ∧ w'.ownsRow W.heap.size 34 2 (.slice aS S.length cS) S.length (flatS S) ∧ Below W.heap.size W w'
  at_ : ∀ W ao' c', RunsAt W ao' lx → Calls Try.prog 10 #[.int .i64 now, .int .i64 free, .slice ao' q c', .int .i64 t] W fun e w' => e = .returned (.int .i64 xn) ∧ Below W.heap.size W w'
  sh : ∀ W ao' c', RunsAt W ao' lx → Calls Try.prog 11 #[.int .i64 now, .int .i64 free, .slice ao' q c', .int .i64 need] W fun e w' => e = .returned (.tuple #[.int .i64 xa, .int .i64 xm, .bool xb]) ∧ Below W.heap.size W w'
  rsh : ∀ W, Below w.heap.size w W → Calls Try.prog 12 #[.int .i64 now, .int .i64 free, .slice ax q cx, .int .i64 need] W fun e w' => e = .returned (.tuple #[.int .i64 xa, .int .i64 xm, .bool xb]) ∧ Below W.heap.size W w'
  rsteps : ∀ W, Below w.heap.size w W → Calls Try.prog 13 #[.int .i64 now, .int .i64 free, .slice ax q cx] W fun e w' => ∃ aS cS, e = .returned (.slice aS S.length cS) ∧ StepsAt w' (.slice aS S.length cS) S ∧ Below W.heap.size W w'
  rat : ∀ W, Below w.heap.size w W → Calls Try.prog 15 #[.int .i64 now, .int .i64 free, .slice ax q cx, .int .i64 t] W fun e w' => e = .returned (.int .i64 xn) ∧ Below W.heap.size W w'
  same : ∀ W va vb, StepsAt W va S → StepsAt W vb S → Calls Try.prog 14 #[va, vb] W fun e w' => e = .returned (.bool true) ∧ Below W.heap.size W w'
  still : ∀ W, Below w.heap.size w W → ∀ g cap cur, W.heap[g]? = some (.cells cur 42 (0, 0)) → q + 1 ≤ cap → (∀ j y, (lx ++ [⟨-77, 0⟩])[j]? = some y → cur[j * 2]? = some (.int .i64 y.nd) ∧ cur[j * 2 + 1]? = some (.int .i64 y.en)) →
      Calls Try.prog 16 #[.slice (some ⟨g, 0, none⟩) (q + 1) cap, .slice ax q cx] W fun e w' => e = .returned (.bool true) ∧ Chg (fun j => j = g) W w'
  slen : S.length ≤ q + 1
theorem asks {w : World} {ax : Option Addr} {lx : List Rn} {cx : Nat} (h : InOk w ⟨ax, lx, cx⟩) (now free t need : Int) : ∃ xa xm xb, Asks w now free t need ax lx cx lx.length (stepsV now free lx) (AtV now free lx t) xa xm xb := by
  obtain ⟨xa, xm, xb, hx⟩ := shA_any need (shadowV now free lx need)
  have hl := h.len
  have hsl := steps_len now free lx
  simp only at hl
  refine ⟨xa, xm, xb, ?_, ?_, ?_, ?_, ?_, ?_, ?_, ?_, ?_, hsl⟩
  · intro W hb
    refine (lend_any (c := cx) (h.runs.below hb) h.nil (by simp only; omega)).mono ?_
    rintro e w' ⟨v, rfl, hrow, hb'⟩
    obtain ⟨g, cap, cur, rfl, h1, h2, h3, _, h4, h5⟩ := lent_row hrow
    exact ⟨g, cap, cur, rfl, h1, h2, h3, h4, h5, hb'⟩
  · intro W ao' c' hA
    refine (psteps_any (c := c') hA (by omega) now free).mono ?_
    rintro e w' ⟨v, rfl, hrow, hb⟩
    obtain ⟨aS, cS, g, rfl, _, _⟩ := stepsAt_row hrow
    exact ⟨aS, cS, rfl, hrow, hb⟩
  · intro W ao' c' hA
    exact pat_any (c := c') hA (by omega) now free t
  · intro W ao' c' hA
    have := pshadow_any (c := c') hA (by omega) now free need
    rwa [hx] at this
  · intro W hb
    have := shadow_any (c := cx) (h.runs.below hb) (by simp only; omega) now free need
    rwa [hx] at this
  · intro W hb
    refine (steps_any (c := cx) (h.runs.below hb) (by simp only; omega) now free).mono ?_
    rintro e w' ⟨v, rfl, hrow, hb⟩
    have hst := stepsAt_row hrow
    obtain ⟨aS, cS, g, rfl, k1, k2⟩ := hst
    exact ⟨aS, cS, rfl, ⟨aS, cS, g, rfl, k1, k2⟩, hb⟩
  · intro W hb
    exact rat_any (c := cx) (h.runs.below hb) (by simp only; omega) now free t
  · intro W va vb ha hb
    exact sameSteps_yes ha hb (by omega)
  · intro W hb g cap cur h1 h2 h3
    exact still_any h1 h2 h3 (h.runs.below hb) (by omega)

theorem tells_keep {wr w2 w3 w9 w10 : World} {B g n : Nat} {v : Value} {us : List Value} (b2 : Below wr.heap.size wr w2) (hrow3 : w3.ownsRow w2.heap.size 34 2 v n us) (b29 : Below w2.heap.size w2 w9) (b39 : Below w3.heap.size w3 w9) (hg : wr.heap.size ≤ g) (hgl : g < w2.heap.size)
    (hC : Chg (fun j => j = g) w9 w10) (hB : B ≤ w2.heap.size) : Below wr.heap.size wr w10 ∧ w10.ownsRow B 34 2 v n us ∧ ∀ b, v.ownBlock = some b → wr.heap.size ≤ b := by
  have h19 := b2.trans (b29.mono b2.size)
  have hr9 := row_kept hrow3 b39
  refine ⟨hC.below h19 h19.size (fun i e => by rw [e]; exact hg), own_base (row_same hr9 (fun k hk => hC.block k (row_lt hr9 hk) (fun e => ?_))) hB, fun b hb => ?_⟩
  · have := (row_block hr9 hk).1
    omega
  · have := (row_block hrow3 hb).1
    have := b2.size
    omega

set_option maxHeartbeats 8000000 in
set_option maxRecDepth 20000 in
theorem tells_walk {w : World} {I1 I2 : Inp} (k1 : InOk w I1) (k2 : InOk w I2) (now free t need : Int) :
    Calls Try.prog 3 #[.int .i64 now, .int .i64 free, .slice I1.ao I1.l.length I1.c, .slice I2.ao I2.l.length I2.c, .int .i64 t, .int .i64 need] w fun e w' => e = .returned (.bool true) ∧ Below w.heap.size w w' := by
  obtain ⟨S, hS⟩ : ∃ S : Nat → List Stp, S = fun j => stepsV now free (pickI I1 I2 j).l := ⟨_, rfl⟩
  have HAK : ∀ j, ∃ ax lx cx xn xa xm xb, pickI I1 I2 j = ⟨ax, lx, cx⟩ ∧ lx.length * 16 + 256 ≤ 140737488355328 ∧ Asks w now free t need ax lx cx lx.length (S j) xn xa xm xb := fun j => by
    obtain ⟨⟨ax, lx, cx⟩, hI⟩ : ∃ I, pickI I1 I2 j = I := ⟨_, rfl⟩
    have hok := pick_ok k1 k2 j
    rw [hI] at hok
    obtain ⟨xa, xm, xb, h⟩ := asks hok now free t need
    refine ⟨ax, lx, cx, AtV now free lx t, xa, xm, xb, hI, hok.len, ?_⟩
    rw [hS]
    simp only [hI]
    exact h
  have HAKS : Hid _ := HAK
  have HS : Hid _ := hS
  clear HAK hS
  obtain ⟨i6, hi6, hy0, hy1, hy2⟩ := info_parts Try.inf26
  obtain ⟨i4, hi4, hz0, hz1, hz2⟩ := info_parts Try.inf34
  go_enter Try.func3, Try.ntmps3
  go_wp2_with fail
  refine (shown_any _).mono ?_
  rintro e w1 ⟨rfl, b1⟩
  go_wp2_with fail
  go_loopg [13, 14] 3 (fun gk p i wr => ∃ (j : Nat) (ov : Value) (vs : List Value), j + gk = 3 ∧ p = ov ∧ i = .int .i64 j ∧ OutsI S w.heap.size j ov vs wr ∧ Below w.heap.size w wr)
  case atStart =>
    refine ⟨0, _, [], by omega, rfl, rfl, ⟨rfl, ⟨rfl, .inr ⟨w1.heap.size, 0, #[], rfl, b1.size, heap_alloc_new w1 _, Nat.le_refl _, by decide, rfl, rfl⟩⟩, fun i v hv => by simp at hv, fun i i' v v' b hv => by simp at hv⟩, b1.alloc b1.size _⟩
  case round =>
    obtain ⟨j, ov, vs, hj, hp, rfl, hO, hb⟩ := hrel
    have hp' := hp.symm
    clear hp
    subst hp'
    by_cases hlt : j < 3
    · have hlt' : (j : Int) < 3 := by omega
      obtain ⟨ax, lx, cx, xn, xa, xm, xb, hI, hl, hA⟩ := HAKS.out j
      obtain ⟨q, hq⟩ : ∃ q, lx.length = q := ⟨_, rfl⟩
      rw [hq] at hA hl
      have hsn := hA.slen
      obtain ⟨n, hn⟩ : ∃ n, (S j).length = n := ⟨_, rfl⟩
      have HA : Hid _ := hA
      have HO : Hid _ := hO
      have HB : Hid _ := hb
      obtain ⟨jb, hjb⟩ : ∃ jb, ((j : Int) == 1) = jb := ⟨_, rfl⟩
      have HI : Hid (pickI I1 I2 j = ⟨ax, lx, cx⟩) := hI
      clear hA hO hb hI
      go_upto_if 40 with fail
      go_cut [15] (fun p wc => p = .slice ax q cx ∧ wr = wc)
      case first =>
        cases jb with
        | true =>
          have e : I2 = ⟨ax, lx, cx⟩ := by
            have := HI.out
            unfold pickI at this
            rwa [if_pos (by simp at hjb; omega)] at this
          have HE : Hid (Value.slice I2.ao I2.l.length I2.c = .slice ax q cx) := show Value.slice I2.ao I2.l.length I2.c = .slice ax q cx by rw [e, ← hq]
          clear e hjb
          go_wp2
          go_meet
          exact ⟨HE.out, rfl⟩
        | false =>
          have e : I1 = ⟨ax, lx, cx⟩ := by
            have := HI.out
            unfold pickI at this
            rwa [if_neg (by simp at hjb; omega)] at this
          have HE : Hid (Value.slice I1.ao I1.l.length I1.c = .slice ax q cx) := show Value.slice I1.ao I1.l.length I1.c = .slice ax q cx by rw [e, ← hq]
          clear e hjb
          go_wp2
          go_meet
          exact ⟨HE.out, rfl⟩
      case rest =>
        obtain ⟨rfl, rfl⟩ := hcut
        clear HAKS HS b1
        go_upto_region 19 with (first
          | (go_at_call 8; refine (Asks.lend HA.out wr HB.out).mono ?_; rintro e w2 ⟨g, cap, cur, rfl, hg2, hh2, hle2, hcur2, hA2, b2⟩; have B2 := HB.out.trans (b2.mono HB.out.size))
          | (go_at_call 9; refine (Asks.steps HA.out w2 _ _ hA2).mono ?_; rintro e w3 ⟨aS, cS, rfl, hrow3, b3⟩; rw [hn] at hrow3 ⊢; have B3 := B2.trans (b3.mono B2.size))
          | (go_at_call 10; refine (Asks.at_ HA.out w3 _ _ (hA2.below b3)).mono ?_; rintro e w4 ⟨rfl, b4⟩; have b24 := b3.trans (b4.mono b3.size); have B4 := B2.trans (b24.mono B2.size))
          | (go_at_call 11; refine (Asks.sh HA.out w4 _ _ (hA2.below b24)).mono ?_; rintro e w5 ⟨rfl, b5⟩; have b25 := b24.trans (b5.mono b24.size); have B5 := B2.trans (b25.mono B2.size))
          | (go_at_call 12; refine (Asks.rsh HA.out w5 B5).mono ?_; rintro e w6 ⟨rfl, b6⟩; have b26 := b25.trans (b6.mono b25.size); have B6 := B2.trans (b26.mono B2.size))
          | (go_at_call 13; refine (Asks.rsteps HA.out w6 B6).mono ?_; rintro e w7 ⟨aR, cR, rfl, hst7, b7⟩; rw [hn] at hst7 ⊢; have b27 := b26.trans (b7.mono b26.size); have B7 := B2.trans (b27.mono B2.size); have b37 : Below w3.heap.size w3 w7 := b4.trans ((b5.trans ((b6.trans (b7.mono b6.size)).mono b5.size)).mono b4.size))
          | (go_at_call 14; refine (Asks.same HA.out w7 _ _ (by have := stepsAt_row (l := S j) (by rw [hn]; exact row_kept hrow3 b37); exact this) hst7).mono ?_; rintro e w8 ⟨rfl, b8⟩; have b28 := b27.trans (b8.mono b27.size); have B8 := B2.trans (b28.mono B2.size))
          | (go_at_call 15; refine (Asks.rat HA.out w8 B8).mono ?_; rintro e w9 ⟨rfl, b9⟩; have b29 := b28.trans (b9.mono b28.size); have B9 := B2.trans (b29.mono B2.size))
          | (go_at_call 16; refine (Asks.still HA.out w9 B9 g cap cur ((b29.block g (Array.getElem?_eq_some_iff.1 hh2).1).trans hh2) hle2 hcur2).mono ?_; rintro e w10 ⟨rfl, hC⟩; obtain ⟨b10, r10, hnew⟩ := tells_keep (B := w.heap.size) b2 hrow3 b29 (b37.trans ((b8.trans (b9.mono b8.size)).mono b37.size)) hg2 (Array.getElem?_eq_some_iff.1 hh2).1 hC B2.size; have O10 := OutsI.below HO.out b10; have B10 := HB.out.trans (b10.mono HB.out.size); have z10 := B10.size))
        go_wp2_with (at_builtin; refine wpList_append_own_at _ rfl (.tmp 113) (.tmp 115) 24 rfl w.heap.size 26 i6 _ 1 24 Try.underlying24 hi6 hy0 hy1 hy2 rfl (by decide) ov j vs rfl (O10.row.alloc _) ⟨_, 0, none⟩ 1 1 [.slice aS n cS] rfl rfl (cell_one_new _ _ _) (fun u hu => by simp at hu; subst hu; rfl) ?_ ?_ ?_ ?_; exact (Nat.le_trans (m := 35184372088832) (by omega) (by decide)); omega; (simp; omega); intro ov' w11 hown hgr _ _)
        go_roundg (3 - (j + 1))
        case measure => omega
        case rel =>
          refine ⟨j + 1, ov', vs ++ [.slice aS n cS], by omega, rfl, rfl, HO.out.add O10 (by rw [hn]; exact r10) hnew hown hgr, ?_⟩
          exact (B10.alloc z10 _).grown hgr (by simp; omega) (fun k e => (O10.row.lt k e).1)
    · obtain rfl : j = 3 := by omega
      obtain ⟨go, capo, vf0, hov, hgo, hR0⟩ := hO.rest
      subst hov
      have HR0 : Hid _ := hR0
      have HB : Hid _ := hb
      clear hR0 hb hO b1
      go_wp2_with fail
      go_loopg [27] 3 (fun gk i wr => ∃ (j : Nat) (vf : Nat → Value), j + gk = 3 ∧ i = .int .i64 j ∧ RestI S w.heap.size go j vf wr ∧ Below w.heap.size w wr)
      case atStart => exact ⟨0, vf0, by omega, rfl, HR0.out, HB.out⟩
      case round =>
        clear HR0 HB
        obtain ⟨j, vf, hj2, rfl, hR, hb⟩ := hrel
        by_cases hlt : j < 3
        · have hlt' : (j : Int) < 3 := by omega
          obtain ⟨ax, lx, cx, xn, xa, xm, xb, hI, hl, hA⟩ := HAKS.out j
          obtain ⟨q, hq⟩ : ∃ q, lx.length = q := ⟨_, rfl⟩
          rw [hq] at hA hl
          have hsn := hA.slen
          have HA : Hid (Asks w now free t need ax lx cx q (S j) xn xa xm xb) := hA
          have HR : Hid (RestI S w.heap.size go j vf wr) := hR
          have HB : Hid (Below w.heap.size w wr) := hb
          obtain ⟨jb, hjb⟩ : ∃ jb, ((j : Int) == 1) = jb := ⟨_, rfl⟩
          have HI : Hid (pickI I1 I2 j = ⟨ax, lx, cx⟩) := hI
          clear hA hR hb hI
          go_upto_if 123 with fail
          go_cut [28] (fun p wc => p = .slice ax q cx ∧ wr = wc)
          case first =>
            cases jb with
            | true =>
              have e : I2 = ⟨ax, lx, cx⟩ := by
                have := HI.out
                unfold pickI at this
                rwa [if_pos (by simp at hjb; omega)] at this
              have HE : Hid (Value.slice I2.ao I2.l.length I2.c = .slice ax q cx) := show Value.slice I2.ao I2.l.length I2.c = .slice ax q cx by rw [e, ← hq]
              clear e hjb
              go_wp2
              go_meet
              exact ⟨HE.out, rfl⟩
            | false =>
              have e : I1 = ⟨ax, lx, cx⟩ := by
                have := HI.out
                unfold pickI at this
                rwa [if_neg (by simp at hjb; omega)] at this
              have HE : Hid (Value.slice I1.ao I1.l.length I1.c = .slice ax q cx) := show Value.slice I1.ao I1.l.length I1.c = .slice ax q cx by rw [e, ← hq]
              clear e hjb
              go_wp2
              go_meet
              exact ⟨HE.out, rfl⟩
          case rest =>
            obtain ⟨rfl, rfl⟩ := hcut
            obtain ⟨aS, cS, hvj⟩ : ∃ aS cS, vf j = .slice aS (S j).length cS := by
              rcases (HR.out.each j (Nat.le_refl _) hlt).2 with ⟨h0, h1⟩ | ⟨g, cap, cur, h0, _⟩
              · exact ⟨none, 0, by rw [h0, h1]⟩
              · exact ⟨_, _, h0⟩
            have S0 : Hid (wr.drew.cell? ⟨go, j, none⟩ = some (.slice aS (S j).length cS)) := by
              obtain ⟨cu, hc1, hc2⟩ := HR.out.blk
              rw [← hvj]
              exact cells_at (w := wr.drew) hc1 (hc2 j hlt)
            have hrj : Hid (wr.ownsRow w.heap.size 34 2 (.slice aS (S j).length cS) (S j).length (flatS (S j))) := by
              have := HR.out.each j (Nat.le_refl _) hlt
              rwa [hvj] at this
            have bD : Below wr.heap.size wr wr.drew := drew_below wr 1
            have HBD : Hid (Below w.heap.size w wr.drew) := HB.out.trans (bD.mono HB.out.size)
            have HVJ : Hid _ := hvj
            clear hvj hjb HAKS HS hj
            go_wp2_with fail
            go_region_held3 (fun w' => w'.cell? ⟨go, j, none⟩ = some (.slice aS (S j).length cS)) (first | exact S0.out | exact s2 | exact s3)
              (first
              | (go_at_call 13; refine (Asks.rsteps HA.out wr.drew HBD.out).mono ?_; rintro e w2 ⟨aR, cR, rfl, hst2, b2⟩; have s2 := cellB b2 S0.out)
              | (go_at_call 14; refine (Asks.same HA.out w2 _ _ (stepsAt_row (row_kept (row_kept hrj.out bD) b2)) hst2).mono ?_; rintro e w3 ⟨rfl, b3⟩; have s3 := cellB b3 s2))
            have bb3 : Below wr.heap.size wr w3 := bD.trans ((b2.trans (b3.mono b2.size)).mono bD.size)
            have T3 : Hid (TurnI S w.heap.size go j vf (.slice aS (S j).length cS) (S j).length w3) := by
              have := (HR.out.below bb3).turn hlt
              rwa [HVJ.out] at this
            have B3 : Hid (Below w.heap.size w w3) := HB.out.trans (bb3.mono HB.out.size)
            have c3 := s3
            clear s3 s2 b2 b3 bb3 hst2 S0 hrj bD HBD HVJ HR HB HA
            obtain ⟨n, hn⟩ : ∃ n, (S j).length = n := ⟨_, rfl⟩
            rw [hn] at T3 c3 hsn ⊢
            clear hn
            go_wp2_with fail
            go_loopg [29] n (fun gk p wr => ∃ m : Nat, m + gk = n ∧ p = .int .i64 m ∧ TurnI S w.heap.size go j vf (.slice aS n cS) n wr ∧ Below w.heap.size w wr)
            case atStart => exact ⟨0, by omega, rfl, T3.out, B3.out⟩
            case round =>
              clear T3 B3 c3
              obtain ⟨m, hm, rfl, hT, hb⟩ := hrel
              have c0 : wr.cell? ⟨go, j, none⟩ = some (.slice aS n cS) := by
                obtain ⟨cu, h1, _, h3⟩ := hT.blk
                exact cells_at h1 h3
              by_cases hmn : m < n
              · have hmn' : (m : Int) < n := by omega
                obtain ⟨g, rfl, x1, x2, hgB, hfr⟩ : ∃ g, aS = some ⟨g, 0, none⟩ ∧ (∃ v, wr.cell? ⟨g, m * 2, none⟩ = some v) ∧ (∃ v, wr.cell? ⟨g, m * 2 + 1, none⟩ = some v) ∧ w.heap.size ≤ g ∧ ∀ k, wr.frozen? ⟨g, k, none⟩ = false := by
                  obtain ⟨us, hr⟩ := hT.row
                  rcases hr.2 with ⟨_, h0⟩ | ⟨g, cap, cur, h0, hB, hg, h1, h2, h3, h4⟩
                  · omega
                  · simp at h0
                    obtain ⟨h0, rfl⟩ := h0
                    exact ⟨g, h0, ⟨_, cells_at hg (Array.getElem?_eq_getElem (by omega))⟩, ⟨_, cells_at hg (Array.getElem?_eq_getElem (by omega))⟩, hB, fun k => frozen_at hg⟩
                obtain ⟨v1, x1⟩ := x1
                obtain ⟨v2, x2⟩ := x2
                have HT : Hid _ := hT
                have HB : Hid _ := hb
                clear hT hb
                go_wp2
                go_roundg (n - (m + 1))
                case measure => omega
                case rel => exact ⟨m + 1, by omega, rfl, HT.out.set, (HB.out.setCell (p := ⟨g, m * 2, none⟩) hgB _).setCell (p := ⟨g, m * 2 + 1, none⟩) hgB _⟩
              · obtain rfl : m = n := by omega
                have HT : Hid (TurnI S w.heap.size go j vf (.slice aS m cS) m wr) := hT
                have HB : Hid (Below w.heap.size w wr) := hb
                clear hT hb
                go_wp2_with fail
                go_loopg [30] 9 (fun gk p wr => ∃ (k : Nat) (v : Value), k + gk = 9 ∧ p = .int .i64 k ∧ TurnI S w.heap.size go j vf v (m + k) wr ∧ Below w.heap.size w wr)
                case atStart => exact ⟨0, _, by omega, rfl, HT.out, HB.out⟩
                case round =>
                  clear HT HB c0
                  obtain ⟨k, v, hk, rfl, hT, hb⟩ := hrel
                  by_cases hk9 : k < 9
                  · have hk9' : (k : Int) < 9 := by omega
                    have c0 : wr.cell? ⟨go, j, none⟩ = some v := by
                      obtain ⟨cu, h1, _, h3⟩ := hT.blk
                      exact cells_at h1 h3
                    obtain ⟨us, hr⟩ := hT.row
                    have HT : Hid (TurnI S w.heap.size go j vf v (m + k) wr) := hT
                    have HB : Hid (Below w.heap.size w wr) := hb
                    have hz := hb.size
                    clear hT hb
                    go_upto_region 35 with fail
                    go_wp2_with (at_builtin; refine wpList_append_own_at _ rfl (.tmp 160) (.tmp 162) 26 rfl w.heap.size 34 i4 _ 2 16 Try.underlying26 hi4 hz0 hz1 hz2 rfl (by decide) v (m + k) us rfl (hr.alloc _) ⟨_, 0, none⟩ 1 1 [.int .i64 (-8), .int .i64 0] rfl rfl (new_cells _ _ _) (fun u hu => by simp at hu; rcases hu with rfl | rfl <;> rfl) ?_ ?_ ?_ ?_; exact (Nat.le_trans (m := 35184372088832) (by omega) (by decide)); omega; (simp; omega); intro v' w5 hown hgr _ hat; obtain ⟨g', cap', rfl⟩ := ownsRow_succ hown; obtain ⟨T5, y0, y1⟩ := TurnI.app HT.out hown hgr hat; have B5 := (HB.out.alloc hz (.cells #[.int .i64 (-8), .int .i64 0] 34)).grown hgr (by simp; omega) (fun k e => (hr.lt k e).1))
                    go_roundg (9 - (k + 1))
                    case measure => omega
                    case rel => exact ⟨k + 1, _, by omega, rfl, T5, B5.setCell (p := ⟨go, j, none⟩) hgo _⟩
                  · obtain rfl : k = 9 := by omega
                    have HT : Hid _ := hT
                    have HB : Hid _ := hb
                    clear hT hb
                    go_wp2
                    go_roundg (3 - (j + 1))
                    case measure => omega
                    case rel => exact ⟨j + 1, _, by omega, rfl, HT.out.rest, HB.out⟩
        · obtain rfl : j = 3 := by omega
          go_wp2
          go_ret
          exact ⟨rfl, hb⟩
end Go.Proofs.Ytljkllhpghjbiaa
