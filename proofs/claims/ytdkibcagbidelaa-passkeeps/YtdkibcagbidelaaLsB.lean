/-
  LAYER 15: the statements' helpers: sameInts once more (it only reads); PassBehind's walk.
-/
import Derived.Test.YtdkibcagbidelaaHdA
import Derived.Test.YtdkibcagbidelaaLsK
import Derived.Test.YtdkibcagbidelaaPsB
import Derived.WalkSmall
namespace Go.Proofs.Ytdkibcagbidelaa
open Go.RowKit Pr

set_option maxHeartbeats 400000 in
theorem sameInts_quiet {w : World} {ao1 ao2 : Option Addr} {cap1 cap2 : Nat} {l : List Int} (ha : IntsAt w ao1 l) (hb : IntsAt w ao2 l) (hn : l.length * 8 ≤ 140737488355328) :
    Calls Try.prog 12 #[.slice ao1 l.length cap1, .slice ao2 l.length cap2] w fun e w' => e = .returned (.bool true) ∧ ∃ m, w' = w.drewN m := by
  obtain ⟨g1, o1, h1, c1⟩ := ha
  obtain ⟨g2, o2, h2, c2⟩ := hb
  obtain ⟨q, hq⟩ : ∃ q, l.length = q := ⟨_, rfl⟩
  rw [hq] at h1 h2 hn ⊢
  go_enter Try.func12, Try.ntmps12
  go_wp2
  go_loopg [5] q (fun gk p wr => ∃ j m : Nat, j + gk = q ∧ p = .int .i64 j ∧ wr = w.drewN m)
  case atStart => exact ⟨0, 0, by omega, rfl, rfl⟩
  case round =>
    obtain ⟨j, m, hj, rfl, rfl⟩ := hrel
    by_cases hlt : j < q
    · obtain ⟨s, hs⟩ : ∃ s, l[j]? = some s := ⟨_, List.getElem?_eq_getElem (by omega)⟩
      obtain rfl := h1 (by omega)
      obtain rfl := h2 (by omega)
      have d1 := c1 j s hs
      have d2 := c2 j s hs
      clear c1 c2 h1 h2
      go_wp2_with fail
      go_quiet (fail)
      all_goals
        go_wp2
        go_roundg (q - (j + 1))
        case measure => omega
        case rel => exact ⟨j + 1, _, by omega, rfl, by first | rfl | simp⟩
    · obtain rfl : j = q := by omega
      go_wp2
      go_ret
      exact ⟨rfl, m, rfl⟩

def askV (now free : Int) (wv : Value) (ho : Int) (rv : Value) : Array Value := #[.int .i64 now, .int .i64 free, wv, .int .i64 ho, rv]
set_option maxRecDepth 20000 in
set_option maxHeartbeats 1000000 in
theorem behind_walk {w : World} {wo ao : Option Addr} {ws : List Wt} {rs : List Rn} {cw cr : Nat} (hW : WantsAt w wo ws) (hA : RunsAt w ao rs) (hnw : ws.length * 24 ≤ 140737488351232) (hn : rs.length * 16 ≤ 140737488351232) (hj : ∀ x ∈ ws, JobOk x) (hnil : wo = none → ws.length = 0 ∧ cw = 0) (now free ho : Int) (x : Wt) (hxj : JobOk x) :
    Calls Try.prog 6 #[.agg #[.int .i64 now, .int .i64 free, .slice wo ws.length cw, .int .i64 ho, .slice ao rs.length cr], .agg #[.int .i64 x.job, .int .i64 x.nd, .int .i64 x.lm]] w fun e w' => e = .returned (.bool true) ∧ Below w.heap.size w w' := by
  obtain ⟨za, hza⟩ : ∃ za, w.heap.size = za := ⟨_, rfl⟩
  obtain ⟨W1, hW1⟩ : ∃ W1, (w.alloc (.cells #[.int .i64 now, .int .i64 free, .slice wo ws.length cw, .int .i64 ho, .slice ao rs.length cr] 25)).alloc (.cells #[.int .i64 x.job, .int .i64 x.nd, .int .i64 x.lm] 40) = W1 := ⟨_, rfl⟩
  have b1 : Below w.heap.size w W1 := by rw [← hW1]; exact ((Below.refl _ w).alloc (Nat.le_refl _) _).alloc (by simp) _
  have ka : W1.heap[za]? = some (.cells #[.int .i64 now, .int .i64 free, .slice wo ws.length cw, .int .i64 ho, .slice ao rs.length cr] 25 (0, 0)) := by
    rw [← hW1, ← hza]
    exact (Below.heap_alloc _ _ _ (by simp)).trans (heap_alloc_new w _)
  have kx : W1.heap[za + 1]? = some (.cells #[.int .i64 x.job, .int .i64 x.nd, .int .i64 x.lm] 40 (0, 0)) := by
    rw [← hW1, ← hza]
    have := heap_alloc_new (w.alloc (.cells #[.int .i64 now, .int .i64 free, .slice wo ws.length cw, .int .i64 ho, .slice ao rs.length cr] 25)) (.cells #[.int .i64 x.job, .int .i64 x.nd, .int .i64 x.lm] 40)
    rwa [World.size_alloc] at this
  have CP : Hid (∀ W, Below w.heap.size w W → Calls Try.prog 13 #[.int .i64 now, .int .i64 free, .slice wo ws.length cw, .int .i64 ho, .slice ao rs.length cr] W fun e w' =>
      ∃ v, e = .returned (.tuple #[planV v (passR now free ws ho rs), .int .i64 (passE now free ws ho rs)]) ∧ w'.ownsRow W.heap.size 3 1 v (passR now free ws ho rs).st.length (intsV (passR now free ws ho rs).st) ∧ Below W.heap.size W w') :=
    fun W b => pass_any (hA.below b) (by omega) (hW.below b) (by omega) hj now free ho
  have HKA : Hid _ := ka
  have HKX : Hid _ := kx
  have HB1 : Hid _ := b1
  clear ka kx b1
  go_enter Try.func6, Try.ntmps6
  go_upto_region 3 with (go_at_call 8; refine (shown_any _).mono ?_; rintro e w2 ⟨rfl, b2⟩)
  have B2 : Below w.heap.size w w2 := HB1.out.trans (b2.mono HB1.out.size)
  have ka := (b2.block _ (lt_of_blk HKA.out)).trans HKA.out
  have kx := (b2.block _ (lt_of_blk HKX.out)).trans HKX.out
  have c0 := cells_at ka (k := 0) rfl
  have c1 := cells_at ka (k := 1) rfl
  have c2 := cells_at ka (k := 2) rfl
  have c3 := cells_at ka (k := 3) rfl
  have c4 := cells_at ka (k := 4) rfl
  have C1 := CP.out w2 B2
  have HKA2 : Hid _ := ka
  have HKX2 : Hid _ := kx
  have HB2 : Hid _ := B2
  clear ka kx B2 b2 HB1 HKA HKX hW1
  cases hc : chkB now free ws ho rs with
  | false =>
    have e1 : passE now free ws ho rs = 150 := by unfold passE; rw [hc]; rfl
    rw [e1] at C1
    unfold planV at C1
    go_wp2_with (go_at_call 13; refine C1.mono ?_; rintro e w3 ⟨v, rfl, hr, b3⟩; obtain ⟨sa, sc, rfl, _⟩ := ints_row hr)
    go_ret
    exact ⟨rfl, (HB2.out.trans (b3.mono HB2.out.size)).alloc (by have := b3.size; have := HB2.out.size; omega) _⟩
  | true =>
    have e1 : passE now free ws ho rs = 0 := by unfold passE; rw [hc]; rfl
    rw [e1] at C1
    unfold planV at C1
    have hck := chk_iff.1 hc
    have hpv : passR now free ws ho rs = passV now free ws ho rs := by unfold passR; rw [hc]; rfl
    have hprev := (passR_perm (now := now) (free := free) (ho := ho) (ws := ws) (List.reverse_perm rs))
    have hlen : (passR now free ws ho rs).st.length ≤ 256 := by
      rw [hpv]
      obtain ⟨pre, f, rest, h, Y, s, hd⟩ := pass_done hck
      rw [hd.st, List.length_map]
      have := good_len hd.good
      have := (right_parts.1 hck.rt).1.2
      omega
    rw [e1] at hprev
    generalize hPV : passR now free ws ho rs = PV at *
    have HPV : Hid (PV = passV now free ws ho rs) := hpv
    have CR : Hid (∀ (W : World) (v : Value), Below w.heap.size w W → W.ownsRow w.heap.size 45 2 v rs.reverse.length (flatR rs.reverse) → ∀ (c : Nat) (a : Option Addr), v = .slice a rs.length c → Calls Try.prog 13 #[.int .i64 now, .int .i64 free, .slice wo ws.length cw, .int .i64 ho, .slice a rs.length c] W fun e w' =>
        ∃ v, e = .returned (.tuple #[.agg #[v, .int .i64 PV.ho, .int .i64 PV.sh, .int .i64 PV.ex], .int .i64 0]) ∧ w'.ownsRow W.heap.size 3 1 v PV.st.length (intsV PV.st) ∧ Below W.heap.size W w') := fun W v b hr c a hv => by
      obtain ⟨a2, c2, e2, hR⟩ := row_runs hr
      rw [hv] at e2
      injection e2 with ea el ec
      subst ea
      have := pass_any (c := c) (cw := cw) hR (by simp; omega) (hW.below b) (by omega) hj now free ho
      rw [hprev.1, hprev.2, List.length_reverse] at this
      exact this
    clear hprev hPV hpv
    go_upto_region 6 with (go_at_call 13; refine C1.mono ?_; rintro e w3 ⟨v, rfl, hr, b3⟩; obtain ⟨sa, sc, rfl, hi3⟩ := ints_row hr)
    have hrs0 : w3.ownsRow 0 3 1 (.slice sa PV.st.length sc) PV.st.length (intsV PV.st) := own_base hr (Nat.zero_le _)
    obtain ⟨zp, hzp⟩ : ∃ zp, w3.heap.size = zp := ⟨_, rfl⟩
    obtain ⟨W3, hW3⟩ : ∃ W3, w3.alloc (.cells #[.slice sa PV.st.length sc, .int .i64 PV.ho, .int .i64 PV.sh, .int .i64 PV.ex] 30) = W3 := ⟨_, rfl⟩
    have bw3 : Below w3.heap.size w3 W3 := by rw [← hW3]; exact (Below.refl _ w3).alloc (Nat.le_refl _) _
    have b23 : Below w2.heap.size w2 W3 := b3.trans (bw3.mono b3.size)
    have HKP : Hid (W3.heap[zp]? = some (.cells #[.slice sa PV.st.length sc, .int .i64 PV.ho, .int .i64 PV.sh, .int .i64 PV.ex] 30 (0, 0))) := show _ = _ by rw [← hW3, ← hzp]; exact heap_alloc_new w3 _
    have HI3 : Hid (IntsAt W3 sa PV.st) := hi3.below bw3
    have HS3 : Hid (W3.ownsRow 0 3 1 (.slice sa PV.st.length sc) PV.st.length (intsV PV.st)) := rowB bw3 hrs0
    have HKA3 : Hid _ := bk b23 HKA2.out
    have HKX3 : Hid _ := bk b23 HKX2.out
    have HB3 : Hid (Below w.heap.size w W3) := HB2.out.trans (b23.mono HB2.out.size)
    obtain ⟨zr, hzr⟩ : ∃ zr, W3.heap.size = zr := ⟨_, rfl⟩
    obtain ⟨W4, hW4⟩ : ∃ W4, W3.alloc (.cells #[] 45) = W4 := ⟨_, rfl⟩
    have b34 : Below W3.heap.size W3 W4 := by rw [← hW4]; exact (Below.refl _ W3).alloc (Nat.le_refl _) _
    have r4 : W4.ownsRow W3.heap.size 45 2 (.slice (some ⟨zr, 0, none⟩) 0 0) 0 [] := by rw [← hW4, ← hzr]; exact made0 W3 45 2
    have d4 := cells_at (bk b34 HKA3.out) (k := 4) rfl
    have HB34 : Hid _ := b34
    have HR4 : Hid (W4.ownsRow W3.heap.size 45 2 (.slice (some ⟨zr, 0, none⟩) 0 0) 0 []) := r4
    obtain ⟨g, o, hga, hcl⟩ := hA
    have HCL0 : Hid (∀ k r, rs[k]? = some r → w.cell? ⟨g, o + k * 2, none⟩ = some (.int .i64 r.nd) ∧ w.cell? ⟨g, o + k * 2 + 1, none⟩ = some (.int .i64 r.en)) := hcl
    have HCL : Hid (∀ k r, rs[k]? = some r → w.cell? ⟨g, o + k * 2, none⟩ = some (.int .i64 r.nd) ∧ w.cell? ⟨g, o + k * 2 + 1, none⟩ = some (.int .i64 r.en)) := hcl
    obtain ⟨q, hq⟩ : ∃ q, rs.length = q := ⟨_, rfl⟩
    rw [hq] at hga hn
    have HQ : Hid (rs.length = q) := hq
    obtain ⟨i0, hi0, hz0, hz1, hz2⟩ := info_parts Try.inf45
    clear C1 hr hrs0 b3 bw3 b23 hi3 HKA2 HKX2 HB2 b34 r4 c0 c1 c2 c3 c4 hcl
    rw [hq] at d4 ⊢
    go_wp2_with fail
    rw [hzp]
    clear hzp hW3
    go_loopg [7, 8] q (fun gk p7 p8 wr => ∃ (k : Nat) (i : Int) (v : Value), gk = k ∧ k ≤ q ∧ i = (k : Int) - 1 ∧ p7 = v ∧ p8 = .int .i64 i ∧ wr.ownsRow W3.heap.size 45 2 v (q - k) (flatR (rs.drop k).reverse) ∧ Below W3.heap.size W3 wr)
    case atStart =>
      refine ⟨q, (q : Int) - 1, _, rfl, Nat.le_refl _, rfl, rfl, rfl, ?_, HB34.out⟩
      rw [List.drop_of_length_le (by have := HQ.out; omega), Nat.sub_self]
      exact HR4.out
    case round =>
      obtain ⟨k, i, v, hgk, hkq, hi, rfl, rfl, hrow, hbw⟩ := hrel
      clear HB34 HR4 hW4 hzr
      cases k with
      | zero =>
        obtain rfl : i = -1 := by omega
        clear hgk hkq hi
        have BW : Below w.heap.size w wr := HB3.out.trans (hbw.mono HB3.out.size)
        obtain ⟨ra, rc, rfl⟩ := own_form hrow
        have hrow' : wr.ownsRow w.heap.size 45 2 (.slice ra (q - 0) rc) rs.reverse.length (flatR rs.reverse) := by
          have := own_base hrow HB3.out.size
          rw [List.drop_zero, ← HQ.out, Nat.sub_zero] at this
          rw [← HQ.out, Nat.sub_zero, List.length_reverse]
          exact this
        have C2 := CR.out wr _ BW hrow' rc ra (by rw [Nat.sub_zero, HQ.out])
        rw [HQ.out] at C2
        have ka := bk hbw HKA3.out
        have c0 := cells_at ka (k := 0) rfl
        have c1 := cells_at ka (k := 1) rfl
        have c2 := cells_at ka (k := 2) rfl
        have c3 := cells_at ka (k := 3) rfl
        have HKA4 : Hid _ := ka
        have HKX4 : Hid _ := bk hbw HKX3.out
        have HKP4 : Hid _ := bk hbw HKP.out
        have HI4 : Hid (IntsAt wr sa PV.st) := HI3.out.below hbw
        have HS4 : Hid (wr.ownsRow 0 3 1 (.slice sa PV.st.length sc) PV.st.length (intsV PV.st)) := rowB hbw HS3.out
        have HB4 : Hid (Below w.heap.size w wr) := BW
        clear ka hrow hrow' hbw BW HKA3 HKX3 HKP HI3 HS3 HB3 d4 HCL
        go_upto_region 12 with (go_at_call 13; refine C2.mono ?_; rintro e w5 ⟨v5, rfl, hr5, b5⟩; obtain ⟨sb, sd, rfl, hi5⟩ := ints_row hr5)
        obtain ⟨zq, hzq⟩ : ∃ zq, w5.heap.size = zq := ⟨_, rfl⟩
        have HB4z : w.heap.size ≤ zq := by have := b5.size; have := HB4.out.size; omega
        have hpq : zp ≠ zq := by have := lt_of_blk HKP4.out; have := b5.size; omega
        obtain ⟨W6, hW6⟩ : ∃ W6, w5.alloc (.cells #[.slice sb PV.st.length sd, .int .i64 PV.ho, .int .i64 PV.sh, .int .i64 PV.ex] 30) = W6 := ⟨_, rfl⟩
        have bw6 : Below w5.heap.size w5 W6 := by rw [← hW6]; exact (Below.refl _ w5).alloc (Nat.le_refl _) _
        have b46 : Below wr.heap.size wr W6 := b5.trans (bw6.mono b5.size)
        have kq : W6.heap[zq]? = some (.cells #[.slice sb PV.st.length sd, .int .i64 PV.ho, .int .i64 PV.sh, .int .i64 PV.ex] 30 (0, 0)) := by rw [← hW6, ← hzq]; exact heap_alloc_new w5 _
        have kp := bk b46 HKP4.out
        have S1 := same_yes (c1 := sc) (c2 := sd) PV (HI4.out.below b46) (hi5.below bw6) (by omega)
        unfold planV at S1
        have p0 := cells_at kp (k := 0) rfl
        have p1 := cells_at kp (k := 1) rfl
        have p2 := cells_at kp (k := 2) rfl
        have p3 := cells_at kp (k := 3) rfl
        have q0 := cells_at kq (k := 0) rfl
        have q1 := cells_at kq (k := 1) rfl
        have q2 := cells_at kq (k := 2) rfl
        have q3 := cells_at kq (k := 3) rfl
        have HKP6 : Hid _ := kp
        have HKQ6 : Hid _ := kq
        have HKA6 : Hid _ := bk b46 HKA4.out
        have HKX6 : Hid _ := bk b46 HKX4.out
        have HS6 : Hid (W6.ownsRow 0 3 1 (.slice sa PV.st.length sc) PV.st.length (intsV PV.st)) := rowB b46 HS4.out
        have HB6 : Hid (Below w.heap.size w W6) := HB4.out.trans (b46.mono HB4.out.size)
        clear kp kq b46 bw6 b5 hi5 hr5 HKP4 HKA4 HKX4 HI4 HS4 HB4 c0 c1 c2 c3 C2
        go_wp2_with fail
        refine S1.mono ?_
        rintro e w7 ⟨rfl, b7⟩
        go_upto_region 14 with fail
        have HKP7 : Hid _ := bk b7 HKP6.out
        have HKQ7 : Hid _ := bk b7 HKQ6.out
        have ka7 := bk b7 HKA6.out
        have kx7 := bk b7 HKX6.out
        have HS7 : Hid (w7.ownsRow 0 3 1 (.slice sa PV.st.length sc) PV.st.length (intsV PV.st)) := rowB b7 HS6.out
        have HB7 : Hid (Below w.heap.size w w7) := HB6.out.trans (b7.mono HB6.out.size)
        have z7 := HB7.out.size
        obtain ⟨zm, hzm⟩ : ∃ zm, w7.heap.size = zm := ⟨_, rfl⟩
        obtain ⟨W8, hW8⟩ : ∃ W8, w7.alloc (.cells #[] 40) = W8 := ⟨_, rfl⟩
        have b78 : Below w7.heap.size w7 W8 := by rw [← hW8]; exact (Below.refl _ w7).alloc (Nat.le_refl _) _
        have HR8 : Hid (W8.ownsRow w7.heap.size 40 3 (.slice (some ⟨zm, 0, none⟩) 0 0) 0 []) := show W8.ownsRow w7.heap.size 40 3 (.slice (some ⟨zm, 0, none⟩) 0 0) 0 [] by rw [← hW8, ← hzm]; exact made0 w7 40 3
        have a2 := cells_at (bk b78 ka7) (k := 2) rfl
        have HKA7 : Hid _ := ka7
        have HKX7 : Hid _ := kx7
        have HB78 : Hid _ := b78
        have HCW : Hid (∀ ad, wo = some ad → ∀ j u, (flatW ws)[j]? = some u → W8.cell? (ad.add j) = some u) := fun ad had j u hu => by
          have hwa := hW.below (HB7.out.trans (b78.mono HB7.out.size))
          obtain ⟨g9, o9, h9, k9⟩ := hwa
          have hjl := (List.getElem?_eq_some_iff.1 hu).1
          rw [flatW_len] at hjl
          have e9 := h9 (by omega)
          rw [had] at e9
          obtain rfl := Option.some.inj e9
          exact flatW_cell k9 j u hu
        have HFW : Hid _ := flatW_len ws
        obtain ⟨j0, hj0, hy0, hy1, hy2⟩ := info_parts Try.inf40
        clear b7 b78 ka7 kx7 HKP6 HKQ6 HKA6 HKX6 HS6 HB6 S1 p0 p1 p2 p3 q0 q1 q2 q3 hW6
        go_upto_region 16 with (at_builtin; refine wpList_append_any rfl (.tmp 70) (.tmp 72) 22 rfl w7.heap.size 40 j0 _ 3 24 Try.underlying22 hj0 hy0 hy1 hy2 rfl (by decide) (.slice (some ⟨zm, 0, none⟩) 0 0) 0 [] rfl HR8.out wo ws.length cw (flatW ws) rfl hnil HFW.out HCW.out (flatW_one ws) ?_ ?_ ?_ ?_; exact (Nat.le_trans (m := 35184372088832) (by omega) (by decide)); omega; exact HB78.out.size; intro v9 w9 hr9 hg9)
        rw [Nat.zero_add, List.nil_append] at hr9
        have b79 : Below w7.heap.size w7 w9 := HB78.out.grown hg9 HB78.out.size (fun k e => by
          have : zm = k := by simpa [Value.ownBlock] using e
          omega)
        have kx9 := bk b79 HKX7.out
        have x0 := cells_at kx9 (k := 0) rfl
        have x1 := cells_at kx9 (k := 1) rfl
        have x2 := cells_at kx9 (k := 2) rfl
        have HR9 : Hid (w9.ownsRow w7.heap.size 40 3 v9 ws.length (flatW ws)) := hr9
        have HB79 : Hid _ := b79
        have z79 := b79.size
        clear hr9 hg9 b79 kx9 HR8 HCW HFW a2 HB78 hW8 hzm
        go_upto_region 17 with (at_builtin; refine wpList_append_own_at _ rfl (.tmp 74) (.tmp 76) 22 rfl w7.heap.size 40 j0 _ 3 24 Try.underlying22 hj0 hy0 hy1 hy2 rfl (by decide) _ ws.length (flatW ws) rfl (HR9.out.alloc _) ⟨w9.heap.size, 0, none⟩ 1 1 [.int .i64 x.job, .int .i64 x.nd, .int .i64 x.lm] rfl rfl (World.news_of_block (cs := #[.int .i64 x.job, .int .i64 x.nd, .int .i64 x.lm]) (t := 40) (fr := (0, 0)) (heap_alloc_new w9 _)) (by simp [Value.oneCell']) (Nat.le_trans (m := 35184372088832) (by omega) (by decide)) (by omega) (by simp; omega) ?_; intro v11 w11 hr11 hg11 _ _)
        have b711 : Below w7.heap.size w7 w11 := (HB79.out.alloc z79 _).grown hg11 (by simp; omega) (fun k e => (row_tag HR9.out e).1)
        have hr12 : w11.ownsRow w7.heap.size 40 3 v11 (ws ++ [x]).length (flatW (ws ++ [x])) := by rw [List.length_append, flatW_app]; exact hr11
        obtain ⟨ma, mc, rfl, hmw, _, _⟩ := row_wait hr12
        have B11 : Below w.heap.size w w11 := HB7.out.trans (b711.mono HB7.out.size)
        have C3 := pass_any (c := cr) (cw := mc) (RunsAt.below (l := rs) ⟨g, o, fun h => hga (by rw [← HQ.out]; exact h), HCL0.out⟩ B11) (by have := HQ.out; omega) hmw.wants (by simp; omega) (fun y hy => by rcases List.mem_append.1 hy with e | e; exact hj y e; rw [List.mem_singleton.1 e]; exact hxj) now free ho
        rw [HQ.out, List.length_append, List.length_singleton] at C3
        unfold planV at C3
        have ka := bk b711 HKA7.out
        have kp := bk b711 HKP7.out
        have kq := bk b711 HKQ7.out
        have kx := bk b711 HKX7.out
        have c0 := cells_at ka (k := 0) rfl
        have c1 := cells_at ka (k := 1) rfl
        have c3 := cells_at ka (k := 3) rfl
        have c4 := cells_at ka (k := 4) rfl
        rw [HQ.out] at c4
        have HKP11 : Hid _ := kp
        have HKQ11 : Hid _ := kq
        have HKX11 : Hid _ := kx
        have HS11 : Hid (w11.ownsRow 0 3 1 (.slice sa PV.st.length sc) PV.st.length (intsV PV.st)) := rowB b711 HS7.out
        have HB11 : Hid (Below w.heap.size w w11) := B11
        clear ka kp kq kx b711 B11 hr11 hr12 hmw hg11 HR9 HB79 HKA7 HKX7 HKP7 HKQ7 HS7 HB7 x0 x1 x2
        have hQe : passE now free (ws ++ [x]) ho rs = 0 ∧ chkB now free (ws ++ [x]) ho rs = true ∨ passE now free (ws ++ [x]) ho rs = 150 := by
          unfold passE
          cases chkB now free (ws ++ [x]) ho rs
          · exact .inr rfl
          · exact .inl ⟨rfl, rfl⟩
        have hQl : passR now free (ws ++ [x]) ho rs = passV now free (ws ++ [x]) ho rs ∨ passE now free (ws ++ [x]) ho rs = 150 := by
          unfold passR passE
          cases chkB now free (ws ++ [x]) ho rs
          · exact .inr rfl
          · exact .inl rfl
        generalize hQV : passR now free (ws ++ [x]) ho rs = QV at *
        generalize hQE : passE now free (ws ++ [x]) ho rs = QE at *
        go_wp2_with fail
        refine C3.mono ?_
        rintro e w12 ⟨v12, rfl, hr12, b12⟩
        obtain ⟨sm, sn, rfl, hi12⟩ := ints_row hr12
        have kq := bk b12 HKQ11.out
        have q0 := cells_at kq (k := 0) rfl
        have q1 := cells_at kq (k := 1) rfl
        have q2 := cells_at kq (k := 2) rfl
        have q3 := cells_at kq (k := 3) rfl
        have g0 := frozen_at kq (k := 0)
        have g1 := frozen_at kq (k := 1)
        have g2 := frozen_at kq (k := 2)
        have g3 := frozen_at kq (k := 3)
        have k13 := set4 (v0 := .slice sm QV.st.length sn) (v1 := .int .i64 QV.ho) (v2 := .int .i64 QV.sh) (v3 := .int .i64 QV.ex) kq
        have B12 : Below w.heap.size w w12 := HB11.out.trans (b12.mono HB11.out.size)
        have hzw : w.heap.size ≤ zq := by have := HB4z; omega
        have B13 := below4 (v0 := .slice sm QV.st.length sn) (v1 := .int .i64 QV.ho) (v2 := .int .i64 QV.sh) (v3 := .int .i64 QV.ex) B12 hzw
        have kpf : ∀ (i : Nat) (cs : Array Value) (t : TypeId), t ≠ 30 ∨ i = zp → w12.heap[i]? = some (.cells cs t (0, 0)) → ((((w12.setCell ⟨zq, 0, none⟩ (.slice sm QV.st.length sn)).setCell ⟨zq, 1, none⟩ (.int .i64 QV.ho)).setCell ⟨zq, 2, none⟩ (.int .i64 QV.sh)).setCell ⟨zq, 3, none⟩ (.int .i64 QV.ex)).heap[i]? = some (.cells cs t (0, 0)) := fun i cs t ht hi => by
          have hne : i ≠ zq := ht.elim (fun h => tag_ne hi kq h) (fun h => by rw [h]; exact hpq)
          exact ((Below.heap_setCell _ _ _ _ hne).trans ((Below.heap_setCell _ _ _ _ hne).trans ((Below.heap_setCell _ _ _ _ hne).trans (Below.heap_setCell _ _ _ _ hne)))).trans hi
        have kp13 := kpf zp _ 30 (.inr rfl) (bk b12 HKP11.out)
        have kx13 := kpf (za + 1) _ 40 (.inl (by decide)) (bk b12 HKX11.out)
        obtain ⟨W13, hW13⟩ : ∃ W13, (((w12.setCell ⟨zq, 0, none⟩ (.slice sm QV.st.length sn)).setCell ⟨zq, 1, none⟩ (.int .i64 QV.ho)).setCell ⟨zq, 2, none⟩ (.int .i64 QV.sh)).setCell ⟨zq, 3, none⟩ (.int .i64 QV.ex) = W13 := ⟨_, rfl⟩
        have hs13 : W13.ownsRow 0 3 1 (.slice sa PV.st.length sc) PV.st.length (intsV PV.st) := row_keep (rowB b12 HS11.out) (fun k hk => by obtain ⟨_, cs, hc⟩ := row_tag (rowB b12 HS11.out) hk; rw [← hW13]; exact (kpf k cs 3 (.inl (by decide)) hc).trans hc.symm)
        have hm13 : W13.ownsRow 0 3 1 (.slice sm QV.st.length sn) QV.st.length (intsV QV.st) := row_keep (own_base hr12 (Nat.zero_le _)) (fun k hk => by obtain ⟨_, cs, hc⟩ := row_tag hr12 hk; rw [← hW13]; exact (kpf k cs 3 (.inl (by decide)) hc).trans hc.symm)
        rw [hW13] at k13 B13 kp13 kx13
        clear kpf
        have p0 := cells_at kp13 (k := 0) rfl
        have p1 := cells_at kp13 (k := 1) rfl
        have p2 := cells_at kp13 (k := 2) rfl
        have p3 := cells_at kp13 (k := 3) rfl
        have r0 := cells_at k13 (k := 0) rfl
        have r1 := cells_at k13 (k := 1) rfl
        have r2 := cells_at k13 (k := 2) rfl
        have r3 := cells_at k13 (k := 3) rfl
        have xj := cells_at kx13 (k := 0) rfl
        have HB13 : Hid (Below w.heap.size w W13) := B13
        have HS13 : Hid (W13.ownsRow 0 3 1 (.slice sa PV.st.length sc) PV.st.length (intsV PV.st)) := hs13
        have HM13 : Hid (W13.ownsRow 0 3 1 (.slice sm QV.st.length sn) QV.st.length (intsV QV.st)) := hm13
        clear b12 hr12 hi12 kq k13 B12 B13 kp13 kx13 hs13 hm13 HKP11 HKQ11 HKX11 HS11 HB11 C3 c0 c1 c3 c4
        rcases hQe with ⟨rfl, hck2⟩ | rfl
        · by_cases hneg : PV.ho < 0
          · go_wp2
            go_ret
            exact ⟨rfl, HB13.out⟩
          · have hQP : QV = passV now free (ws ++ [x]) ho rs := hQl.elim id (fun e => absurd e (by decide))
            have hnn : (passV now free ws ho rs).ho ≠ -1 := by rw [← HPV.out]; omega
            obtain ⟨t1, t2, t3, t4⟩ := pass_behind hck (chk_iff.1 hck2) hnn
            rw [← HPV.out, ← hQP] at t1 t2 t3 t4
            rw [t1] at r1
            rw [t2] at r2
            rw [t3] at r3
            obtain ⟨_, _, e7, i7⟩ := ints_row HS13.out
            injection e7 with e7a e7b e7c
            clear e7b e7c
            subst e7a
            obtain ⟨_, _, e8, i8⟩ := ints_row HM13.out
            injection e8 with e8a e8b e8c
            clear e8b e8c
            subst e8a
            have hcap : QV.st.length ≤ sn ∧ (0 < QV.st.length → ∃ ad, sm = some ad) := by
              rcases HM13.out.2 with ⟨e9, h0⟩ | ⟨g9, cap9, cur9, e9, _, _, hc9, _⟩
              · injection e9 with ea eb ec
                exact ⟨by omega, fun h => by omega⟩
              · injection e9 with ea eb ec
                exact ⟨by omega, fun _ => ⟨_, ea⟩⟩
            obtain ⟨n, hnl⟩ : ∃ n, PV.st.length = n := ⟨_, rfl⟩
            have HNL : Hid _ := hnl
            have i9 : IntsAt W13 sm PV.st := by
              obtain ⟨g9, o9, h9, k9⟩ := i8
              rcases t4 with e | e
              · exact ⟨g9, o9, fun h => h9 (by rw [e]; exact h), fun k v hv => k9 k v (by rw [e]; exact hv)⟩
              · exact ⟨g9, o9, fun h => h9 (by rw [e]; simp), fun k v hv => k9 k v (by rw [e, List.getElem?_append_left (List.getElem?_eq_some_iff.1 hv).1]; exact hv)⟩
            have hql : QV.st.length = n ∨ QV.st.length = n + 1 := by rcases t4 with e | e <;> rw [e] <;> simp [hnl]
            have SQ : Hid (∀ m, Calls Try.prog 12 #[.slice sm n sn, .slice sa n sc] (W13.drewN m) fun e w' => e = .returned (.bool true) ∧ ∃ m', w' = (W13.drewN m).drewN m') := fun m => by
              have := sameInts_quiet (w := W13.drewN m) (cap1 := sn) (cap2 := sc) (l := PV.st) i9 i7 (by omega)
              rw [HNL.out] at this
              exact this
            have hlast : Hid (QV.st.length = n + 1 → ∃ g9 o9, sm = some ⟨g9, o9, none⟩ ∧ W13.cell? ⟨g9, o9 + n, none⟩ = some (.int .i64 x.job)) := fun hl => by
              rcases t4 with e | e
              · rw [e] at hl; omega
              · obtain ⟨g9, o9, h9, k9⟩ := i8
                refine ⟨g9, o9, h9 (by omega), k9 n x.job ?_⟩
                rw [e, ← HNL.out, List.getElem?_append_right (Nat.le_refl _)]
                simp
            rw [hnl] at p0 hlen
            have hcn : n ≤ sn := by have := hcap.1; omega
            clear i7 i8 i9 t1 t2 t3 t4 hnl HS13 HM13 hQP hQl hnn hck2
            have hcn1 : QV.st.length ≤ sn := hcap.1
            clear hcap
            rcases hql with hql | hql
            · rw [hql] at r0
              clear hlast hql
              go_upto_region 21 with fail
              go_quiet ((go_at_call 12; exact Calls.quiet_of (SQ.out _)))
              all_goals
                go_upto_region 23 with fail
                go_quiet (fail)
                all_goals
                  go_wp2
                  go_ret
                  exact ⟨by first | rfl | simp, below_drewN (below_drewN HB13.out _) _⟩
            · rw [hql] at r0
              obtain ⟨g9, o9, rfl, hx9⟩ := hlast.out hql
              rw [hql] at hcn1
              clear hlast hql
              have hnl2 : ¬ ((n : Int) + 1 < (n : Int)) := by omega
              have hnl3 : ¬ ((n : Int) + 1 = (n : Int)) := by omega
              have hnl4 : decide ((n : Int) + 1 < (n : Int)) = false := decide_eq_false hnl2
              have hnl5 : (((n : Int) + 1) == (n : Int)) = false := beq_false_of_ne (by omega)
              have hns : n < sn := by omega
              go_upto_region 21 with fail
              go_quiet ((go_at_call 12; exact Calls.quiet_of (SQ.out _)))
              all_goals
                go_upto_region 23 with fail
                go_quiet (fail)
                all_goals
                  go_wp2
                  go_ret
                  exact ⟨by first | rfl | simp, below_drewN (below_drewN HB13.out _) _⟩
        · go_wp2
          go_ret
          exact ⟨rfl, HB13.out⟩
      | succ k =>
        obtain rfl : i = (k : Int) := by omega
        obtain ⟨r, hr⟩ : ∃ r, rs[k]? = some r := ⟨_, List.getElem?_eq_getElem (by have := HQ.out; omega)⟩
        obtain rfl := hga (by omega)
        obtain ⟨y1, y2⟩ := HCL.out k r hr
        have BW : Below w.heap.size w wr := HB3.out.trans (hbw.mono HB3.out.size)
        replace y1 := (BW.cell (World.block_lt_of_cell? _ _ y1)).trans y1
        replace y2 := (BW.cell (World.block_lt_of_cell? _ _ y2)).trans y2
        have d4' := cells_at (bk hbw HKA3.out) (k := 4) rfl
        rw [HQ.out] at d4'
        have hdr : rs.drop k = r :: rs.drop (k + 1) := drop_c hr
        have HDR : Hid _ := hdr
        have HRW : Hid (wr.ownsRow W3.heap.size 45 2 _ (q - (k + 1)) (flatR (rs.drop (k + 1)).reverse)) := hrow
        have HBW : Hid _ := hbw
        have hzw := hbw.size
        clear hdr hrow hbw BW hr hi d4 HCL hga
        go_wp2_with (at_builtin; refine wpList_append_own_at _ rfl (.tmp 40) (.tmp 46) 23 rfl W3.heap.size 45 i0 _ 2 16 Try.underlying23 hi0 hz0 hz1 hz2 rfl (by decide) _ (q - (k + 1)) (flatR (rs.drop (k + 1)).reverse) rfl (HRW.out.alloc _) ⟨wr.heap.size, 0, none⟩ 1 1 [.int .i64 r.nd, .int .i64 r.en] rfl rfl (World.news_of_block (cs := #[.int .i64 r.nd, .int .i64 r.en]) (t := 45) (fr := (0, 0)) (heap_alloc_new wr _)) (by simp [Value.oneCell']) (Nat.le_trans (m := 35184372088832) (by omega) (by decide)) (by omega) (by simp; omega) ?_; intro v' w5 hown hgr _ _)
        go_roundg k
        case measure => omega
        case rel =>
          refine ⟨k, (k : Int) - 1, v', rfl, by omega, rfl, rfl, rfl, ?_, ?_⟩
          · rw [HDR.out, List.reverse_cons, flatR_snoc, show q - k = q - (k + 1) + 1 by omega]
            exact hown
          · exact (HBW.out.alloc hzw _).grown hgr (by simp; omega) (fun k e => (row_tag HRW.out e).1)
end Go.Proofs.Ytdkibcagbidelaa
