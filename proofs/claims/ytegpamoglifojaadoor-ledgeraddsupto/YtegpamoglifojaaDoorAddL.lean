/-
  THE STATEMENT LedgerAdds: the walk.
-/
import Derived.Test.YtegpamoglifojaaDoorAddA
namespace Go.Proofs.YtegpamoglifojaaDoor
open Go.RowKit Wd Ld Cg Lg

/-- Raw, whatever stands behind. -/
theorem raw_cal {w3 : World} {ao : Option Addr} {L : List Jb} {n c : Nat} (hJ : JobsAt w3 ao L) (hn : L.length = n) (hl : n ≤ 4000000) : ∀ W, Below w3.heap.size w3 W → ∀ (yo : Option Addr) (ys : List Int) (cy m : Nat) (t : Int), ys.length = m → m ≤ 2000000 → IntsAt W yo ys →
    Calls Tryd.prog 19 #[.slice ao n c, .slice yo m cy, .int .i64 t] W fun e w' => e = .returned (.int .i64 (rawV ys t L)) ∧ Below W.heap.size W w' := by
  intro W hb yo ys cy m t hm hm2 hI
  subst hn hm
  exact raw_any (hJ.below hb) (by omega) hI (by omega) t
theorem has_cal {W : World} {yo : Option Addr} {ys : List Int} {cy m : Nat} (hI : IntsAt W yo ys) (hm : ys.length = m) (hm2 : m ≤ 2000000) (p : Int) : Calls Tryd.prog 21 #[.slice yo m cy, .int .i64 p] W fun e w' => e = .returned (.bool (decide (p ∈ ys))) ∧ W = w' := by
  subst hm
  exact lhas_any hI (by omega) p
set_option maxRecDepth 20000 in
set_option maxHeartbeats 8000000 in
theorem adds_any {w : World} (hT : Tab w) {ao bo xo : Option Addr} {a b : List Jb} {xs : List Int} {ca cb cx : Nat} (hA : JobsAt w ao a) (hB : JobsAt w bo b) (hX : IntsAt w xo xs)
    (na : ao = none → a.length = 0 ∧ ca = 0) (nb : bo = none → b.length = 0 ∧ cb = 0) (nx : xo = none → xs.length = 0 ∧ cx = 0) (cxl : xs.length ≤ cx) (hcx : cx ≤ 9223372036854775807) (la : a.length ≤ 2000000) (lb : b.length ≤ 2000000) (lx : xs.length ≤ 2000000) (ct now : Int) :
    Calls Tryd.prog 5 #[.slice ao a.length ca, .slice bo b.length cb, .slice xo xs.length cx, .int .i64 ct, .int .i64 now] w fun e w' => e = .returned (.bool true) ∧ Below w.heap.size w w' := by
  obtain ⟨i57, hi0, hz0, hz1, hz2⟩ := info_parts Tryd.inf57
  obtain ⟨i3, gi0, gz0, gz1, gz2⟩ := info_parts Tryd.inf3
  go_enter Tryd.func5, Tryd.ntmps5
  go_wp2_with fail
  refine (shown_any _ hT).mono ?_
  rintro e w1 ⟨rfl, b1⟩
  have HA1 : Hid (JobsAt w1 ao a) := hA.below b1
  have HB1 : Hid (JobsAt w1 bo b) := hB.below b1
  have HX1 : Hid (IntsAt w1 xo xs) := hX.below b1
  have HB : Hid (Below w.heap.size w w1) := b1
  have fa := flatJ_len a
  have fb := flatJ_len b
  have HNA : Hid (ao = none → a.length = 0 ∧ ca = 0) := na
  have HNB : Hid (bo = none → b.length = 0 ∧ cb = 0) := nb
  have HNX : Hid (xo = none → xs.length = 0 ∧ cx = 0) := nx
  clear hA hB hX b1 na nb nx
  obtain ⟨p, hp⟩ : ∃ p, a.length = p := ⟨_, rfl⟩
  obtain ⟨r, hr⟩ : ∃ r, b.length = r := ⟨_, rfl⟩
  obtain ⟨q, hq⟩ : ∃ q, xs.length = q := ⟨_, rfl⟩
  rw [hp] at HNA la fa ⊢
  rw [hr] at HNB lb fb ⊢
  rw [hq] at HNX lx cxl ⊢
  have HFA : Hid _ := fa
  have HFB : Hid _ := fb
  have HP : Hid (a.length = p) := hp
  have HR : Hid (b.length = r) := hr
  have HQ : Hid (xs.length = q) := hq
  clear fa fb hp hr hq
  go_wp2_with (first
    | (at_builtin; refine wpList_append_any rfl (.const (.slice none 0 0)) (.tmp 22) 52 rfl w1.heap.size 57 i57 _ 8 80 Tryd.underlying52 hi0 hz0 hz1 hz2 rfl (by decide) (.slice none 0 0) 0 [] rfl (World.ownsRow_nil _ _ _ _) ao p ca (flatJ a) rfl HNA.out HFA.out (JobsAt.cells HA1.out) (flatJ_one a) (Nat.le_trans (m := 35184372088832) (by omega) (by decide)) (by omega) (Nat.le_refl _) ?_; intro v2 w2 o2 g2; rw [Nat.zero_add, List.nil_append] at o2; have b2 : Below w1.heap.size w1 w2 := (Below.refl _ w1).grown g2 (Nat.le_refl _) (fun k e => by simp [Value.ownBlock] at e); have HB2 : Hid (JobsAt w2 bo b) := HB1.out.below b2)
    | (at_builtin; refine wpList_append_any rfl (.tmp 23) (.tmp 24) 52 rfl w1.heap.size 57 i57 _ 8 80 Tryd.underlying52 hi0 hz0 hz1 hz2 rfl (by decide) v2 p (flatJ a) rfl o2 bo r cb (flatJ b) rfl HNB.out HFB.out (JobsAt.cells HB2.out) (flatJ_one b) (Nat.le_trans (m := 35184372088832) (by omega) (by decide)) (by omega) b2.size ?_; intro v3 w3 o3 g3; rw [flatJ_app] at o3; have b3 : Below w1.heap.size w1 w3 := b2.grown g3 b2.size (fun k e => (o2.lt k e).1)))
  have hLn : (a ++ b).length = p + r := by rw [List.length_append, HP.out, HR.out]
  rw [← hLn] at o3
  obtain ⟨ao3, c3, e3, J3⟩ := JobsAt.of_row o3
  rw [hLn] at e3
  subst e3
  have Hb3 : Hid (Below w1.heap.size w1 w3) := b3
  have hsum := raw_sum xs now a b
  have htick := raw_tick xs now (a ++ b)
  have hcut := fun K => raw_cut xs K now (a ++ b)
  have cAll := raw_cal (c := c3) J3 hLn (by omega)
  have cA := raw_cal (c := ca) (HA1.out.below b3) HP.out (by omega)
  have cB := raw_cal (c := cb) (HB1.out.below b3) HR.out (by omega)
  have HX3 : Hid (IntsAt w3 xo xs) := HX1.out.below b3
  have HJ3 : Hid (JobsAt w3 ao3 (a ++ b)) := J3
  have HRA : Hid (∀ t, rawV xs t (a ++ b) = rawV xs t (a ++ b)) := fun _ => rfl
  obtain ⟨L, hL⟩ : ∃ L, a ++ b = L := ⟨_, rfl⟩
  rw [hL] at hsum htick hcut cAll HJ3 hLn
  obtain ⟨n, hn⟩ : ∃ n, p + r = n := ⟨_, rfl⟩
  rw [hn] at cAll hLn ⊢
  have hn4 : n ≤ 4000000 := by omega
  have HLN : Hid (L.length = n) := hLn
  clear o3 g3 b3 b2 o2 g2 HB2 J3 hL hn hLn HRA HA1 HB1 HX1 HFA HFB
  have hc1 := cAll w3 (Below.refl _ _) xo xs cx q now HQ.out lx HX3.out
  refine hc1.mono ?_
  rintro e w4 ⟨rfl, b4⟩
  have hc2 := cA w4 b4 xo xs cx q now HQ.out lx (HX3.out.below b4)
  clear hc1
  go_wp2_with fail
  refine hc2.mono ?_
  rintro e w5 ⟨rfl, b5⟩
  have b5' := b4.trans (b5.mono b4.size)
  have hc3 := cB w5 b5' xo xs cx q now HQ.out lx (HX3.out.below b5')
  clear hc2 b4 b5
  go_wp2_with fail
  refine hc3.mono ?_
  rintro e w6 ⟨rfl, b6⟩
  have B6 : Hid (Below w3.heap.size w3 w6) := b5'.trans (b6.mono b5'.size)
  clear b6 b5' hc3
  generalize rawV xs now a = ra at hsum
  generalize rawV xs now b = rb at hsum
  have HCUT : Hid _ := hcut
  have HTICK : Hid _ := htick
  clear hcut htick cA cB
  generalize hra : rawV xs now L = rL at hsum
  have HRL : Hid (rawV xs now L = rL) := hra
  clear hra
  have hne : (rL != wrap64 (ra + rb)) = false := by rw [hsum]; simp
  clear hsum
  have ham := among_any ct (q + 1) w6 (by omega) (by omega)
  obtain ⟨k0, k1⟩ := amgV_in ct (n := (q : Int) + 1) (by omega)
  obtain ⟨K, hK⟩ : ∃ K : Nat, amgV ct ((q : Int) + 1) = K := ⟨_, (Int.toNat_of_nonneg k0).symm⟩
  rw [hK] at ham k1
  clear hK k0
  have hKq : K ≤ q := by omega
  go_upto_region 9 with (first | (go_at_call 12; refine ham.mono ?_; rintro e wq ⟨rfl, hwq⟩; rw [← hwq]; clear hwq))
  clear ham hne
  have hX6 := HX3.out.below B6.out
  obtain ⟨gx, ox, hgx, hcx6⟩ := hX6
  rw [HQ.out] at hgx
  have HGX : Hid (0 < q → xo = some ⟨gx, ox, none⟩) := hgx
  have HCX : Hid (∀ (k : Nat) (n : Int), xs[k]? = some n → w6.cell? ⟨gx, ox + k, none⟩ = some (.int .i64 n)) := hcx6
  clear hgx hcx6
  go_cut [50, 51, 52] (fun t u z wc => ∃ (ta : Option Addr) (tc : Nat), t = .slice ta (q - K) tc ∧ u = .int .i64 ((q - K : Nat)) ∧ z = .int .i64 0 ∧ w6 = wc ∧ (0 < q - K → ∃ g o, ta = some ⟨g, o, none⟩ ∧ ∀ j n, xs[K + j]? = some n → w6.cell? ⟨g, o + j, none⟩ = some (.int .i64 n)))
  case first =>
    by_cases hq0 : K < q
    · obtain rfl := HGX.out (by omega)
      have hKc : ¬ K = cx := by omega
      have hKc' : (K : Int) < cx := by omega
      have hsub : ((q - K : Nat) : Int) = (q : Int) - K := by omega
      go_wp2
      go_meet
      exact ⟨_, _, rfl, by first | rfl | rw [hsub], rfl, rfl, fun _ => ⟨gx, ox + K, rfl, fun j n h => by have := HCX.out (K + j) n h; rwa [← Nat.add_assoc] at this⟩⟩
    · obtain rfl : K = q := by omega
      cases xo with
      | none =>
        obtain ⟨h0, h1⟩ := HNX.out rfl
        subst h0 h1
        go_wp2
        go_meet
        exact ⟨_, _, by first | rfl | rw [Nat.sub_self], by simp, rfl, rfl, fun h => by omega⟩
      | some ad =>
        by_cases hKc : K = cx
        · subst hKc
          go_wp2
          go_meet
          exact ⟨_, _, by first | rfl | rw [Nat.sub_self], by simp, rfl, rfl, fun h => by omega⟩
        · have hKc' : (K : Int) < cx := by omega
          go_wp2
          go_meet
          exact ⟨_, _, by first | rfl | rw [Nat.sub_self], by simp, rfl, rfl, fun h => by omega⟩
  case rest =>
    obtain ⟨ta, tc, rfl, rfl, rfl, rfl, htl⟩ := hcut
    have HTL : Hid (0 < q - K → ∃ g o, ta = some ⟨g, o, none⟩ ∧ ∀ j n, xs[K + j]? = some n → w6.cell? ⟨g, o + j, none⟩ = some (.int .i64 n)) := htl
    clear htl HGX HCX
    obtain ⟨T, hTq⟩ : ∃ T, q - K = T := ⟨_, rfl⟩
    rw [hTq] at HTL ⊢
    have hTl : T ≤ 2000000 := by omega
    have HK1 : Hid (∀ W, Below w6.heap.size w6 W → IntsAt W xo (xs.take K)) := fun W hb => ((HX3.out.below B6.out).below hb).take K
    have hKl : (xs.take K).length = K := by rw [List.length_take, HQ.out]; omega
    have HKL : Hid _ := hKl
    have HTQ : Hid (q - K = T) := hTq
    clear hKl hTq
    go_wp2_with fail
    go_loopg [14, 52] T (fun gk pv pj wr => ∃ (j : Nat) (v : Value), j + gk = T ∧ pj = .int .i64 j ∧ v = pv ∧ wr.ownsRow w6.heap.size 3 1 v (otherL xs K j).length (i64s (otherL xs K j)) ∧ Below w6.heap.size w6 wr)
    case atStart => exact ⟨0, _, by omega, rfl, rfl, World.ownsRow_nil _ _ _ _, Below.refl _ _⟩
    case round =>
      obtain ⟨j, v, hj, rfl, rfl, hrow, hb⟩ := hrel
      by_cases hlt : j < T
      · have hlt' : (j : Int) < T := by omega
        obtain ⟨x, hx⟩ : ∃ x, xs[K + j]? = some x := ⟨_, List.getElem?_eq_getElem (by rw [HQ.out]; have := HTQ.out; omega)⟩
        obtain ⟨g, o, hta, hcell⟩ := HTL.out (by omega)
        subst hta
        have d0 := cellB hb (hcell j x hx)
        have hh := has_cal (cy := cx) (HK1.out wr hb) HKL.out (by omega) x
        have hsu := other_succ hx
        have hol := other_len xs K j
        have hz := hb.size
        obtain ⟨Fl, hF⟩ : ∃ Fl, otherL xs K j = Fl := ⟨_, rfl⟩
        rw [hF] at hrow hsu hol
        have HBR : Hid (Below w6.heap.size w6 wr) := hb
        clear hcell hx hF hb
        by_cases hm : x ∈ xs.take K
        · rw [if_pos hm, List.append_nil] at hsu
          rw [decide_eq_true hm] at hh
          have HSU : Hid _ := hsu
          clear hsu hm
          go_wp2_with (first | (go_at_call 21; refine hh.mono ?_; rintro e wq ⟨rfl, hwq⟩; rw [← hwq]; clear hwq))
          go_roundg (T - (j + 1))
          case measure => omega
          case rel => exact ⟨j + 1, _, by omega, rfl, rfl, by rw [HSU.out]; exact hrow, HBR.out⟩
        · rw [if_neg hm] at hsu
          rw [decide_eq_false hm] at hh
          have HSU : Hid _ := hsu
          clear hsu hm
          go_wp2_with (first
            | (go_at_call 21; refine hh.mono ?_; rintro e wq ⟨rfl, hwq⟩; rw [← hwq]; clear hwq)
            | (at_builtin; refine wpList_append_own_at _ rfl (.tmp 60) (.tmp 62) 26 rfl w6.heap.size 3 i3 _ 1 8 Tryd.underlying26 gi0 gz0 gz1 gz2 rfl (by decide) v Fl.length (i64s Fl) rfl (hrow.alloc _) ⟨wr.heap.size, 0, none⟩ 1 1 [.int .i64 x] rfl rfl (cell_one_new _ _ _) (fun u hu => by simp at hu; subst hu; rfl) (Nat.le_trans (m := 35184372088832) (by omega) (by decide)) (by omega) (by simp; omega) ?_; intro v' w7 o7 g7 _ _))
          go_roundg (T - (j + 1))
          case measure => omega
          case rel =>
            refine ⟨j + 1, v', by omega, rfl, rfl, ?_, ?_⟩
            · rw [HSU.out]; simpa [i64s] using o7
            · exact below_gr (HBR.out.alloc hz _) (hrow.alloc _) (Nat.le_refl _) g7
      · obtain rfl : j = T := by omega
        obtain ⟨ao7, c7, e7, I7⟩ := IntsAt.of_row hrow
        subst e7
        have hol := other_len xs K j
        have hcutK := HCUT.out K
        rw [HQ.out, HTQ.out, HRL.out] at hcutK
        have BB : Below w3.heap.size w3 wr := B6.out.trans (hb.mono B6.out.size)
        have hc1 := cAll wr BB xo xs cx q now HQ.out lx (HX3.out.below BB)
        rw [HRL.out] at hc1
        generalize hOL : otherL xs K j = OL at I7 hol hcutK
        obtain ⟨ol, hol'⟩ : ∃ ol, OL.length = ol := ⟨_, rfl⟩
        rw [hol'] at hol ⊢
        have HI7 : Hid (IntsAt wr ao7 OL) := I7
        have HBB : Hid (Below w3.heap.size w3 wr) := BB
        have HOL : Hid (OL.length = ol) := hol'
        have HCK : Hid _ := hcutK
        have HK : Hid (IntsAt wr xo (xs.take K)) := HK1.out wr hb
        clear hrow hb hOL hol' BB I7 hcutK HTL HTQ HK1
        go_wp2_with fail
        refine hc1.mono ?_
        rintro e w8 ⟨rfl, b8⟩
        have BB8 := HBB.out.trans (b8.mono HBB.out.size)
        have hc2 := cAll w8 BB8 xo (xs.take K) cx K now HKL.out (by omega) (HK.out.below b8)
        clear hc1
        go_wp2_with fail
        refine hc2.mono ?_
        rintro e w9 ⟨rfl, b9⟩
        have BB9 := BB8.trans (b9.mono BB8.size)
        have hc3 := cAll w9 BB9 ao7 OL c7 ol now HOL.out (by omega) ((HI7.out.below b8).below b9)
        clear hc2
        go_wp2_with fail
        refine hc3.mono ?_
        rintro e w10 ⟨rfl, b10⟩
        have B10 : Hid (Below w3.heap.size w3 w10) := BB9.trans (b10.mono BB9.size)
        clear hc3 b8 b9 b10 BB8 BB9 HI7 HK HBB
        have hck := HCK.out
        clear HCK
        generalize rawV (xs.take K) now L = r1 at hck
        generalize rawV OL now L = r2 at hck
        have hne : (rL != wrap64 (r1 + r2)) = false := by rw [hck]; simp
        clear hck
        have hn5 : (n : Int) ≤ 4000000 := by omega
        obtain ⟨gL, oL, hgL, hcL⟩ := HJ3.out
        rw [HLN.out] at hgL
        have HCL : Hid (∀ (k : Nat) (j : Jb), L[k]? = some j → JbAt w3 gL (oL + k * 8) j) := hcL
        clear hcL HJ3
        go_wp2_with fail
        clear hne
        go_loopg [17, 81] n (fun gk ps pj wr => ∃ i : Nat, i + gk = n ∧ pj = .int .i64 i ∧ ps = .int .i64 (runsV xs (L.take i)) ∧ Below w3.heap.size w3 wr)
        case atStart => exact ⟨0, by omega, rfl, by rw [runs_zero], B10.out⟩
        case round =>
          clear B10
          obtain ⟨i, hi, rfl, rfl, hb⟩ := hrel
          by_cases hlt : i < n
          · have hlt' : (i : Int) < n := by omega
            obtain ⟨jb, hjb⟩ : ∃ jb, L[i]? = some jb := ⟨_, List.getElem?_eq_getElem (by rw [HLN.out]; exact hlt)⟩
            obtain rfl := hgL (by omega)
            obtain ⟨d0, d1, d2, d3, d4, d5, d6, d7⟩ := (HCL.out i jb hjb).below hb
            have b1 : Below w3.heap.size w3 (wr.alloc (.cells #[.int .i64 jb.ac, .int .i64 jb.nd, .int .i64 jb.lm, .int .i64 jb.sb, .int .i64 jb.st, .int .i64 jb.sr, .int .i64 jb.en, .slice jb.sa jb.sl jb.sc] 57)) := hb.alloc hb.size _
            have hh := has_cal (cy := cx) (HX3.out.below b1) HQ.out (by omega) jb.ac
            have HBB1 : Hid _ := b1
            clear b1 hb
            by_cases hs : jb.st = 2
            · by_cases hm : jb.ac ∈ xs
              · have HS : Hid _ := runs_in hjb hs hm
                rw [decide_eq_true hm] at hh
                rw [hs] at d4 hh HBB1
                clear hjb hm hs
                go_wp2_with (first | (go_at_call 21; refine hh.mono ?_; rintro e wq ⟨rfl, hwq⟩; rw [← hwq]; clear hwq))
                go_roundg (n - (i + 1))
                case measure => omega
                case rel => exact ⟨i + 1, by omega, rfl, by rw [← HS.out], HBB1.out⟩
              · have HS : Hid _ := runs_out hjb (fun h => hm h.2)
                rw [decide_eq_false hm] at hh
                rw [hs] at d4 hh HBB1
                clear hjb hm hs
                go_wp2_with (first | (go_at_call 21; refine hh.mono ?_; rintro e wq ⟨rfl, hwq⟩; rw [← hwq]; clear hwq))
                go_roundg (n - (i + 1))
                case measure => omega
                case rel => exact ⟨i + 1, by omega, rfl, by rw [HS.out], HBB1.out⟩
            · have HS : Hid _ := runs_out (acc := xs) hjb (fun h => hs h.1)
              have hs' : (jb.st == 2) = false := by simpa using hs
              clear hjb hs hh
              go_wp2
              go_roundg (n - (i + 1))
              case measure => omega
              case rel => exact ⟨i + 1, by omega, rfl, by rw [HS.out], HBB1.out⟩
          · obtain rfl : i = n := by omega
            have hall : L.take i = L := List.take_of_length_le (by rw [HLN.out]; omega)
            rw [hall]
            have hc1 := cAll wr hb xo xs cx q (wrap64 (now + 1)) HQ.out lx (HX3.out.below hb)
            have htk := HTICK.out
            rw [HRL.out] at htk
            rw [← htk] at hc1
            have HBW : Hid (Below w3.heap.size w3 wr) := hb
            clear hall hb htk HTICK
            go_wp2_with fail
            refine hc1.mono ?_
            rintro e w11 ⟨rfl, b11⟩
            have BB11 := HBW.out.trans (b11.mono HBW.out.size)
            have hc2 := cAll w11 BB11 xo xs cx q now HQ.out lx (HX3.out.below BB11)
            rw [HRL.out] at hc2
            clear hc1 b11
            go_wp2_with fail
            refine hc2.mono ?_
            rintro e w12 ⟨rfl, b12⟩
            have BB12 : Hid (Below w3.heap.size w3 w12) := BB11.trans (b12.mono BB11.size)
            clear hc2 b12 BB11
            go_wp2
            go_ret
            have b13 := Hb3.out.trans (BB12.out.mono Hb3.out.size)
            exact ⟨by simp, HB.out.trans (b13.mono HB.out.size)⟩
end Go.Proofs.YtegpamoglifojaaDoor
