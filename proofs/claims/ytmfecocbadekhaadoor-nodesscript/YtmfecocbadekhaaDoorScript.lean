/-
  NodesScript, walked.
-/
import Derived.Test.YtmfecocbadekhaaDoorStart
import Derived.Deep.CutBlock
import Derived.Deep.DeepCutAuto
import Derived.Deep.CutRange
namespace Go.Proofs.YtmfecocbadekhaaDoor
open Go.RowKit Nd

/-- A step of the script, as it lies in memory. -/
structure OpIs (w : World) (g a : Nat) (sec : Bool) (kind nn : Int) (la : Option Addr) (m lc gL oL : Nat) (f : Nat → Int) : Prop where
  x0 : w.cell? ⟨g, a, none⟩ = some (.bool sec)
  x1 : w.cell? ⟨g, a + 1, none⟩ = some (.int .i64 kind)
  x2 : w.cell? ⟨g, a + 2, none⟩ = some (.int .i64 nn)
  x3 : w.cell? ⟨g, a + 3, none⟩ = some (.slice la m lc)
  la1 : 0 < m → la = some ⟨gL, oL, none⟩
  la0 : la = none → m = 0 ∧ lc = 0
  hm : m * 8 ≤ 140737488351232
  cells : ∀ j, j < m → w.cell? ⟨gL, oL + j, none⟩ = some (.int .i64 (f j))
  lt : gL < w.heap.size
theorem OpIs.keep {w w' : World} {g a : Nat} {sec : Bool} {kind nn : Int} {la : Option Addr} {m lc gL oL : Nat} {f : Nat → Int} (h : OpIs w g a sec kind nn la m lc gL oL f) (hb : Below w.heap.size w w') : OpIs w' g a sec kind nn la m lc gL oL f := by
  have c := Chg.of_below hb (fun _ => False)
  have no : ∀ i : Nat, ¬ (fun _ : Nat => False) i := fun _ h => h
  exact ⟨c.cell h.x0 (no 0), c.cell h.x1 (no 0), c.cell h.x2 (no 0), c.cell h.x3 (no 0), h.la1, h.la0, h.hm, fun j hj => c.cell (h.cells j hj) (no 0), by have := h.lt; have := hb.size; omega⟩

theorem Play.at {w wr w1 : World} {P Q H : Nat} {s s' : St} (h : Play w P Q H s wr) (g : Mv wr H s 2 w1 s') : w1.cell? ⟨P, 0, none⟩ = some (.pointer (some ⟨s.b1, 0, none⟩)) ∧ w1.cell? ⟨P, 1, none⟩ = some (.pointer (some ⟨s.d1, 0, none⟩)) ∧ w1.frozen? ⟨P, 0, none⟩ = false ∧ w1.frozen? ⟨P, 1, none⟩ = false := by
  have np : ∀ o, ¬ s.may H (⟨P, o, none⟩ : Addr).block := fun _ e => h.pn (St.may_in e)
  exact ⟨g.chg.cell h.p0 (np 0), g.chg.cell h.p1 (np 1), chg_fr g.chg h.p0 (np 0) h.fp0, chg_fr g.chg h.p1 (np 1) h.fp1⟩

theorem Play.fresh_below {w wr w1 : World} {P Q H : Nat} {s : St} (h : Play w P Q H s wr) (c : Chg (fun i => i = H ∨ i ∈ foot s.ao s.aw s.es) wr w1) : Below w.heap.size w w1 :=
  c.below h.below h.below.size (fun i hi => h.nb i (by
    simp only [St.blks, List.mem_cons, St.feet]
    rcases hi with e | e
    · exact .inr (.inr (.inr (.inr (.inr (.inr (.inl e))))))
    · exact .inr (.inr (.inr (.inr (.inr (.inr (.inr e))))))))

set_option maxHeartbeats 20000000 in
set_option maxRecDepth 20000 in
theorem script_yes (n m : Nat) (ao : Option Addr) (g o L sc : Nat) (w : World) (hT : Tab w) (hn1 : 1 ≤ n) (hn2 : n ≤ 256) (hm1 : 1 ≤ m) (hm2 : m ≤ 256) (hz0 : 0 < w.heap.size) (hL : L ≤ 140737488355328)
    (hao : 0 < L → ao = some ⟨g, o, none⟩) (hop : ∀ k, k < L → ∃ sec kind nn la m lc gL oL f, OpIs w g (o + k * 4) sec kind nn la m lc gL oL f) :
    Calls Tryd.prog 3 #[.int .i64 n, .int .i64 m, .slice ao L sc] w fun e w' => e = .returned (.bool true) ∧ Below w.heap.size w w' := by
  go_enter Tryd.func3, Tryd.ntmps3
  go_wp2_with fail
  refine (shown_any _ hT).mono ?_
  rintro e w1 ⟨rfl, hb1⟩
  have hT1 := below_tab hb1 hT
  go_wp2_with fail
  refine (new_yes n _ hn1 hn2 hT1).mono ?_
  rintro e w2 ⟨rfl, s1, hb2⟩
  go_wp2_with fail
  refine (rnew_yes n _ hn1 hn2).mono ?_
  rintro e w3 ⟨g1, c1, rfl, hg1, r1, hb3⟩
  go_wp2_with fail
  refine (new_yes m _ hm1 hm2 (below_tab hb3 (below_tab hb2 hT1))).mono ?_
  rintro e w4 ⟨rfl, s2, hb4⟩
  go_wp2_with fail
  refine (rnew_yes m _ hm1 hm2).mono ?_
  rintro e w5 ⟨g2, c2, rfl, hg2, r2, hb5⟩
  have P0 : Hid (Play w (w5.heap.size + 1) (w5.heap.size + 1 + 1) w5.heap.size ⟨w1.heap.size, w2.heap.size, g1, c1, n, 2 ^ n - 1, 2 ^ n - 1, w3.heap.size, w4.heap.size, g2, c2, m, 2 ^ m - 1, none, none, 0, 0, []⟩
      (((w5.alloc (.cells #[.slice none 0 0, .slice none 0 0] 34)).alloc (.cells #[.pointer (some ⟨w1.heap.size, 0, none⟩), .pointer (some ⟨w2.heap.size, 0, none⟩)] 36)).alloc (.cells #[.pointer (some ⟨w3.heap.size, 0, none⟩), .pointer (some ⟨w4.heap.size, 0, none⟩)] 36))) := play_start hz0 hb1 s1 hb2 r1 hg1 hb3 s2 hb4 r2 hg2 hb5
  clear s1 hb2 r1 hg1 hb3 s2 hb4 r2 hg2 hb5 hb1 hT1
  go_wp2
  generalize w5.heap.size + 1 + 1 = Q at P0 ⊢
  generalize w5.heap.size + 1 = P at P0 ⊢
  go_loopg [15, 18] (if L < 3000 then L else 3000) (fun gk h c wr => ∃ k H s, k + gk = (if L < 3000 then L else 3000) ∧ h = .pointer (some ⟨H, 0, none⟩) ∧ c = .int .i64 (k : Nat) ∧ Play w P Q H s wr ∧ s.es.length ≤ 300)
  case atStart => exact ⟨0, _, _, by omega, rfl, rfl, P0.out, by simp⟩
  case round =>
    clear P0
    obtain ⟨k, H, s, hk, rfl, rfl, hP, hfew⟩ := hrel
    by_cases hin : k < L ∧ k < 3000
    · obtain ⟨hlt, hlt2⟩ := hin
      have ha := hao (by omega)
      subst ha
      obtain ⟨sec, kind, nn, la, ml, lc, gL, oL, f, hO⟩ := hop k hlt
      have x0 := (hO.keep hP.below).x0
      have x1 := (hO.keep hP.below).x1
      have x2 := (hO.keep hP.below).x2
      have x3 := (hO.keep hP.below).x3
      have p0 := hP.p0
      have p1 := hP.p1
      have q0 := hP.q0
      have q1 := hP.q1
      have PD : Hid (Play w P Q H s wr.drew) := hP.on (drew_below wr 1)
      have OD : Hid (OpIs wr.drew g (o + k * 4) sec kind nn la ml lc gL oL f) := hO.keep PD.out.below
      have hgn : gL ∉ s.blks H := fun e => by have := hP.nb _ e; have := hO.lt; omega
      clear hop hP hO
      cases sec
      · go_upto_region 20 with fail
        go_cut [19] (fun ok wc => ok = .bool true ∧ ∃ s1, Play w P Q H s1 wc)
        case first =>
          go_region_with (go_at_call 9; refine (step_any H s false kind nn la ml lc gL oL f _ PD.out.two (by omega) PD.out.same OD.out.la1 OD.out.la0 OD.out.hm OD.out.cells OD.out.lt hgn).mono ?_; rintro e w6 ⟨s', rfl, hMv, hG⟩; obtain ⟨a0, a1, a2, a3⟩ := PD.out.at hMv)
          all_goals
            go_wp2_with fail
            go_meet
            exact ⟨rfl, _, PD.out.step hMv hG hfew⟩
        case rest =>
          obtain ⟨rfl, s1, hP1⟩ := hcut
          clear PD OD x0 x1 x2 x3 p0 p1 q0 q1 hgn
          have c0 := hP1.two.nums.c0
          have hfew1 := hP1.few
          by_cases h16 : k % 16 = 0
          · have ht : ((k : Int).tmod 16) = 0 := by rw [Int.tmod_eq_emod_of_nonneg (by omega)]; omega
            have HP1 : Hid (Play w P Q H s1 wc) := hP1
            clear hP1
            by_cases h3 : 300 < s1.es.length
            · go_wp2_with (first | (go_at_call 10; refine (holds_any H s1.ao s1.aw s1.co s1.cw s1.es _ HP1.out.two.nums).mono ?_; rintro e w7 ⟨rfl, q7, rfl⟩) | (go_at_call 11; refine (spoil_any H s1.ao s1.aw s1.co s1.cw s1.es _ (HP1.out.on (drew_below wc q7)).two.nums (by omega) HP1.out.two.full).mono ?_; rintro e w8 ⟨rfl, c8, _⟩))
              go_roundg ((if L < 3000 then L else 3000) - (k + 1))
              case measure => split at hk <;> split <;> omega
              case rel => exact ⟨k + 1, _, _, by split at hk <;> split <;> omega, rfl, by go_num, (HP1.out.on (drew_below wc q7)).fresh c8, by simp⟩
            · go_wp2_with (go_at_call 10; refine (holds_any H s1.ao s1.aw s1.co s1.cw s1.es _ HP1.out.two.nums).mono ?_; rintro e w7 ⟨rfl, q7, rfl⟩)
              go_roundg ((if L < 3000 then L else 3000) - (k + 1))
              case measure => split at hk <;> split <;> omega
              case rel => exact ⟨k + 1, _, _, by split at hk <;> split <;> omega, rfl, by go_num, HP1.out.on (drew_below wc q7), by omega⟩
          · have ht : ((k : Int).tmod 16 == 0) = false := by rw [Int.tmod_eq_emod_of_nonneg (by omega)]; simp; omega
            have HP1 : Hid (Play w P Q H s1 wc) := hP1
            clear hP1
            by_cases h3 : 300 < s1.es.length
            · go_wp2_with (go_at_call 11; refine (spoil_any H s1.ao s1.aw s1.co s1.cw s1.es _ HP1.out.two.nums (by omega) HP1.out.two.full).mono ?_; rintro e w8 ⟨rfl, c8, _⟩)
              go_roundg ((if L < 3000 then L else 3000) - (k + 1))
              case measure => split at hk <;> split <;> omega
              case rel => exact ⟨k + 1, _, _, by split at hk <;> split <;> omega, rfl, by go_num, HP1.out.fresh c8, by simp⟩
            · go_wp2
              go_roundg ((if L < 3000 then L else 3000) - (k + 1))
              case measure => split at hk <;> split <;> omega
              case rel => exact ⟨k + 1, _, _, by split at hk <;> split <;> omega, rfl, by go_num, HP1.out, by omega⟩
      · go_upto_region 19 with fail
        go_cut [19] (fun ok wc => ok = .bool true ∧ ∃ s1, Play w P Q H s1 wc)
        case first =>
          go_region_with (go_at_call 9; refine (step_any H s.swap true kind nn la ml lc gL oL f _ PD.out.swap.two (by simp [St.swap]; omega) PD.out.swap.same OD.out.la1 OD.out.la0 OD.out.hm OD.out.cells OD.out.lt (fun e => hgn ((swap_blks s H).mem_iff.1 e))).mono ?_; rintro e w6 ⟨s', rfl, hMv, hG⟩; obtain ⟨a0, a1, a2, a3⟩ := PD.out.swap.at hMv)
          all_goals
            go_wp2_with fail
            go_meet
            exact ⟨rfl, _, (PD.out.swap.step hMv hG hfew).swap⟩
        case rest =>
          obtain ⟨rfl, s1, hP1⟩ := hcut
          clear PD OD x0 x1 x2 x3 p0 p1 q0 q1 hgn
          have c0 := hP1.two.nums.c0
          have hfew1 := hP1.few
          by_cases h16 : k % 16 = 0
          · have ht : ((k : Int).tmod 16) = 0 := by rw [Int.tmod_eq_emod_of_nonneg (by omega)]; omega
            have HP1 : Hid (Play w P Q H s1 wc) := hP1
            clear hP1
            by_cases h3 : 300 < s1.es.length
            · go_wp2_with (first | (go_at_call 10; refine (holds_any H s1.ao s1.aw s1.co s1.cw s1.es _ HP1.out.two.nums).mono ?_; rintro e w7 ⟨rfl, q7, rfl⟩) | (go_at_call 11; refine (spoil_any H s1.ao s1.aw s1.co s1.cw s1.es _ (HP1.out.on (drew_below wc q7)).two.nums (by omega) HP1.out.two.full).mono ?_; rintro e w8 ⟨rfl, c8, _⟩))
              go_roundg ((if L < 3000 then L else 3000) - (k + 1))
              case measure => split at hk <;> split <;> omega
              case rel => exact ⟨k + 1, _, _, by split at hk <;> split <;> omega, rfl, by go_num, (HP1.out.on (drew_below wc q7)).fresh c8, by simp⟩
            · go_wp2_with (go_at_call 10; refine (holds_any H s1.ao s1.aw s1.co s1.cw s1.es _ HP1.out.two.nums).mono ?_; rintro e w7 ⟨rfl, q7, rfl⟩)
              go_roundg ((if L < 3000 then L else 3000) - (k + 1))
              case measure => split at hk <;> split <;> omega
              case rel => exact ⟨k + 1, _, _, by split at hk <;> split <;> omega, rfl, by go_num, HP1.out.on (drew_below wc q7), by omega⟩
          · have ht : ((k : Int).tmod 16 == 0) = false := by rw [Int.tmod_eq_emod_of_nonneg (by omega)]; simp; omega
            have HP1 : Hid (Play w P Q H s1 wc) := hP1
            clear hP1
            by_cases h3 : 300 < s1.es.length
            · go_wp2_with (go_at_call 11; refine (spoil_any H s1.ao s1.aw s1.co s1.cw s1.es _ HP1.out.two.nums (by omega) HP1.out.two.full).mono ?_; rintro e w8 ⟨rfl, c8, _⟩)
              go_roundg ((if L < 3000 then L else 3000) - (k + 1))
              case measure => split at hk <;> split <;> omega
              case rel => exact ⟨k + 1, _, _, by split at hk <;> split <;> omega, rfl, by go_num, HP1.out.fresh c8, by simp⟩
            · go_wp2
              go_roundg ((if L < 3000 then L else 3000) - (k + 1))
              case measure => split at hk <;> split <;> omega
              case rel => exact ⟨k + 1, _, _, by split at hk <;> split <;> omega, rfl, by go_num, HP1.out, by omega⟩
    · clear hop
      have hpp := hP.p0
      have hqq := hP.q0
      have hpr := hP.p1
      have hqr := hP.q1
      have T1 : Hid (∀ x, Below wr.heap.size wr x → RefIn x s.d1 s.g1 s.c1 s.n1 s.F1) := fun x hx => by
        have := (hP.on hx).two.r1
        rwa [hP.same] at this
      have HP : Hid (Play w P Q H s wr) := hP
      clear hP
      have hpl := HP.out.plt
      have hql := HP.out.qlt
      by_cases hlt : k < L
      all_goals
        go_wp2_with fail
        refine (list_any s.b1 s.n1 s.F1 _ HP.out.two.s1).mono ?_
        rintro e y1 ⟨rfl, o1, b1⟩
        have Q1 : Hid (Play w P Q H s y1) := HP.out.on b1
        replace hqq := keepB b1 hql hqq
        replace hpr := keepB b1 hpl hpr
        replace hqr := keepB b1 hql hqr
        have z1 := b1.size
        go_wp2_with fail
        refine (list_any s.b2 s.n2 s.F2 _ Q1.out.two.s2).mono ?_
        rintro e y2 ⟨rfl, o2, b2⟩
        have Q2 : Hid (Play w P Q H s y2) := Q1.out.on b2
        replace hpr := keepB b2 (by omega) hpr
        replace hqr := keepB b2 (by omega) hqr
        have b02 := below_on b1 b2 z1
        have z2 := b02.size
        have o12 := own_below o1 b2
        go_wp2_with fail
        refine (rlist_any s.d1 s.g1 s.c1 s.n1 s.F1 _ (T1.out _ b02)).mono ?_
        rintro e y3 ⟨ga, ca, rfl, _, o3, b3⟩
        have Q3 : Hid (Play w P Q H s y3) := Q2.out.on b3
        replace hqr := keepB b3 (by omega) hqr
        have z3 := b3.size
        have o13 := own_below o12 b3
        have o23 := own_below o2 b3
        have hL1 := lst_len s.F1
        have hL2 := lst_len s.F2
        go_wp2_with fail
        refine (same_b _ 0 _ _ _ 0 _ _ _ _ (nth (lst s.F1)) (nth (lst s.F1)) _ (fun _ => rfl) (fun _ => rfl) (by omega) (by omega) (fun j hj => own_cells o13 j hj) (fun j hj => own_cells o3 j hj)).mono ?_
        rintro e y4 ⟨rfl, b4⟩
        rw [same_self _ _ _ (fun _ _ => rfl)]
        have Q4 : Hid (Play w P Q H s y4) := Q3.out.on b4
        replace hqr := keepB b4 (by omega) hqr
        have o24 := own_below o23 b4
        go_wp2_with fail
        refine (rlist_any s.d2 s.g2 s.c2 s.n2 s.F2 _ Q4.out.two.r2).mono ?_
        rintro e y5 ⟨gb, cb, rfl, _, o5, b5⟩
        have Q5 : Hid (Play w P Q H s y5) := Q4.out.on b5
        have o25 := own_below o24 b5
        go_wp2_with fail
        refine (same_b _ 0 _ _ _ 0 _ _ _ _ (nth (lst s.F2)) (nth (lst s.F2)) _ (fun _ => rfl) (fun _ => rfl) (by omega) (by omega) (fun j hj => own_cells o25 j hj) (fun j hj => own_cells o5 j hj)).mono ?_
        rintro e y6 ⟨rfl, b6⟩
        rw [same_self _ _ _ (fun _ _ => rfl)]
        have Q6 : Hid (Play w P Q H s y6) := Q5.out.on b6
        go_wp2_with fail
        refine (spoil_any H s.ao s.aw s.co s.cw s.es _ Q6.out.two.nums (by omega) Q6.out.two.full).mono ?_
        rintro e y7 ⟨rfl, c7, _⟩
        have hB : Hid (Below w.heap.size w y7) := (Q6.out.fresh_below c7)
        clear c7
        go_wp2
        go_ret
        exact ⟨rfl, hB.out⟩
end Go.Proofs.YtmfecocbadekhaaDoor
