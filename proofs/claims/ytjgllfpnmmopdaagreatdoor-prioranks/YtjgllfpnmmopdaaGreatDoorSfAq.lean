/-
  LAYER 13: package share: part, atLeast, power, a family's shares.
-/
import Derived.Test.YtjgllfpnmmopdaaGreatDoorXsh
import Derived.Test.YtjgllfpnmmopdaaGreatDoorXfx
import Derived.Test.YtjgllfpnmmopdaaGreatDoorCfEq
import Derived.Test.YtjgllfpnmmopdaaGreatDoorRfX
import Derived.Deep.CutBlock
import Derived.Deep.DeepCutAuto
namespace Go.Proofs.YtjgllfpnmmopdaaGreatDoor
open Go.RowKit Wd Tr

theorem divV_eq (a b : Int) : divV a b = a / b := by
  unfold divV
  split
  · rename_i h; rw [h, Int.ediv_zero]
  · rfl
set_option maxHeartbeats 400000 in
set_option maxRecDepth 20000 in
theorem spart_any {a n d : Int} (ha : Word a) (hn : Word n) (hd : Word d) (hq : a * n / d < 18446744073709551616) (w : World) :
    Calls Tryz.prog 74 #[.int .u64 a, .int .u64 n, .int .u64 d] w fun e w' => e = .returned (.int .u64 (a * n / d)) ∧ Below w.heap.size w w' := by
  have c1 := mul_num' a n ha hn
  have c2 := div_num (a * n) d (mul_num ha hn) hd
  have hq0 : 0 ≤ a * n / d := Int.ediv_nonneg (mul_num ha hn).1 hd.1
  have e : loW (divV (a * n) d) = a * n / d := by rw [divV_eq]; exact (hi_small ⟨hq0, hq⟩).2
  rw [e] at c2
  clear e hq hq0
  generalize a * n / d = q at *
  generalize hiW (divV (a * n) d) = H at *
  generalize remV (a * n) d = R at *
  generalize divB d = B at *
  generalize a * n = u at *
  clear ha hn hd
  go_enter Tryz.func74, Tryz.ntmps74
  go_wp2_with fail
  refine (c1 _).mono ?_
  rintro e w1 ⟨rfl, hb1⟩
  go_wp2_with fail
  refine (c2 _).mono ?_
  rintro e w2 ⟨rfl, hb2⟩
  go_wp2
  go_ret
  exact ⟨rfl, (hb1.trans (hb2.mono hb1.size)).alloc (by have := hb1.size; have := hb2.size; omega) _⟩
set_option maxHeartbeats 400000 in
set_option maxRecDepth 20000 in
theorem atl_any {n d : Int} (hn : 0 ≤ n) (hn' : n ≤ 281474976710656) (w : World) :
    Calls Tryz.prog 39 #[.int .u64 n, .int .u64 d] w fun e w' => e = .returned (.agg #[.int .u64 (atN n d), .int .u64 (atD n d)]) ∧ Below w.heap.size w w' := by
  have e1 : IntKind.u64.wrap (n * 4096) = n * 4096 := by rw [IntKind.wrap_u64]; omega
  by_cases h : n * 4096 < d
  · rw [show atN n d = 1 by unfold atN; rw [if_pos h], show atD n d = 4096 by unfold atD; rw [if_pos h]]
    clear hn hn'
    go_enter Tryz.func39, Tryz.ntmps39
    go_wp2
    exact bodyPost_ret (v := .agg #[.int .u64 1, .int .u64 4096]) (by simp [results, Tryz.results39, go_sem]) rfl ⟨rfl, (Below.refl _ _).alloc (Nat.le_refl _) _⟩
  · rw [show atN n d = n by unfold atN; rw [if_neg h], show atD n d = d by unfold atD; rw [if_neg h]]
    clear hn hn'
    go_enter Tryz.func39, Tryz.ntmps39
    go_wp2
    exact bodyPost_ret (v := .agg #[.int .u64 n, .int .u64 d]) (by simp [results, Tryz.results39, go_sem]) rfl ⟨rfl, (Below.refl _ _).alloc (Nat.le_refl _) _⟩
set_option maxHeartbeats 400000 in
set_option maxRecDepth 20000 in
theorem fshares_any {W : World} {g o n L c m : Nat} {a : Ac} (hA : AcAt W g (o + n * 5) a) (hn : n < L) (h1 : 0 ≤ a.sh) (h2 : a.sh ≤ 4096) :
    Calls Tryz.prog 70 #[.agg #[.slice (some ⟨g, o, none⟩) L c, .map (some m)], .int .i64 n] W fun e w' => e = .returned (.int .u64 a.sh) ∧ Below W.heap.size W w' := by
  have e1 : IntKind.u64.wrap a.sh = a.sh := by rw [IntKind.wrap_u64]; omega
  have hn' : (n : Int) < L := by omega
  have x1 := hA.sh
  have hb : Below W.heap.size W (W.alloc (.cells #[.slice (some ⟨g, o, none⟩) L c, .map (some m)] 105)) := (Below.refl _ _).alloc (Nat.le_refl _) _
  have x2 : (W.alloc (.cells #[.slice (some ⟨g, o, none⟩) L c, .map (some m)] 105)).cell? ⟨g, o + n * 5 + 2, none⟩ = some (.int .i64 a.sh) := allocC _ x1
  clear hA x1 h1 h2
  generalize a.sh = sh at *
  go_enter Tryz.func70, Tryz.ntmps70
  go_wp2
  go_ret
  exact ⟨rfl, hb⟩
theorem keep4 {W w w0 : World} {a0 a1 a2 a3 : Addr} {v0 v1 v2 v3 : Value} (hb : Below W.heap.size W w) (h : W.cell? a0 = some v0 ∧ W.cell? a1 = some v1 ∧ W.cell? a2 = some v2 ∧ W.cell? a3 = some v3 ∧ Below w0.heap.size w0 W ∧ w0.heap.size ≤ W.heap.size) : w.cell? a0 = some v0 ∧ w.cell? a1 = some v1 ∧ w.cell? a2 = some v2 ∧ w.cell? a3 = some v3 ∧ Below w0.heap.size w0 w ∧ w0.heap.size ≤ w.heap.size := by
  obtain ⟨h0, h1, h2, h3, hB, hz⟩ := h
  exact ⟨keepC hb h0, keepC hb h1, keepC hb h2, keepC hb h3, hB.trans (hb.mono hz), Nat.le_trans hz hb.size⟩
def St4 (w : World) (k g : Nat) (n d BH BL : Int) (x : World) : Prop := x.cell? ⟨k, 0, none⟩ = some (.int .u64 n) ∧ x.cell? ⟨k, 1, none⟩ = some (.int .u64 d) ∧ x.cell? ⟨g, 0, none⟩ = some (.int .u64 BH) ∧ x.cell? ⟨g, 1, none⟩ = some (.int .u64 BL) ∧ Below w.heap.size w x ∧ w.heap.size ≤ x.heap.size
theorem St4.keep {w x y : World} {k g : Nat} {n d BH BL : Int} (h : St4 w k g n d BH BL x) (b : Below x.heap.size x y) : St4 w k g n d BH BL y := keep4 b h
theorem St4.far {w x u : World} {k g : Nat} {n d BH BL : Int} {a b : Value} (h : St4 w k g n d BH BL x) (hu : St4 w k g n d BH BL u) : St4 w k g n d BH BL ((x.setCell ⟨u.heap.size, 0, none⟩ a).setCell ⟨u.heap.size, 1, none⟩ b) := by
  have n1 := World.block_lt_of_cell? u _ hu.1
  have n2 := World.block_lt_of_cell? u _ hu.2.2.1
  simp only at n1 n2
  have y1 : k ≠ u.heap.size := by omega
  have y2 : g ≠ u.heap.size := by omega
  have z := hu.2.2.2.2.2
  obtain ⟨a0, a1, a2, a3, bb, zz⟩ := h
  exact ⟨by simp [go_sem, *], by simp [go_sem, *], by simp [go_sem, *], by simp [go_sem, *], (bb.setCell z _).setCell z _, by simp; omega⟩
set_option maxHeartbeats 1000000 in
set_option maxRecDepth 20000 in
theorem spow_any {e n d : Int} (he : 0 ≤ e) (he' : e ≤ 9223372036854775808) (hn : 1 ≤ n) (hn' : n < 18446744073709551616) (hd : 1 ≤ d) (hd' : d < 18446744073709551616) (w : World) :
    Calls Tryz.prog 38 #[.int .u64 e, .agg #[.int .u64 n, .int .u64 d]] w fun r w' => r = .returned (.int .u64 (narV (cl (cl (e * d) 2147483648) n))) ∧ Below w.heap.size w w' := by
  obtain ⟨p0, p1⟩ := Tr.prod_bound he he' hd hd'
  have we : Word e := ⟨he, by omega⟩
  have wd : Word d := ⟨by omega, hd'⟩
  have wn : Word n := ⟨by omega, hn'⟩
  have nz : n ≠ 0 := by omega
  have c1 := mul_num' e d we wd
  have c2 := of_num 2147483647 ⟨by omega, by omega⟩
  have nu1 : Num (e * d) := ⟨p0, by unfold top; omega⟩
  have c3 := add_num (e * d) 2147483647 nu1 ⟨by omega, by unfold top; omega⟩
  have e3 : Wd.addV (e * d) 2147483647 = e * d + 2147483647 := by unfold Wd.addV top; rw [if_pos (by omega)]
  rw [e3] at c3
  have nu2 : Num (e * d + 2147483647) := ⟨by omega, by unfold top; omega⟩
  have c4 := shr_any (hiW (e * d + 2147483647)) (loW (e * d + 2147483647)) 31 (hi_word nu2) (lo_word _) (by omega)
  have e4 : shrV (val (hiW (e * d + 2147483647)) (loW (e * d + 2147483647))) 31 = cl (e * d) 2147483648 := by
    rw [val_words]
    unfold shrV cl
    rw [if_neg (by omega)]
    rfl
  rw [e4] at c4
  have q0 : 0 ≤ cl (e * d) 2147483648 := cl_nonneg p0 (by omega)
  have q1 : cl (e * d) 2147483648 ≤ e * d := cl_le p0 (by omega)
  have r0 : 0 ≤ cl (cl (e * d) 2147483648) n := cl_nonneg q0 (by omega)
  have r1 : cl (cl (e * d) 2147483648) n ≤ cl (e * d) 2147483648 := cl_le q0 (by omega)
  have nu3 : Num (cl (cl (e * d) 2147483648) n) := ⟨r0, by unfold top; omega⟩
  have e5 := cl_rem (x := cl (e * d) 2147483648) (b := n) (by omega)
  have nuq : Num (cl (e * d) 2147483648) := ⟨q0, by unfold top; omega⟩
  have c5 := div_yes (cl (e * d) 2147483648) n nuq wn nz
  obtain ⟨_, _, _, nq, m0, m1, _, _⟩ := div_facts nuq wn nz
  have wb3 := hi_word nu2
  clear we wd p0 p1 nu1 q1 r0 r1 q0 e3 e4 nu2 he he' hn' hd hd' wn nz wb3
  generalize hX : cl (e * d) 2147483648 = X at *
  clear hX
  obtain ⟨A, hA⟩ : ∃ A, narV (cl X n) = A := ⟨_, rfl⟩
  rw [hA]
  have HA : Hid (narV (cl X n) = A) := hA
  have H5 : Hid _ := e5
  clear hA e5
  generalize hiW (e * d + 2147483647) = BH at *
  generalize loW (e * d + 2147483647) = BL at *
  generalize e * d = ed at *
  have hS0 : (w.alloc (.cells #[.int .u64 n, .int .u64 d] 74)).cell? ⟨w.heap.size, 0, none⟩ = some (.int .u64 n) ∧ (w.alloc (.cells #[.int .u64 n, .int .u64 d] 74)).cell? ⟨w.heap.size, 1, none⟩ = some (.int .u64 d) := ⟨by simp, by simp⟩
  have b0 : Below w.heap.size w (w.alloc (.cells #[.int .u64 n, .int .u64 d] 74)) := (Below.refl _ _).alloc (Nat.le_refl _) _
  have z0 : w.heap.size < (w.alloc (.cells #[.int .u64 n, .int .u64 d] 74)).heap.size := by simp
  go_enter Tryz.func38, Tryz.ntmps38
  go_wp2_with fail
  refine (c1 _).mono ?_
  rintro e w1 ⟨rfl, hb1⟩
  go_wp2_with fail
  refine (c2 _).mono ?_
  rintro e w2 ⟨rfl, hb2⟩
  go_wp2_with fail
  refine (c3 _).mono ?_
  rintro e w3 ⟨rfl, hb3⟩
  have B3 : Below w.heap.size w w3 := ((b0.trans (hb1.mono (by omega))).trans (hb2.mono (by have := hb1.size; omega))).trans (hb3.mono (by have := hb1.size; have := hb2.size; omega))
  have Z3 : w.heap.size < w3.heap.size := by have := hb1.size; have := hb2.size; have := hb3.size; omega
  have k0 := keepC hb3 (keepC hb2 (keepC hb1 hS0.1))
  have k1 := keepC hb3 (keepC hb2 (keepC hb1 hS0.2))
  clear hS0 b0 z0 hb1 hb2 hb3 c1 c2 c3
  have hV : St4 w w.heap.size w3.heap.size n d BH BL (w3.alloc (.cells #[.int .u64 BH, .int .u64 BL] 99)) :=
    ⟨allocC _ k0, allocC _ k1, by simp [go_sem], by simp [go_sem], B3.alloc (by omega) _, by simp; omega⟩
  go_upto_region 2 with fail
  generalize w3.alloc (.cells #[.int .u64 BH, .int .u64 BL] 99) = v4 at *
  generalize w3.heap.size = k6 at *
  have HV : Hid (St4 w w.heap.size k6 n d BH BL v4) := hV
  have HS : Hid (St4 w w.heap.size k6 n d BH BL v4.drew) := hV.keep (Below.refl _ _).drew
  clear hV k0 k1 B3 Z3
  go_cut [7, 8, 9] (fun b r dd wq => ∃ g : Nat, b = .pointer (some ⟨g, 0, none⟩) ∧ r = .int .u64 (X % n) ∧ wq.cell? ⟨g, 0, none⟩ = some (.int .u64 (hiW (X / n))) ∧ wq.cell? ⟨g, 1, none⟩ = some (.int .u64 (loW (X / n))) ∧ wq.frozen? ⟨g, 0, none⟩ = false ∧ wq.frozen? ⟨g, 1, none⟩ = false ∧ w.heap.size ≤ g ∧ Below w.heap.size w wq ∧ dd = .bool true)
  case first =>
    go_region_held3 (fun x => x.cell? ⟨w.heap.size, 0, none⟩ = some (.int .u64 n) ∧ x.cell? ⟨w.heap.size, 1, none⟩ = some (.int .u64 d) ∧ x.cell? ⟨k6, 0, none⟩ = some (.int .u64 BH) ∧ x.cell? ⟨k6, 1, none⟩ = some (.int .u64 BL) ∧ Below w.heap.size w x ∧ w.heap.size ≤ x.heap.size) (first | exact HS.out | exact HY.out | exact HX.out | exact St4.far HY.out HX.out | exact St4.far HY.out HV.out | exact St4.far HY.out HS.out | exact St4.keep HY.out ((Below.refl _ _).alloc (Nat.le_refl _) _) | exact St4.keep (by assumption) (by assumption) | exact St4.keep (by assumption) ((Below.refl _ _).alloc (Nat.le_refl _) _) | exact St4.keep HS.out ((Below.refl _ _).alloc (Nat.le_refl _) _) | exact St4.far (by assumption) (by assumption) | exact St4.far (by assumption) HS.out | exact St4.keep HX.out ((Below.refl _ _).alloc (Nat.le_refl _) _))
      (first
      | (go_at_call 64; refine (c4 _).mono ?_; rintro e x ⟨rfl, hx⟩; have HX : Hid (St4 w w.heap.size k6 n d BH BL x) := St4.keep (by first | exact HS.out | assumption) hx; obtain ⟨hc1, hf1⟩ := bkeep hx)
      | (go_at_call 78; refine (c5 _).mono ?_; rintro e x ⟨rfl, hx⟩; have HY : Hid (St4 w w.heap.size k6 n d BH BL x) := St4.keep (by first | exact HX.out | assumption) hx; obtain ⟨hc3, hf3⟩ := bkeep hx; (first | (have g3 := trans_keep hc1 hc3; have j3 := trans_keepF hc1 hf1 hf3) | skip)))
    all_goals
      rename_i h6x
      have h6 : St4 w w.heap.size k6 n d BH BL _ := h6x
      have B6 := h6.2.2.2.2.1
      have z1 := HV.out.2.2.2.2.2
      have z2 := HX.out.2.2.2.2.2
      have z3 := HY.out.2.2.2.2.2
      clear h6x h6 HS HX HY HV
      go_wp2
      go_meet
      exact ⟨_, rfl, rfl, by simp [go_sem, *], by simp [go_sem, *], by simp [go_sem, *], by simp [go_sem, *], by assumption, B6, rfl⟩
  case rest =>
    obtain ⟨g, rfl, rfl, q0, q1, f0, f1, hg, HB, rfl⟩ := hcut
    clear HS HV c4 c5
    have hA := HA.out
    rw [H5.out] at nu3 hA
    clear HA H5
    by_cases m : X % n = 0
    · rw [if_pos m] at nu3 hA
      rw [m]
      clear m m0 m1 nq
      generalize X / n = V at *
      by_cases hh : hiW V = 0
      · rw [(nar_hi nu3 hh).1] at hA
        rw [hh] at q0
        have HA : Hid _ := hA
        clear hA hh
        go_wp2
        go_ret
        exact ⟨by rw [← HA.out]; rfl, HB⟩
      · rw [(nar_no nu3 hh).1] at hA
        have hp : 0 < hiW V := by have := (hi_word nu3).1; omega
        have HA : Hid _ := hA
        clear hA hh
        go_wp2
        go_ret
        exact ⟨by rw [← HA.out]; rfl, HB⟩
    · rw [if_neg m] at nu3 hA
      have HA : Hid _ := hA
      clear hA
      have hp0 : 0 < X % n := by omega
      have ea : Wd.addV (X / n) 1 = X / n + 1 := by
        have := nu3.2
        unfold Wd.addV
        rw [if_pos this]
      clear m m0 m1 hn
      generalize X % n = R at *
      generalize X / n = V at *
      go_upto_region 4 with fail
      go_cut [7] (fun b wq => b = .pointer (some ⟨g, 0, none⟩) ∧ wq.cell? ⟨g, 0, none⟩ = some (.int .u64 (hiW (V + 1))) ∧ wq.cell? ⟨g, 1, none⟩ = some (.int .u64 (loW (V + 1))) ∧ Below w.heap.size w wq)
      case first =>
        go_region_with (first
          | (go_at_call 77; refine (of_num 1 ⟨by omega, by omega⟩ _).mono ?_; rintro e x ⟨rfl, hx⟩; have x0 : x.cell? ⟨g, 0, none⟩ = some (.int .u64 (hiW V)) := keepC hx q0; have x1 : x.cell? ⟨g, 1, none⟩ = some (.int .u64 (loW V)) := keepC hx q1; have y0 : x.frozen? ⟨g, 0, none⟩ = false := keepF hx q0 f0; have y1 : x.frozen? ⟨g, 1, none⟩ = false := keepF hx q1 f1)
          | (go_at_call 76; refine (add_num V 1 nq ⟨by omega, by unfold top; omega⟩ _).mono ?_; rw [ea]; rintro e y ⟨rfl, hy⟩; have u0 := keepC hy x0; have u1 := keepC hy x1; have v0 := keepF hy x0 y0; have v1 := keepF hy x1 y1))
        all_goals
          have HY : Hid (Below w.heap.size w y) := (HB.drew.trans (hx.mono (by have := HB.size; simp; omega))).trans (hy.mono (by have := HB.size; have := hx.size; simp at this; omega))
          go_wp2
          go_meet
          exact ⟨rfl, by simp [go_sem, *], by simp [go_sem, *], (HY.out.setCell hg _).setCell hg _⟩
      case rest =>
        obtain ⟨rfl, q0, q1, HB⟩ := hcut
        clear ea nq hp0
        generalize V + 1 = V' at *
        have hA := HA.out
        clear HA
        by_cases hh : hiW V' = 0
        · rw [(nar_hi nu3 hh).1] at hA
          rw [hh] at q0
          have HA : Hid _ := hA
          clear hA hh
          go_wp2
          go_ret
          exact ⟨by rw [← HA.out]; rfl, HB⟩
        · rw [(nar_no nu3 hh).1] at hA
          have hp : 0 < hiW V' := by have := (hi_word nu3).1; omega
          have HA : Hid _ := hA
          clear hA hh
          go_wp2
          go_ret
          exact ⟨by rw [← HA.out]; rfl, HB⟩
end Go.Proofs.YtjgllfpnmmopdaaGreatDoor
