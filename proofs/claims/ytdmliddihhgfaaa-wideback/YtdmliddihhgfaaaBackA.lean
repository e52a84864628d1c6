/-
  THE STATEMENT WideBack, walked.
-/
import Derived.Test.YtdmliddihhgfaaaNums
import Derived.Deep.CutBlock
import Derived.Deep.DrawnRows
import Derived.Deep.DeepCutAuto
namespace Go.Proofs.Ytdmliddihhgfaaa
open Go.RowKit Wd
attribute [local go_sem ↓] Go.wp_at_zero Go.wp_at_succ

/-- A number that lies in block g. -/
def Lies (w : World) (g : Nat) (v : Int) : Prop := w.cell? ⟨g, 0, none⟩ = some (.int .u64 (hiW v)) ∧ w.cell? ⟨g, 1, none⟩ = some (.int .u64 (loW v))
theorem Lies.below {W w : World} {g : Nat} {v : Int} (h : Lies W g v) (hb : Below W.heap.size W w) : Lies w g v := ⟨keepC hb h.1, keepC hb h.2⟩
theorem Lies.alloc {w : World} {g : Nat} {v : Int} (h : Lies w g v) (o : Obj) : Lies (w.alloc o) g v := ⟨allocC o h.1, allocC o h.2⟩
theorem Lies.new (w : World) (v : Int) (t : TypeId) : Lies (w.alloc (.cells #[.int .u64 (hiW v), .int .u64 (loW v)] t)) w.heap.size v := ⟨by simp, by simp⟩
theorem Lies.lt {w : World} {g : Nat} {v : Int} (h : Lies w g v) : g < w.heap.size := World.block_lt_of_cell? w ⟨g, 0, none⟩ h.1

theorem keepB {W w w0 : World} {a0 a1 a2 a3 a4 a5 : Addr} {v0 v1 v2 v3 v4 v5 : Value} (hb : Below W.heap.size W w) (h : W.cell? a0 = some v0 ∧ W.cell? a1 = some v1 ∧ W.cell? a2 = some v2 ∧ W.cell? a3 = some v3 ∧ W.cell? a4 = some v4 ∧ W.cell? a5 = some v5 ∧ Below w0.heap.size w0 W ∧ w0.heap.size ≤ W.heap.size) : w.cell? a0 = some v0 ∧ w.cell? a1 = some v1 ∧ w.cell? a2 = some v2 ∧ w.cell? a3 = some v3 ∧ w.cell? a4 = some v4 ∧ w.cell? a5 = some v5 ∧ Below w0.heap.size w0 w ∧ w0.heap.size ≤ w.heap.size := by
  obtain ⟨h0, h1, h2, h3, h4, h5, hB, hz⟩ := h
  exact ⟨keepC hb h0, keepC hb h1, keepC hb h2, keepC hb h3, keepC hb h4, keepC hb h5, hB.trans (hb.mono hz), Nat.le_trans hz hb.size⟩
theorem keepB4 {W w w0 : World} {a0 a1 a2 a3 : Addr} {v0 v1 v2 v3 : Value} (hb : Below W.heap.size W w) (h : W.cell? a0 = some v0 ∧ W.cell? a1 = some v1 ∧ W.cell? a2 = some v2 ∧ W.cell? a3 = some v3 ∧ Below w0.heap.size w0 W ∧ w0.heap.size ≤ W.heap.size) : w.cell? a0 = some v0 ∧ w.cell? a1 = some v1 ∧ w.cell? a2 = some v2 ∧ w.cell? a3 = some v3 ∧ Below w0.heap.size w0 w ∧ w0.heap.size ≤ w.heap.size := by
  obtain ⟨h0, h1, h2, h3, hB, hz⟩ := h
  exact ⟨keepC hb h0, keepC hb h1, keepC hb h2, keepC hb h3, hB.trans (hb.mono hz), Nat.le_trans hz hb.size⟩

set_option maxHeartbeats 4000000 in
set_option maxRecDepth 20000 in
theorem back_walk (A B n : Int) (hA : Num A) (hB : Num B) (hn : n < 9223372036854775808) (w : World) :
    Calls Try.prog 5 #[.agg #[.int .u64 (hiW A), .int .u64 (loW A)], .agg #[.int .u64 (hiW B), .int .u64 (loW B)], .int .i64 n] w fun e w' => e = .returned (.bool true) ∧ Below w.heap.size w w' := by
  have hbl := lo_word B
  go_enter Try.func5, Try.ntmps5
  go_wp2_with fail
  refine (shown_any _).mono ?_
  rintro e w1 ⟨rfl, hb1⟩
  have z1 := hb1.size
  simp at z1
  have la : Lies w1 w.heap.size A := ((Lies.new w A 24).alloc _).below hb1
  have lb : Lies w1 (w.heap.size + 1) B := Lies.below (by have := Lies.new (w.alloc (.cells #[.int .u64 (hiW A), .int .u64 (loW A)] 24)) B 24; simpa using this) hb1
  have hbw : Below w.heap.size w w1 := (((Below.refl _ _).alloc (Nat.le_refl _) _).alloc (by simp) _).trans (hb1.mono (by simp; omega))
  obtain ⟨a0, a1⟩ := la
  obtain ⟨b0, b1⟩ := lb
  clear hb1
  go_wp2_with fail
  refine (add_num A B hA hB _).mono ?_
  rintro e w2 ⟨rfl, hb2⟩
  have z2 := hb2.size
  replace a0 := keepC hb2 a0
  replace a1 := keepC hb2 a1
  replace b0 := keepC hb2 b0
  replace b1 := keepC hb2 b1
  have n2 : w.heap.size < w2.heap.size := by omega
  have m2 : w.heap.size + 1 < w2.heap.size := by omega
  go_wp2_with fail
  refine (sub_num (addV A B) B (addV_num hA hB) hB _).mono ?_
  rintro e w3 ⟨rfl, hb3⟩
  have z3 := hb3.size
  simp at z3
  replace a0 := keepC hb3 (allocC _ a0)
  replace a1 := keepC hb3 (allocC _ a1)
  replace b0 := keepC hb3 (allocC _ b0)
  replace b1 := keepC hb3 (allocC _ b1)
  have s3 : Lies w3 w2.heap.size (addV A B) := (Lies.new w2 _ 24).below hb3
  go_upto_region 4 with fail
  have A0 := allocC (.cells #[.int .u64 (hiW (subV (addV A B) B)), .int .u64 (loW (subV (addV A B) B))] 24) a0
  have A1 := allocC (.cells #[.int .u64 (hiW (subV (addV A B) B)), .int .u64 (loW (subV (addV A B) B))] 24) a1
  have B0 := allocC (.cells #[.int .u64 (hiW (subV (addV A B) B)), .int .u64 (loW (subV (addV A B) B))] 24) b0
  have B1 := allocC (.cells #[.int .u64 (hiW (subV (addV A B) B)), .int .u64 (loW (subV (addV A B) B))] 24) b1
  have S0 := s3.alloc (.cells #[.int .u64 (hiW (subV (addV A B) B)), .int .u64 (loW (subV (addV A B) B))] 24)
  have D0 := Lies.new w3 (subV (addV A B) B) 24
  have HW : Below w.heap.size w (w3.alloc (.cells #[.int .u64 (hiW (subV (addV A B) B)), .int .u64 (loW (subV (addV A B) B))] 24)) := by
    refine Below.alloc ?_ (by omega) _
    exact ((hbw.trans (hb2.mono (by omega))).alloc (by omega) _).trans (hb3.mono (by simp; omega))
  have Z0 : w.heap.size + 1 < (w3.alloc (.cells #[.int .u64 (hiW (subV (addV A B) B)), .int .u64 (loW (subV (addV A B) B))] 24)).heap.size := by simp; omega
  generalize w3.alloc (.cells #[.int .u64 (hiW (subV (addV A B) B)), .int .u64 (loW (subV (addV A B) B))] 24) = v0 at *
  clear a0 a1 b0 b1 s3 hbw hb2 hb3 z1 z2 z3 n2 m2
  go_cut [8, 9, 10, 11, 48] (fun _ _ _ _ p wc => p = .bool false ∧ Below v0.heap.size v0 wc)
  case first =>
    obtain ⟨s0, s1⟩ := S0
    obtain ⟨d0, d1⟩ := D0
    by_cases hf : A + B ≤ top
    · obtain ⟨e1, e2, e3, e4⟩ := back_add hA hB hf
      rw [e1] at s0 s1 d0 d1 ⊢
      rw [e3] at d0 d1
      rw [e2]
      clear e1 e2 e3
      go_wp2_with fail
      refine (cmp_num (A + B) A _).mono ?_
      rintro e x1 ⟨rfl, hx1⟩
      go_wp2_with fail
      go_meet
      exact ⟨rfl, hx1⟩
    · have e2 : addB A B = false := by simp [addB, hf]
      rw [e2]
      clear e2
      go_wp2_with fail
      go_meet
      exact ⟨rfl, Below.refl _ _⟩
  case rest =>
    obtain ⟨rfl, hv⟩ := hcut
    replace A0 := keepC hv A0
    replace A1 := keepC hv A1
    replace B0 := keepC hv B0
    replace B1 := keepC hv B1
    have zv := hv.size
    replace HW := HW.trans (hv.mono (by omega))
    obtain ⟨v1, rfl⟩ : ∃ v1 : World, v1 = wc := ⟨_, rfl⟩
    replace Z0 : w.heap.size + 1 < v1.heap.size := by omega
    clear hv zv S0 D0
    go_wp2_with fail
    refine (div_num A (loW B) hA hbl _).mono ?_
    rintro e u1 ⟨rfl, hv⟩
    replace A0 := keepC hv A0
    replace A1 := keepC hv A1
    replace B0 := keepC hv B0
    replace B1 := keepC hv B1
    have zv := hv.size
    replace HW := HW.trans (hv.mono (by omega))
    have n1 : w.heap.size < u1.heap.size := by omega
    have m1 : w.heap.size + 1 < u1.heap.size := by omega
    clear hv
    go_upto_region 7 with fail
    replace A0 := allocC (.cells #[.int .u64 (hiW (divV A (loW B))), .int .u64 (loW (divV A (loW B)))] 24) A0
    replace A1 := allocC (.cells #[.int .u64 (hiW (divV A (loW B))), .int .u64 (loW (divV A (loW B)))] 24) A1
    replace B0 := allocC (.cells #[.int .u64 (hiW (divV A (loW B))), .int .u64 (loW (divV A (loW B)))] 24) B0
    replace B1 := allocC (.cells #[.int .u64 (hiW (divV A (loW B))), .int .u64 (loW (divV A (loW B)))] 24) B1
    have Q0 := Lies.new u1 (divV A (loW B)) 24
    replace HW := Below.alloc HW (by omega) (.cells #[.int .u64 (hiW (divV A (loW B))), .int .u64 (loW (divV A (loW B)))] 24)
    replace Z0 : w.heap.size + 1 < (u1.alloc (.cells #[.int .u64 (hiW (divV A (loW B))), .int .u64 (loW (divV A (loW B)))] 24)).heap.size := by simp; omega
    generalize u1.alloc (.cells #[.int .u64 (hiW (divV A (loW B))), .int .u64 (loW (divV A (loW B)))] 24) = v2 at *
    clear n1 m1 zv
    go_cut [14, 70] (fun o p wc => o = .bool (divB (loW B)) ∧ p = .bool false ∧ v2 = wc)
    case first =>
      by_cases hz : loW B = 0
      · have e1 : divB (loW B) = false := by rw [hz]; rfl
        have e2 : (loW B != 0) = false := by simp [hz]
        clear hz
        go_wp2_with fail
        go_meet
        exact ⟨by rw [e1], rfl, rfl⟩
      · obtain ⟨e1, _, r0, r1, _⟩ := back_div hA hbl hz
        have e2 : (loW B != 0) = true := by simp [hz]
        have e3 : decide (loW B ≤ remV A (loW B)) = false := by simp; omega
        clear hz r0 r1
        go_wp2_with fail
        go_meet
        exact ⟨by rw [e1], rfl, rfl⟩
    case rest =>
      obtain ⟨rfl, rfl, rfl⟩ := hcut
      have hq : Num (divV A (loW B)) := by
        by_cases hz : loW B = 0
        · rw [hz, show divV A 0 = 0 from rfl]; exact ⟨Int.le_refl 0, by decide⟩
        · exact (back_div hA hbl hz).2.1
      have hr : Word (remV A (loW B)) := by
        by_cases hz : loW B = 0
        · rw [hz, show remV A 0 = 0 from rfl]; exact ⟨Int.le_refl 0, by decide⟩
        · obtain ⟨_, _, r0, r1, _⟩ := back_div hA hbl hz
          exact ⟨r0, by obtain ⟨_, _⟩ := hbl; omega⟩
      have hp : Num (timV (divV A (loW B)) (loW B)) := timV_num hq hbl
      obtain ⟨q0, q1⟩ := Q0
      go_wp2_with fail
      refine (times_num (divV A (loW B)) (loW B) hq hbl _).mono ?_
      rintro e u2 ⟨rfl, hv⟩
      replace A0 := keepC hv A0
      replace A1 := keepC hv A1
      replace B0 := keepC hv B0
      replace B1 := keepC hv B1
      have zv := hv.size
      replace HW := HW.trans (hv.mono (by omega))
      clear hv q0 q1
      go_upto_region 10 with fail
      replace A0 := allocC (.cells #[.int .u64 (hiW (timV (divV A (loW B)) (loW B))), .int .u64 (loW (timV (divV A (loW B)) (loW B)))] 24) A0
      replace A1 := allocC (.cells #[.int .u64 (hiW (timV (divV A (loW B)) (loW B))), .int .u64 (loW (timV (divV A (loW B)) (loW B)))] 24) A1
      replace B0 := allocC (.cells #[.int .u64 (hiW (timV (divV A (loW B)) (loW B))), .int .u64 (loW (timV (divV A (loW B)) (loW B)))] 24) B0
      replace B1 := allocC (.cells #[.int .u64 (hiW (timV (divV A (loW B)) (loW B))), .int .u64 (loW (timV (divV A (loW B)) (loW B)))] 24) B1
      have P0 := Lies.new u2 (timV (divV A (loW B)) (loW B)) 24
      replace HW := Below.alloc HW (by omega) (.cells #[.int .u64 (hiW (timV (divV A (loW B)) (loW B))), .int .u64 (loW (timV (divV A (loW B)) (loW B)))] 24)
      replace Z0 : w.heap.size + 1 < (u2.alloc (.cells #[.int .u64 (hiW (timV (divV A (loW B)) (loW B))), .int .u64 (loW (timV (divV A (loW B)) (loW B)))] 24)).heap.size := by simp; omega
      generalize hg2 : u2.alloc (.cells #[.int .u64 (hiW (timV (divV A (loW B)) (loW B))), .int .u64 (loW (timV (divV A (loW B)) (loW B)))] 24) = v3 at *
      have P9 : u2.heap.size < v3.heap.size := P0.lt
      obtain ⟨p0, p1⟩ := P0
      have y0 : ¬ v3.heap.size = u2.heap.size := by omega
      clear zv hg2
      go_cut [17, 18] (fun p o wc => ∃ g : Nat, p = .pointer (some ⟨g, 0, none⟩) ∧ o = .bool (addB (timV (divV A (loW B)) (loW B)) (remV A (loW B))) ∧ Lies wc g (addV (timV (divV A (loW B)) (loW B)) (remV A (loW B))) ∧ Below v3.heap.size v3 wc)
      case first =>
        go_region_held3 (fun w' => w'.cell? ⟨u2.heap.size, 0, none⟩ = some (.int .u64 (hiW (timV (divV A (loW B)) (loW B)))) ∧ w'.cell? ⟨u2.heap.size, 1, none⟩ = some (.int .u64 (loW (timV (divV A (loW B)) (loW B))))) (simp (maxDischargeDepth := 12) [*, World.cell?_alloc_some, World.cell?_setCell_far])
          (first
            | (go_at_call 17; refine (of_num (remV A (loW B)) hr _).mono ?_; rintro e x1 ⟨rfl, hx1⟩; obtain ⟨hc1, hf1⟩ := bkeep hx1; have s1 := hx1.size; (try rw [World.size_drew] at s1); (try rw [World.size_alloc] at s1); (try rw [World.size_drew] at s1); have y1 : ¬ x1.heap.size = u2.heap.size := by { omega })
            | (go_at_call 7; refine (add_num (timV (divV A (loW B)) (loW B)) (remV A (loW B)) hp (num_small hr) _).mono ?_; rintro e x2 ⟨rfl, hx2⟩; obtain ⟨hc2, hf2⟩ := bkeep hx2; have s2 := hx2.size; (try rw [World.size_drew] at s2); (try rw [World.size_alloc] at s2); (try rw [World.size_drew] at s2); have y2 : ¬ x2.heap.size = u2.heap.size := by { omega }))
        all_goals go_wp2_with fail
        all_goals go_meet
        all_goals refine ⟨_, rfl, rfl, ⟨?_, ?_⟩, ?_⟩
        all_goals first | (simp (maxDischargeDepth := 12) [*, go_sem]; done) | (repeat first | exact Below.refl _ _ | refine Below.drew ?_ | refine Below.setCell ?_ (by first | (simp; done) | (simp; omega) | omega) _ | refine Below.alloc ?_ (by first | (simp; done) | (simp; omega) | omega) _ | refine Below.trans ?_ (hx2.mono (by first | (simp; done) | (simp; omega) | omega)) | refine Below.trans ?_ (hx1.mono (by first | (simp; done) | (simp; omega) | omega)))
      case rest =>
        obtain ⟨g, rfl, rfl, K0, hv⟩ := hcut
        replace A0 := keepC hv A0
        replace A1 := keepC hv A1
        replace B0 := keepC hv B0
        replace B1 := keepC hv B1
        have zv := hv.size
        replace HW := HW.trans (hv.mono (by omega))
        obtain ⟨v4, rfl⟩ : ∃ v4 : World, v4 = wc := ⟨_, rfl⟩
        replace Z0 : w.heap.size + 1 < v4.heap.size := by omega
        clear hv zv p0 p1 y0 P9
        obtain ⟨k0, k1⟩ := K0
        go_upto_region 11 with fail
        go_cut [12, 13, 14, 15, 16, 17, 18, 98] (fun _ _ _ _ _ _ _ p wc => p = .bool false ∧ v4 = wc)
        case first =>
          by_cases hz : loW B = 0
          · have e1 : divB (loW B) = false := by rw [hz]; rfl
            clear hz
            go_wp2_with fail
            go_meet
            exact ⟨rfl, rfl⟩
          · obtain ⟨e1, _, _, _, _, e2, e3, e4⟩ := back_div hA hbl hz
            rw [e3] at k0 k1
            clear hz e3
            go_wp2_with fail
            go_meet
            exact ⟨rfl, rfl⟩
        case rest =>
          obtain ⟨rfl, rfl⟩ := hcut
          clear k0 k1
          go_upto_region 13 with fail
          obtain ⟨c, ec⟩ : ∃ c : Bool, c = decide (0 ≤ n ∧ n < 128) := ⟨_, rfl⟩
          have EC : Hid (c = decide (0 ≤ n ∧ n < 128)) := ec
          clear ec
          go_cut [104] (fun p wc => p = .bool c ∧ v4 = wc)
          case first =>
            by_cases g0 : 0 ≤ n
            · have e0 : decide (0 ≤ n) = true := by simp [g0]
              by_cases g1 : n < 128
              · have e1 : decide (n < 128) = true := by simp [g1]
                have e2 : decide (0 ≤ n ∧ n < 128) = true := by simp [g0, g1]
                have E2 : Hid (decide (0 ≤ n ∧ n < 128) = true) := e2
                clear e2 g0 g1
                go_wp2_with fail
                go_meet
                exact ⟨by rw [EC.out, E2.out], rfl⟩
              · have e1 : decide (n < 128) = false := by simp; omega
                have e2 : decide (0 ≤ n ∧ n < 128) = false := by simp; omega
                have E2 : Hid (decide (0 ≤ n ∧ n < 128) = false) := e2
                clear e2 g0 g1
                go_wp2_with fail
                go_meet
                exact ⟨by rw [EC.out, E2.out], rfl⟩
            · have e0 : decide (0 ≤ n) = false := by simp; omega
              have e2 : decide (0 ≤ n ∧ n < 128) = false := by simp; omega
              have E2 : Hid (decide (0 ≤ n ∧ n < 128) = false) := e2
              clear e2 g0
              go_wp2_with fail
              go_meet
              exact ⟨by rw [EC.out, E2.out], rfl⟩
          case rest =>
            obtain ⟨rfl, rfl⟩ := hcut
            go_upto_if 104 with fail
            go_cut [19, 20, 21, 104] (fun _ _ _ _ wc => Below v4.heap.size v4 wc)
            case first =>
              cases c
              · go_wp2_with fail
                go_meet
                exact Below.refl _ _
              · have hin : 0 ≤ n ∧ n < 128 := of_decide_eq_true EC.out.symm
                obtain ⟨L, eL, nS, nL, nD, kc, kz, ks⟩ := back_shift (n := n) hA hin.1
                clear hin EC
                go_wp2_with fail
                refine (shr_num A n hA hn _).mono ?_
                rintro e x1 ⟨rfl, hx1⟩
                have zx1 := hx1.size
                replace A0 := keepC hx1 A0
                replace A1 := keepC hx1 A1
                go_wp2_with fail
                refine (shl_num (shrV A n) n nS hn _).mono ?_
                rintro e x2 ⟨rfl, hx2⟩
                rw [eL]
                have zx2 := hx2.size
                replace A0 := keepC hx2 A0
                replace A1 := keepC hx2 A1
                have o2 : w.heap.size < x2.heap.size := by omega
                go_wp2_with fail
                refine (sub_num A L hA nL _).mono ?_
                rintro e x3 ⟨rfl, hx3⟩
                have zx3 := hx3.size
                simp at zx3
                replace A0 := keepC hx3 (allocC _ A0)
                replace A1 := keepC hx3 (allocC _ A1)
                have l0 : Lies x3 x2.heap.size L := (Lies.new x2 L 24).below hx3
                go_upto_region 16 with fail
                have HS : Hid ((x3.alloc (.cells #[.int .u64 (hiW (subV A L)), .int .u64 (loW (subV A L))] 24)).drew.cell? ⟨w.heap.size, 0, none⟩ = some (.int .u64 (hiW A)) ∧ (x3.alloc (.cells #[.int .u64 (hiW (subV A L)), .int .u64 (loW (subV A L))] 24)).drew.cell? ⟨w.heap.size, 1, none⟩ = some (.int .u64 (loW A)) ∧ (x3.alloc (.cells #[.int .u64 (hiW (subV A L)), .int .u64 (loW (subV A L))] 24)).drew.cell? ⟨x2.heap.size, 0, none⟩ = some (.int .u64 (hiW L)) ∧ (x3.alloc (.cells #[.int .u64 (hiW (subV A L)), .int .u64 (loW (subV A L))] 24)).drew.cell? ⟨x2.heap.size, 1, none⟩ = some (.int .u64 (loW L)) ∧ (x3.alloc (.cells #[.int .u64 (hiW (subV A L)), .int .u64 (loW (subV A L))] 24)).drew.cell? ⟨x3.heap.size, 0, none⟩ = some (.int .u64 (hiW (subV A L))) ∧ (x3.alloc (.cells #[.int .u64 (hiW (subV A L)), .int .u64 (loW (subV A L))] 24)).drew.cell? ⟨x3.heap.size, 1, none⟩ = some (.int .u64 (loW (subV A L))) ∧ Below v4.heap.size v4 (x3.alloc (.cells #[.int .u64 (hiW (subV A L)), .int .u64 (loW (subV A L))] 24)).drew ∧ v4.heap.size ≤ (x3.alloc (.cells #[.int .u64 (hiW (subV A L)), .int .u64 (loW (subV A L))] 24)).drew.heap.size) := by
                  refine ⟨allocC _ A0, allocC _ A1, allocC _ l0.1, allocC _ l0.2, by simp, by simp, ?_, by simp; omega⟩
                  refine Below.drew (Below.alloc ?_ (by omega) _)
                  exact ((hx1.trans (hx2.mono (by omega))).alloc (by omega) _).trans (hx3.mono (by simp; omega))
                clear A0 A1 l0 hx1 hx2 hx3 o2 zx1 zx2 zx3 B0 B1 HW Z0
                have h00 : hiW 0 = 0 := rfl
                have l00 : loW 0 = 0 := rfl
                go_region_held3 (fun w' => w'.cell? ⟨w.heap.size, 0, none⟩ = some (.int .u64 (hiW (A))) ∧ w'.cell? ⟨w.heap.size, 1, none⟩ = some (.int .u64 (loW (A))) ∧ w'.cell? ⟨x2.heap.size, 0, none⟩ = some (.int .u64 (hiW (L))) ∧ w'.cell? ⟨x2.heap.size, 1, none⟩ = some (.int .u64 (loW (L))) ∧ w'.cell? ⟨x3.heap.size, 0, none⟩ = some (.int .u64 (hiW (subV A L))) ∧ w'.cell? ⟨x3.heap.size, 1, none⟩ = some (.int .u64 (loW (subV A L))) ∧ Below v4.heap.size v4 w' ∧ v4.heap.size ≤ w'.heap.size) (first | exact HS.out | exact keepB (by assumption) (by assumption))
                  (first
                    | (go_at_call 15; refine (cmp_num L A _).mono ?_; rintro e x ⟨rfl, hx⟩)
                    | (go_at_call_of 24 (Value.agg #[Value.int IntKind.u64 (hiW (subV A L)), Value.int IntKind.u64 (loW (subV A L))]); refine (shr_num (subV A L) n nD hn _).mono ?_; rintro e x ⟨rfl, hx⟩; rw [kz, h00, l00])
                    | (go_at_call_of 24 (Value.agg #[Value.int IntKind.u64 (hiW L), Value.int IntKind.u64 (loW L)]); refine (shr_num L n nL hn _).mono ?_; rintro e x ⟨rfl, hx⟩; rw [ks])
                    | (go_at_call_of 24 (Value.agg #[Value.int IntKind.u64 (hiW A), Value.int IntKind.u64 (loW A)]); refine (shr_num A n hA hn _).mono ?_; rintro e x ⟨rfl, hx⟩)
                    | (go_at_call 22; refine (shl_num (shrV A n) n nS hn _).mono ?_; rintro e x ⟨rfl, hx⟩; rw [eL]))
                have hS : x.cell? ⟨w.heap.size, 0, none⟩ = some (.int .u64 (hiW (A))) ∧ x.cell? ⟨w.heap.size, 1, none⟩ = some (.int .u64 (loW (A))) ∧ x.cell? ⟨x2.heap.size, 0, none⟩ = some (.int .u64 (hiW (L))) ∧ x.cell? ⟨x2.heap.size, 1, none⟩ = some (.int .u64 (loW (L))) ∧ x.cell? ⟨x3.heap.size, 0, none⟩ = some (.int .u64 (hiW (subV A L))) ∧ x.cell? ⟨x3.heap.size, 1, none⟩ = some (.int .u64 (loW (subV A L))) ∧ Below v4.heap.size v4 x ∧ v4.heap.size ≤ x.heap.size := by assumption
                have hB' : Below v4.heap.size v4 x := hS.2.2.2.2.2.2.1
                clear hS HS
                go_wp2_with fail
                go_meet
                exact hB'
            case rest =>
              have zv := hcut.size
              replace A0 := keepC hcut A0
              replace A1 := keepC hcut A1
              replace HW := HW.trans (hcut.mono (by omega))
              obtain ⟨v5, rfl⟩ : ∃ v5 : World, v5 = wc := ⟨_, rfl⟩
              replace Z0 : w.heap.size + 1 < v5.heap.size := by omega
              clear hcut zv B0 B1
              obtain ⟨wr, rr0, rr1⟩ := sqrt_is hA
              go_wp2_with fail
              refine (sqrt_num A _).mono ?_
              rintro e y1 ⟨rfl, hy1⟩
              have zy1 := hy1.size
              replace A0 := keepC hy1 A0
              replace A1 := keepC hy1 A1
              replace HW := HW.trans (hy1.mono (by omega))
              obtain ⟨r, er⟩ : ∃ r, sqrtV A = r := ⟨_, rfl⟩
              rw [er] at wr rr0 rr1 ⊢
              obtain ⟨t, et⟩ : ∃ t, IntKind.u64.wrap (r + 1) = t := ⟨_, rfl⟩
              have wt : Word t := by rw [← et, IntKind.wrap_u64]; exact ⟨by omega, by omega⟩
              have kc1 := (cmp_le rr0).2
              have HC : Hid (r ≠ 18446744073709551615 → decide (0 < cmpV (t * t) A) = true) := fun h => by
                have e : t = r + 1 := by rw [← et, IntKind.wrap_u64]; obtain ⟨_, _⟩ := wr; omega
                rw [e]; exact (cmp_gt rr1).1
              clear er rr0 rr1 hy1
              go_wp2_with fail
              refine (mul_any t t wt wt _).mono ?_
              rintro e y2 ⟨rfl, hy2⟩
              have zy2 := hy2.size
              replace A0 := keepC hy2 A0
              replace A1 := keepC hy2 A1
              replace HW := HW.trans (hy2.mono (by omega))
              go_upto_region 20 with fail
              have HS : Hid ((y2.alloc (.cells #[.int .u64 (hiW (t * t)), .int .u64 (loW (t * t))] 24)).drew.cell? ⟨w.heap.size, 0, none⟩ = some (.int .u64 (hiW (A))) ∧ (y2.alloc (.cells #[.int .u64 (hiW (t * t)), .int .u64 (loW (t * t))] 24)).drew.cell? ⟨w.heap.size, 1, none⟩ = some (.int .u64 (loW (A))) ∧ (y2.alloc (.cells #[.int .u64 (hiW (t * t)), .int .u64 (loW (t * t))] 24)).drew.cell? ⟨y2.heap.size, 0, none⟩ = some (.int .u64 (hiW (t * t))) ∧ (y2.alloc (.cells #[.int .u64 (hiW (t * t)), .int .u64 (loW (t * t))] 24)).drew.cell? ⟨y2.heap.size, 1, none⟩ = some (.int .u64 (loW (t * t))) ∧ Below w.heap.size w (y2.alloc (.cells #[.int .u64 (hiW (t * t)), .int .u64 (loW (t * t))] 24)).drew ∧ w.heap.size ≤ (y2.alloc (.cells #[.int .u64 (hiW (t * t)), .int .u64 (loW (t * t))] 24)).drew.heap.size) := by
                refine ⟨allocC _ A0, allocC _ A1, by simp, by simp, Below.drew (Below.alloc HW (by omega) _), by simp; omega⟩
              clear A0 A1 hy2 HW zy1 zy2 et Z0
              by_cases hr1 : r = 18446744073709551615
              · have eb : (r == 18446744073709551615) = true := by simp [hr1]
                obtain ⟨A0, A1, _, _, hB0, hz0⟩ := HS.out
                have HB0 : Hid _ := And.intro hB0 hz0
                clear hr1 HC HS hB0 hz0
                go_region_with (first
                  | (go_at_call 18; refine (mul_any r r wr wr _).mono ?_; rintro e x1 ⟨rfl, hx1⟩; obtain ⟨hc1, hf1⟩ := bkeep hx1)
                  | (go_at_call 15; refine (cmp_num (r * r) A _).mono ?_; rintro e x2 ⟨rfl, hx2⟩))
                all_goals simp only [List.getElem_toArray, List.getElem_cons_succ, List.getElem_cons_zero, Act.put, List.setIfInBounds_toArray, List.set_cons_zero, List.set_cons_succ]
                all_goals clear hc1 hf1
                all_goals go_wp2
                all_goals go_ret
                all_goals exact ⟨rfl, (HB0.out.1.trans (hx1.mono HB0.out.2)).trans (hx2.mono (Nat.le_trans HB0.out.2 hx1.size))⟩
              · have eb : (r == 18446744073709551615) = false := by simp [hr1]
                have kc2 := HC.out hr1
                clear hr1 HC
                go_region_held3 (fun w' => w'.cell? ⟨w.heap.size, 0, none⟩ = some (.int .u64 (hiW (A))) ∧ w'.cell? ⟨w.heap.size, 1, none⟩ = some (.int .u64 (loW (A))) ∧ w'.cell? ⟨y2.heap.size, 0, none⟩ = some (.int .u64 (hiW (t * t))) ∧ w'.cell? ⟨y2.heap.size, 1, none⟩ = some (.int .u64 (loW (t * t))) ∧ Below w.heap.size w w' ∧ w.heap.size ≤ w'.heap.size) (first | exact HS.out | exact keepB4 (by assumption) (by assumption))
                  (first
                    | (go_at_call 18; refine (mul_any r r wr wr _).mono ?_; rintro e x ⟨rfl, hx⟩)
                    | (go_at_call_of 15 (Value.agg #[Value.int IntKind.u64 (hiW (r * r)), Value.int IntKind.u64 (loW (r * r))]); refine (cmp_num (r * r) A _).mono ?_; rintro e x ⟨rfl, hx⟩)
                    | (go_at_call_of 15 (Value.agg #[Value.int IntKind.u64 (hiW (t * t)), Value.int IntKind.u64 (loW (t * t))]); refine (cmp_num (t * t) A _).mono ?_; rintro e x ⟨rfl, hx⟩))
                have hS : x.cell? ⟨w.heap.size, 0, none⟩ = some (.int .u64 (hiW (A))) ∧ x.cell? ⟨w.heap.size, 1, none⟩ = some (.int .u64 (loW (A))) ∧ x.cell? ⟨y2.heap.size, 0, none⟩ = some (.int .u64 (hiW (t * t))) ∧ x.cell? ⟨y2.heap.size, 1, none⟩ = some (.int .u64 (loW (t * t))) ∧ Below w.heap.size w x ∧ w.heap.size ≤ x.heap.size := by assumption
                have hB' : Below w.heap.size w x := hS.2.2.2.2.1
                clear hS HS
                go_wp2
                go_ret
                exact ⟨rfl, hB'⟩
end Go.Proofs.Ytdmliddihhgfaaa
