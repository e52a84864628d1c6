/-
  THE STATEMENT WideSums, walked.
-/
import Derived.Test.YtdmliddihhgfaaaShown
import Derived.Test.YtdmliddihhgfaaaRefC
import Derived.Test.YtdmliddihhgfaaaRefD
import Derived.Deep.CutBlock
import Derived.Deep.DeepCutAuto
namespace Go.Proofs.Ytdmliddihhgfaaa
open Go.RowKit Wd

/-- A number of two words that lies in block g. -/
def Two (w : World) (g : Nat) (x y : Int) : Prop := w.cell? ⟨g, 0, none⟩ = some (.int .u64 x) ∧ w.cell? ⟨g, 1, none⟩ = some (.int .u64 y)
theorem Two.below {W w : World} {g : Nat} {x y : Int} (h : Two W g x y) (hb : Below W.heap.size W w) : Two w g x y := ⟨keepC hb h.1, keepC hb h.2⟩
theorem Two.alloc {w : World} {g : Nat} {x y : Int} (h : Two w g x y) (o : Obj) : Two (w.alloc o) g x y := ⟨allocC o h.1, allocC o h.2⟩
theorem Two.new (w : World) (x y : Int) (t : TypeId) : Two (w.alloc (.cells #[.int .u64 x, .int .u64 y] t)) w.heap.size x y := ⟨by simp, by simp⟩
theorem trans_keep {P w1 w2 : World} (h1 : ∀ a, (P.cell? a).isSome = true → w1.cell? a = P.cell? a) (h2 : ∀ a, (w1.cell? a).isSome = true → w2.cell? a = w1.cell? a) : ∀ a, (P.cell? a).isSome = true → w2.cell? a = P.cell? a :=
  fun a h => (h2 a (by rw [h1 a h]; exact h)).trans (h1 a h)

theorem trans_keepF {P w1 w2 : World} (h1 : ∀ a, (P.cell? a).isSome = true → w1.cell? a = P.cell? a) (f1 : ∀ a, (P.cell? a).isSome = true → w1.frozen? a = P.frozen? a) (f2 : ∀ a, (w1.cell? a).isSome = true → w2.frozen? a = w1.frozen? a) : ∀ a, (P.cell? a).isSome = true → w2.frozen? a = P.frozen? a :=
  fun a h => (f2 a (by rw [h1 a h]; exact h)).trans (f1 a h)

theorem keep16 {W w : World} {a0 a1 a2 a3 a4 a5 a6 a7 a8 a9 a10 a11 a12 a13 a14 a15 : Addr} {v0 v1 v2 v3 v4 v5 v6 v7 v8 v9 v10 v11 v12 v13 v14 v15 : Value} (hb : Below W.heap.size W w) (h : W.cell? a0 = some v0 ∧ W.cell? a1 = some v1 ∧ W.cell? a2 = some v2 ∧ W.cell? a3 = some v3 ∧ W.cell? a4 = some v4 ∧ W.cell? a5 = some v5 ∧ W.cell? a6 = some v6 ∧ W.cell? a7 = some v7 ∧ W.cell? a8 = some v8 ∧ W.cell? a9 = some v9 ∧ W.cell? a10 = some v10 ∧ W.cell? a11 = some v11 ∧ W.cell? a12 = some v12 ∧ W.cell? a13 = some v13 ∧ W.cell? a14 = some v14 ∧ W.cell? a15 = some v15) : w.cell? a0 = some v0 ∧ w.cell? a1 = some v1 ∧ w.cell? a2 = some v2 ∧ w.cell? a3 = some v3 ∧ w.cell? a4 = some v4 ∧ w.cell? a5 = some v5 ∧ w.cell? a6 = some v6 ∧ w.cell? a7 = some v7 ∧ w.cell? a8 = some v8 ∧ w.cell? a9 = some v9 ∧ w.cell? a10 = some v10 ∧ w.cell? a11 = some v11 ∧ w.cell? a12 = some v12 ∧ w.cell? a13 = some v13 ∧ w.cell? a14 = some v14 ∧ w.cell? a15 = some v15 := by
  obtain ⟨h0, h1, h2, h3, h4, h5, h6, h7, h8, h9, h10, h11, h12, h13, h14, h15⟩ := h
  exact ⟨keepC hb h0, keepC hb h1, keepC hb h2, keepC hb h3, keepC hb h4, keepC hb h5, keepC hb h6, keepC hb h7, keepC hb h8, keepC hb h9, keepC hb h10, keepC hb h11, keepC hb h12, keepC hb h13, keepC hb h14, keepC hb h15⟩

set_option maxHeartbeats 4000000 in
set_option maxRecDepth 20000 in
theorem sums_walk (ah al bh bl : Int) (h1 : Word ah) (h2 : Word al) (h3 : Word bh) (h4 : Word bl) (w : World) :
    Calls Try.prog 3 #[.agg #[.int .u64 ah, .int .u64 al], .agg #[.int .u64 bh, .int .u64 bl]] w fun e w' => e = .returned (.bool true) ∧ Below w.heap.size w w' := by
  go_enter Try.func3, Try.ntmps3
  go_wp2_with fail
  refine (shown_any _).mono ?_
  rintro e w1 ⟨rfl, hb1⟩
  have z1 := hb1.size
  simp at z1
  have ta1 : Two w1 w.heap.size ah al := Two.below ((Two.new w ah al 24).alloc _) hb1
  have tb1 : Two w1 (w.heap.size + 1) bh bl := Two.below (by have := Two.new (w.alloc (.cells #[.int .u64 ah, .int .u64 al] 24)) bh bl 24; simpa using this) hb1
  obtain ⟨a0, a1⟩ := ta1
  obtain ⟨b0, b1⟩ := tb1
  go_wp2_with fail
  refine (add_any ah al bh bl h1 h2 h3 h4 _).mono ?_
  rintro e w2 ⟨rfl, hb2⟩
  have z2 := hb2.size
  have n2 : w.heap.size < w2.heap.size := by omega
  have m2 : w.heap.size + 1 < w2.heap.size := by omega
  replace a0 := keepC hb2 a0
  replace a1 := keepC hb2 a1
  replace b0 := keepC hb2 b0
  replace b1 := keepC hb2 b1
  go_wp2_with fail
  refine (sub_any ah al bh bl h1 h2 h3 h4 _).mono ?_
  rintro e w3 ⟨rfl, hb3⟩
  have z3 := hb3.size
  simp at z3
  replace a0 := keepC hb3 (allocC _ a0)
  replace a1 := keepC hb3 (allocC _ a1)
  replace b0 := keepC hb3 (allocC _ b0)
  replace b1 := keepC hb3 (allocC _ b1)
  have ts3 := (Two.new w2 (hiW (addV (val ah al) (val bh bl))) (loW (addV (val ah al) (val bh bl))) 24).below hb3
  have n3 : w.heap.size < w3.heap.size := by omega
  have m3 : w.heap.size + 1 < w3.heap.size := by omega
  clear n2 m2
  go_wp2_with fail
  refine (times_any ah al bl h1 h2 h4 _).mono ?_
  rintro e w4 ⟨rfl, hb4⟩
  have z4 := hb4.size
  simp at z4
  replace a0 := keepC hb4 (allocC _ a0)
  replace a1 := keepC hb4 (allocC _ a1)
  replace b0 := keepC hb4 (allocC _ b0)
  replace b1 := keepC hb4 (allocC _ b1)
  have ts4 := (ts3.alloc _).below hb4
  have td4 := (Two.new w3 (hiW (subV (val ah al) (val bh bl))) (loW (subV (val ah al) (val bh bl))) 24).below hb4
  clear ts3 n3 m3
  go_upto_region 5 with fail
  have A0 := allocC (.cells #[.int .u64 (hiW (timV (val ah al) bl)), .int .u64 (loW (timV (val ah al) bl))] 24) a0
  have A1 := allocC (.cells #[.int .u64 (hiW (timV (val ah al) bl)), .int .u64 (loW (timV (val ah al) bl))] 24) a1
  have B0 := allocC (.cells #[.int .u64 (hiW (timV (val ah al) bl)), .int .u64 (loW (timV (val ah al) bl))] 24) b0
  have B1 := allocC (.cells #[.int .u64 (hiW (timV (val ah al) bl)), .int .u64 (loW (timV (val ah al) bl))] 24) b1
  have ts5 := ts4.alloc (.cells #[.int .u64 (hiW (timV (val ah al) bl)), .int .u64 (loW (timV (val ah al) bl))] 24)
  have td5 := td4.alloc (.cells #[.int .u64 (hiW (timV (val ah al) bl)), .int .u64 (loW (timV (val ah al) bl))] 24)
  have tp5 := Two.new w4 (hiW (timV (val ah al) bl)) (loW (timV (val ah al) bl)) 24
  have hb5 : Below w.heap.size w (w4.alloc (.cells #[.int .u64 (hiW (timV (val ah al) bl)), .int .u64 (loW (timV (val ah al) bl))] 24)) := by
    refine Below.alloc ?_ (by omega) _
    exact ((((((Below.refl _ _).alloc (Nat.le_refl _) _).alloc (by simp) _).trans (hb1.mono (by simp; omega))).trans (hb2.mono (by omega))).alloc (by omega) _ |>.trans (hb3.mono (by simp; omega))).alloc (by omega) _ |>.trans (hb4.mono (by simp; omega))
  have z5 : w.heap.size + 1 < (w4.alloc (.cells #[.int .u64 (hiW (timV (val ah al) bl)), .int .u64 (loW (timV (val ah al) bl))] 24)).heap.size := by simp; omega
  generalize w4.alloc (.cells #[.int .u64 (hiW (timV (val ah al) bl)), .int .u64 (loW (timV (val ah al) bl))] 24) = v0 at *
  have y0 : ¬ v0.heap.size = w.heap.size := by omega
  have t0 : ¬ v0.heap.size = w.heap.size + 1 := by omega
  clear a0 a1 b0 b1 ts4 td4 hb1 hb2 hb3 hb4 z1 z2 z3 z4
  go_cut [12, 13] (fun p o wc => ∃ g : Nat, p = .pointer (some ⟨g, 0, none⟩) ∧ o = .bool (addB (val ah al) (val bh bl)) ∧ Two wc g (hiW (addV (val ah al) (val bh bl))) (loW (addV (val ah al) (val bh bl))) ∧ Below v0.heap.size v0 wc)
  case first =>
    go_region_held3 (fun w' => w'.cell? ⟨w.heap.size, 0, none⟩ = some (.int .u64 ah) ∧ w'.cell? ⟨w.heap.size, 1, none⟩ = some (.int .u64 al) ∧ w'.cell? ⟨w.heap.size + 1, 0, none⟩ = some (.int .u64 bh) ∧ w'.cell? ⟨w.heap.size + 1, 1, none⟩ = some (.int .u64 bl)) (simp (maxDischargeDepth := 12) [*, World.cell?_alloc_some, World.cell?_setCell_far])
      (first
        | (go_at_call_of 11 (Value.agg #[Value.int IntKind.u64 ah, Value.int IntKind.u64 al]); refine (ref_any ah al _).mono ?_; rintro e x1 ⟨rfl, hx1⟩; obtain ⟨hc1, hf1⟩ := bkeep hx1; have s1 := hx1.size; (try rw [World.size_drew] at s1); (try rw [World.size_alloc] at s1); (try rw [World.size_drew] at s1); have y1 : ¬ x1.heap.size = w.heap.size := by { omega }; have t1 : ¬ x1.heap.size = w.heap.size + 1 := by { omega })
        | (go_at_call_of 11 (Value.agg #[Value.int IntKind.u64 bh, Value.int IntKind.u64 bl]); refine (ref_any bh bl _).mono ?_; rintro e x2 ⟨rfl, hx2⟩; obtain ⟨hc2, hf2⟩ := bkeep hx2; have s2 := hx2.size; (try rw [World.size_drew] at s2); (try rw [World.size_alloc] at s2); (try rw [World.size_drew] at s2); have y2 : ¬ x2.heap.size = w.heap.size := by { omega }; have t2 : ¬ x2.heap.size = w.heap.size + 1 := by { omega }; (first | (have g2 := trans_keep hc1 hc2; have j2 := trans_keepF hc1 hf1 hf2) | skip))
        | (go_at_call 10; refine (radd_any ah al bh bl h1 h2 h3 h4 _).mono ?_; rintro e x3 ⟨rfl, hx3⟩; obtain ⟨hc3, hf3⟩ := bkeep hx3; have s3 := hx3.size; (try rw [World.size_drew] at s3); (try rw [World.size_alloc] at s3); (try rw [World.size_drew] at s3); have y3 : ¬ x3.heap.size = w.heap.size := by { omega }; have t3 : ¬ x3.heap.size = w.heap.size + 1 := by { omega }; (first | (have g3 := trans_keep g2 hc3; have j3 := trans_keepF g2 j2 hf3) | (have g3 := trans_keep hc2 hc3; have j3 := trans_keepF hc2 hf2 hf3) | skip)))
    all_goals go_wp2_with fail
    all_goals go_meet
    all_goals refine ⟨_, rfl, rfl, ⟨?_, ?_⟩, ?_⟩
    all_goals first | (simp (maxDischargeDepth := 12) [*, go_sem]; done) | (repeat first | exact Below.refl _ _ | refine Below.drew ?_ | refine Below.setCell ?_ (by first | (simp; done) | (simp; omega) | omega) _ | refine Below.alloc ?_ (by first | (simp; done) | (simp; omega) | omega) _ | refine Below.trans ?_ (hx3.mono (by first | (simp; done) | (simp; omega) | omega)) | refine Below.trans ?_ (hx2.mono (by first | (simp; done) | (simp; omega) | omega)) | refine Below.trans ?_ (hx1.mono (by first | (simp; done) | (simp; omega) | omega)))
  case rest =>
    obtain ⟨g1, rfl, rfl, tn1, hv⟩ := hcut
    obtain ⟨v1, rfl⟩ : ∃ v1 : World, v1 = wc := ⟨_, rfl⟩
    have zv := hv.size
    replace A0 := keepC hv A0
    replace A1 := keepC hv A1
    replace B0 := keepC hv B0
    replace B1 := keepC hv B1
    replace ts5 := ts5.below hv
    replace td5 := td5.below hv
    replace tp5 := tp5.below hv
    replace hb5 := hb5.trans (hv.mono (by omega))
    replace z5 : w.heap.size + 1 < v1.heap.size := by omega
    replace y0 : ¬ v1.heap.size = w.heap.size := by omega
    replace t0 : ¬ v1.heap.size = w.heap.size + 1 := by omega
    clear hv zv
    go_upto_region 6 with fail
    go_cut [14, 15] (fun p o wc => ∃ g : Nat, p = .pointer (some ⟨g, 0, none⟩) ∧ o = .bool (subB (val ah al) (val bh bl)) ∧ Two wc g (hiW (subV (val ah al) (val bh bl))) (loW (subV (val ah al) (val bh bl))) ∧ Below v1.heap.size v1 wc)
    case first =>
      go_region_held3 (fun w' => w'.cell? ⟨w.heap.size, 0, none⟩ = some (.int .u64 ah) ∧ w'.cell? ⟨w.heap.size, 1, none⟩ = some (.int .u64 al) ∧ w'.cell? ⟨w.heap.size + 1, 0, none⟩ = some (.int .u64 bh) ∧ w'.cell? ⟨w.heap.size + 1, 1, none⟩ = some (.int .u64 bl)) (simp (maxDischargeDepth := 12) [*, World.cell?_alloc_some, World.cell?_setCell_far])
        (first
          | (go_at_call_of 11 (Value.agg #[Value.int IntKind.u64 ah, Value.int IntKind.u64 al]); refine (ref_any ah al _).mono ?_; rintro e x1 ⟨rfl, hx1⟩; obtain ⟨hc1, hf1⟩ := bkeep hx1; have s1 := hx1.size; (try rw [World.size_drew] at s1); (try rw [World.size_alloc] at s1); (try rw [World.size_drew] at s1); have y1 : ¬ x1.heap.size = w.heap.size := by { omega }; have t1 : ¬ x1.heap.size = w.heap.size + 1 := by { omega })
          | (go_at_call_of 11 (Value.agg #[Value.int IntKind.u64 bh, Value.int IntKind.u64 bl]); refine (ref_any bh bl _).mono ?_; rintro e x2 ⟨rfl, hx2⟩; obtain ⟨hc2, hf2⟩ := bkeep hx2; have s2 := hx2.size; (try rw [World.size_drew] at s2); (try rw [World.size_alloc] at s2); (try rw [World.size_drew] at s2); have y2 : ¬ x2.heap.size = w.heap.size := by { omega }; have t2 : ¬ x2.heap.size = w.heap.size + 1 := by { omega }; (first | (have g2 := trans_keep hc1 hc2; have j2 := trans_keepF hc1 hf1 hf2) | skip))
          | (go_at_call 12; refine (rsub_any ah al bh bl h1 h2 h3 h4 _).mono ?_; rintro e x3 ⟨rfl, hx3⟩; obtain ⟨hc3, hf3⟩ := bkeep hx3; have s3 := hx3.size; (try rw [World.size_drew] at s3); (try rw [World.size_alloc] at s3); (try rw [World.size_drew] at s3); have y3 : ¬ x3.heap.size = w.heap.size := by { omega }; have t3 : ¬ x3.heap.size = w.heap.size + 1 := by { omega }; (first | (have g3 := trans_keep g2 hc3; have j3 := trans_keepF g2 j2 hf3) | (have g3 := trans_keep hc2 hc3; have j3 := trans_keepF hc2 hf2 hf3) | skip)))
      all_goals go_wp2_with fail
      all_goals go_meet
      all_goals refine ⟨_, rfl, rfl, ⟨?_, ?_⟩, ?_⟩
      all_goals first | (simp (maxDischargeDepth := 12) [*, go_sem]; done) | (repeat first | exact Below.refl _ _ | refine Below.drew ?_ | refine Below.setCell ?_ (by first | (simp; done) | (simp; omega) | omega) _ | refine Below.alloc ?_ (by first | (simp; done) | (simp; omega) | omega) _ | refine Below.trans ?_ (hx3.mono (by first | (simp; done) | (simp; omega) | omega)) | refine Below.trans ?_ (hx2.mono (by first | (simp; done) | (simp; omega) | omega)) | refine Below.trans ?_ (hx1.mono (by first | (simp; done) | (simp; omega) | omega)))
    case rest =>
      obtain ⟨g2, rfl, rfl, tn2, hv⟩ := hcut
      obtain ⟨v2, rfl⟩ : ∃ v2 : World, v2 = wc := ⟨_, rfl⟩
      have zv := hv.size
      replace A0 := keepC hv A0
      replace A1 := keepC hv A1
      replace B0 := keepC hv B0
      replace B1 := keepC hv B1
      replace ts5 := ts5.below hv
      replace td5 := td5.below hv
      replace tp5 := tp5.below hv
      replace tn1 := tn1.below hv
      replace hb5 := hb5.trans (hv.mono (by omega))
      replace z5 : w.heap.size + 1 < v2.heap.size := by omega
      replace y0 : ¬ v2.heap.size = w.heap.size := by omega
      replace t0 : ¬ v2.heap.size = w.heap.size + 1 := by omega
      clear hv zv
      go_upto_region 7 with fail
      go_cut [16, 17] (fun p o wc => ∃ g : Nat, p = .pointer (some ⟨g, 0, none⟩) ∧ o = .bool (timB (val ah al) bl) ∧ Two wc g (hiW (timV (val ah al) bl)) (loW (timV (val ah al) bl)) ∧ Below v2.heap.size v2 wc)
      case first =>
        go_region_held3 (fun w' => w'.cell? ⟨w.heap.size, 0, none⟩ = some (.int .u64 ah) ∧ w'.cell? ⟨w.heap.size, 1, none⟩ = some (.int .u64 al) ∧ w'.cell? ⟨w.heap.size + 1, 0, none⟩ = some (.int .u64 bh) ∧ w'.cell? ⟨w.heap.size + 1, 1, none⟩ = some (.int .u64 bl)) (simp (maxDischargeDepth := 12) [*, World.cell?_alloc_some, World.cell?_setCell_far])
          (first
            | (go_at_call_of 11 (Value.agg #[Value.int IntKind.u64 ah, Value.int IntKind.u64 al]); refine (ref_any ah al _).mono ?_; rintro e x1 ⟨rfl, hx1⟩; obtain ⟨hc1, hf1⟩ := bkeep hx1; have s1 := hx1.size; (try rw [World.size_drew] at s1); (try rw [World.size_alloc] at s1); (try rw [World.size_drew] at s1); have y1 : ¬ x1.heap.size = w.heap.size := by { omega }; have t1 : ¬ x1.heap.size = w.heap.size + 1 := by { omega })
            | (go_at_call 13; refine (rtimes_any ah al bl h1 h2 h4 _).mono ?_; rintro e x2 ⟨rfl, hx2⟩; obtain ⟨hc2, hf2⟩ := bkeep hx2; have s2 := hx2.size; (try rw [World.size_drew] at s2); (try rw [World.size_alloc] at s2); (try rw [World.size_drew] at s2); have y2 : ¬ x2.heap.size = w.heap.size := by { omega }; have t2 : ¬ x2.heap.size = w.heap.size + 1 := by { omega }; (first | (have g2 := trans_keep hc1 hc2; have j2 := trans_keepF hc1 hf1 hf2) | skip)))
        all_goals go_wp2_with fail
        all_goals go_meet
        all_goals refine ⟨_, rfl, rfl, ⟨?_, ?_⟩, ?_⟩
        all_goals first | (simp (maxDischargeDepth := 12) [*, go_sem]; done) | (repeat first | exact Below.refl _ _ | refine Below.drew ?_ | refine Below.setCell ?_ (by first | (simp; done) | (simp; omega) | omega) _ | refine Below.alloc ?_ (by first | (simp; done) | (simp; omega) | omega) _ | refine Below.trans ?_ (hx2.mono (by first | (simp; done) | (simp; omega) | omega)) | refine Below.trans ?_ (hx1.mono (by first | (simp; done) | (simp; omega) | omega)))
      case rest =>
        obtain ⟨g3, rfl, rfl, tn3, hv⟩ := hcut
        obtain ⟨v3, rfl⟩ : ∃ v3 : World, v3 = wc := ⟨_, rfl⟩
        have zv := hv.size
        replace A0 := keepC hv A0
        replace A1 := keepC hv A1
        replace B0 := keepC hv B0
        replace B1 := keepC hv B1
        replace ts5 := ts5.below hv
        replace td5 := td5.below hv
        replace tp5 := tp5.below hv
        replace tn1 := tn1.below hv
        replace tn2 := tn2.below hv
        replace hb5 := hb5.trans (hv.mono (by omega))
        replace z5 : w.heap.size + 1 < v3.heap.size := by omega
        replace y0 : ¬ v3.heap.size = w.heap.size := by omega
        replace t0 : ¬ v3.heap.size = w.heap.size + 1 := by omega
        clear hv zv
        obtain ⟨ts0, ts1⟩ := ts5
        obtain ⟨td0, td1⟩ := td5
        obtain ⟨tp0, tp1⟩ := tp5
        obtain ⟨tt0, tt1⟩ := tn1
        obtain ⟨te0, te1⟩ := tn2
        obtain ⟨tq0, tq1⟩ := tn3
        have HS : Hid (v3.cell? ⟨w.heap.size, 0, none⟩ = some (.int .u64 ah) ∧ v3.cell? ⟨w.heap.size, 1, none⟩ = some (.int .u64 al) ∧ v3.cell? ⟨w.heap.size + 1, 0, none⟩ = some (.int .u64 bh) ∧ v3.cell? ⟨w.heap.size + 1, 1, none⟩ = some (.int .u64 bl) ∧ v3.cell? ⟨w2.heap.size, 0, none⟩ = some (.int .u64 (hiW (addV (val ah al) (val bh bl)))) ∧ v3.cell? ⟨w2.heap.size, 1, none⟩ = some (.int .u64 (loW (addV (val ah al) (val bh bl)))) ∧ v3.cell? ⟨w3.heap.size, 0, none⟩ = some (.int .u64 (hiW (subV (val ah al) (val bh bl)))) ∧ v3.cell? ⟨w3.heap.size, 1, none⟩ = some (.int .u64 (loW (subV (val ah al) (val bh bl)))) ∧ v3.cell? ⟨w4.heap.size, 0, none⟩ = some (.int .u64 (hiW (timV (val ah al) bl))) ∧ v3.cell? ⟨w4.heap.size, 1, none⟩ = some (.int .u64 (loW (timV (val ah al) bl))) ∧ v3.cell? ⟨g1, 0, none⟩ = some (.int .u64 (hiW (addV (val ah al) (val bh bl)))) ∧ v3.cell? ⟨g1, 1, none⟩ = some (.int .u64 (loW (addV (val ah al) (val bh bl)))) ∧ v3.cell? ⟨g2, 0, none⟩ = some (.int .u64 (hiW (subV (val ah al) (val bh bl)))) ∧ v3.cell? ⟨g2, 1, none⟩ = some (.int .u64 (loW (subV (val ah al) (val bh bl)))) ∧ v3.cell? ⟨g3, 0, none⟩ = some (.int .u64 (hiW (timV (val ah al) bl))) ∧ v3.cell? ⟨g3, 1, none⟩ = some (.int .u64 (loW (timV (val ah al) bl)))) := ⟨A0, A1, B0, B1, ts0, ts1, td0, td1, tp0, tp1, tt0, tt1, te0, te1, tq0, tq1⟩
        clear A0 A1 B0 B1 ts0 ts1 td0 td1 tp0 tp1 tt0 tt1 te0 te1 tq0 tq1
        clear y0 t0
        go_upto_region 8 with fail
        simp only [List.append_eq, List.cons_append, List.nil_append]
        go_region_held3 (fun w' => w'.cell? ⟨w.heap.size, 0, none⟩ = some (.int .u64 ah) ∧ w'.cell? ⟨w.heap.size, 1, none⟩ = some (.int .u64 al) ∧ w'.cell? ⟨w.heap.size + 1, 0, none⟩ = some (.int .u64 bh) ∧ w'.cell? ⟨w.heap.size + 1, 1, none⟩ = some (.int .u64 bl) ∧ w'.cell? ⟨w2.heap.size, 0, none⟩ = some (.int .u64 (hiW (addV (val ah al) (val bh bl)))) ∧ w'.cell? ⟨w2.heap.size, 1, none⟩ = some (.int .u64 (loW (addV (val ah al) (val bh bl)))) ∧ w'.cell? ⟨w3.heap.size, 0, none⟩ = some (.int .u64 (hiW (subV (val ah al) (val bh bl)))) ∧ w'.cell? ⟨w3.heap.size, 1, none⟩ = some (.int .u64 (loW (subV (val ah al) (val bh bl)))) ∧ w'.cell? ⟨w4.heap.size, 0, none⟩ = some (.int .u64 (hiW (timV (val ah al) bl))) ∧ w'.cell? ⟨w4.heap.size, 1, none⟩ = some (.int .u64 (loW (timV (val ah al) bl))) ∧ w'.cell? ⟨g1, 0, none⟩ = some (.int .u64 (hiW (addV (val ah al) (val bh bl)))) ∧ w'.cell? ⟨g1, 1, none⟩ = some (.int .u64 (loW (addV (val ah al) (val bh bl)))) ∧ w'.cell? ⟨g2, 0, none⟩ = some (.int .u64 (hiW (subV (val ah al) (val bh bl)))) ∧ w'.cell? ⟨g2, 1, none⟩ = some (.int .u64 (loW (subV (val ah al) (val bh bl)))) ∧ w'.cell? ⟨g3, 0, none⟩ = some (.int .u64 (hiW (timV (val ah al) bl))) ∧ w'.cell? ⟨g3, 1, none⟩ = some (.int .u64 (loW (timV (val ah al) bl)))) (first | exact HS.out | exact keep16 (by assumption) (by assumption))
          (first
            | (go_at_call_of 14 (Value.agg #[Value.int IntKind.u64 (hiW (addV (val ah al) (val bh bl))), Value.int IntKind.u64 (loW (addV (val ah al) (val bh bl)))]); refine (num_any (hiW (addV (val ah al) (val bh bl))) (loW (addV (val ah al) (val bh bl))) _).mono ?_; rintro e x1 ⟨rfl, hx1⟩)
            | (go_at_call_of 14 (Value.agg #[Value.int IntKind.u64 (hiW (subV (val ah al) (val bh bl))), Value.int IntKind.u64 (loW (subV (val ah al) (val bh bl)))]); refine (num_any (hiW (subV (val ah al) (val bh bl))) (loW (subV (val ah al) (val bh bl))) _).mono ?_; rintro e x2 ⟨rfl, hx2⟩)
            | (go_at_call_of 14 (Value.agg #[Value.int IntKind.u64 (hiW (timV (val ah al) bl)), Value.int IntKind.u64 (loW (timV (val ah al) bl))]); refine (num_any (hiW (timV (val ah al) bl)) (loW (timV (val ah al) bl)) _).mono ?_; rintro e x3 ⟨rfl, hx3⟩)
            | (go_at_call 15; refine (cmp_any ah al bh bl h2 h4 _).mono ?_; rintro e x4 ⟨rfl, hx4⟩)
            | (go_at_call_of 11 (Value.agg #[Value.int IntKind.u64 ah, Value.int IntKind.u64 al]); refine (ref_any ah al _).mono ?_; rintro e x5 ⟨rfl, hx5⟩)
            | (go_at_call_of 11 (Value.agg #[Value.int IntKind.u64 bh, Value.int IntKind.u64 bl]); refine (ref_any bh bl _).mono ?_; rintro e x6 ⟨rfl, hx6⟩)
            | (go_at_call 16; refine (rcmp_any ah al bh bl h2 h4 _).mono ?_; rintro e x7 ⟨rfl, hx7⟩)
            | (go_at_call 17; refine (of_any al _).mono ?_; rintro e x8 ⟨rfl, hx8⟩)
            | (go_at_call 18; refine (mul_any al bh h2 h3 _).mono ?_; rintro e x9 ⟨rfl, hx9⟩)
            | (go_at_call 19; refine (rmul_any al bh h2 h3 _).mono ?_; rintro e x10 ⟨rfl, hx10⟩)
            | (go_at_call_of 14 (Value.agg #[Value.int IntKind.u64 (hiW (al * bh)), Value.int IntKind.u64 (loW (al * bh))]); refine (num_any (hiW (al * bh)) (loW (al * bh)) _).mono ?_; rintro e x11 ⟨rfl, hx11⟩))
        have s1 := hx1.size
        have s2 := hx2.size
        have s3 := hx3.size
        have s4 := hx4.size
        have s5 := hx5.size
        have s6 := hx6.size
        have s7 := hx7.size
        have s8 := hx8.size
        have s9 := hx9.size
        have s10 := hx10.size
        have s11 := hx11.size
        simp only [World.size_drew] at s1
        clear HS
        go_wp2
        go_ret
        exact ⟨rfl, (((((((((((hb5.drew).trans (hx1.mono (by first | (simp; done) | (simp; omega) | omega))).trans (hx2.mono (by first | (simp; done) | (simp; omega) | omega))).trans (hx3.mono (by first | (simp; done) | (simp; omega) | omega))).trans (hx4.mono (by first | (simp; done) | (simp; omega) | omega))).trans (hx5.mono (by first | (simp; done) | (simp; omega) | omega))).trans (hx6.mono (by first | (simp; done) | (simp; omega) | omega))).trans (hx7.mono (by first | (simp; done) | (simp; omega) | omega))).trans (hx8.mono (by first | (simp; done) | (simp; omega) | omega))).trans (hx9.mono (by first | (simp; done) | (simp; omega) | omega))).trans (hx10.mono (by first | (simp; done) | (simp; omega) | omega))).trans (hx11.mono (by first | (simp; done) | (simp; omega) | omega))⟩
end Go.Proofs.Ytdmliddihhgfaaa
