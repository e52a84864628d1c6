/-
 LAYER 16, the statements' own functions: pair.priority (made by gen16pl.py).
-/
import Derived.Test.YtdkbmligaodpmaaGreatDoorXplz
import Derived.Test.YtdkbmligaodpmaaGreatDoorStCqz
namespace Go.Proofs.YtdkbmligaodpmaaGreatDoor
open Go.RowKit Wd Tr Cg Ld

theorem pr_le {c : Cf} (hck : chkZ c = 0) {l : List Ac} {L : List Bd} (hok : ∀ b ∈ L, b.Ok) (now : Int) (j : Jb) : prLo c l L now j ≤ prHi c l L now j := by
 cases hp : prOk c l L now j with
 | false =>
  obtain ⟨e1, e2, _⟩ := pr_no hp
  omega
 | true =>
  obtain ⟨e1, e2, _⟩ := pr_yes hp
  obtain ⟨h1, h2, h3⟩ := ok_parts hp
  rw [e1, e2]
  obtain ⟨r, _⟩ := chk_yes hck
  have hs := side_of (wf_load h1) h2 hok
  obtain ⟨⟨p0, p1⟩, _⟩ := wt_yes h3
  have hcb := c_box r
  have hf := hs.f (fl := flo c) (n := j.ac.toNat) (by unfold flo; omega) (by rw [show (mL l L).length = l.length from withU_len (by simp [h2])]; omega)
  have hf' : ((fLo (mL l L) (mH l L) (flo c) j.ac.toNat : Nat) : Int) ≤ (fHi (mL l L) (mH l L) (flo c) j.ac.toNat : Nat) := Int.ofNat_le.2 hf
  have hm := Int.mul_le_mul_of_nonneg_left hf' r.f0
  unfold idLo idHi Wd.addV
  split <;> split <;> omega
theorem cmp_le {a b : Int} (h : a ≤ b) : decide (cmpV a b ≤ 0) = true := by
 unfold cmpV
 apply decide_eq_true
 split
 ·omega
 ·split <;> omega
def RPrio : Prop := ∀ (c : Cf), chkZ c = 0 → ∀ (B : Nat) (w : World) (d : Nat) (v1 v2 : Value) (L : List Bd), RIdl c B w d v1 v2 L → ∀ (ao : Option Addr) (l : List Ac) (cap : Nat), AcsAt w ao l → l.length * 48 ≤ 140737488355328 → ∀ (now : Int) (j : Jb),
  Calls Tryz.prog 47 #[.pointer (some ⟨d, 0, none⟩), .slice ao l.length cap, .int .i64 now, jbV j] w fun e w' => e = .returned (.tuple #[nuV (prLo c l L now j), nuV (prHi c l L now j), nuV (prDe c l L now j)]) ∧ Below w.heap.size w w'
theorem acs_of {w : World} {ao : Option Addr} {l : List Ac} (h : AcsAt w ao l) : ∃ g o, (0 < l.length → ao = some ⟨g, o, none⟩) ∧ ∀ x, Below w.heap.size w x → Acs x g o l := by
 obtain ⟨g, o, h1, h2⟩ := h
 exact ⟨g, o, h1, fun x hx => Acs.below h2 hx⟩
set_option maxHeartbeats 8000000 in
set_option maxRecDepth 20000 in
theorem plp_any (hrp : RPrio) {c : Cf} (hck : chkZ c = 0) {B B' : Nat} {w : World} {t d : Nat} {tv v1 v2 : Value} {L : List Bd} (hI : Idl c B w t tv L) (hR : RIdl c B' w d v1 v2 L) (hT : Tab w) {ao : Option Addr} {l : List Ac} {cap : Nat} (hA : AcsAt w ao l) (hs : ∀ a ∈ l, a.nm.size ≤ maxLen) (hn : l.length * 48 ≤ 140737488355328) (now : Int) (j : Jb) :
  Calls Tryz.prog 17 #[.agg #[.pointer (some ⟨t, 0, none⟩), .pointer (some ⟨d, 0, none⟩)], .slice ao l.length cap, .int .i64 now, jbV j] w fun e w' => e = .returned (.bool true) ∧ Below w.heap.size w w' := by
 have hle := pr_le hck (l := l) hI.ok now j
 have HLE : Hid (decide (cmpV (prLo c l L now j) (prHi c l L now j) ≤ 0) = true) := cmp_le hle
 obtain ⟨Q, hQ⟩ : ∃ Q, l.length = Q := ⟨_, rfl⟩
 have HL : Hid (l.length = Q) := hQ
 have HSRC : Hid (∀ x, Below w.heap.size w x → ∀ ad, ao = some ad → ∀ j u, (flatA l)[j]? = some u → x.cell? (ad.add j) = some u) := fun x hx => acs_flat (hA.below hx)
 have HNIL : Hid (ao = none → Q = 0) := by
  obtain ⟨g, o, h1, _⟩ := hA
  show ao = none → Q = 0
  intro e
  by_cases h : 0 < l.length
  ·have := h1 h
   rw [e] at this
   cases this
  ·omega
 have HAL : Hid (∃ g o, (0 < l.length → ao = some ⟨g, o, none⟩) ∧ ∀ x, Below w.heap.size w x → Acs x g o l) := acs_of hA
 have HPP : Hid (∀ x G, Below w.heap.size w x → AccC x G (l ++ [bhAc]) → Calls Tryz.prog 23 #[.pointer (some ⟨t, 0, none⟩), .slice (some ⟨G, 0, none⟩) Q (Q + 1), .int .i64 now, jbV j] x fun e w' => e = .returned (.tuple #[nuV (prLo c l L now j), nuV (prHi c l L now j), nuV (prDe c l L now j)]) ∧ Below x.heap.size x w') := fun x G hx hac => by
  have := iprio_any (cap := Q + 1) hck (hI.below hx) (Tab.below hx hT) (⟨G, 0, fun _ => rfl, AccC.acs hac⟩ : AcsAt x (some ⟨G, 0, none⟩) l) hs hn (by omega) now j
  rw [hQ] at this
  exact this
 have HPR : Hid (∀ x, Below w.heap.size w x → Calls Tryz.prog 47 #[.pointer (some ⟨d, 0, none⟩), .slice ao Q cap, .int .i64 now, jbV j] x fun e w' => e = .returned (.tuple #[nuV (prLo c l L now j), nuV (prHi c l L now j), nuV (prDe c l L now j)]) ∧ Below x.heap.size x w') := fun x hx => by
  have := hrp c hck _ _ _ _ _ _ (hR.below hx) _ _ cap (hA.below hx) hn now j
  rw [hQ] at this
  exact this
 have HFB : Hid (∀ n, l.length = n → (flatA (l ++ [zAc])).set (n * 5) (.string ⟨#[98, 101, 104, 105, 110, 100]⟩) = flatA (l ++ [bhAc])) := fun n hn => behind_flat hn
 rw [hQ] at hn ⊢
 generalize hPL : prLo c l L now j = PL at *
 generalize hPH : prHi c l L now j = PH at *
 generalize hPD : prDe c l L now j = PD at *
 clear hA hs hI hR hT hck hle hQ hPL hPH hPD hrp
 go_enter Tryz.func17, Tryz.ntmps17
 obtain ⟨w3, hw3⟩ : ∃ w3, (w.alloc (.cells #[.pointer (some ⟨t, 0, none⟩), .pointer (some ⟨d, 0, none⟩)] 35)).alloc (.cells (jbL j) 39) = w3 := ⟨_, rfl⟩
 have HB3 : Hid (Below w.heap.size w w3) := by rw [← hw3]; exact ((Below.refl _ w).alloc (Nat.le_refl _) _).alloc (by simp) _
 have HZ3 : Hid (w.heap.size + 2 ≤ w3.heap.size) := show w.heap.size + 2 ≤ w3.heap.size by rw [← hw3]; simp
 have HPB : Hid (w3.heap[w.heap.size]? = some (.cells #[.pointer (some ⟨t, 0, none⟩), .pointer (some ⟨d, 0, none⟩)] 35 (0, 0))) := by
  show w3.heap[w.heap.size]? = _
  rw [← hw3]
  exact (Below.heap_alloc _ _ _ (by simp)).trans (heap_alloc_new w _)
 have HJB : Hid (w3.heap[w.heap.size + 1]? = some (.cells (jbL j) 39 (0, 0))) := by
  have := heap_alloc_new (w.alloc (.cells #[.pointer (some ⟨t, 0, none⟩), .pointer (some ⟨d, 0, none⟩)] 35)) (.cells (jbL j) 39)
  rw [hw3, World.size_alloc] at this
  exact this
 obtain ⟨w4, hmk, hac4, hb4, zw4⟩ := make_acs w3 hn
 have HA4 : Hid (AccC w4 w3.heap.size (List.replicate (Q + 1) zAc)) := hac4
 have HB4 : Hid (Below w3.heap.size w3 w4) := hb4
 clear hac4 hb4 zw4
 have HC4 : Hid (∀ ad, ao = some ad → ∀ j u, (flatA l)[j]? = some u → w4.cell? (ad.add j) = some u) := HSRC.out w4 (HB3.out.trans (HB4.out.mono (by have := HZ3.out; omega)))
 obtain ⟨w5, hcp, hA5, hb5⟩ := copy_acs (c := cap) HA4.out HL.out HNIL.out HC4.out
 have HB5 : Hid (Below w3.heap.size w4 w5) := hb5
 have x5 := (hA5.at (k := Q) (a := zAc) (by rw [List.getElem?_append_right (by rw [HL.out]; omega), HL.out]; simp)).nm
 have f5 := hA5.free (Q * 5)
 have HA6 : Hid (AccC (w5.setCell ⟨w3.heap.size, Q * 5, none⟩ (.string ⟨#[98, 101, 104, 105, 110, 100]⟩)) w3.heap.size (l ++ [bhAc])) := hA5.set (HFB.out Q HL.out)
 have HB6 : Hid (Below w3.heap.size w3 (w5.setCell ⟨w3.heap.size, Q * 5, none⟩ (.string ⟨#[98, 101, 104, 105, 110, 100]⟩))) := ((HB4.out.trans HB5.out)).setCell (Nat.le_refl _) _
 clear hA5 HA4 HB4 HB5 HFB HNIL HC4 hb5 HSRC
 go_upto_region 4 with fail
 generalize w5.setCell ⟨w3.heap.size, Q * 5, none⟩ (.string ⟨#[98, 101, 104, 105, 110, 100]⟩) = w6 at *
 clear x5 f5 hcp hmk hw3
 have HBW : Hid (Below w.heap.size w w6) := HB3.out.trans (HB6.out.mono (by have := HZ3.out; omega))
 have HPB6 : Hid (w6.heap[w.heap.size]? = some (.cells #[.pointer (some ⟨t, 0, none⟩), .pointer (some ⟨d, 0, none⟩)] 35 (0, 0))) := heapK HPB.out HB6.out
 have HJB6 : Hid (w6.heap[w.heap.size + 1]? = some (.cells (jbL j) 39 (0, 0))) := heapK HJB.out HB6.out
 have HGS : Hid (w.heap.size ≤ w3.heap.size) := Nat.le_trans (Nat.le_add_right _ 2) HZ3.out
 clear HB3 HZ3 HPB HJB HB6
 generalize w3.heap.size = G at *
 have HCP : Hid (∀ x, Below w6.heap.size w6 x → Calls Tryz.prog 23 #[.pointer (some ⟨t, 0, none⟩), .slice (some ⟨G, 0, none⟩) Q (Q + 1), .int .i64 now, jbV j] x fun e w' => e = .returned (.tuple #[.agg #[.int .u64 (hiW PL), .int .u64 (loW PL)], .agg #[.int .u64 (hiW PH), .int .u64 (loW PH)], .agg #[.int .u64 (hiW PD), .int .u64 (loW PD)]]) ∧ Below x.heap.size x w') := fun x hx => HPP.out x G (HBW.out.trans (hx.mono HBW.out.size)) (AccC.below hx HA6.out)
 have hq0 : (0 : Int) ≤ (Q : Int) := by omega
 have hq1 : (Q : Int) ≤ (Q : Int) + 1 := by omega
 go_cut [10, 11, 12] (fun p1 p2 p3 wq => ∃ b1 b2 b3 : Nat, p1 = .pointer (some ⟨b1, 0, none⟩) ∧ p2 = .pointer (some ⟨b2, 0, none⟩) ∧ p3 = .pointer (some ⟨b3, 0, none⟩) ∧ wq.cell? ⟨b1, 0, none⟩ = some (.int .u64 (hiW PL)) ∧ wq.cell? ⟨b1, 1, none⟩ = some (.int .u64 (loW PL)) ∧ wq.cell? ⟨b2, 0, none⟩ = some (.int .u64 (hiW PH)) ∧ wq.cell? ⟨b2, 1, none⟩ = some (.int .u64 (loW PH)) ∧ wq.cell? ⟨b3, 0, none⟩ = some (.int .u64 (hiW PD)) ∧ wq.cell? ⟨b3, 1, none⟩ = some (.int .u64 (loW PD)) ∧ Below w6.heap.size w6 wq)
 case first =>
  refine wp_region_last (S := (fun x' : World => x'.heap[w.heap.size]? = some (.cells #[.pointer (some ⟨t, 0, none⟩), .pointer (some ⟨d, 0, none⟩)] 35 (0, 0)) ∧ x'.heap[w.heap.size + 1]? = some (.cells (jbL j) 39 (0, 0)))) (L := 18) (by kernel_rfl) ?_
  obtain ⟨W0, hW0⟩ : ∃ W0, w6.drew = W0 := ⟨_, rfl⟩
  have BW0 : Below w6.heap.size w6 W0 := by rw [← hW0]; exact drew_belowI w6
  rw [hW0]
  clear hW0
  have HSB : Hid (∀ x, Below w6.heap.size w6 x → (fun x' : World => x'.heap[w.heap.size]? = some (.cells #[.pointer (some ⟨t, 0, none⟩), .pointer (some ⟨d, 0, none⟩)] 35 (0, 0)) ∧ x'.heap[w.heap.size + 1]? = some (.cells (jbL j) 39 (0, 0))) x) := fun x hx => ⟨heapK HPB6.out hx, heapK HJB6.out hx⟩
  have HS0 := HSB.out _ BW0
  clear HPB6 HJB6 HBW HA6 HGS
  refine last_take (i := 0) (v := ?v0k1) rfl (by kernel_rfl) (by kernel_rfl) (by kernel_rfl) (by kernel_rfl) rfl (fun _ _ _ h => h) (by rfl) HS0 ?hy0k1 ?rest0k1
  case hy0k1 =>
   intro xx hSx
   go_simp
   try (with_reducible rfl)
  simp only [Act.put, List.setIfInBounds_toArray, List.set_cons_zero, List.set_cons_succ]
  refine last_take (i := 1) (v := ?v1k2) rfl (by kernel_rfl) (by kernel_rfl) (by kernel_rfl) (by kernel_rfl) rfl (fun _ _ _ h => h) (by rfl) HS0 ?hy1k2 ?rest1k2
  case hy1k2 =>
   intro xx hSx
   have z0 : xx.cell? ⟨w.heap.size, 0, none⟩ = some (.pointer (some ⟨t, 0, none⟩)) := (cell_of (o := 0) hSx.1 rfl).1
   go_simp
   try (with_reducible rfl)
  simp only [Act.put, List.setIfInBounds_toArray, List.set_cons_zero, List.set_cons_succ]
  refine last_take (i := 2) (v := ?v2k3) rfl (by kernel_rfl) (by kernel_rfl) (by kernel_rfl) (by kernel_rfl) rfl (fun _ _ _ h => h) (by rfl) HS0 ?hy2k3 ?rest2k3
  case hy2k3 =>
   intro xx hSx
   go_simp
   try (with_reducible rfl)
  simp only [Act.put, List.setIfInBounds_toArray, List.set_cons_zero, List.set_cons_succ]
  refine last_take (i := 3) (v := ?v3k4) rfl (by kernel_rfl) (by kernel_rfl) (by kernel_rfl) (by kernel_rfl) rfl (fun _ _ _ h => h) (by rfl) HS0 ?hy3k4 ?rest3k4
  case hy3k4 =>
   intro xx hSx
   go_simp
   try (with_reducible rfl)
  simp only [Act.put, List.setIfInBounds_toArray, List.set_cons_zero, List.set_cons_succ]
  refine last_take (i := 4) (v := ?v4k5) rfl (by kernel_rfl) (by kernel_rfl) (by kernel_rfl) (by kernel_rfl) rfl (fun _ _ _ h => h) (by rfl) HS0 ?hy4k5 ?rest4k5
  case hy4k5 =>
   intro xx hSx
   go_simp
   try (with_reducible rfl)
  simp only [Act.put, List.setIfInBounds_toArray, List.set_cons_zero, List.set_cons_succ]
  refine last_take (i := 5) (v := ?v5k6) rfl (by kernel_rfl) (by kernel_rfl) (by kernel_rfl) (by kernel_rfl) rfl (fun _ _ _ h => h) (by rfl) HS0 ?hy5k6 ?rest5k6
  case hy5k6 =>
   intro xx hSx
   go_simp
   try (with_reducible rfl)
  simp only [Act.put, List.setIfInBounds_toArray, List.set_cons_zero, List.set_cons_succ]
  refine last_take (i := 6) (v := ?v6k7) rfl (by kernel_rfl) (by kernel_rfl) (by kernel_rfl) (by kernel_rfl) rfl (fun _ _ _ h => h) (by rfl) HS0 ?hy6k7 ?rest6k7
  case hy6k7 =>
   intro xx hSx
   go_simp
   try (with_reducible rfl)
  simp only [Act.put, List.setIfInBounds_toArray, List.set_cons_zero, List.set_cons_succ]
  refine last_take (i := 7) (v := ?v7k8) rfl (by kernel_rfl) (by kernel_rfl) (by kernel_rfl) (by kernel_rfl) rfl (fun _ _ _ h => h) (by rfl) HS0 ?hy7k8 ?rest7k8
  case hy7k8 =>
   intro xx hSx
   obtain ⟨j0, j1, j2, j3, j4, j5, j6, j7⟩ := Jb.cells hSx.2
   go_simp
   try (with_reducible rfl)
  simp only [Act.put, List.setIfInBounds_toArray, List.set_cons_zero, List.set_cons_succ]
  refine last_few (i := 8) (l := [13, 14, 15]) (by kernel_rfl) (List.forall_mem_cons.2 ⟨⟨_, rfl, ?h8n9⟩, List.forall_mem_cons.2 ⟨⟨_, rfl, ?h13n9⟩, List.forall_mem_cons.2 ⟨⟨_, rfl, ?h14n9⟩, List.forall_mem_cons.2 ⟨⟨_, rfl, ?h15n9⟩, List.forall_mem_nil _⟩⟩⟩⟩)
  case h8n9 =>
   intro K hK
   go_simp
   go_at_call 23
   refine (HCP.out _ BW0).mono ?_
   rintro e W1 ⟨rfl, bW1⟩
   have BW1 : Below w6.heap.size w6 W1 := BW0.trans (bW1.mono BW0.size)
   have HSW1 := HSB.out _ BW1
   go_simp
   refine hK.out _ _ (fun _ => HSW1) (fun _ => ?_)
   clear hK K
   refine last_take (i := 9) (v := ?v9k10) rfl (by kernel_rfl) (by kernel_rfl) (by kernel_rfl) (by kernel_rfl) rfl (fun _ _ _ h => h) (by rfl) HSW1 ?hy9k10 ?rest9k10
   case hy9k10 =>
    intro xx hSx
    go_simp
    try (with_reducible rfl)
   simp only [Act.put, List.setIfInBounds_toArray, List.set_cons_zero, List.set_cons_succ]
   refine last_take (i := 10) (v := ?v10k11) rfl (by kernel_rfl) (by kernel_rfl) (by kernel_rfl) (by kernel_rfl) rfl (fun _ _ _ h => h) (by rfl) HSW1 ?hy10k11 ?rest10k11
   case hy10k11 =>
    intro xx hSx
    go_simp
    try (with_reducible rfl)
   simp only [Act.put, List.setIfInBounds_toArray, List.set_cons_zero, List.set_cons_succ]
   refine last_take (i := 11) (v := ?v11k12) rfl (by kernel_rfl) (by kernel_rfl) (by kernel_rfl) (by kernel_rfl) rfl (fun _ _ _ h => h) (by rfl) HSW1 ?hy11k12 ?rest11k12
   case hy11k12 =>
    intro xx hSx
    go_simp
    try (with_reducible rfl)
   simp only [Act.put, List.setIfInBounds_toArray, List.set_cons_zero, List.set_cons_succ]
   refine last_take (i := 12) (v := ?v12k13) rfl (by kernel_rfl) (by kernel_rfl) (by kernel_rfl) (by kernel_rfl) rfl (fun _ _ _ h => h) (by rfl) HSW1 ?hy12k13 ?rest12k13
   case hy12k13 =>
    intro xx hSx
    go_simp
    try (with_reducible rfl)
   simp only [Act.put, List.setIfInBounds_toArray, List.set_cons_zero, List.set_cons_succ]
   refine last_few (i := 13) (l := [14, 15]) (by kernel_rfl) (List.forall_mem_cons.2 ⟨⟨_, rfl, ?h13n14⟩, List.forall_mem_cons.2 ⟨⟨_, rfl, ?h14n14⟩, List.forall_mem_cons.2 ⟨⟨_, rfl, ?h15n14⟩, List.forall_mem_nil _⟩⟩⟩)
   case h13n14 =>
    intro K hK
    go_simp
    obtain ⟨b1, hb1⟩ : ∃ b1, W1.heap.size = b1 := ⟨_, rfl⟩
    obtain ⟨W2, hW2⟩ : ∃ W2, W1.alloc (.cells #[.int .u64 0, .int .u64 0] 64) = W2 := ⟨_, rfl⟩
    have nb1 : Bx W2 b1 (.int .u64 0) (.int .u64 0) := by rw [← hW2, ← hb1]; exact Bx.new W1 _ _ _
    have bW2 : Below W1.heap.size W1 W2 := by rw [← hW2]; exact (Below.refl _ _).alloc (Nat.le_refl _) _
    try rw [hb1]
    try rw [hW2]
    have BW2 : Below w6.heap.size w6 W2 := BW1.trans (bW2.mono BW1.size)
    have gb1 : w6.heap.size ≤ b1 := by rw [← hb1]; exact BW1.size
    refine hK.out _ _ (fun _ => HSB.out _ BW2) (fun _ => ?_)
    clear hK K hW2 hb1
    refine last_few (i := 14) (l := [15]) (by kernel_rfl) (List.forall_mem_cons.2 ⟨⟨_, rfl, ?h14n15⟩, List.forall_mem_cons.2 ⟨⟨_, rfl, ?h15n15⟩, List.forall_mem_nil _⟩⟩)
    case h14n15 =>
     intro K hK
     go_simp
     obtain ⟨b2, hb2⟩ : ∃ b2, W2.heap.size = b2 := ⟨_, rfl⟩
     obtain ⟨W3, hW3⟩ : ∃ W3, W2.alloc (.cells #[.int .u64 0, .int .u64 0] 64) = W3 := ⟨_, rfl⟩
     have nb2 : Bx W3 b2 (.int .u64 0) (.int .u64 0) := by rw [← hW3, ← hb2]; exact Bx.new W2 _ _ _
     have bW3 : Below W2.heap.size W2 W3 := by rw [← hW3]; exact (Below.refl _ _).alloc (Nat.le_refl _) _
     try rw [hb2]
     try rw [hW3]
     have BW3 : Below w6.heap.size w6 W3 := BW2.trans (bW3.mono BW2.size)
     have gb2 : w6.heap.size ≤ b2 := by rw [← hb2]; exact BW2.size
     have db1b2 : b1 ≠ b2 := Nat.ne_of_lt (by rw [← hb2]; exact nb1.lt)
     have nb1 := nb1.below bW3
     refine hK.out _ _ (fun _ => HSB.out _ BW3) (fun _ => ?_)
     clear hK K hW3 hb2
     refine last_one (i := 15) (by kernel_rfl) rfl ?_
     intro K hK
     go_simp
     obtain ⟨b3, hb3⟩ : ∃ b3, W3.heap.size = b3 := ⟨_, rfl⟩
     obtain ⟨W4, hW4⟩ : ∃ W4, W3.alloc (.cells #[.int .u64 0, .int .u64 0] 64) = W4 := ⟨_, rfl⟩
     have nb3 : Bx W4 b3 (.int .u64 0) (.int .u64 0) := by rw [← hW4, ← hb3]; exact Bx.new W3 _ _ _
     have bW4 : Below W3.heap.size W3 W4 := by rw [← hW4]; exact (Below.refl _ _).alloc (Nat.le_refl _) _
     try rw [hb3]
     try rw [hW4]
     have BW4 : Below w6.heap.size w6 W4 := BW3.trans (bW4.mono BW3.size)
     have gb3 : w6.heap.size ≤ b3 := by rw [← hb3]; exact BW3.size
     have db1b3 : b1 ≠ b3 := Nat.ne_of_lt (by rw [← hb3]; exact nb1.lt)
     have db2b3 : b2 ≠ b3 := Nat.ne_of_lt (by rw [← hb3]; exact nb2.lt)
     have nb1 := nb1.below bW4
     have nb2 := nb2.below bW4
     refine hK.out _ _ (fun _ => HSB.out _ BW4) (fun _ => ?_)
     clear hK K hW4 hb3
     have htl := (⟨nb1, nb2, nb3, db1b2, db1b3, db2b3, gb1, gb2, gb3, BW4⟩ : Lf w6.heap.size w6 b1 b2 b3 _ _ _ _ _ _ W4)
     clear nb1 nb2 nb3 db1b2 db1b3 db2b3 gb1 gb2 gb3 BW4
     refine last_one (i := 16) (by kernel_rfl) rfl ?_
     intro K hK
     have x0 := htl.a.1
     have x1 := htl.a.2.1
     have x2 := htl.a.2.2.1
     have x3 := htl.a.2.2.2
     go_simp
     obtain ⟨W5, hW5⟩ : ∃ W5, (W4.setCell ⟨b1, 0, none⟩ (.int .u64 (hiW PL))).setCell ⟨b1, 1, none⟩ (.int .u64 (loW PL)) = W5 := ⟨_, rfl⟩
     have htl := htl.set1 (.int .u64 (hiW PL)) (.int .u64 (loW PL))
     rw [hW5] at htl
     try rw [hW5]
     refine hK.out _ _ (fun _ => HSB.out _ htl.bel) (fun _ => ?_)
     clear hK K x0 x1 x2 x3 hW5
     refine last_one (i := 17) (by kernel_rfl) rfl ?_
     intro K hK
     have x0 := htl.b.1
     have x1 := htl.b.2.1
     have x2 := htl.b.2.2.1
     have x3 := htl.b.2.2.2
     go_simp
     obtain ⟨W6, hW6⟩ : ∃ W6, (W5.setCell ⟨b2, 0, none⟩ (.int .u64 (hiW PH))).setCell ⟨b2, 1, none⟩ (.int .u64 (loW PH)) = W6 := ⟨_, rfl⟩
     have htl := htl.set2 (.int .u64 (hiW PH)) (.int .u64 (loW PH))
     rw [hW6] at htl
     try rw [hW6]
     refine hK.out _ _ (fun _ => HSB.out _ htl.bel) (fun _ => ?_)
     clear hK K x0 x1 x2 x3 hW6
     refine last_one (i := 18) (by kernel_rfl) rfl ?_
     intro K hK
     have x0 := htl.c.1
     have x1 := htl.c.2.1
     have x2 := htl.c.2.2.1
     have x3 := htl.c.2.2.2
     go_simp
     obtain ⟨W7, hW7⟩ : ∃ W7, (W6.setCell ⟨b3, 0, none⟩ (.int .u64 (hiW PD))).setCell ⟨b3, 1, none⟩ (.int .u64 (loW PD)) = W7 := ⟨_, rfl⟩
     have htl := htl.set3 (.int .u64 (hiW PD)) (.int .u64 (loW PD))
     rw [hW7] at htl
     try rw [hW7]
     refine hK.out _ _ (fun h => absurd rfl h) (fun _ => ?_)
     clear hK K x0 x1 x2 x3 hW7
     refine last_done (by kernel_rfl) ?_ _
     have HTL : Hid _ := htl
     clear htl HSB HCP
     go_wp2
     go_meet
     exact ⟨b1, b2, b3, rfl, rfl, rfl, HTL.out.a.1, HTL.out.a.2.1, HTL.out.b.1, HTL.out.b.2.1, HTL.out.c.1, HTL.out.c.2.1, HTL.out.bel⟩
    case h15n15 =>
     intro K hK
     go_simp
     obtain ⟨b3, hb3⟩ : ∃ b3, W2.heap.size = b3 := ⟨_, rfl⟩
     obtain ⟨W3, hW3⟩ : ∃ W3, W2.alloc (.cells #[.int .u64 0, .int .u64 0] 64) = W3 := ⟨_, rfl⟩
     have nb3 : Bx W3 b3 (.int .u64 0) (.int .u64 0) := by rw [← hW3, ← hb3]; exact Bx.new W2 _ _ _
     have bW3 : Below W2.heap.size W2 W3 := by rw [← hW3]; exact (Below.refl _ _).alloc (Nat.le_refl _) _
     try rw [hb3]
     try rw [hW3]
     have BW3 : Below w6.heap.size w6 W3 := BW2.trans (bW3.mono BW2.size)
     have gb3 : w6.heap.size ≤ b3 := by rw [← hb3]; exact BW2.size
     have db1b3 : b1 ≠ b3 := Nat.ne_of_lt (by rw [← hb3]; exact nb1.lt)
     have nb1 := nb1.below bW3
     refine hK.out _ _ (fun _ => HSB.out _ BW3) (fun _ => ?_)
     clear hK K hW3 hb3
     refine last_one (i := 14) (by kernel_rfl) rfl ?_
     intro K hK
     go_simp
     obtain ⟨b2, hb2⟩ : ∃ b2, W3.heap.size = b2 := ⟨_, rfl⟩
     obtain ⟨W4, hW4⟩ : ∃ W4, W3.alloc (.cells #[.int .u64 0, .int .u64 0] 64) = W4 := ⟨_, rfl⟩
     have nb2 : Bx W4 b2 (.int .u64 0) (.int .u64 0) := by rw [← hW4, ← hb2]; exact Bx.new W3 _ _ _
     have bW4 : Below W3.heap.size W3 W4 := by rw [← hW4]; exact (Below.refl _ _).alloc (Nat.le_refl _) _
     try rw [hb2]
     try rw [hW4]
     have BW4 : Below w6.heap.size w6 W4 := BW3.trans (bW4.mono BW3.size)
     have gb2 : w6.heap.size ≤ b2 := by rw [← hb2]; exact BW3.size
     have db1b2 : b1 ≠ b2 := Nat.ne_of_lt (by rw [← hb2]; exact nb1.lt)
     have db2b3 : b2 ≠ b3 := Ne.symm (Nat.ne_of_lt (by rw [← hb2]; exact nb3.lt))
     have nb1 := nb1.below bW4
     have nb3 := nb3.below bW4
     refine hK.out _ _ (fun _ => HSB.out _ BW4) (fun _ => ?_)
     clear hK K hW4 hb2
     have htl := (⟨nb1, nb2, nb3, db1b2, db1b3, db2b3, gb1, gb2, gb3, BW4⟩ : Lf w6.heap.size w6 b1 b2 b3 _ _ _ _ _ _ W4)
     clear nb1 nb2 nb3 db1b2 db1b3 db2b3 gb1 gb2 gb3 BW4
     refine last_one (i := 16) (by kernel_rfl) rfl ?_
     intro K hK
     have x0 := htl.a.1
     have x1 := htl.a.2.1
     have x2 := htl.a.2.2.1
     have x3 := htl.a.2.2.2
     go_simp
     obtain ⟨W5, hW5⟩ : ∃ W5, (W4.setCell ⟨b1, 0, none⟩ (.int .u64 (hiW PL))).setCell ⟨b1, 1, none⟩ (.int .u64 (loW PL)) = W5 := ⟨_, rfl⟩
     have htl := htl.set1 (.int .u64 (hiW PL)) (.int .u64 (loW PL))
     rw [hW5] at htl
     try rw [hW5]
     refine hK.out _ _ (fun _ => HSB.out _ htl.bel) (fun _ => ?_)
     clear hK K x0 x1 x2 x3 hW5
     refine last_one (i := 17) (by kernel_rfl) rfl ?_
     intro K hK
     have x0 := htl.b.1
     have x1 := htl.b.2.1
     have x2 := htl.b.2.2.1
     have x3 := htl.b.2.2.2
     go_simp
     obtain ⟨W6, hW6⟩ : ∃ W6, (W5.setCell ⟨b2, 0, none⟩ (.int .u64 (hiW PH))).setCell ⟨b2, 1, none⟩ (.int .u64 (loW PH)) = W6 := ⟨_, rfl⟩
     have htl := htl.set2 (.int .u64 (hiW PH)) (.int .u64 (loW PH))
     rw [hW6] at htl
     try rw [hW6]
     refine hK.out _ _ (fun _ => HSB.out _ htl.bel) (fun _ => ?_)
     clear hK K x0 x1 x2 x3 hW6
     refine last_one (i := 18) (by kernel_rfl) rfl ?_
     intro K hK
     have x0 := htl.c.1
     have x1 := htl.c.2.1
     have x2 := htl.c.2.2.1
     have x3 := htl.c.2.2.2
     go_simp
     obtain ⟨W7, hW7⟩ : ∃ W7, (W6.setCell ⟨b3, 0, none⟩ (.int .u64 (hiW PD))).setCell ⟨b3, 1, none⟩ (.int .u64 (loW PD)) = W7 := ⟨_, rfl⟩
     have htl := htl.set3 (.int .u64 (hiW PD)) (.int .u64 (loW PD))
     rw [hW7] at htl
     try rw [hW7]
     refine hK.out _ _ (fun h => absurd rfl h) (fun _ => ?_)
     clear hK K x0 x1 x2 x3 hW7
     refine last_done (by kernel_rfl) ?_ _
     have HTL : Hid _ := htl
     clear htl HSB HCP
     go_wp2
     go_meet
     exact ⟨b1, b2, b3, rfl, rfl, rfl, HTL.out.a.1, HTL.out.a.2.1, HTL.out.b.1, HTL.out.b.2.1, HTL.out.c.1, HTL.out.c.2.1, HTL.out.bel⟩
   case h14n14 =>
    intro K hK
    go_simp
    obtain ⟨b2, hb2⟩ : ∃ b2, W1.heap.size = b2 := ⟨_, rfl⟩
    obtain ⟨W2, hW2⟩ : ∃ W2, W1.alloc (.cells #[.int .u64 0, .int .u64 0] 64) = W2 := ⟨_, rfl⟩
    have nb2 : Bx W2 b2 (.int .u64 0) (.int .u64 0) := by rw [← hW2, ← hb2]; exact Bx.new W1 _ _ _
    have bW2 : Below W1.heap.size W1 W2 := by rw [← hW2]; exact (Below.refl _ _).alloc (Nat.le_refl _) _
    try rw [hb2]
    try rw [hW2]
    have BW2 : Below w6.heap.size w6 W2 := BW1.trans (bW2.mono BW1.size)
    have gb2 : w6.heap.size ≤ b2 := by rw [← hb2]; exact BW1.size
    refine hK.out _ _ (fun _ => HSB.out _ BW2) (fun _ => ?_)
    clear hK K hW2 hb2
    refine last_few (i := 13) (l := [15]) (by kernel_rfl) (List.forall_mem_cons.2 ⟨⟨_, rfl, ?h13n16⟩, List.forall_mem_cons.2 ⟨⟨_, rfl, ?h15n16⟩, List.forall_mem_nil _⟩⟩)
    case h13n16 =>
     intro K hK
     go_simp
     obtain ⟨b1, hb1⟩ : ∃ b1, W2.heap.size = b1 := ⟨_, rfl⟩
     obtain ⟨W3, hW3⟩ : ∃ W3, W2.alloc (.cells #[.int .u64 0, .int .u64 0] 64) = W3 := ⟨_, rfl⟩
     have nb1 : Bx W3 b1 (.int .u64 0) (.int .u64 0) := by rw [← hW3, ← hb1]; exact Bx.new W2 _ _ _
     have bW3 : Below W2.heap.size W2 W3 := by rw [← hW3]; exact (Below.refl _ _).alloc (Nat.le_refl _) _
     try rw [hb1]
     try rw [hW3]
     have BW3 : Below w6.heap.size w6 W3 := BW2.trans (bW3.mono BW2.size)
     have gb1 : w6.heap.size ≤ b1 := by rw [← hb1]; exact BW2.size
     have db1b2 : b1 ≠ b2 := Ne.symm (Nat.ne_of_lt (by rw [← hb1]; exact nb2.lt))
     have nb2 := nb2.below bW3
     refine hK.out _ _ (fun _ => HSB.out _ BW3) (fun _ => ?_)
     clear hK K hW3 hb1
     refine last_one (i := 15) (by kernel_rfl) rfl ?_
     intro K hK
     go_simp
     obtain ⟨b3, hb3⟩ : ∃ b3, W3.heap.size = b3 := ⟨_, rfl⟩
     obtain ⟨W4, hW4⟩ : ∃ W4, W3.alloc (.cells #[.int .u64 0, .int .u64 0] 64) = W4 := ⟨_, rfl⟩
     have nb3 : Bx W4 b3 (.int .u64 0) (.int .u64 0) := by rw [← hW4, ← hb3]; exact Bx.new W3 _ _ _
     have bW4 : Below W3.heap.size W3 W4 := by rw [← hW4]; exact (Below.refl _ _).alloc (Nat.le_refl _) _
     try rw [hb3]
     try rw [hW4]
     have BW4 : Below w6.heap.size w6 W4 := BW3.trans (bW4.mono BW3.size)
     have gb3 : w6.heap.size ≤ b3 := by rw [← hb3]; exact BW3.size
     have db2b3 : b2 ≠ b3 := Nat.ne_of_lt (by rw [← hb3]; exact nb2.lt)
     have db1b3 : b1 ≠ b3 := Nat.ne_of_lt (by rw [← hb3]; exact nb1.lt)
     have nb2 := nb2.below bW4
     have nb1 := nb1.below bW4
     refine hK.out _ _ (fun _ => HSB.out _ BW4) (fun _ => ?_)
     clear hK K hW4 hb3
     have htl := (⟨nb1, nb2, nb3, db1b2, db1b3, db2b3, gb1, gb2, gb3, BW4⟩ : Lf w6.heap.size w6 b1 b2 b3 _ _ _ _ _ _ W4)
     clear nb1 nb2 nb3 db1b2 db1b3 db2b3 gb1 gb2 gb3 BW4
     refine last_one (i := 16) (by kernel_rfl) rfl ?_
     intro K hK
     have x0 := htl.a.1
     have x1 := htl.a.2.1
     have x2 := htl.a.2.2.1
     have x3 := htl.a.2.2.2
     go_simp
     obtain ⟨W5, hW5⟩ : ∃ W5, (W4.setCell ⟨b1, 0, none⟩ (.int .u64 (hiW PL))).setCell ⟨b1, 1, none⟩ (.int .u64 (loW PL)) = W5 := ⟨_, rfl⟩
     have htl := htl.set1 (.int .u64 (hiW PL)) (.int .u64 (loW PL))
     rw [hW5] at htl
     try rw [hW5]
     refine hK.out _ _ (fun _ => HSB.out _ htl.bel) (fun _ => ?_)
     clear hK K x0 x1 x2 x3 hW5
     refine last_one (i := 17) (by kernel_rfl) rfl ?_
     intro K hK
     have x0 := htl.b.1
     have x1 := htl.b.2.1
     have x2 := htl.b.2.2.1
     have x3 := htl.b.2.2.2
     go_simp
     obtain ⟨W6, hW6⟩ : ∃ W6, (W5.setCell ⟨b2, 0, none⟩ (.int .u64 (hiW PH))).setCell ⟨b2, 1, none⟩ (.int .u64 (loW PH)) = W6 := ⟨_, rfl⟩
     have htl := htl.set2 (.int .u64 (hiW PH)) (.int .u64 (loW PH))
     rw [hW6] at htl
     try rw [hW6]
     refine hK.out _ _ (fun _ => HSB.out _ htl.bel) (fun _ => ?_)
     clear hK K x0 x1 x2 x3 hW6
     refine last_one (i := 18) (by kernel_rfl) rfl ?_
     intro K hK
     have x0 := htl.c.1
     have x1 := htl.c.2.1
     have x2 := htl.c.2.2.1
     have x3 := htl.c.2.2.2
     go_simp
     obtain ⟨W7, hW7⟩ : ∃ W7, (W6.setCell ⟨b3, 0, none⟩ (.int .u64 (hiW PD))).setCell ⟨b3, 1, none⟩ (.int .u64 (loW PD)) = W7 := ⟨_, rfl⟩
     have htl := htl.set3 (.int .u64 (hiW PD)) (.int .u64 (loW PD))
     rw [hW7] at htl
     try rw [hW7]
     refine hK.out _ _ (fun h => absurd rfl h) (fun _ => ?_)
     clear hK K x0 x1 x2 x3 hW7
     refine last_done (by kernel_rfl) ?_ _
     have HTL : Hid _ := htl
     clear htl HSB HCP
     go_wp2
     go_meet
     exact ⟨b1, b2, b3, rfl, rfl, rfl, HTL.out.a.1, HTL.out.a.2.1, HTL.out.b.1, HTL.out.b.2.1, HTL.out.c.1, HTL.out.c.2.1, HTL.out.bel⟩
    case h15n16 =>
     intro K hK
     go_simp
     obtain ⟨b3, hb3⟩ : ∃ b3, W2.heap.size = b3 := ⟨_, rfl⟩
     obtain ⟨W3, hW3⟩ : ∃ W3, W2.alloc (.cells #[.int .u64 0, .int .u64 0] 64) = W3 := ⟨_, rfl⟩
     have nb3 : Bx W3 b3 (.int .u64 0) (.int .u64 0) := by rw [← hW3, ← hb3]; exact Bx.new W2 _ _ _
     have bW3 : Below W2.heap.size W2 W3 := by rw [← hW3]; exact (Below.refl _ _).alloc (Nat.le_refl _) _
     try rw [hb3]
     try rw [hW3]
     have BW3 : Below w6.heap.size w6 W3 := BW2.trans (bW3.mono BW2.size)
     have gb3 : w6.heap.size ≤ b3 := by rw [← hb3]; exact BW2.size
     have db2b3 : b2 ≠ b3 := Nat.ne_of_lt (by rw [← hb3]; exact nb2.lt)
     have nb2 := nb2.below bW3
     refine hK.out _ _ (fun _ => HSB.out _ BW3) (fun _ => ?_)
     clear hK K hW3 hb3
     refine last_one (i := 13) (by kernel_rfl) rfl ?_
     intro K hK
     go_simp
     obtain ⟨b1, hb1⟩ : ∃ b1, W3.heap.size = b1 := ⟨_, rfl⟩
     obtain ⟨W4, hW4⟩ : ∃ W4, W3.alloc (.cells #[.int .u64 0, .int .u64 0] 64) = W4 := ⟨_, rfl⟩
     have nb1 : Bx W4 b1 (.int .u64 0) (.int .u64 0) := by rw [← hW4, ← hb1]; exact Bx.new W3 _ _ _
     have bW4 : Below W3.heap.size W3 W4 := by rw [← hW4]; exact (Below.refl _ _).alloc (Nat.le_refl _) _
     try rw [hb1]
     try rw [hW4]
     have BW4 : Below w6.heap.size w6 W4 := BW3.trans (bW4.mono BW3.size)
     have gb1 : w6.heap.size ≤ b1 := by rw [← hb1]; exact BW3.size
     have db1b2 : b1 ≠ b2 := Ne.symm (Nat.ne_of_lt (by rw [← hb1]; exact nb2.lt))
     have db1b3 : b1 ≠ b3 := Ne.symm (Nat.ne_of_lt (by rw [← hb1]; exact nb3.lt))
     have nb2 := nb2.below bW4
     have nb3 := nb3.below bW4
     refine hK.out _ _ (fun _ => HSB.out _ BW4) (fun _ => ?_)
     clear hK K hW4 hb1
     have htl := (⟨nb1, nb2, nb3, db1b2, db1b3, db2b3, gb1, gb2, gb3, BW4⟩ : Lf w6.heap.size w6 b1 b2 b3 _ _ _ _ _ _ W4)
     clear nb1 nb2 nb3 db1b2 db1b3 db2b3 gb1 gb2 gb3 BW4
     refine last_one (i := 16) (by kernel_rfl) rfl ?_
     intro K hK
     have x0 := htl.a.1
     have x1 := htl.a.2.1
     have x2 := htl.a.2.2.1
     have x3 := htl.a.2.2.2
     go_simp
     obtain ⟨W5, hW5⟩ : ∃ W5, (W4.setCell ⟨b1, 0, none⟩ (.int .u64 (hiW PL))).setCell ⟨b1, 1, none⟩ (.int .u64 (loW PL)) = W5 := ⟨_, rfl⟩
     have htl := htl.set1 (.int .u64 (hiW PL)) (.int .u64 (loW PL))
     rw [hW5] at htl
     try rw [hW5]
     refine hK.out _ _ (fun _ => HSB.out _ htl.bel) (fun _ => ?_)
     clear hK K x0 x1 x2 x3 hW5
     refine last_one (i := 17) (by kernel_rfl) rfl ?_
     intro K hK
     have x0 := htl.b.1
     have x1 := htl.b.2.1
     have x2 := htl.b.2.2.1
     have x3 := htl.b.2.2.2
     go_simp
     obtain ⟨W6, hW6⟩ : ∃ W6, (W5.setCell ⟨b2, 0, none⟩ (.int .u64 (hiW PH))).setCell ⟨b2, 1, none⟩ (.int .u64 (loW PH)) = W6 := ⟨_, rfl⟩
     have htl := htl.set2 (.int .u64 (hiW PH)) (.int .u64 (loW PH))
     rw [hW6] at htl
     try rw [hW6]
     refine hK.out _ _ (fun _ => HSB.out _ htl.bel) (fun _ => ?_)
     clear hK K x0 x1 x2 x3 hW6
     refine last_one (i := 18) (by kernel_rfl) rfl ?_
     intro K hK
     have x0 := htl.c.1
     have x1 := htl.c.2.1
     have x2 := htl.c.2.2.1
     have x3 := htl.c.2.2.2
     go_simp
     obtain ⟨W7, hW7⟩ : ∃ W7, (W6.setCell ⟨b3, 0, none⟩ (.int .u64 (hiW PD))).setCell ⟨b3, 1, none⟩ (.int .u64 (loW PD)) = W7 := ⟨_, rfl⟩
     have htl := htl.set3 (.int .u64 (hiW PD)) (.int .u64 (loW PD))
     rw [hW7] at htl
     try rw [hW7]
     refine hK.out _ _ (fun h => absurd rfl h) (fun _ => ?_)
     clear hK K x0 x1 x2 x3 hW7
     refine last_done (by kernel_rfl) ?_ _
     have HTL : Hid _ := htl
     clear htl HSB HCP
     go_wp2
     go_meet
     exact ⟨b1, b2, b3, rfl, rfl, rfl, HTL.out.a.1, HTL.out.a.2.1, HTL.out.b.1, HTL.out.b.2.1, HTL.out.c.1, HTL.out.c.2.1, HTL.out.bel⟩
   case h15n14 =>
    intro K hK
    go_simp
    obtain ⟨b3, hb3⟩ : ∃ b3, W1.heap.size = b3 := ⟨_, rfl⟩
    obtain ⟨W2, hW2⟩ : ∃ W2, W1.alloc (.cells #[.int .u64 0, .int .u64 0] 64) = W2 := ⟨_, rfl⟩
    have nb3 : Bx W2 b3 (.int .u64 0) (.int .u64 0) := by rw [← hW2, ← hb3]; exact Bx.new W1 _ _ _
    have bW2 : Below W1.heap.size W1 W2 := by rw [← hW2]; exact (Below.refl _ _).alloc (Nat.le_refl _) _
    try rw [hb3]
    try rw [hW2]
    have BW2 : Below w6.heap.size w6 W2 := BW1.trans (bW2.mono BW1.size)
    have gb3 : w6.heap.size ≤ b3 := by rw [← hb3]; exact BW1.size
    refine hK.out _ _ (fun _ => HSB.out _ BW2) (fun _ => ?_)
    clear hK K hW2 hb3
    refine last_few (i := 13) (l := [14]) (by kernel_rfl) (List.forall_mem_cons.2 ⟨⟨_, rfl, ?h13n17⟩, List.forall_mem_cons.2 ⟨⟨_, rfl, ?h14n17⟩, List.forall_mem_nil _⟩⟩)
    case h13n17 =>
     intro K hK
     go_simp
     obtain ⟨b1, hb1⟩ : ∃ b1, W2.heap.size = b1 := ⟨_, rfl⟩
     obtain ⟨W3, hW3⟩ : ∃ W3, W2.alloc (.cells #[.int .u64 0, .int .u64 0] 64) = W3 := ⟨_, rfl⟩
     have nb1 : Bx W3 b1 (.int .u64 0) (.int .u64 0) := by rw [← hW3, ← hb1]; exact Bx.new W2 _ _ _
     have bW3 : Below W2.heap.size W2 W3 := by rw [← hW3]; exact (Below.refl _ _).alloc (Nat.le_refl _) _
     try rw [hb1]
     try rw [hW3]
     have BW3 : Below w6.heap.size w6 W3 := BW2.trans (bW3.mono BW2.size)
     have gb1 : w6.heap.size ≤ b1 := by rw [← hb1]; exact BW2.size
     have db1b3 : b1 ≠ b3 := Ne.symm (Nat.ne_of_lt (by rw [← hb1]; exact nb3.lt))
     have nb3 := nb3.below bW3
     refine hK.out _ _ (fun _ => HSB.out _ BW3) (fun _ => ?_)
     clear hK K hW3 hb1
     refine last_one (i := 14) (by kernel_rfl) rfl ?_
     intro K hK
     go_simp
     obtain ⟨b2, hb2⟩ : ∃ b2, W3.heap.size = b2 := ⟨_, rfl⟩
     obtain ⟨W4, hW4⟩ : ∃ W4, W3.alloc (.cells #[.int .u64 0, .int .u64 0] 64) = W4 := ⟨_, rfl⟩
     have nb2 : Bx W4 b2 (.int .u64 0) (.int .u64 0) := by rw [← hW4, ← hb2]; exact Bx.new W3 _ _ _
     have bW4 : Below W3.heap.size W3 W4 := by rw [← hW4]; exact (Below.refl _ _).alloc (Nat.le_refl _) _
     try rw [hb2]
     try rw [hW4]
     have BW4 : Below w6.heap.size w6 W4 := BW3.trans (bW4.mono BW3.size)
     have gb2 : w6.heap.size ≤ b2 := by rw [← hb2]; exact BW3.size
     have db2b3 : b2 ≠ b3 := Ne.symm (Nat.ne_of_lt (by rw [← hb2]; exact nb3.lt))
     have db1b2 : b1 ≠ b2 := Nat.ne_of_lt (by rw [← hb2]; exact nb1.lt)
     have nb3 := nb3.below bW4
     have nb1 := nb1.below bW4
     refine hK.out _ _ (fun _ => HSB.out _ BW4) (fun _ => ?_)
     clear hK K hW4 hb2
     have htl := (⟨nb1, nb2, nb3, db1b2, db1b3, db2b3, gb1, gb2, gb3, BW4⟩ : Lf w6.heap.size w6 b1 b2 b3 _ _ _ _ _ _ W4)
     clear nb1 nb2 nb3 db1b2 db1b3 db2b3 gb1 gb2 gb3 BW4
     refine last_one (i := 16) (by kernel_rfl) rfl ?_
     intro K hK
     have x0 := htl.a.1
     have x1 := htl.a.2.1
     have x2 := htl.a.2.2.1
     have x3 := htl.a.2.2.2
     go_simp
     obtain ⟨W5, hW5⟩ : ∃ W5, (W4.setCell ⟨b1, 0, none⟩ (.int .u64 (hiW PL))).setCell ⟨b1, 1, none⟩ (.int .u64 (loW PL)) = W5 := ⟨_, rfl⟩
     have htl := htl.set1 (.int .u64 (hiW PL)) (.int .u64 (loW PL))
     rw [hW5] at htl
     try rw [hW5]
     refine hK.out _ _ (fun _ => HSB.out _ htl.bel) (fun _ => ?_)
     clear hK K x0 x1 x2 x3 hW5
     refine last_one (i := 17) (by kernel_rfl) rfl ?_
     intro K hK
     have x0 := htl.b.1
     have x1 := htl.b.2.1
     have x2 := htl.b.2.2.1
     have x3 := htl.b.2.2.2
     go_simp
     obtain ⟨W6, hW6⟩ : ∃ W6, (W5.setCell ⟨b2, 0, none⟩ (.int .u64 (hiW PH))).setCell ⟨b2, 1, none⟩ (.int .u64 (loW PH)) = W6 := ⟨_, rfl⟩
     have htl := htl.set2 (.int .u64 (hiW PH)) (.int .u64 (loW PH))
     rw [hW6] at htl
     try rw [hW6]
     refine hK.out _ _ (fun _ => HSB.out _ htl.bel) (fun _ => ?_)
     clear hK K x0 x1 x2 x3 hW6
     refine last_one (i := 18) (by kernel_rfl) rfl ?_
     intro K hK
     have x0 := htl.c.1
     have x1 := htl.c.2.1
     have x2 := htl.c.2.2.1
     have x3 := htl.c.2.2.2
     go_simp
     obtain ⟨W7, hW7⟩ : ∃ W7, (W6.setCell ⟨b3, 0, none⟩ (.int .u64 (hiW PD))).setCell ⟨b3, 1, none⟩ (.int .u64 (loW PD)) = W7 := ⟨_, rfl⟩
     have htl := htl.set3 (.int .u64 (hiW PD)) (.int .u64 (loW PD))
     rw [hW7] at htl
     try rw [hW7]
     refine hK.out _ _ (fun h => absurd rfl h) (fun _ => ?_)
     clear hK K x0 x1 x2 x3 hW7
     refine last_done (by kernel_rfl) ?_ _
     have HTL : Hid _ := htl
     clear htl HSB HCP
     go_wp2
     go_meet
     exact ⟨b1, b2, b3, rfl, rfl, rfl, HTL.out.a.1, HTL.out.a.2.1, HTL.out.b.1, HTL.out.b.2.1, HTL.out.c.1, HTL.out.c.2.1, HTL.out.bel⟩
    case h14n17 =>
     intro K hK
     go_simp
     obtain ⟨b2, hb2⟩ : ∃ b2, W2.heap.size = b2 := ⟨_, rfl⟩
     obtain ⟨W3, hW3⟩ : ∃ W3, W2.alloc (.cells #[.int .u64 0, .int .u64 0] 64) = W3 := ⟨_, rfl⟩
     have nb2 : Bx W3 b2 (.int .u64 0) (.int .u64 0) := by rw [← hW3, ← hb2]; exact Bx.new W2 _ _ _
     have bW3 : Below W2.heap.size W2 W3 := by rw [← hW3]; exact (Below.refl _ _).alloc (Nat.le_refl _) _
     try rw [hb2]
     try rw [hW3]
     have BW3 : Below w6.heap.size w6 W3 := BW2.trans (bW3.mono BW2.size)
     have gb2 : w6.heap.size ≤ b2 := by rw [← hb2]; exact BW2.size
     have db2b3 : b2 ≠ b3 := Ne.symm (Nat.ne_of_lt (by rw [← hb2]; exact nb3.lt))
     have nb3 := nb3.below bW3
     refine hK.out _ _ (fun _ => HSB.out _ BW3) (fun _ => ?_)
     clear hK K hW3 hb2
     refine last_one (i := 13) (by kernel_rfl) rfl ?_
     intro K hK
     go_simp
     obtain ⟨b1, hb1⟩ : ∃ b1, W3.heap.size = b1 := ⟨_, rfl⟩
     obtain ⟨W4, hW4⟩ : ∃ W4, W3.alloc (.cells #[.int .u64 0, .int .u64 0] 64) = W4 := ⟨_, rfl⟩
     have nb1 : Bx W4 b1 (.int .u64 0) (.int .u64 0) := by rw [← hW4, ← hb1]; exact Bx.new W3 _ _ _
     have bW4 : Below W3.heap.size W3 W4 := by rw [← hW4]; exact (Below.refl _ _).alloc (Nat.le_refl _) _
     try rw [hb1]
     try rw [hW4]
     have BW4 : Below w6.heap.size w6 W4 := BW3.trans (bW4.mono BW3.size)
     have gb1 : w6.heap.size ≤ b1 := by rw [← hb1]; exact BW3.size
     have db1b3 : b1 ≠ b3 := Ne.symm (Nat.ne_of_lt (by rw [← hb1]; exact nb3.lt))
     have db1b2 : b1 ≠ b2 := Ne.symm (Nat.ne_of_lt (by rw [← hb1]; exact nb2.lt))
     have nb3 := nb3.below bW4
     have nb2 := nb2.below bW4
     refine hK.out _ _ (fun _ => HSB.out _ BW4) (fun _ => ?_)
     clear hK K hW4 hb1
     have htl := (⟨nb1, nb2, nb3, db1b2, db1b3, db2b3, gb1, gb2, gb3, BW4⟩ : Lf w6.heap.size w6 b1 b2 b3 _ _ _ _ _ _ W4)
     clear nb1 nb2 nb3 db1b2 db1b3 db2b3 gb1 gb2 gb3 BW4
     refine last_one (i := 16) (by kernel_rfl) rfl ?_
     intro K hK
     have x0 := htl.a.1
     have x1 := htl.a.2.1
     have x2 := htl.a.2.2.1
     have x3 := htl.a.2.2.2
     go_simp
     obtain ⟨W5, hW5⟩ : ∃ W5, (W4.setCell ⟨b1, 0, none⟩ (.int .u64 (hiW PL))).setCell ⟨b1, 1, none⟩ (.int .u64 (loW PL)) = W5 := ⟨_, rfl⟩
     have htl := htl.set1 (.int .u64 (hiW PL)) (.int .u64 (loW PL))
     rw [hW5] at htl
     try rw [hW5]
     refine hK.out _ _ (fun _ => HSB.out _ htl.bel) (fun _ => ?_)
     clear hK K x0 x1 x2 x3 hW5
     refine last_one (i := 17) (by kernel_rfl) rfl ?_
     intro K hK
     have x0 := htl.b.1
     have x1 := htl.b.2.1
     have x2 := htl.b.2.2.1
     have x3 := htl.b.2.2.2
     go_simp
     obtain ⟨W6, hW6⟩ : ∃ W6, (W5.setCell ⟨b2, 0, none⟩ (.int .u64 (hiW PH))).setCell ⟨b2, 1, none⟩ (.int .u64 (loW PH)) = W6 := ⟨_, rfl⟩
     have htl := htl.set2 (.int .u64 (hiW PH)) (.int .u64 (loW PH))
     rw [hW6] at htl
     try rw [hW6]
     refine hK.out _ _ (fun _ => HSB.out _ htl.bel) (fun _ => ?_)
     clear hK K x0 x1 x2 x3 hW6
     refine last_one (i := 18) (by kernel_rfl) rfl ?_
     intro K hK
     have x0 := htl.c.1
     have x1 := htl.c.2.1
     have x2 := htl.c.2.2.1
     have x3 := htl.c.2.2.2
     go_simp
     obtain ⟨W7, hW7⟩ : ∃ W7, (W6.setCell ⟨b3, 0, none⟩ (.int .u64 (hiW PD))).setCell ⟨b3, 1, none⟩ (.int .u64 (loW PD)) = W7 := ⟨_, rfl⟩
     have htl := htl.set3 (.int .u64 (hiW PD)) (.int .u64 (loW PD))
     rw [hW7] at htl
     try rw [hW7]
     refine hK.out _ _ (fun h => absurd rfl h) (fun _ => ?_)
     clear hK K x0 x1 x2 x3 hW7
     refine last_done (by kernel_rfl) ?_ _
     have HTL : Hid _ := htl
     clear htl HSB HCP
     go_wp2
     go_meet
     exact ⟨b1, b2, b3, rfl, rfl, rfl, HTL.out.a.1, HTL.out.a.2.1, HTL.out.b.1, HTL.out.b.2.1, HTL.out.c.1, HTL.out.c.2.1, HTL.out.bel⟩
  case h13n9 =>
   intro K hK
   go_simp
   obtain ⟨b1, hb1⟩ : ∃ b1, W0.heap.size = b1 := ⟨_, rfl⟩
   obtain ⟨W1, hW1⟩ : ∃ W1, W0.alloc (.cells #[.int .u64 0, .int .u64 0] 64) = W1 := ⟨_, rfl⟩
   have nb1 : Bx W1 b1 (.int .u64 0) (.int .u64 0) := by rw [← hW1, ← hb1]; exact Bx.new W0 _ _ _
   have bW1 : Below W0.heap.size W0 W1 := by rw [← hW1]; exact (Below.refl _ _).alloc (Nat.le_refl _) _
   try rw [hb1]
   try rw [hW1]
   have BW1 : Below w6.heap.size w6 W1 := BW0.trans (bW1.mono BW0.size)
   have gb1 : w6.heap.size ≤ b1 := by rw [← hb1]; exact BW0.size
   refine hK.out _ _ (fun _ => HSB.out _ BW1) (fun _ => ?_)
   clear hK K hW1 hb1
   refine last_few (i := 8) (l := [14, 15]) (by kernel_rfl) (List.forall_mem_cons.2 ⟨⟨_, rfl, ?h8n18⟩, List.forall_mem_cons.2 ⟨⟨_, rfl, ?h14n18⟩, List.forall_mem_cons.2 ⟨⟨_, rfl, ?h15n18⟩, List.forall_mem_nil _⟩⟩⟩)
   case h8n18 =>
    intro K hK
    go_simp
    go_at_call 23
    refine (HCP.out _ BW1).mono ?_
    rintro e W2 ⟨rfl, bW2⟩
    have BW2 : Below w6.heap.size w6 W2 := BW1.trans (bW2.mono BW1.size)
    have nb1 := nb1.below bW2
    have HSW2 := HSB.out _ BW2
    go_simp
    refine hK.out _ _ (fun _ => HSW2) (fun _ => ?_)
    clear hK K
    refine last_take (i := 9) (v := ?v9k19) rfl (by kernel_rfl) (by kernel_rfl) (by kernel_rfl) (by kernel_rfl) rfl (fun _ _ _ h => h) (by rfl) HSW2 ?hy9k19 ?rest9k19
    case hy9k19 =>
     intro xx hSx
     go_simp
     try (with_reducible rfl)
    simp only [Act.put, List.setIfInBounds_toArray, List.set_cons_zero, List.set_cons_succ]
    refine last_take (i := 10) (v := ?v10k20) rfl (by kernel_rfl) (by kernel_rfl) (by kernel_rfl) (by kernel_rfl) rfl (fun _ _ _ h => h) (by rfl) HSW2 ?hy10k20 ?rest10k20
    case hy10k20 =>
     intro xx hSx
     go_simp
     try (with_reducible rfl)
    simp only [Act.put, List.setIfInBounds_toArray, List.set_cons_zero, List.set_cons_succ]
    refine last_take (i := 11) (v := ?v11k21) rfl (by kernel_rfl) (by kernel_rfl) (by kernel_rfl) (by kernel_rfl) rfl (fun _ _ _ h => h) (by rfl) HSW2 ?hy11k21 ?rest11k21
    case hy11k21 =>
     intro xx hSx
     go_simp
     try (with_reducible rfl)
    simp only [Act.put, List.setIfInBounds_toArray, List.set_cons_zero, List.set_cons_succ]
    refine last_take (i := 12) (v := ?v12k22) rfl (by kernel_rfl) (by kernel_rfl) (by kernel_rfl) (by kernel_rfl) rfl (fun _ _ _ h => h) (by rfl) HSW2 ?hy12k22 ?rest12k22
    case hy12k22 =>
     intro xx hSx
     go_simp
     try (with_reducible rfl)
    simp only [Act.put, List.setIfInBounds_toArray, List.set_cons_zero, List.set_cons_succ]
    refine last_few (i := 14) (l := [15]) (by kernel_rfl) (List.forall_mem_cons.2 ⟨⟨_, rfl, ?h14n23⟩, List.forall_mem_cons.2 ⟨⟨_, rfl, ?h15n23⟩, List.forall_mem_nil _⟩⟩)
    case h14n23 =>
     intro K hK
     go_simp
     obtain ⟨b2, hb2⟩ : ∃ b2, W2.heap.size = b2 := ⟨_, rfl⟩
     obtain ⟨W3, hW3⟩ : ∃ W3, W2.alloc (.cells #[.int .u64 0, .int .u64 0] 64) = W3 := ⟨_, rfl⟩
     have nb2 : Bx W3 b2 (.int .u64 0) (.int .u64 0) := by rw [← hW3, ← hb2]; exact Bx.new W2 _ _ _
     have bW3 : Below W2.heap.size W2 W3 := by rw [← hW3]; exact (Below.refl _ _).alloc (Nat.le_refl _) _
     try rw [hb2]
     try rw [hW3]
     have BW3 : Below w6.heap.size w6 W3 := BW2.trans (bW3.mono BW2.size)
     have gb2 : w6.heap.size ≤ b2 := by rw [← hb2]; exact BW2.size
     have db1b2 : b1 ≠ b2 := Nat.ne_of_lt (by rw [← hb2]; exact nb1.lt)
     have nb1 := nb1.below bW3
     refine hK.out _ _ (fun _ => HSB.out _ BW3) (fun _ => ?_)
     clear hK K hW3 hb2
     refine last_one (i := 15) (by kernel_rfl) rfl ?_
     intro K hK
     go_simp
     obtain ⟨b3, hb3⟩ : ∃ b3, W3.heap.size = b3 := ⟨_, rfl⟩
     obtain ⟨W4, hW4⟩ : ∃ W4, W3.alloc (.cells #[.int .u64 0, .int .u64 0] 64) = W4 := ⟨_, rfl⟩
     have nb3 : Bx W4 b3 (.int .u64 0) (.int .u64 0) := by rw [← hW4, ← hb3]; exact Bx.new W3 _ _ _
     have bW4 : Below W3.heap.size W3 W4 := by rw [← hW4]; exact (Below.refl _ _).alloc (Nat.le_refl _) _
     try rw [hb3]
     try rw [hW4]
     have BW4 : Below w6.heap.size w6 W4 := BW3.trans (bW4.mono BW3.size)
     have gb3 : w6.heap.size ≤ b3 := by rw [← hb3]; exact BW3.size
     have db1b3 : b1 ≠ b3 := Nat.ne_of_lt (by rw [← hb3]; exact nb1.lt)
     have db2b3 : b2 ≠ b3 := Nat.ne_of_lt (by rw [← hb3]; exact nb2.lt)
     have nb1 := nb1.below bW4
     have nb2 := nb2.below bW4
     refine hK.out _ _ (fun _ => HSB.out _ BW4) (fun _ => ?_)
     clear hK K hW4 hb3
     have htl := (⟨nb1, nb2, nb3, db1b2, db1b3, db2b3, gb1, gb2, gb3, BW4⟩ : Lf w6.heap.size w6 b1 b2 b3 _ _ _ _ _ _ W4)
     clear nb1 nb2 nb3 db1b2 db1b3 db2b3 gb1 gb2 gb3 BW4
     refine last_one (i := 16) (by kernel_rfl) rfl ?_
     intro K hK
     have x0 := htl.a.1
     have x1 := htl.a.2.1
     have x2 := htl.a.2.2.1
     have x3 := htl.a.2.2.2
     go_simp
     obtain ⟨W5, hW5⟩ : ∃ W5, (W4.setCell ⟨b1, 0, none⟩ (.int .u64 (hiW PL))).setCell ⟨b1, 1, none⟩ (.int .u64 (loW PL)) = W5 := ⟨_, rfl⟩
     have htl := htl.set1 (.int .u64 (hiW PL)) (.int .u64 (loW PL))
     rw [hW5] at htl
     try rw [hW5]
     refine hK.out _ _ (fun _ => HSB.out _ htl.bel) (fun _ => ?_)
     clear hK K x0 x1 x2 x3 hW5
     refine last_one (i := 17) (by kernel_rfl) rfl ?_
     intro K hK
     have x0 := htl.b.1
     have x1 := htl.b.2.1
     have x2 := htl.b.2.2.1
     have x3 := htl.b.2.2.2
     go_simp
     obtain ⟨W6, hW6⟩ : ∃ W6, (W5.setCell ⟨b2, 0, none⟩ (.int .u64 (hiW PH))).setCell ⟨b2, 1, none⟩ (.int .u64 (loW PH)) = W6 := ⟨_, rfl⟩
     have htl := htl.set2 (.int .u64 (hiW PH)) (.int .u64 (loW PH))
     rw [hW6] at htl
     try rw [hW6]
     refine hK.out _ _ (fun _ => HSB.out _ htl.bel) (fun _ => ?_)
     clear hK K x0 x1 x2 x3 hW6
     refine last_one (i := 18) (by kernel_rfl) rfl ?_
     intro K hK
     have x0 := htl.c.1
     have x1 := htl.c.2.1
     have x2 := htl.c.2.2.1
     have x3 := htl.c.2.2.2
     go_simp
     obtain ⟨W7, hW7⟩ : ∃ W7, (W6.setCell ⟨b3, 0, none⟩ (.int .u64 (hiW PD))).setCell ⟨b3, 1, none⟩ (.int .u64 (loW PD)) = W7 := ⟨_, rfl⟩
     have htl := htl.set3 (.int .u64 (hiW PD)) (.int .u64 (loW PD))
     rw [hW7] at htl
     try rw [hW7]
     refine hK.out _ _ (fun h => absurd rfl h) (fun _ => ?_)
     clear hK K x0 x1 x2 x3 hW7
     refine last_done (by kernel_rfl) ?_ _
     have HTL : Hid _ := htl
     clear htl HSB HCP
     go_wp2
     go_meet
     exact ⟨b1, b2, b3, rfl, rfl, rfl, HTL.out.a.1, HTL.out.a.2.1, HTL.out.b.1, HTL.out.b.2.1, HTL.out.c.1, HTL.out.c.2.1, HTL.out.bel⟩
    case h15n23 =>
     intro K hK
     go_simp
     obtain ⟨b3, hb3⟩ : ∃ b3, W2.heap.size = b3 := ⟨_, rfl⟩
     obtain ⟨W3, hW3⟩ : ∃ W3, W2.alloc (.cells #[.int .u64 0, .int .u64 0] 64) = W3 := ⟨_, rfl⟩
     have nb3 : Bx W3 b3 (.int .u64 0) (.int .u64 0) := by rw [← hW3, ← hb3]; exact Bx.new W2 _ _ _
     have bW3 : Below W2.heap.size W2 W3 := by rw [← hW3]; exact (Below.refl _ _).alloc (Nat.le_refl _) _
     try rw [hb3]
     try rw [hW3]
     have BW3 : Below w6.heap.size w6 W3 := BW2.trans (bW3.mono BW2.size)
     have gb3 : w6.heap.size ≤ b3 := by rw [← hb3]; exact BW2.size
     have db1b3 : b1 ≠ b3 := Nat.ne_of_lt (by rw [← hb3]; exact nb1.lt)
     have nb1 := nb1.below bW3
     refine hK.out _ _ (fun _ => HSB.out _ BW3) (fun _ => ?_)
     clear hK K hW3 hb3
     refine last_one (i := 14) (by kernel_rfl) rfl ?_
     intro K hK
     go_simp
     obtain ⟨b2, hb2⟩ : ∃ b2, W3.heap.size = b2 := ⟨_, rfl⟩
     obtain ⟨W4, hW4⟩ : ∃ W4, W3.alloc (.cells #[.int .u64 0, .int .u64 0] 64) = W4 := ⟨_, rfl⟩
     have nb2 : Bx W4 b2 (.int .u64 0) (.int .u64 0) := by rw [← hW4, ← hb2]; exact Bx.new W3 _ _ _
     have bW4 : Below W3.heap.size W3 W4 := by rw [← hW4]; exact (Below.refl _ _).alloc (Nat.le_refl _) _
     try rw [hb2]
     try rw [hW4]
     have BW4 : Below w6.heap.size w6 W4 := BW3.trans (bW4.mono BW3.size)
     have gb2 : w6.heap.size ≤ b2 := by rw [← hb2]; exact BW3.size
     have db1b2 : b1 ≠ b2 := Nat.ne_of_lt (by rw [← hb2]; exact nb1.lt)
     have db2b3 : b2 ≠ b3 := Ne.symm (Nat.ne_of_lt (by rw [← hb2]; exact nb3.lt))
     have nb1 := nb1.below bW4
     have nb3 := nb3.below bW4
     refine hK.out _ _ (fun _ => HSB.out _ BW4) (fun _ => ?_)
     clear hK K hW4 hb2
     have htl := (⟨nb1, nb2, nb3, db1b2, db1b3, db2b3, gb1, gb2, gb3, BW4⟩ : Lf w6.heap.size w6 b1 b2 b3 _ _ _ _ _ _ W4)
     clear nb1 nb2 nb3 db1b2 db1b3 db2b3 gb1 gb2 gb3 BW4
     refine last_one (i := 16) (by kernel_rfl) rfl ?_
     intro K hK
     have x0 := htl.a.1
     have x1 := htl.a.2.1
     have x2 := htl.a.2.2.1
     have x3 := htl.a.2.2.2
     go_simp
     obtain ⟨W5, hW5⟩ : ∃ W5, (W4.setCell ⟨b1, 0, none⟩ (.int .u64 (hiW PL))).setCell ⟨b1, 1, none⟩ (.int .u64 (loW PL)) = W5 := ⟨_, rfl⟩
     have htl := htl.set1 (.int .u64 (hiW PL)) (.int .u64 (loW PL))
     rw [hW5] at htl
     try rw [hW5]
     refine hK.out _ _ (fun _ => HSB.out _ htl.bel) (fun _ => ?_)
     clear hK K x0 x1 x2 x3 hW5
     refine last_one (i := 17) (by kernel_rfl) rfl ?_
     intro K hK
     have x0 := htl.b.1
     have x1 := htl.b.2.1
     have x2 := htl.b.2.2.1
     have x3 := htl.b.2.2.2
     go_simp
     obtain ⟨W6, hW6⟩ : ∃ W6, (W5.setCell ⟨b2, 0, none⟩ (.int .u64 (hiW PH))).setCell ⟨b2, 1, none⟩ (.int .u64 (loW PH)) = W6 := ⟨_, rfl⟩
     have htl := htl.set2 (.int .u64 (hiW PH)) (.int .u64 (loW PH))
     rw [hW6] at htl
     try rw [hW6]
     refine hK.out _ _ (fun _ => HSB.out _ htl.bel) (fun _ => ?_)
     clear hK K x0 x1 x2 x3 hW6
     refine last_one (i := 18) (by kernel_rfl) rfl ?_
     intro K hK
     have x0 := htl.c.1
     have x1 := htl.c.2.1
     have x2 := htl.c.2.2.1
     have x3 := htl.c.2.2.2
     go_simp
     obtain ⟨W7, hW7⟩ : ∃ W7, (W6.setCell ⟨b3, 0, none⟩ (.int .u64 (hiW PD))).setCell ⟨b3, 1, none⟩ (.int .u64 (loW PD)) = W7 := ⟨_, rfl⟩
     have htl := htl.set3 (.int .u64 (hiW PD)) (.int .u64 (loW PD))
     rw [hW7] at htl
     try rw [hW7]
     refine hK.out _ _ (fun h => absurd rfl h) (fun _ => ?_)
     clear hK K x0 x1 x2 x3 hW7
     refine last_done (by kernel_rfl) ?_ _
     have HTL : Hid _ := htl
     clear htl HSB HCP
     go_wp2
     go_meet
     exact ⟨b1, b2, b3, rfl, rfl, rfl, HTL.out.a.1, HTL.out.a.2.1, HTL.out.b.1, HTL.out.b.2.1, HTL.out.c.1, HTL.out.c.2.1, HTL.out.bel⟩
   case h14n18 =>
    intro K hK
    go_simp
    obtain ⟨b2, hb2⟩ : ∃ b2, W1.heap.size = b2 := ⟨_, rfl⟩
    obtain ⟨W2, hW2⟩ : ∃ W2, W1.alloc (.cells #[.int .u64 0, .int .u64 0] 64) = W2 := ⟨_, rfl⟩
    have nb2 : Bx W2 b2 (.int .u64 0) (.int .u64 0) := by rw [← hW2, ← hb2]; exact Bx.new W1 _ _ _
    have bW2 : Below W1.heap.size W1 W2 := by rw [← hW2]; exact (Below.refl _ _).alloc (Nat.le_refl _) _
    try rw [hb2]
    try rw [hW2]
    have BW2 : Below w6.heap.size w6 W2 := BW1.trans (bW2.mono BW1.size)
    have gb2 : w6.heap.size ≤ b2 := by rw [← hb2]; exact BW1.size
    have db1b2 : b1 ≠ b2 := Nat.ne_of_lt (by rw [← hb2]; exact nb1.lt)
    have nb1 := nb1.below bW2
    refine hK.out _ _ (fun _ => HSB.out _ BW2) (fun _ => ?_)
    clear hK K hW2 hb2
    refine last_few (i := 8) (l := [15]) (by kernel_rfl) (List.forall_mem_cons.2 ⟨⟨_, rfl, ?h8n24⟩, List.forall_mem_cons.2 ⟨⟨_, rfl, ?h15n24⟩, List.forall_mem_nil _⟩⟩)
    case h8n24 =>
     intro K hK
     go_simp
     go_at_call 23
     refine (HCP.out _ BW2).mono ?_
     rintro e W3 ⟨rfl, bW3⟩
     have BW3 : Below w6.heap.size w6 W3 := BW2.trans (bW3.mono BW2.size)
     have nb1 := nb1.below bW3
     have nb2 := nb2.below bW3
     have HSW3 := HSB.out _ BW3
     go_simp
     refine hK.out _ _ (fun _ => HSW3) (fun _ => ?_)
     clear hK K
     refine last_take (i := 9) (v := ?v9k25) rfl (by kernel_rfl) (by kernel_rfl) (by kernel_rfl) (by kernel_rfl) rfl (fun _ _ _ h => h) (by rfl) HSW3 ?hy9k25 ?rest9k25
     case hy9k25 =>
      intro xx hSx
      go_simp
      try (with_reducible rfl)
     simp only [Act.put, List.setIfInBounds_toArray, List.set_cons_zero, List.set_cons_succ]
     refine last_take (i := 10) (v := ?v10k26) rfl (by kernel_rfl) (by kernel_rfl) (by kernel_rfl) (by kernel_rfl) rfl (fun _ _ _ h => h) (by rfl) HSW3 ?hy10k26 ?rest10k26
     case hy10k26 =>
      intro xx hSx
      go_simp
      try (with_reducible rfl)
     simp only [Act.put, List.setIfInBounds_toArray, List.set_cons_zero, List.set_cons_succ]
     refine last_take (i := 11) (v := ?v11k27) rfl (by kernel_rfl) (by kernel_rfl) (by kernel_rfl) (by kernel_rfl) rfl (fun _ _ _ h => h) (by rfl) HSW3 ?hy11k27 ?rest11k27
     case hy11k27 =>
      intro xx hSx
      go_simp
      try (with_reducible rfl)
     simp only [Act.put, List.setIfInBounds_toArray, List.set_cons_zero, List.set_cons_succ]
     refine last_take (i := 12) (v := ?v12k28) rfl (by kernel_rfl) (by kernel_rfl) (by kernel_rfl) (by kernel_rfl) rfl (fun _ _ _ h => h) (by rfl) HSW3 ?hy12k28 ?rest12k28
     case hy12k28 =>
      intro xx hSx
      go_simp
      try (with_reducible rfl)
     simp only [Act.put, List.setIfInBounds_toArray, List.set_cons_zero, List.set_cons_succ]
     refine last_one (i := 15) (by kernel_rfl) rfl ?_
     intro K hK
     go_simp
     obtain ⟨b3, hb3⟩ : ∃ b3, W3.heap.size = b3 := ⟨_, rfl⟩
     obtain ⟨W4, hW4⟩ : ∃ W4, W3.alloc (.cells #[.int .u64 0, .int .u64 0] 64) = W4 := ⟨_, rfl⟩
     have nb3 : Bx W4 b3 (.int .u64 0) (.int .u64 0) := by rw [← hW4, ← hb3]; exact Bx.new W3 _ _ _
     have bW4 : Below W3.heap.size W3 W4 := by rw [← hW4]; exact (Below.refl _ _).alloc (Nat.le_refl _) _
     try rw [hb3]
     try rw [hW4]
     have BW4 : Below w6.heap.size w6 W4 := BW3.trans (bW4.mono BW3.size)
     have gb3 : w6.heap.size ≤ b3 := by rw [← hb3]; exact BW3.size
     have db1b3 : b1 ≠ b3 := Nat.ne_of_lt (by rw [← hb3]; exact nb1.lt)
     have db2b3 : b2 ≠ b3 := Nat.ne_of_lt (by rw [← hb3]; exact nb2.lt)
     have nb1 := nb1.below bW4
     have nb2 := nb2.below bW4
     refine hK.out _ _ (fun _ => HSB.out _ BW4) (fun _ => ?_)
     clear hK K hW4 hb3
     have htl := (⟨nb1, nb2, nb3, db1b2, db1b3, db2b3, gb1, gb2, gb3, BW4⟩ : Lf w6.heap.size w6 b1 b2 b3 _ _ _ _ _ _ W4)
     clear nb1 nb2 nb3 db1b2 db1b3 db2b3 gb1 gb2 gb3 BW4
     refine last_one (i := 16) (by kernel_rfl) rfl ?_
     intro K hK
     have x0 := htl.a.1
     have x1 := htl.a.2.1
     have x2 := htl.a.2.2.1
     have x3 := htl.a.2.2.2
     go_simp
     obtain ⟨W5, hW5⟩ : ∃ W5, (W4.setCell ⟨b1, 0, none⟩ (.int .u64 (hiW PL))).setCell ⟨b1, 1, none⟩ (.int .u64 (loW PL)) = W5 := ⟨_, rfl⟩
     have htl := htl.set1 (.int .u64 (hiW PL)) (.int .u64 (loW PL))
     rw [hW5] at htl
     try rw [hW5]
     refine hK.out _ _ (fun _ => HSB.out _ htl.bel) (fun _ => ?_)
     clear hK K x0 x1 x2 x3 hW5
     refine last_one (i := 17) (by kernel_rfl) rfl ?_
     intro K hK
     have x0 := htl.b.1
     have x1 := htl.b.2.1
     have x2 := htl.b.2.2.1
     have x3 := htl.b.2.2.2
     go_simp
     obtain ⟨W6, hW6⟩ : ∃ W6, (W5.setCell ⟨b2, 0, none⟩ (.int .u64 (hiW PH))).setCell ⟨b2, 1, none⟩ (.int .u64 (loW PH)) = W6 := ⟨_, rfl⟩
     have htl := htl.set2 (.int .u64 (hiW PH)) (.int .u64 (loW PH))
     rw [hW6] at htl
     try rw [hW6]
     refine hK.out _ _ (fun _ => HSB.out _ htl.bel) (fun _ => ?_)
     clear hK K x0 x1 x2 x3 hW6
     refine last_one (i := 18) (by kernel_rfl) rfl ?_
     intro K hK
     have x0 := htl.c.1
     have x1 := htl.c.2.1
     have x2 := htl.c.2.2.1
     have x3 := htl.c.2.2.2
     go_simp
     obtain ⟨W7, hW7⟩ : ∃ W7, (W6.setCell ⟨b3, 0, none⟩ (.int .u64 (hiW PD))).setCell ⟨b3, 1, none⟩ (.int .u64 (loW PD)) = W7 := ⟨_, rfl⟩
     have htl := htl.set3 (.int .u64 (hiW PD)) (.int .u64 (loW PD))
     rw [hW7] at htl
     try rw [hW7]
     refine hK.out _ _ (fun h => absurd rfl h) (fun _ => ?_)
     clear hK K x0 x1 x2 x3 hW7
     refine last_done (by kernel_rfl) ?_ _
     have HTL : Hid _ := htl
     clear htl HSB HCP
     go_wp2
     go_meet
     exact ⟨b1, b2, b3, rfl, rfl, rfl, HTL.out.a.1, HTL.out.a.2.1, HTL.out.b.1, HTL.out.b.2.1, HTL.out.c.1, HTL.out.c.2.1, HTL.out.bel⟩
    case h15n24 =>
     intro K hK
     go_simp
     obtain ⟨b3, hb3⟩ : ∃ b3, W2.heap.size = b3 := ⟨_, rfl⟩
     obtain ⟨W3, hW3⟩ : ∃ W3, W2.alloc (.cells #[.int .u64 0, .int .u64 0] 64) = W3 := ⟨_, rfl⟩
     have nb3 : Bx W3 b3 (.int .u64 0) (.int .u64 0) := by rw [← hW3, ← hb3]; exact Bx.new W2 _ _ _
     have bW3 : Below W2.heap.size W2 W3 := by rw [← hW3]; exact (Below.refl _ _).alloc (Nat.le_refl _) _
     try rw [hb3]
     try rw [hW3]
     have BW3 : Below w6.heap.size w6 W3 := BW2.trans (bW3.mono BW2.size)
     have gb3 : w6.heap.size ≤ b3 := by rw [← hb3]; exact BW2.size
     have db1b3 : b1 ≠ b3 := Nat.ne_of_lt (by rw [← hb3]; exact nb1.lt)
     have db2b3 : b2 ≠ b3 := Nat.ne_of_lt (by rw [← hb3]; exact nb2.lt)
     have nb1 := nb1.below bW3
     have nb2 := nb2.below bW3
     refine hK.out _ _ (fun _ => HSB.out _ BW3) (fun _ => ?_)
     clear hK K hW3 hb3
     refine last_one (i := 8) (by kernel_rfl) rfl ?_
     intro K hK
     go_simp
     go_at_call 23
     refine (HCP.out _ BW3).mono ?_
     rintro e W4 ⟨rfl, bW4⟩
     have BW4 : Below w6.heap.size w6 W4 := BW3.trans (bW4.mono BW3.size)
     have nb1 := nb1.below bW4
     have nb2 := nb2.below bW4
     have nb3 := nb3.below bW4
     have HSW4 := HSB.out _ BW4
     go_simp
     refine hK.out _ _ (fun _ => HSW4) (fun _ => ?_)
     clear hK K
     refine last_take (i := 9) (v := ?v9k29) rfl (by kernel_rfl) (by kernel_rfl) (by kernel_rfl) (by kernel_rfl) rfl (fun _ _ _ h => h) (by rfl) HSW4 ?hy9k29 ?rest9k29
     case hy9k29 =>
      intro xx hSx
      go_simp
      try (with_reducible rfl)
     simp only [Act.put, List.setIfInBounds_toArray, List.set_cons_zero, List.set_cons_succ]
     refine last_take (i := 10) (v := ?v10k30) rfl (by kernel_rfl) (by kernel_rfl) (by kernel_rfl) (by kernel_rfl) rfl (fun _ _ _ h => h) (by rfl) HSW4 ?hy10k30 ?rest10k30
     case hy10k30 =>
      intro xx hSx
      go_simp
      try (with_reducible rfl)
     simp only [Act.put, List.setIfInBounds_toArray, List.set_cons_zero, List.set_cons_succ]
     refine last_take (i := 11) (v := ?v11k31) rfl (by kernel_rfl) (by kernel_rfl) (by kernel_rfl) (by kernel_rfl) rfl (fun _ _ _ h => h) (by rfl) HSW4 ?hy11k31 ?rest11k31
     case hy11k31 =>
      intro xx hSx
      go_simp
      try (with_reducible rfl)
     simp only [Act.put, List.setIfInBounds_toArray, List.set_cons_zero, List.set_cons_succ]
     refine last_take (i := 12) (v := ?v12k32) rfl (by kernel_rfl) (by kernel_rfl) (by kernel_rfl) (by kernel_rfl) rfl (fun _ _ _ h => h) (by rfl) HSW4 ?hy12k32 ?rest12k32
     case hy12k32 =>
      intro xx hSx
      go_simp
      try (with_reducible rfl)
     simp only [Act.put, List.setIfInBounds_toArray, List.set_cons_zero, List.set_cons_succ]
     have htl := (⟨nb1, nb2, nb3, db1b2, db1b3, db2b3, gb1, gb2, gb3, BW4⟩ : Lf w6.heap.size w6 b1 b2 b3 _ _ _ _ _ _ W4)
     clear nb1 nb2 nb3 db1b2 db1b3 db2b3 gb1 gb2 gb3 BW4
     refine last_one (i := 16) (by kernel_rfl) rfl ?_
     intro K hK
     have x0 := htl.a.1
     have x1 := htl.a.2.1
     have x2 := htl.a.2.2.1
     have x3 := htl.a.2.2.2
     go_simp
     obtain ⟨W5, hW5⟩ : ∃ W5, (W4.setCell ⟨b1, 0, none⟩ (.int .u64 (hiW PL))).setCell ⟨b1, 1, none⟩ (.int .u64 (loW PL)) = W5 := ⟨_, rfl⟩
     have htl := htl.set1 (.int .u64 (hiW PL)) (.int .u64 (loW PL))
     rw [hW5] at htl
     try rw [hW5]
     refine hK.out _ _ (fun _ => HSB.out _ htl.bel) (fun _ => ?_)
     clear hK K x0 x1 x2 x3 hW5
     refine last_one (i := 17) (by kernel_rfl) rfl ?_
     intro K hK
     have x0 := htl.b.1
     have x1 := htl.b.2.1
     have x2 := htl.b.2.2.1
     have x3 := htl.b.2.2.2
     go_simp
     obtain ⟨W6, hW6⟩ : ∃ W6, (W5.setCell ⟨b2, 0, none⟩ (.int .u64 (hiW PH))).setCell ⟨b2, 1, none⟩ (.int .u64 (loW PH)) = W6 := ⟨_, rfl⟩
     have htl := htl.set2 (.int .u64 (hiW PH)) (.int .u64 (loW PH))
     rw [hW6] at htl
     try rw [hW6]
     refine hK.out _ _ (fun _ => HSB.out _ htl.bel) (fun _ => ?_)
     clear hK K x0 x1 x2 x3 hW6
     refine last_one (i := 18) (by kernel_rfl) rfl ?_
     intro K hK
     have x0 := htl.c.1
     have x1 := htl.c.2.1
     have x2 := htl.c.2.2.1
     have x3 := htl.c.2.2.2
     go_simp
     obtain ⟨W7, hW7⟩ : ∃ W7, (W6.setCell ⟨b3, 0, none⟩ (.int .u64 (hiW PD))).setCell ⟨b3, 1, none⟩ (.int .u64 (loW PD)) = W7 := ⟨_, rfl⟩
     have htl := htl.set3 (.int .u64 (hiW PD)) (.int .u64 (loW PD))
     rw [hW7] at htl
     try rw [hW7]
     refine hK.out _ _ (fun h => absurd rfl h) (fun _ => ?_)
     clear hK K x0 x1 x2 x3 hW7
     refine last_done (by kernel_rfl) ?_ _
     have HTL : Hid _ := htl
     clear htl HSB HCP
     go_wp2
     go_meet
     exact ⟨b1, b2, b3, rfl, rfl, rfl, HTL.out.a.1, HTL.out.a.2.1, HTL.out.b.1, HTL.out.b.2.1, HTL.out.c.1, HTL.out.c.2.1, HTL.out.bel⟩
   case h15n18 =>
    intro K hK
    go_simp
    obtain ⟨b3, hb3⟩ : ∃ b3, W1.heap.size = b3 := ⟨_, rfl⟩
    obtain ⟨W2, hW2⟩ : ∃ W2, W1.alloc (.cells #[.int .u64 0, .int .u64 0] 64) = W2 := ⟨_, rfl⟩
    have nb3 : Bx W2 b3 (.int .u64 0) (.int .u64 0) := by rw [← hW2, ← hb3]; exact Bx.new W1 _ _ _
    have bW2 : Below W1.heap.size W1 W2 := by rw [← hW2]; exact (Below.refl _ _).alloc (Nat.le_refl _) _
    try rw [hb3]
    try rw [hW2]
    have BW2 : Below w6.heap.size w6 W2 := BW1.trans (bW2.mono BW1.size)
    have gb3 : w6.heap.size ≤ b3 := by rw [← hb3]; exact BW1.size
    have db1b3 : b1 ≠ b3 := Nat.ne_of_lt (by rw [← hb3]; exact nb1.lt)
    have nb1 := nb1.below bW2
    refine hK.out _ _ (fun _ => HSB.out _ BW2) (fun _ => ?_)
    clear hK K hW2 hb3
    refine last_few (i := 8) (l := [14]) (by kernel_rfl) (List.forall_mem_cons.2 ⟨⟨_, rfl, ?h8n33⟩, List.forall_mem_cons.2 ⟨⟨_, rfl, ?h14n33⟩, List.forall_mem_nil _⟩⟩)
    case h8n33 =>
     intro K hK
     go_simp
     go_at_call 23
     refine (HCP.out _ BW2).mono ?_
     rintro e W3 ⟨rfl, bW3⟩
     have BW3 : Below w6.heap.size w6 W3 := BW2.trans (bW3.mono BW2.size)
     have nb1 := nb1.below bW3
     have nb3 := nb3.below bW3
     have HSW3 := HSB.out _ BW3
     go_simp
     refine hK.out _ _ (fun _ => HSW3) (fun _ => ?_)
     clear hK K
     refine last_take (i := 9) (v := ?v9k34) rfl (by kernel_rfl) (by kernel_rfl) (by kernel_rfl) (by kernel_rfl) rfl (fun _ _ _ h => h) (by rfl) HSW3 ?hy9k34 ?rest9k34
     case hy9k34 =>
      intro xx hSx
      go_simp
      try (with_reducible rfl)
     simp only [Act.put, List.setIfInBounds_toArray, List.set_cons_zero, List.set_cons_succ]
     refine last_take (i := 10) (v := ?v10k35) rfl (by kernel_rfl) (by kernel_rfl) (by kernel_rfl) (by kernel_rfl) rfl (fun _ _ _ h => h) (by rfl) HSW3 ?hy10k35 ?rest10k35
     case hy10k35 =>
      intro xx hSx
      go_simp
      try (with_reducible rfl)
     simp only [Act.put, List.setIfInBounds_toArray, List.set_cons_zero, List.set_cons_succ]
     refine last_take (i := 11) (v := ?v11k36) rfl (by kernel_rfl) (by kernel_rfl) (by kernel_rfl) (by kernel_rfl) rfl (fun _ _ _ h => h) (by rfl) HSW3 ?hy11k36 ?rest11k36
     case hy11k36 =>
      intro xx hSx
      go_simp
      try (with_reducible rfl)
     simp only [Act.put, List.setIfInBounds_toArray, List.set_cons_zero, List.set_cons_succ]
     refine last_take (i := 12) (v := ?v12k37) rfl (by kernel_rfl) (by kernel_rfl) (by kernel_rfl) (by kernel_rfl) rfl (fun _ _ _ h => h) (by rfl) HSW3 ?hy12k37 ?rest12k37
     case hy12k37 =>
      intro xx hSx
      go_simp
      try (with_reducible rfl)
     simp only [Act.put, List.setIfInBounds_toArray, List.set_cons_zero, List.set_cons_succ]
     refine last_one (i := 14) (by kernel_rfl) rfl ?_
     intro K hK
     go_simp
     obtain ⟨b2, hb2⟩ : ∃ b2, W3.heap.size = b2 := ⟨_, rfl⟩
     obtain ⟨W4, hW4⟩ : ∃ W4, W3.alloc (.cells #[.int .u64 0, .int .u64 0] 64) = W4 := ⟨_, rfl⟩
     have nb2 : Bx W4 b2 (.int .u64 0) (.int .u64 0) := by rw [← hW4, ← hb2]; exact Bx.new W3 _ _ _
     have bW4 : Below W3.heap.size W3 W4 := by rw [← hW4]; exact (Below.refl _ _).alloc (Nat.le_refl _) _
     try rw [hb2]
     try rw [hW4]
     have BW4 : Below w6.heap.size w6 W4 := BW3.trans (bW4.mono BW3.size)
     have gb2 : w6.heap.size ≤ b2 := by rw [← hb2]; exact BW3.size
     have db1b2 : b1 ≠ b2 := Nat.ne_of_lt (by rw [← hb2]; exact nb1.lt)
     have db2b3 : b2 ≠ b3 := Ne.symm (Nat.ne_of_lt (by rw [← hb2]; exact nb3.lt))
     have nb1 := nb1.below bW4
     have nb3 := nb3.below bW4
     refine hK.out _ _ (fun _ => HSB.out _ BW4) (fun _ => ?_)
     clear hK K hW4 hb2
     have htl := (⟨nb1, nb2, nb3, db1b2, db1b3, db2b3, gb1, gb2, gb3, BW4⟩ : Lf w6.heap.size w6 b1 b2 b3 _ _ _ _ _ _ W4)
     clear nb1 nb2 nb3 db1b2 db1b3 db2b3 gb1 gb2 gb3 BW4
     refine last_one (i := 16) (by kernel_rfl) rfl ?_
     intro K hK
     have x0 := htl.a.1
     have x1 := htl.a.2.1
     have x2 := htl.a.2.2.1
     have x3 := htl.a.2.2.2
     go_simp
     obtain ⟨W5, hW5⟩ : ∃ W5, (W4.setCell ⟨b1, 0, none⟩ (.int .u64 (hiW PL))).setCell ⟨b1, 1, none⟩ (.int .u64 (loW PL)) = W5 := ⟨_, rfl⟩
     have htl := htl.set1 (.int .u64 (hiW PL)) (.int .u64 (loW PL))
     rw [hW5] at htl
     try rw [hW5]
     refine hK.out _ _ (fun _ => HSB.out _ htl.bel) (fun _ => ?_)
     clear hK K x0 x1 x2 x3 hW5
     refine last_one (i := 17) (by kernel_rfl) rfl ?_
     intro K hK
     have x0 := htl.b.1
     have x1 := htl.b.2.1
     have x2 := htl.b.2.2.1
     have x3 := htl.b.2.2.2
     go_simp
     obtain ⟨W6, hW6⟩ : ∃ W6, (W5.setCell ⟨b2, 0, none⟩ (.int .u64 (hiW PH))).setCell ⟨b2, 1, none⟩ (.int .u64 (loW PH)) = W6 := ⟨_, rfl⟩
     have htl := htl.set2 (.int .u64 (hiW PH)) (.int .u64 (loW PH))
     rw [hW6] at htl
     try rw [hW6]
     refine hK.out _ _ (fun _ => HSB.out _ htl.bel) (fun _ => ?_)
     clear hK K x0 x1 x2 x3 hW6
     refine last_one (i := 18) (by kernel_rfl) rfl ?_
     intro K hK
     have x0 := htl.c.1
     have x1 := htl.c.2.1
     have x2 := htl.c.2.2.1
     have x3 := htl.c.2.2.2
     go_simp
     obtain ⟨W7, hW7⟩ : ∃ W7, (W6.setCell ⟨b3, 0, none⟩ (.int .u64 (hiW PD))).setCell ⟨b3, 1, none⟩ (.int .u64 (loW PD)) = W7 := ⟨_, rfl⟩
     have htl := htl.set3 (.int .u64 (hiW PD)) (.int .u64 (loW PD))
     rw [hW7] at htl
     try rw [hW7]
     refine hK.out _ _ (fun h => absurd rfl h) (fun _ => ?_)
     clear hK K x0 x1 x2 x3 hW7
     refine last_done (by kernel_rfl) ?_ _
     have HTL : Hid _ := htl
     clear htl HSB HCP
     go_wp2
     go_meet
     exact ⟨b1, b2, b3, rfl, rfl, rfl, HTL.out.a.1, HTL.out.a.2.1, HTL.out.b.1, HTL.out.b.2.1, HTL.out.c.1, HTL.out.c.2.1, HTL.out.bel⟩
    case h14n33 =>
     intro K hK
     go_simp
     obtain ⟨b2, hb2⟩ : ∃ b2, W2.heap.size = b2 := ⟨_, rfl⟩
     obtain ⟨W3, hW3⟩ : ∃ W3, W2.alloc (.cells #[.int .u64 0, .int .u64 0] 64) = W3 := ⟨_, rfl⟩
     have nb2 : Bx W3 b2 (.int .u64 0) (.int .u64 0) := by rw [← hW3, ← hb2]; exact Bx.new W2 _ _ _
     have bW3 : Below W2.heap.size W2 W3 := by rw [← hW3]; exact (Below.refl _ _).alloc (Nat.le_refl _) _
     try rw [hb2]
     try rw [hW3]
     have BW3 : Below w6.heap.size w6 W3 := BW2.trans (bW3.mono BW2.size)
     have gb2 : w6.heap.size ≤ b2 := by rw [← hb2]; exact BW2.size
     have db1b2 : b1 ≠ b2 := Nat.ne_of_lt (by rw [← hb2]; exact nb1.lt)
     have db2b3 : b2 ≠ b3 := Ne.symm (Nat.ne_of_lt (by rw [← hb2]; exact nb3.lt))
     have nb1 := nb1.below bW3
     have nb3 := nb3.below bW3
     refine hK.out _ _ (fun _ => HSB.out _ BW3) (fun _ => ?_)
     clear hK K hW3 hb2
     refine last_one (i := 8) (by kernel_rfl) rfl ?_
     intro K hK
     go_simp
     go_at_call 23
     refine (HCP.out _ BW3).mono ?_
     rintro e W4 ⟨rfl, bW4⟩
     have BW4 : Below w6.heap.size w6 W4 := BW3.trans (bW4.mono BW3.size)
     have nb1 := nb1.below bW4
     have nb3 := nb3.below bW4
     have nb2 := nb2.below bW4
     have HSW4 := HSB.out _ BW4
     go_simp
     refine hK.out _ _ (fun _ => HSW4) (fun _ => ?_)
     clear hK K
     refine last_take (i := 9) (v := ?v9k38) rfl (by kernel_rfl) (by kernel_rfl) (by kernel_rfl) (by kernel_rfl) rfl (fun _ _ _ h => h) (by rfl) HSW4 ?hy9k38 ?rest9k38
     case hy9k38 =>
      intro xx hSx
      go_simp
      try (with_reducible rfl)
     simp only [Act.put, List.setIfInBounds_toArray, List.set_cons_zero, List.set_cons_succ]
     refine last_take (i := 10) (v := ?v10k39) rfl (by kernel_rfl) (by kernel_rfl) (by kernel_rfl) (by kernel_rfl) rfl (fun _ _ _ h => h) (by rfl) HSW4 ?hy10k39 ?rest10k39
     case hy10k39 =>
      intro xx hSx
      go_simp
      try (with_reducible rfl)
     simp only [Act.put, List.setIfInBounds_toArray, List.set_cons_zero, List.set_cons_succ]
     refine last_take (i := 11) (v := ?v11k40) rfl (by kernel_rfl) (by kernel_rfl) (by kernel_rfl) (by kernel_rfl) rfl (fun _ _ _ h => h) (by rfl) HSW4 ?hy11k40 ?rest11k40
     case hy11k40 =>
      intro xx hSx
      go_simp
      try (with_reducible rfl)
     simp only [Act.put, List.setIfInBounds_toArray, List.set_cons_zero, List.set_cons_succ]
     refine last_take (i := 12) (v := ?v12k41) rfl (by kernel_rfl) (by kernel_rfl) (by kernel_rfl) (by kernel_rfl) rfl (fun _ _ _ h => h) (by rfl) HSW4 ?hy12k41 ?rest12k41
     case hy12k41 =>
      intro xx hSx
      go_simp
      try (with_reducible rfl)
     simp only [Act.put, List.setIfInBounds_toArray, List.set_cons_zero, List.set_cons_succ]
     have htl := (⟨nb1, nb2, nb3, db1b2, db1b3, db2b3, gb1, gb2, gb3, BW4⟩ : Lf w6.heap.size w6 b1 b2 b3 _ _ _ _ _ _ W4)
     clear nb1 nb2 nb3 db1b2 db1b3 db2b3 gb1 gb2 gb3 BW4
     refine last_one (i := 16) (by kernel_rfl) rfl ?_
     intro K hK
     have x0 := htl.a.1
     have x1 := htl.a.2.1
     have x2 := htl.a.2.2.1
     have x3 := htl.a.2.2.2
     go_simp
     obtain ⟨W5, hW5⟩ : ∃ W5, (W4.setCell ⟨b1, 0, none⟩ (.int .u64 (hiW PL))).setCell ⟨b1, 1, none⟩ (.int .u64 (loW PL)) = W5 := ⟨_, rfl⟩
     have htl := htl.set1 (.int .u64 (hiW PL)) (.int .u64 (loW PL))
     rw [hW5] at htl
     try rw [hW5]
     refine hK.out _ _ (fun _ => HSB.out _ htl.bel) (fun _ => ?_)
     clear hK K x0 x1 x2 x3 hW5
     refine last_one (i := 17) (by kernel_rfl) rfl ?_
     intro K hK
     have x0 := htl.b.1
     have x1 := htl.b.2.1
     have x2 := htl.b.2.2.1
     have x3 := htl.b.2.2.2
     go_simp
     obtain ⟨W6, hW6⟩ : ∃ W6, (W5.setCell ⟨b2, 0, none⟩ (.int .u64 (hiW PH))).setCell ⟨b2, 1, none⟩ (.int .u64 (loW PH)) = W6 := ⟨_, rfl⟩
     have htl := htl.set2 (.int .u64 (hiW PH)) (.int .u64 (loW PH))
     rw [hW6] at htl
     try rw [hW6]
     refine hK.out _ _ (fun _ => HSB.out _ htl.bel) (fun _ => ?_)
     clear hK K x0 x1 x2 x3 hW6
     refine last_one (i := 18) (by kernel_rfl) rfl ?_
     intro K hK
     have x0 := htl.c.1
     have x1 := htl.c.2.1
     have x2 := htl.c.2.2.1
     have x3 := htl.c.2.2.2
     go_simp
     obtain ⟨W7, hW7⟩ : ∃ W7, (W6.setCell ⟨b3, 0, none⟩ (.int .u64 (hiW PD))).setCell ⟨b3, 1, none⟩ (.int .u64 (loW PD)) = W7 := ⟨_, rfl⟩
     have htl := htl.set3 (.int .u64 (hiW PD)) (.int .u64 (loW PD))
     rw [hW7] at htl
     try rw [hW7]
     refine hK.out _ _ (fun h => absurd rfl h) (fun _ => ?_)
     clear hK K x0 x1 x2 x3 hW7
     refine last_done (by kernel_rfl) ?_ _
     have HTL : Hid _ := htl
     clear htl HSB HCP
     go_wp2
     go_meet
     exact ⟨b1, b2, b3, rfl, rfl, rfl, HTL.out.a.1, HTL.out.a.2.1, HTL.out.b.1, HTL.out.b.2.1, HTL.out.c.1, HTL.out.c.2.1, HTL.out.bel⟩
  case h14n9 =>
   intro K hK
   go_simp
   obtain ⟨b2, hb2⟩ : ∃ b2, W0.heap.size = b2 := ⟨_, rfl⟩
   obtain ⟨W1, hW1⟩ : ∃ W1, W0.alloc (.cells #[.int .u64 0, .int .u64 0] 64) = W1 := ⟨_, rfl⟩
   have nb2 : Bx W1 b2 (.int .u64 0) (.int .u64 0) := by rw [← hW1, ← hb2]; exact Bx.new W0 _ _ _
   have bW1 : Below W0.heap.size W0 W1 := by rw [← hW1]; exact (Below.refl _ _).alloc (Nat.le_refl _) _
   try rw [hb2]
   try rw [hW1]
   have BW1 : Below w6.heap.size w6 W1 := BW0.trans (bW1.mono BW0.size)
   have gb2 : w6.heap.size ≤ b2 := by rw [← hb2]; exact BW0.size
   refine hK.out _ _ (fun _ => HSB.out _ BW1) (fun _ => ?_)
   clear hK K hW1 hb2
   refine last_few (i := 8) (l := [13, 15]) (by kernel_rfl) (List.forall_mem_cons.2 ⟨⟨_, rfl, ?h8n42⟩, List.forall_mem_cons.2 ⟨⟨_, rfl, ?h13n42⟩, List.forall_mem_cons.2 ⟨⟨_, rfl, ?h15n42⟩, List.forall_mem_nil _⟩⟩⟩)
   case h8n42 =>
    intro K hK
    go_simp
    go_at_call 23
    refine (HCP.out _ BW1).mono ?_
    rintro e W2 ⟨rfl, bW2⟩
    have BW2 : Below w6.heap.size w6 W2 := BW1.trans (bW2.mono BW1.size)
    have nb2 := nb2.below bW2
    have HSW2 := HSB.out _ BW2
    go_simp
    refine hK.out _ _ (fun _ => HSW2) (fun _ => ?_)
    clear hK K
    refine last_take (i := 9) (v := ?v9k43) rfl (by kernel_rfl) (by kernel_rfl) (by kernel_rfl) (by kernel_rfl) rfl (fun _ _ _ h => h) (by rfl) HSW2 ?hy9k43 ?rest9k43
    case hy9k43 =>
     intro xx hSx
     go_simp
     try (with_reducible rfl)
    simp only [Act.put, List.setIfInBounds_toArray, List.set_cons_zero, List.set_cons_succ]
    refine last_take (i := 10) (v := ?v10k44) rfl (by kernel_rfl) (by kernel_rfl) (by kernel_rfl) (by kernel_rfl) rfl (fun _ _ _ h => h) (by rfl) HSW2 ?hy10k44 ?rest10k44
    case hy10k44 =>
     intro xx hSx
     go_simp
     try (with_reducible rfl)
    simp only [Act.put, List.setIfInBounds_toArray, List.set_cons_zero, List.set_cons_succ]
    refine last_take (i := 11) (v := ?v11k45) rfl (by kernel_rfl) (by kernel_rfl) (by kernel_rfl) (by kernel_rfl) rfl (fun _ _ _ h => h) (by rfl) HSW2 ?hy11k45 ?rest11k45
    case hy11k45 =>
     intro xx hSx
     go_simp
     try (with_reducible rfl)
    simp only [Act.put, List.setIfInBounds_toArray, List.set_cons_zero, List.set_cons_succ]
    refine last_take (i := 12) (v := ?v12k46) rfl (by kernel_rfl) (by kernel_rfl) (by kernel_rfl) (by kernel_rfl) rfl (fun _ _ _ h => h) (by rfl) HSW2 ?hy12k46 ?rest12k46
    case hy12k46 =>
     intro xx hSx
     go_simp
     try (with_reducible rfl)
    simp only [Act.put, List.setIfInBounds_toArray, List.set_cons_zero, List.set_cons_succ]
    refine last_few (i := 13) (l := [15]) (by kernel_rfl) (List.forall_mem_cons.2 ⟨⟨_, rfl, ?h13n47⟩, List.forall_mem_cons.2 ⟨⟨_, rfl, ?h15n47⟩, List.forall_mem_nil _⟩⟩)
    case h13n47 =>
     intro K hK
     go_simp
     obtain ⟨b1, hb1⟩ : ∃ b1, W2.heap.size = b1 := ⟨_, rfl⟩
     obtain ⟨W3, hW3⟩ : ∃ W3, W2.alloc (.cells #[.int .u64 0, .int .u64 0] 64) = W3 := ⟨_, rfl⟩
     have nb1 : Bx W3 b1 (.int .u64 0) (.int .u64 0) := by rw [← hW3, ← hb1]; exact Bx.new W2 _ _ _
     have bW3 : Below W2.heap.size W2 W3 := by rw [← hW3]; exact (Below.refl _ _).alloc (Nat.le_refl _) _
     try rw [hb1]
     try rw [hW3]
     have BW3 : Below w6.heap.size w6 W3 := BW2.trans (bW3.mono BW2.size)
     have gb1 : w6.heap.size ≤ b1 := by rw [← hb1]; exact BW2.size
     have db1b2 : b1 ≠ b2 := Ne.symm (Nat.ne_of_lt (by rw [← hb1]; exact nb2.lt))
     have nb2 := nb2.below bW3
     refine hK.out _ _ (fun _ => HSB.out _ BW3) (fun _ => ?_)
     clear hK K hW3 hb1
     refine last_one (i := 15) (by kernel_rfl) rfl ?_
     intro K hK
     go_simp
     obtain ⟨b3, hb3⟩ : ∃ b3, W3.heap.size = b3 := ⟨_, rfl⟩
     obtain ⟨W4, hW4⟩ : ∃ W4, W3.alloc (.cells #[.int .u64 0, .int .u64 0] 64) = W4 := ⟨_, rfl⟩
     have nb3 : Bx W4 b3 (.int .u64 0) (.int .u64 0) := by rw [← hW4, ← hb3]; exact Bx.new W3 _ _ _
     have bW4 : Below W3.heap.size W3 W4 := by rw [← hW4]; exact (Below.refl _ _).alloc (Nat.le_refl _) _
     try rw [hb3]
     try rw [hW4]
     have BW4 : Below w6.heap.size w6 W4 := BW3.trans (bW4.mono BW3.size)
     have gb3 : w6.heap.size ≤ b3 := by rw [← hb3]; exact BW3.size
     have db2b3 : b2 ≠ b3 := Nat.ne_of_lt (by rw [← hb3]; exact nb2.lt)
     have db1b3 : b1 ≠ b3 := Nat.ne_of_lt (by rw [← hb3]; exact nb1.lt)
     have nb2 := nb2.below bW4
     have nb1 := nb1.below bW4
     refine hK.out _ _ (fun _ => HSB.out _ BW4) (fun _ => ?_)
     clear hK K hW4 hb3
     have htl := (⟨nb1, nb2, nb3, db1b2, db1b3, db2b3, gb1, gb2, gb3, BW4⟩ : Lf w6.heap.size w6 b1 b2 b3 _ _ _ _ _ _ W4)
     clear nb1 nb2 nb3 db1b2 db1b3 db2b3 gb1 gb2 gb3 BW4
     refine last_one (i := 16) (by kernel_rfl) rfl ?_
     intro K hK
     have x0 := htl.a.1
     have x1 := htl.a.2.1
     have x2 := htl.a.2.2.1
     have x3 := htl.a.2.2.2
     go_simp
     obtain ⟨W5, hW5⟩ : ∃ W5, (W4.setCell ⟨b1, 0, none⟩ (.int .u64 (hiW PL))).setCell ⟨b1, 1, none⟩ (.int .u64 (loW PL)) = W5 := ⟨_, rfl⟩
     have htl := htl.set1 (.int .u64 (hiW PL)) (.int .u64 (loW PL))
     rw [hW5] at htl
     try rw [hW5]
     refine hK.out _ _ (fun _ => HSB.out _ htl.bel) (fun _ => ?_)
     clear hK K x0 x1 x2 x3 hW5
     refine last_one (i := 17) (by kernel_rfl) rfl ?_
     intro K hK
     have x0 := htl.b.1
     have x1 := htl.b.2.1
     have x2 := htl.b.2.2.1
     have x3 := htl.b.2.2.2
     go_simp
     obtain ⟨W6, hW6⟩ : ∃ W6, (W5.setCell ⟨b2, 0, none⟩ (.int .u64 (hiW PH))).setCell ⟨b2, 1, none⟩ (.int .u64 (loW PH)) = W6 := ⟨_, rfl⟩
     have htl := htl.set2 (.int .u64 (hiW PH)) (.int .u64 (loW PH))
     rw [hW6] at htl
     try rw [hW6]
     refine hK.out _ _ (fun _ => HSB.out _ htl.bel) (fun _ => ?_)
     clear hK K x0 x1 x2 x3 hW6
     refine last_one (i := 18) (by kernel_rfl) rfl ?_
     intro K hK
     have x0 := htl.c.1
     have x1 := htl.c.2.1
     have x2 := htl.c.2.2.1
     have x3 := htl.c.2.2.2
     go_simp
     obtain ⟨W7, hW7⟩ : ∃ W7, (W6.setCell ⟨b3, 0, none⟩ (.int .u64 (hiW PD))).setCell ⟨b3, 1, none⟩ (.int .u64 (loW PD)) = W7 := ⟨_, rfl⟩
     have htl := htl.set3 (.int .u64 (hiW PD)) (.int .u64 (loW PD))
     rw [hW7] at htl
     try rw [hW7]
     refine hK.out _ _ (fun h => absurd rfl h) (fun _ => ?_)
     clear hK K x0 x1 x2 x3 hW7
     refine last_done (by kernel_rfl) ?_ _
     have HTL : Hid _ := htl
     clear htl HSB HCP
     go_wp2
     go_meet
     exact ⟨b1, b2, b3, rfl, rfl, rfl, HTL.out.a.1, HTL.out.a.2.1, HTL.out.b.1, HTL.out.b.2.1, HTL.out.c.1, HTL.out.c.2.1, HTL.out.bel⟩
    case h15n47 =>
     intro K hK
     go_simp
     obtain ⟨b3, hb3⟩ : ∃ b3, W2.heap.size = b3 := ⟨_, rfl⟩
     obtain ⟨W3, hW3⟩ : ∃ W3, W2.alloc (.cells #[.int .u64 0, .int .u64 0] 64) = W3 := ⟨_, rfl⟩
     have nb3 : Bx W3 b3 (.int .u64 0) (.int .u64 0) := by rw [← hW3, ← hb3]; exact Bx.new W2 _ _ _
     have bW3 : Below W2.heap.size W2 W3 := by rw [← hW3]; exact (Below.refl _ _).alloc (Nat.le_refl _) _
     try rw [hb3]
     try rw [hW3]
     have BW3 : Below w6.heap.size w6 W3 := BW2.trans (bW3.mono BW2.size)
     have gb3 : w6.heap.size ≤ b3 := by rw [← hb3]; exact BW2.size
     have db2b3 : b2 ≠ b3 := Nat.ne_of_lt (by rw [← hb3]; exact nb2.lt)
     have nb2 := nb2.below bW3
     refine hK.out _ _ (fun _ => HSB.out _ BW3) (fun _ => ?_)
     clear hK K hW3 hb3
     refine last_one (i := 13) (by kernel_rfl) rfl ?_
     intro K hK
     go_simp
     obtain ⟨b1, hb1⟩ : ∃ b1, W3.heap.size = b1 := ⟨_, rfl⟩
     obtain ⟨W4, hW4⟩ : ∃ W4, W3.alloc (.cells #[.int .u64 0, .int .u64 0] 64) = W4 := ⟨_, rfl⟩
     have nb1 : Bx W4 b1 (.int .u64 0) (.int .u64 0) := by rw [← hW4, ← hb1]; exact Bx.new W3 _ _ _
     have bW4 : Below W3.heap.size W3 W4 := by rw [← hW4]; exact (Below.refl _ _).alloc (Nat.le_refl _) _
     try rw [hb1]
     try rw [hW4]
     have BW4 : Below w6.heap.size w6 W4 := BW3.trans (bW4.mono BW3.size)
     have gb1 : w6.heap.size ≤ b1 := by rw [← hb1]; exact BW3.size
     have db1b2 : b1 ≠ b2 := Ne.symm (Nat.ne_of_lt (by rw [← hb1]; exact nb2.lt))
     have db1b3 : b1 ≠ b3 := Ne.symm (Nat.ne_of_lt (by rw [← hb1]; exact nb3.lt))
     have nb2 := nb2.below bW4
     have nb3 := nb3.below bW4
     refine hK.out _ _ (fun _ => HSB.out _ BW4) (fun _ => ?_)
     clear hK K hW4 hb1
     have htl := (⟨nb1, nb2, nb3, db1b2, db1b3, db2b3, gb1, gb2, gb3, BW4⟩ : Lf w6.heap.size w6 b1 b2 b3 _ _ _ _ _ _ W4)
     clear nb1 nb2 nb3 db1b2 db1b3 db2b3 gb1 gb2 gb3 BW4
     refine last_one (i := 16) (by kernel_rfl) rfl ?_
     intro K hK
     have x0 := htl.a.1
     have x1 := htl.a.2.1
     have x2 := htl.a.2.2.1
     have x3 := htl.a.2.2.2
     go_simp
     obtain ⟨W5, hW5⟩ : ∃ W5, (W4.setCell ⟨b1, 0, none⟩ (.int .u64 (hiW PL))).setCell ⟨b1, 1, none⟩ (.int .u64 (loW PL)) = W5 := ⟨_, rfl⟩
     have htl := htl.set1 (.int .u64 (hiW PL)) (.int .u64 (loW PL))
     rw [hW5] at htl
     try rw [hW5]
     refine hK.out _ _ (fun _ => HSB.out _ htl.bel) (fun _ => ?_)
     clear hK K x0 x1 x2 x3 hW5
     refine last_one (i := 17) (by kernel_rfl) rfl ?_
     intro K hK
     have x0 := htl.b.1
     have x1 := htl.b.2.1
     have x2 := htl.b.2.2.1
     have x3 := htl.b.2.2.2
     go_simp
     obtain ⟨W6, hW6⟩ : ∃ W6, (W5.setCell ⟨b2, 0, none⟩ (.int .u64 (hiW PH))).setCell ⟨b2, 1, none⟩ (.int .u64 (loW PH)) = W6 := ⟨_, rfl⟩
     have htl := htl.set2 (.int .u64 (hiW PH)) (.int .u64 (loW PH))
     rw [hW6] at htl
     try rw [hW6]
     refine hK.out _ _ (fun _ => HSB.out _ htl.bel) (fun _ => ?_)
     clear hK K x0 x1 x2 x3 hW6
     refine last_one (i := 18) (by kernel_rfl) rfl ?_
     intro K hK
     have x0 := htl.c.1
     have x1 := htl.c.2.1
     have x2 := htl.c.2.2.1
     have x3 := htl.c.2.2.2
     go_simp
     obtain ⟨W7, hW7⟩ : ∃ W7, (W6.setCell ⟨b3, 0, none⟩ (.int .u64 (hiW PD))).setCell ⟨b3, 1, none⟩ (.int .u64 (loW PD)) = W7 := ⟨_, rfl⟩
     have htl := htl.set3 (.int .u64 (hiW PD)) (.int .u64 (loW PD))
     rw [hW7] at htl
     try rw [hW7]
     refine hK.out _ _ (fun h => absurd rfl h) (fun _ => ?_)
     clear hK K x0 x1 x2 x3 hW7
     refine last_done (by kernel_rfl) ?_ _
     have HTL : Hid _ := htl
     clear htl HSB HCP
     go_wp2
     go_meet
     exact ⟨b1, b2, b3, rfl, rfl, rfl, HTL.out.a.1, HTL.out.a.2.1, HTL.out.b.1, HTL.out.b.2.1, HTL.out.c.1, HTL.out.c.2.1, HTL.out.bel⟩
   case h13n42 =>
    intro K hK
    go_simp
    obtain ⟨b1, hb1⟩ : ∃ b1, W1.heap.size = b1 := ⟨_, rfl⟩
    obtain ⟨W2, hW2⟩ : ∃ W2, W1.alloc (.cells #[.int .u64 0, .int .u64 0] 64) = W2 := ⟨_, rfl⟩
    have nb1 : Bx W2 b1 (.int .u64 0) (.int .u64 0) := by rw [← hW2, ← hb1]; exact Bx.new W1 _ _ _
    have bW2 : Below W1.heap.size W1 W2 := by rw [← hW2]; exact (Below.refl _ _).alloc (Nat.le_refl _) _
    try rw [hb1]
    try rw [hW2]
    have BW2 : Below w6.heap.size w6 W2 := BW1.trans (bW2.mono BW1.size)
    have gb1 : w6.heap.size ≤ b1 := by rw [← hb1]; exact BW1.size
    have db1b2 : b1 ≠ b2 := Ne.symm (Nat.ne_of_lt (by rw [← hb1]; exact nb2.lt))
    have nb2 := nb2.below bW2
    refine hK.out _ _ (fun _ => HSB.out _ BW2) (fun _ => ?_)
    clear hK K hW2 hb1
    refine last_few (i := 8) (l := [15]) (by kernel_rfl) (List.forall_mem_cons.2 ⟨⟨_, rfl, ?h8n48⟩, List.forall_mem_cons.2 ⟨⟨_, rfl, ?h15n48⟩, List.forall_mem_nil _⟩⟩)
    case h8n48 =>
     intro K hK
     go_simp
     go_at_call 23
     refine (HCP.out _ BW2).mono ?_
     rintro e W3 ⟨rfl, bW3⟩
     have BW3 : Below w6.heap.size w6 W3 := BW2.trans (bW3.mono BW2.size)
     have nb2 := nb2.below bW3
     have nb1 := nb1.below bW3
     have HSW3 := HSB.out _ BW3
     go_simp
     refine hK.out _ _ (fun _ => HSW3) (fun _ => ?_)
     clear hK K
     refine last_take (i := 9) (v := ?v9k49) rfl (by kernel_rfl) (by kernel_rfl) (by kernel_rfl) (by kernel_rfl) rfl (fun _ _ _ h => h) (by rfl) HSW3 ?hy9k49 ?rest9k49
     case hy9k49 =>
      intro xx hSx
      go_simp
      try (with_reducible rfl)
     simp only [Act.put, List.setIfInBounds_toArray, List.set_cons_zero, List.set_cons_succ]
     refine last_take (i := 10) (v := ?v10k50) rfl (by kernel_rfl) (by kernel_rfl) (by kernel_rfl) (by kernel_rfl) rfl (fun _ _ _ h => h) (by rfl) HSW3 ?hy10k50 ?rest10k50
     case hy10k50 =>
      intro xx hSx
      go_simp
      try (with_reducible rfl)
     simp only [Act.put, List.setIfInBounds_toArray, List.set_cons_zero, List.set_cons_succ]
     refine last_take (i := 11) (v := ?v11k51) rfl (by kernel_rfl) (by kernel_rfl) (by kernel_rfl) (by kernel_rfl) rfl (fun _ _ _ h => h) (by rfl) HSW3 ?hy11k51 ?rest11k51
     case hy11k51 =>
      intro xx hSx
      go_simp
      try (with_reducible rfl)
     simp only [Act.put, List.setIfInBounds_toArray, List.set_cons_zero, List.set_cons_succ]
     refine last_take (i := 12) (v := ?v12k52) rfl (by kernel_rfl) (by kernel_rfl) (by kernel_rfl) (by kernel_rfl) rfl (fun _ _ _ h => h) (by rfl) HSW3 ?hy12k52 ?rest12k52
     case hy12k52 =>
      intro xx hSx
      go_simp
      try (with_reducible rfl)
     simp only [Act.put, List.setIfInBounds_toArray, List.set_cons_zero, List.set_cons_succ]
     refine last_one (i := 15) (by kernel_rfl) rfl ?_
     intro K hK
     go_simp
     obtain ⟨b3, hb3⟩ : ∃ b3, W3.heap.size = b3 := ⟨_, rfl⟩
     obtain ⟨W4, hW4⟩ : ∃ W4, W3.alloc (.cells #[.int .u64 0, .int .u64 0] 64) = W4 := ⟨_, rfl⟩
     have nb3 : Bx W4 b3 (.int .u64 0) (.int .u64 0) := by rw [← hW4, ← hb3]; exact Bx.new W3 _ _ _
     have bW4 : Below W3.heap.size W3 W4 := by rw [← hW4]; exact (Below.refl _ _).alloc (Nat.le_refl _) _
     try rw [hb3]
     try rw [hW4]
     have BW4 : Below w6.heap.size w6 W4 := BW3.trans (bW4.mono BW3.size)
     have gb3 : w6.heap.size ≤ b3 := by rw [← hb3]; exact BW3.size
     have db2b3 : b2 ≠ b3 := Nat.ne_of_lt (by rw [← hb3]; exact nb2.lt)
     have db1b3 : b1 ≠ b3 := Nat.ne_of_lt (by rw [← hb3]; exact nb1.lt)
     have nb2 := nb2.below bW4
     have nb1 := nb1.below bW4
     refine hK.out _ _ (fun _ => HSB.out _ BW4) (fun _ => ?_)
     clear hK K hW4 hb3
     have htl := (⟨nb1, nb2, nb3, db1b2, db1b3, db2b3, gb1, gb2, gb3, BW4⟩ : Lf w6.heap.size w6 b1 b2 b3 _ _ _ _ _ _ W4)
     clear nb1 nb2 nb3 db1b2 db1b3 db2b3 gb1 gb2 gb3 BW4
     refine last_one (i := 16) (by kernel_rfl) rfl ?_
     intro K hK
     have x0 := htl.a.1
     have x1 := htl.a.2.1
     have x2 := htl.a.2.2.1
     have x3 := htl.a.2.2.2
     go_simp
     obtain ⟨W5, hW5⟩ : ∃ W5, (W4.setCell ⟨b1, 0, none⟩ (.int .u64 (hiW PL))).setCell ⟨b1, 1, none⟩ (.int .u64 (loW PL)) = W5 := ⟨_, rfl⟩
     have htl := htl.set1 (.int .u64 (hiW PL)) (.int .u64 (loW PL))
     rw [hW5] at htl
     try rw [hW5]
     refine hK.out _ _ (fun _ => HSB.out _ htl.bel) (fun _ => ?_)
     clear hK K x0 x1 x2 x3 hW5
     refine last_one (i := 17) (by kernel_rfl) rfl ?_
     intro K hK
     have x0 := htl.b.1
     have x1 := htl.b.2.1
     have x2 := htl.b.2.2.1
     have x3 := htl.b.2.2.2
     go_simp
     obtain ⟨W6, hW6⟩ : ∃ W6, (W5.setCell ⟨b2, 0, none⟩ (.int .u64 (hiW PH))).setCell ⟨b2, 1, none⟩ (.int .u64 (loW PH)) = W6 := ⟨_, rfl⟩
     have htl := htl.set2 (.int .u64 (hiW PH)) (.int .u64 (loW PH))
     rw [hW6] at htl
     try rw [hW6]
     refine hK.out _ _ (fun _ => HSB.out _ htl.bel) (fun _ => ?_)
     clear hK K x0 x1 x2 x3 hW6
     refine last_one (i := 18) (by kernel_rfl) rfl ?_
     intro K hK
     have x0 := htl.c.1
     have x1 := htl.c.2.1
     have x2 := htl.c.2.2.1
     have x3 := htl.c.2.2.2
     go_simp
     obtain ⟨W7, hW7⟩ : ∃ W7, (W6.setCell ⟨b3, 0, none⟩ (.int .u64 (hiW PD))).setCell ⟨b3, 1, none⟩ (.int .u64 (loW PD)) = W7 := ⟨_, rfl⟩
     have htl := htl.set3 (.int .u64 (hiW PD)) (.int .u64 (loW PD))
     rw [hW7] at htl
     try rw [hW7]
     refine hK.out _ _ (fun h => absurd rfl h) (fun _ => ?_)
     clear hK K x0 x1 x2 x3 hW7
     refine last_done (by kernel_rfl) ?_ _
     have HTL : Hid _ := htl
     clear htl HSB HCP
     go_wp2
     go_meet
     exact ⟨b1, b2, b3, rfl, rfl, rfl, HTL.out.a.1, HTL.out.a.2.1, HTL.out.b.1, HTL.out.b.2.1, HTL.out.c.1, HTL.out.c.2.1, HTL.out.bel⟩
    case h15n48 =>
     intro K hK
     go_simp
     obtain ⟨b3, hb3⟩ : ∃ b3, W2.heap.size = b3 := ⟨_, rfl⟩
     obtain ⟨W3, hW3⟩ : ∃ W3, W2.alloc (.cells #[.int .u64 0, .int .u64 0] 64) = W3 := ⟨_, rfl⟩
     have nb3 : Bx W3 b3 (.int .u64 0) (.int .u64 0) := by rw [← hW3, ← hb3]; exact Bx.new W2 _ _ _
     have bW3 : Below W2.heap.size W2 W3 := by rw [← hW3]; exact (Below.refl _ _).alloc (Nat.le_refl _) _
     try rw [hb3]
     try rw [hW3]
     have BW3 : Below w6.heap.size w6 W3 := BW2.trans (bW3.mono BW2.size)
     have gb3 : w6.heap.size ≤ b3 := by rw [← hb3]; exact BW2.size
     have db2b3 : b2 ≠ b3 := Nat.ne_of_lt (by rw [← hb3]; exact nb2.lt)
     have db1b3 : b1 ≠ b3 := Nat.ne_of_lt (by rw [← hb3]; exact nb1.lt)
     have nb2 := nb2.below bW3
     have nb1 := nb1.below bW3
     refine hK.out _ _ (fun _ => HSB.out _ BW3) (fun _ => ?_)
     clear hK K hW3 hb3
     refine last_one (i := 8) (by kernel_rfl) rfl ?_
     intro K hK
     go_simp
     go_at_call 23
     refine (HCP.out _ BW3).mono ?_
     rintro e W4 ⟨rfl, bW4⟩
     have BW4 : Below w6.heap.size w6 W4 := BW3.trans (bW4.mono BW3.size)
     have nb2 := nb2.below bW4
     have nb1 := nb1.below bW4
     have nb3 := nb3.below bW4
     have HSW4 := HSB.out _ BW4
     go_simp
     refine hK.out _ _ (fun _ => HSW4) (fun _ => ?_)
     clear hK K
     refine last_take (i := 9) (v := ?v9k53) rfl (by kernel_rfl) (by kernel_rfl) (by kernel_rfl) (by kernel_rfl) rfl (fun _ _ _ h => h) (by rfl) HSW4 ?hy9k53 ?rest9k53
     case hy9k53 =>
      intro xx hSx
      go_simp
      try (with_reducible rfl)
     simp only [Act.put, List.setIfInBounds_toArray, List.set_cons_zero, List.set_cons_succ]
     refine last_take (i := 10) (v := ?v10k54) rfl (by kernel_rfl) (by kernel_rfl) (by kernel_rfl) (by kernel_rfl) rfl (fun _ _ _ h => h) (by rfl) HSW4 ?hy10k54 ?rest10k54
     case hy10k54 =>
      intro xx hSx
      go_simp
      try (with_reducible rfl)
     simp only [Act.put, List.setIfInBounds_toArray, List.set_cons_zero, List.set_cons_succ]
     refine last_take (i := 11) (v := ?v11k55) rfl (by kernel_rfl) (by kernel_rfl) (by kernel_rfl) (by kernel_rfl) rfl (fun _ _ _ h => h) (by rfl) HSW4 ?hy11k55 ?rest11k55
     case hy11k55 =>
      intro xx hSx
      go_simp
      try (with_reducible rfl)
     simp only [Act.put, List.setIfInBounds_toArray, List.set_cons_zero, List.set_cons_succ]
     refine last_take (i := 12) (v := ?v12k56) rfl (by kernel_rfl) (by kernel_rfl) (by kernel_rfl) (by kernel_rfl) rfl (fun _ _ _ h => h) (by rfl) HSW4 ?hy12k56 ?rest12k56
     case hy12k56 =>
      intro xx hSx
      go_simp
      try (with_reducible rfl)
     simp only [Act.put, List.setIfInBounds_toArray, List.set_cons_zero, List.set_cons_succ]
     have htl := (⟨nb1, nb2, nb3, db1b2, db1b3, db2b3, gb1, gb2, gb3, BW4⟩ : Lf w6.heap.size w6 b1 b2 b3 _ _ _ _ _ _ W4)
     clear nb1 nb2 nb3 db1b2 db1b3 db2b3 gb1 gb2 gb3 BW4
     refine last_one (i := 16) (by kernel_rfl) rfl ?_
     intro K hK
     have x0 := htl.a.1
     have x1 := htl.a.2.1
     have x2 := htl.a.2.2.1
     have x3 := htl.a.2.2.2
     go_simp
     obtain ⟨W5, hW5⟩ : ∃ W5, (W4.setCell ⟨b1, 0, none⟩ (.int .u64 (hiW PL))).setCell ⟨b1, 1, none⟩ (.int .u64 (loW PL)) = W5 := ⟨_, rfl⟩
     have htl := htl.set1 (.int .u64 (hiW PL)) (.int .u64 (loW PL))
     rw [hW5] at htl
     try rw [hW5]
     refine hK.out _ _ (fun _ => HSB.out _ htl.bel) (fun _ => ?_)
     clear hK K x0 x1 x2 x3 hW5
     refine last_one (i := 17) (by kernel_rfl) rfl ?_
     intro K hK
     have x0 := htl.b.1
     have x1 := htl.b.2.1
     have x2 := htl.b.2.2.1
     have x3 := htl.b.2.2.2
     go_simp
     obtain ⟨W6, hW6⟩ : ∃ W6, (W5.setCell ⟨b2, 0, none⟩ (.int .u64 (hiW PH))).setCell ⟨b2, 1, none⟩ (.int .u64 (loW PH)) = W6 := ⟨_, rfl⟩
     have htl := htl.set2 (.int .u64 (hiW PH)) (.int .u64 (loW PH))
     rw [hW6] at htl
     try rw [hW6]
     refine hK.out _ _ (fun _ => HSB.out _ htl.bel) (fun _ => ?_)
     clear hK K x0 x1 x2 x3 hW6
     refine last_one (i := 18) (by kernel_rfl) rfl ?_
     intro K hK
     have x0 := htl.c.1
     have x1 := htl.c.2.1
     have x2 := htl.c.2.2.1
     have x3 := htl.c.2.2.2
     go_simp
     obtain ⟨W7, hW7⟩ : ∃ W7, (W6.setCell ⟨b3, 0, none⟩ (.int .u64 (hiW PD))).setCell ⟨b3, 1, none⟩ (.int .u64 (loW PD)) = W7 := ⟨_, rfl⟩
     have htl := htl.set3 (.int .u64 (hiW PD)) (.int .u64 (loW PD))
     rw [hW7] at htl
     try rw [hW7]
     refine hK.out _ _ (fun h => absurd rfl h) (fun _ => ?_)
     clear hK K x0 x1 x2 x3 hW7
     refine last_done (by kernel_rfl) ?_ _
     have HTL : Hid _ := htl
     clear htl HSB HCP
     go_wp2
     go_meet
     exact ⟨b1, b2, b3, rfl, rfl, rfl, HTL.out.a.1, HTL.out.a.2.1, HTL.out.b.1, HTL.out.b.2.1, HTL.out.c.1, HTL.out.c.2.1, HTL.out.bel⟩
   case h15n42 =>
    intro K hK
    go_simp
    obtain ⟨b3, hb3⟩ : ∃ b3, W1.heap.size = b3 := ⟨_, rfl⟩
    obtain ⟨W2, hW2⟩ : ∃ W2, W1.alloc (.cells #[.int .u64 0, .int .u64 0] 64) = W2 := ⟨_, rfl⟩
    have nb3 : Bx W2 b3 (.int .u64 0) (.int .u64 0) := by rw [← hW2, ← hb3]; exact Bx.new W1 _ _ _
    have bW2 : Below W1.heap.size W1 W2 := by rw [← hW2]; exact (Below.refl _ _).alloc (Nat.le_refl _) _
    try rw [hb3]
    try rw [hW2]
    have BW2 : Below w6.heap.size w6 W2 := BW1.trans (bW2.mono BW1.size)
    have gb3 : w6.heap.size ≤ b3 := by rw [← hb3]; exact BW1.size
    have db2b3 : b2 ≠ b3 := Nat.ne_of_lt (by rw [← hb3]; exact nb2.lt)
    have nb2 := nb2.below bW2
    refine hK.out _ _ (fun _ => HSB.out _ BW2) (fun _ => ?_)
    clear hK K hW2 hb3
    refine last_few (i := 8) (l := [13]) (by kernel_rfl) (List.forall_mem_cons.2 ⟨⟨_, rfl, ?h8n57⟩, List.forall_mem_cons.2 ⟨⟨_, rfl, ?h13n57⟩, List.forall_mem_nil _⟩⟩)
    case h8n57 =>
     intro K hK
     go_simp
     go_at_call 23
     refine (HCP.out _ BW2).mono ?_
     rintro e W3 ⟨rfl, bW3⟩
     have BW3 : Below w6.heap.size w6 W3 := BW2.trans (bW3.mono BW2.size)
     have nb2 := nb2.below bW3
     have nb3 := nb3.below bW3
     have HSW3 := HSB.out _ BW3
     go_simp
     refine hK.out _ _ (fun _ => HSW3) (fun _ => ?_)
     clear hK K
     refine last_take (i := 9) (v := ?v9k58) rfl (by kernel_rfl) (by kernel_rfl) (by kernel_rfl) (by kernel_rfl) rfl (fun _ _ _ h => h) (by rfl) HSW3 ?hy9k58 ?rest9k58
     case hy9k58 =>
      intro xx hSx
      go_simp
      try (with_reducible rfl)
     simp only [Act.put, List.setIfInBounds_toArray, List.set_cons_zero, List.set_cons_succ]
     refine last_take (i := 10) (v := ?v10k59) rfl (by kernel_rfl) (by kernel_rfl) (by kernel_rfl) (by kernel_rfl) rfl (fun _ _ _ h => h) (by rfl) HSW3 ?hy10k59 ?rest10k59
     case hy10k59 =>
      intro xx hSx
      go_simp
      try (with_reducible rfl)
     simp only [Act.put, List.setIfInBounds_toArray, List.set_cons_zero, List.set_cons_succ]
     refine last_take (i := 11) (v := ?v11k60) rfl (by kernel_rfl) (by kernel_rfl) (by kernel_rfl) (by kernel_rfl) rfl (fun _ _ _ h => h) (by rfl) HSW3 ?hy11k60 ?rest11k60
     case hy11k60 =>
      intro xx hSx
      go_simp
      try (with_reducible rfl)
     simp only [Act.put, List.setIfInBounds_toArray, List.set_cons_zero, List.set_cons_succ]
     refine last_take (i := 12) (v := ?v12k61) rfl (by kernel_rfl) (by kernel_rfl) (by kernel_rfl) (by kernel_rfl) rfl (fun _ _ _ h => h) (by rfl) HSW3 ?hy12k61 ?rest12k61
     case hy12k61 =>
      intro xx hSx
      go_simp
      try (with_reducible rfl)
     simp only [Act.put, List.setIfInBounds_toArray, List.set_cons_zero, List.set_cons_succ]
     refine last_one (i := 13) (by kernel_rfl) rfl ?_
     intro K hK
     go_simp
     obtain ⟨b1, hb1⟩ : ∃ b1, W3.heap.size = b1 := ⟨_, rfl⟩
     obtain ⟨W4, hW4⟩ : ∃ W4, W3.alloc (.cells #[.int .u64 0, .int .u64 0] 64) = W4 := ⟨_, rfl⟩
     have nb1 : Bx W4 b1 (.int .u64 0) (.int .u64 0) := by rw [← hW4, ← hb1]; exact Bx.new W3 _ _ _
     have bW4 : Below W3.heap.size W3 W4 := by rw [← hW4]; exact (Below.refl _ _).alloc (Nat.le_refl _) _
     try rw [hb1]
     try rw [hW4]
     have BW4 : Below w6.heap.size w6 W4 := BW3.trans (bW4.mono BW3.size)
     have gb1 : w6.heap.size ≤ b1 := by rw [← hb1]; exact BW3.size
     have db1b2 : b1 ≠ b2 := Ne.symm (Nat.ne_of_lt (by rw [← hb1]; exact nb2.lt))
     have db1b3 : b1 ≠ b3 := Ne.symm (Nat.ne_of_lt (by rw [← hb1]; exact nb3.lt))
     have nb2 := nb2.below bW4
     have nb3 := nb3.below bW4
     refine hK.out _ _ (fun _ => HSB.out _ BW4) (fun _ => ?_)
     clear hK K hW4 hb1
     have htl := (⟨nb1, nb2, nb3, db1b2, db1b3, db2b3, gb1, gb2, gb3, BW4⟩ : Lf w6.heap.size w6 b1 b2 b3 _ _ _ _ _ _ W4)
     clear nb1 nb2 nb3 db1b2 db1b3 db2b3 gb1 gb2 gb3 BW4
     refine last_one (i := 16) (by kernel_rfl) rfl ?_
     intro K hK
     have x0 := htl.a.1
     have x1 := htl.a.2.1
     have x2 := htl.a.2.2.1
     have x3 := htl.a.2.2.2
     go_simp
     obtain ⟨W5, hW5⟩ : ∃ W5, (W4.setCell ⟨b1, 0, none⟩ (.int .u64 (hiW PL))).setCell ⟨b1, 1, none⟩ (.int .u64 (loW PL)) = W5 := ⟨_, rfl⟩
     have htl := htl.set1 (.int .u64 (hiW PL)) (.int .u64 (loW PL))
     rw [hW5] at htl
     try rw [hW5]
     refine hK.out _ _ (fun _ => HSB.out _ htl.bel) (fun _ => ?_)
     clear hK K x0 x1 x2 x3 hW5
     refine last_one (i := 17) (by kernel_rfl) rfl ?_
     intro K hK
     have x0 := htl.b.1
     have x1 := htl.b.2.1
     have x2 := htl.b.2.2.1
     have x3 := htl.b.2.2.2
     go_simp
     obtain ⟨W6, hW6⟩ : ∃ W6, (W5.setCell ⟨b2, 0, none⟩ (.int .u64 (hiW PH))).setCell ⟨b2, 1, none⟩ (.int .u64 (loW PH)) = W6 := ⟨_, rfl⟩
     have htl := htl.set2 (.int .u64 (hiW PH)) (.int .u64 (loW PH))
     rw [hW6] at htl
     try rw [hW6]
     refine hK.out _ _ (fun _ => HSB.out _ htl.bel) (fun _ => ?_)
     clear hK K x0 x1 x2 x3 hW6
     refine last_one (i := 18) (by kernel_rfl) rfl ?_
     intro K hK
     have x0 := htl.c.1
     have x1 := htl.c.2.1
     have x2 := htl.c.2.2.1
     have x3 := htl.c.2.2.2
     go_simp
     obtain ⟨W7, hW7⟩ : ∃ W7, (W6.setCell ⟨b3, 0, none⟩ (.int .u64 (hiW PD))).setCell ⟨b3, 1, none⟩ (.int .u64 (loW PD)) = W7 := ⟨_, rfl⟩
     have htl := htl.set3 (.int .u64 (hiW PD)) (.int .u64 (loW PD))
     rw [hW7] at htl
     try rw [hW7]
     refine hK.out _ _ (fun h => absurd rfl h) (fun _ => ?_)
     clear hK K x0 x1 x2 x3 hW7
     refine last_done (by kernel_rfl) ?_ _
     have HTL : Hid _ := htl
     clear htl HSB HCP
     go_wp2
     go_meet
     exact ⟨b1, b2, b3, rfl, rfl, rfl, HTL.out.a.1, HTL.out.a.2.1, HTL.out.b.1, HTL.out.b.2.1, HTL.out.c.1, HTL.out.c.2.1, HTL.out.bel⟩
    case h13n57 =>
     intro K hK
     go_simp
     obtain ⟨b1, hb1⟩ : ∃ b1, W2.heap.size = b1 := ⟨_, rfl⟩
     obtain ⟨W3, hW3⟩ : ∃ W3, W2.alloc (.cells #[.int .u64 0, .int .u64 0] 64) = W3 := ⟨_, rfl⟩
     have nb1 : Bx W3 b1 (.int .u64 0) (.int .u64 0) := by rw [← hW3, ← hb1]; exact Bx.new W2 _ _ _
     have bW3 : Below W2.heap.size W2 W3 := by rw [← hW3]; exact (Below.refl _ _).alloc (Nat.le_refl _) _
     try rw [hb1]
     try rw [hW3]
     have BW3 : Below w6.heap.size w6 W3 := BW2.trans (bW3.mono BW2.size)
     have gb1 : w6.heap.size ≤ b1 := by rw [← hb1]; exact BW2.size
     have db1b2 : b1 ≠ b2 := Ne.symm (Nat.ne_of_lt (by rw [← hb1]; exact nb2.lt))
     have db1b3 : b1 ≠ b3 := Ne.symm (Nat.ne_of_lt (by rw [← hb1]; exact nb3.lt))
     have nb2 := nb2.below bW3
     have nb3 := nb3.below bW3
     refine hK.out _ _ (fun _ => HSB.out _ BW3) (fun _ => ?_)
     clear hK K hW3 hb1
     refine last_one (i := 8) (by kernel_rfl) rfl ?_
     intro K hK
     go_simp
     go_at_call 23
     refine (HCP.out _ BW3).mono ?_
     rintro e W4 ⟨rfl, bW4⟩
     have BW4 : Below w6.heap.size w6 W4 := BW3.trans (bW4.mono BW3.size)
     have nb2 := nb2.below bW4
     have nb3 := nb3.below bW4
     have nb1 := nb1.below bW4
     have HSW4 := HSB.out _ BW4
     go_simp
     refine hK.out _ _ (fun _ => HSW4) (fun _ => ?_)
     clear hK K
     refine last_take (i := 9) (v := ?v9k62) rfl (by kernel_rfl) (by kernel_rfl) (by kernel_rfl) (by kernel_rfl) rfl (fun _ _ _ h => h) (by rfl) HSW4 ?hy9k62 ?rest9k62
     case hy9k62 =>
      intro xx hSx
      go_simp
      try (with_reducible rfl)
     simp only [Act.put, List.setIfInBounds_toArray, List.set_cons_zero, List.set_cons_succ]
     refine last_take (i := 10) (v := ?v10k63) rfl (by kernel_rfl) (by kernel_rfl) (by kernel_rfl) (by kernel_rfl) rfl (fun _ _ _ h => h) (by rfl) HSW4 ?hy10k63 ?rest10k63
     case hy10k63 =>
      intro xx hSx
      go_simp
      try (with_reducible rfl)
     simp only [Act.put, List.setIfInBounds_toArray, List.set_cons_zero, List.set_cons_succ]
     refine last_take (i := 11) (v := ?v11k64) rfl (by kernel_rfl) (by kernel_rfl) (by kernel_rfl) (by kernel_rfl) rfl (fun _ _ _ h => h) (by rfl) HSW4 ?hy11k64 ?rest11k64
     case hy11k64 =>
      intro xx hSx
      go_simp
      try (with_reducible rfl)
     simp only [Act.put, List.setIfInBounds_toArray, List.set_cons_zero, List.set_cons_succ]
     refine last_take (i := 12) (v := ?v12k65) rfl (by kernel_rfl) (by kernel_rfl) (by kernel_rfl) (by kernel_rfl) rfl (fun _ _ _ h => h) (by rfl) HSW4 ?hy12k65 ?rest12k65
     case hy12k65 =>
      intro xx hSx
      go_simp
      try (with_reducible rfl)
     simp only [Act.put, List.setIfInBounds_toArray, List.set_cons_zero, List.set_cons_succ]
     have htl := (⟨nb1, nb2, nb3, db1b2, db1b3, db2b3, gb1, gb2, gb3, BW4⟩ : Lf w6.heap.size w6 b1 b2 b3 _ _ _ _ _ _ W4)
     clear nb1 nb2 nb3 db1b2 db1b3 db2b3 gb1 gb2 gb3 BW4
     refine last_one (i := 16) (by kernel_rfl) rfl ?_
     intro K hK
     have x0 := htl.a.1
     have x1 := htl.a.2.1
     have x2 := htl.a.2.2.1
     have x3 := htl.a.2.2.2
     go_simp
     obtain ⟨W5, hW5⟩ : ∃ W5, (W4.setCell ⟨b1, 0, none⟩ (.int .u64 (hiW PL))).setCell ⟨b1, 1, none⟩ (.int .u64 (loW PL)) = W5 := ⟨_, rfl⟩
     have htl := htl.set1 (.int .u64 (hiW PL)) (.int .u64 (loW PL))
     rw [hW5] at htl
     try rw [hW5]
     refine hK.out _ _ (fun _ => HSB.out _ htl.bel) (fun _ => ?_)
     clear hK K x0 x1 x2 x3 hW5
     refine last_one (i := 17) (by kernel_rfl) rfl ?_
     intro K hK
     have x0 := htl.b.1
     have x1 := htl.b.2.1
     have x2 := htl.b.2.2.1
     have x3 := htl.b.2.2.2
     go_simp
     obtain ⟨W6, hW6⟩ : ∃ W6, (W5.setCell ⟨b2, 0, none⟩ (.int .u64 (hiW PH))).setCell ⟨b2, 1, none⟩ (.int .u64 (loW PH)) = W6 := ⟨_, rfl⟩
     have htl := htl.set2 (.int .u64 (hiW PH)) (.int .u64 (loW PH))
     rw [hW6] at htl
     try rw [hW6]
     refine hK.out _ _ (fun _ => HSB.out _ htl.bel) (fun _ => ?_)
     clear hK K x0 x1 x2 x3 hW6
     refine last_one (i := 18) (by kernel_rfl) rfl ?_
     intro K hK
     have x0 := htl.c.1
     have x1 := htl.c.2.1
     have x2 := htl.c.2.2.1
     have x3 := htl.c.2.2.2
     go_simp
     obtain ⟨W7, hW7⟩ : ∃ W7, (W6.setCell ⟨b3, 0, none⟩ (.int .u64 (hiW PD))).setCell ⟨b3, 1, none⟩ (.int .u64 (loW PD)) = W7 := ⟨_, rfl⟩
     have htl := htl.set3 (.int .u64 (hiW PD)) (.int .u64 (loW PD))
     rw [hW7] at htl
     try rw [hW7]
     refine hK.out _ _ (fun h => absurd rfl h) (fun _ => ?_)
     clear hK K x0 x1 x2 x3 hW7
     refine last_done (by kernel_rfl) ?_ _
     have HTL : Hid _ := htl
     clear htl HSB HCP
     go_wp2
     go_meet
     exact ⟨b1, b2, b3, rfl, rfl, rfl, HTL.out.a.1, HTL.out.a.2.1, HTL.out.b.1, HTL.out.b.2.1, HTL.out.c.1, HTL.out.c.2.1, HTL.out.bel⟩
  case h15n9 =>
   intro K hK
   go_simp
   obtain ⟨b3, hb3⟩ : ∃ b3, W0.heap.size = b3 := ⟨_, rfl⟩
   obtain ⟨W1, hW1⟩ : ∃ W1, W0.alloc (.cells #[.int .u64 0, .int .u64 0] 64) = W1 := ⟨_, rfl⟩
   have nb3 : Bx W1 b3 (.int .u64 0) (.int .u64 0) := by rw [← hW1, ← hb3]; exact Bx.new W0 _ _ _
   have bW1 : Below W0.heap.size W0 W1 := by rw [← hW1]; exact (Below.refl _ _).alloc (Nat.le_refl _) _
   try rw [hb3]
   try rw [hW1]
   have BW1 : Below w6.heap.size w6 W1 := BW0.trans (bW1.mono BW0.size)
   have gb3 : w6.heap.size ≤ b3 := by rw [← hb3]; exact BW0.size
   refine hK.out _ _ (fun _ => HSB.out _ BW1) (fun _ => ?_)
   clear hK K hW1 hb3
   refine last_few (i := 8) (l := [13, 14]) (by kernel_rfl) (List.forall_mem_cons.2 ⟨⟨_, rfl, ?h8n66⟩, List.forall_mem_cons.2 ⟨⟨_, rfl, ?h13n66⟩, List.forall_mem_cons.2 ⟨⟨_, rfl, ?h14n66⟩, List.forall_mem_nil _⟩⟩⟩)
   case h8n66 =>
    intro K hK
    go_simp
    go_at_call 23
    refine (HCP.out _ BW1).mono ?_
    rintro e W2 ⟨rfl, bW2⟩
    have BW2 : Below w6.heap.size w6 W2 := BW1.trans (bW2.mono BW1.size)
    have nb3 := nb3.below bW2
    have HSW2 := HSB.out _ BW2
    go_simp
    refine hK.out _ _ (fun _ => HSW2) (fun _ => ?_)
    clear hK K
    refine last_take (i := 9) (v := ?v9k67) rfl (by kernel_rfl) (by kernel_rfl) (by kernel_rfl) (by kernel_rfl) rfl (fun _ _ _ h => h) (by rfl) HSW2 ?hy9k67 ?rest9k67
    case hy9k67 =>
     intro xx hSx
     go_simp
     try (with_reducible rfl)
    simp only [Act.put, List.setIfInBounds_toArray, List.set_cons_zero, List.set_cons_succ]
    refine last_take (i := 10) (v := ?v10k68) rfl (by kernel_rfl) (by kernel_rfl) (by kernel_rfl) (by kernel_rfl) rfl (fun _ _ _ h => h) (by rfl) HSW2 ?hy10k68 ?rest10k68
    case hy10k68 =>
     intro xx hSx
     go_simp
     try (with_reducible rfl)
    simp only [Act.put, List.setIfInBounds_toArray, List.set_cons_zero, List.set_cons_succ]
    refine last_take (i := 11) (v := ?v11k69) rfl (by kernel_rfl) (by kernel_rfl) (by kernel_rfl) (by kernel_rfl) rfl (fun _ _ _ h => h) (by rfl) HSW2 ?hy11k69 ?rest11k69
    case hy11k69 =>
     intro xx hSx
     go_simp
     try (with_reducible rfl)
    simp only [Act.put, List.setIfInBounds_toArray, List.set_cons_zero, List.set_cons_succ]
    refine last_take (i := 12) (v := ?v12k70) rfl (by kernel_rfl) (by kernel_rfl) (by kernel_rfl) (by kernel_rfl) rfl (fun _ _ _ h => h) (by rfl) HSW2 ?hy12k70 ?rest12k70
    case hy12k70 =>
     intro xx hSx
     go_simp
     try (with_reducible rfl)
    simp only [Act.put, List.setIfInBounds_toArray, List.set_cons_zero, List.set_cons_succ]
    refine last_few (i := 13) (l := [14]) (by kernel_rfl) (List.forall_mem_cons.2 ⟨⟨_, rfl, ?h13n71⟩, List.forall_mem_cons.2 ⟨⟨_, rfl, ?h14n71⟩, List.forall_mem_nil _⟩⟩)
    case h13n71 =>
     intro K hK
     go_simp
     obtain ⟨b1, hb1⟩ : ∃ b1, W2.heap.size = b1 := ⟨_, rfl⟩
     obtain ⟨W3, hW3⟩ : ∃ W3, W2.alloc (.cells #[.int .u64 0, .int .u64 0] 64) = W3 := ⟨_, rfl⟩
     have nb1 : Bx W3 b1 (.int .u64 0) (.int .u64 0) := by rw [← hW3, ← hb1]; exact Bx.new W2 _ _ _
     have bW3 : Below W2.heap.size W2 W3 := by rw [← hW3]; exact (Below.refl _ _).alloc (Nat.le_refl _) _
     try rw [hb1]
     try rw [hW3]
     have BW3 : Below w6.heap.size w6 W3 := BW2.trans (bW3.mono BW2.size)
     have gb1 : w6.heap.size ≤ b1 := by rw [← hb1]; exact BW2.size
     have db1b3 : b1 ≠ b3 := Ne.symm (Nat.ne_of_lt (by rw [← hb1]; exact nb3.lt))
     have nb3 := nb3.below bW3
     refine hK.out _ _ (fun _ => HSB.out _ BW3) (fun _ => ?_)
     clear hK K hW3 hb1
     refine last_one (i := 14) (by kernel_rfl) rfl ?_
     intro K hK
     go_simp
     obtain ⟨b2, hb2⟩ : ∃ b2, W3.heap.size = b2 := ⟨_, rfl⟩
     obtain ⟨W4, hW4⟩ : ∃ W4, W3.alloc (.cells #[.int .u64 0, .int .u64 0] 64) = W4 := ⟨_, rfl⟩
     have nb2 : Bx W4 b2 (.int .u64 0) (.int .u64 0) := by rw [← hW4, ← hb2]; exact Bx.new W3 _ _ _
     have bW4 : Below W3.heap.size W3 W4 := by rw [← hW4]; exact (Below.refl _ _).alloc (Nat.le_refl _) _
     try rw [hb2]
     try rw [hW4]
     have BW4 : Below w6.heap.size w6 W4 := BW3.trans (bW4.mono BW3.size)
     have gb2 : w6.heap.size ≤ b2 := by rw [← hb2]; exact BW3.size
     have db2b3 : b2 ≠ b3 := Ne.symm (Nat.ne_of_lt (by rw [← hb2]; exact nb3.lt))
     have db1b2 : b1 ≠ b2 := Nat.ne_of_lt (by rw [← hb2]; exact nb1.lt)
     have nb3 := nb3.below bW4
     have nb1 := nb1.below bW4
     refine hK.out _ _ (fun _ => HSB.out _ BW4) (fun _ => ?_)
     clear hK K hW4 hb2
     have htl := (⟨nb1, nb2, nb3, db1b2, db1b3, db2b3, gb1, gb2, gb3, BW4⟩ : Lf w6.heap.size w6 b1 b2 b3 _ _ _ _ _ _ W4)
     clear nb1 nb2 nb3 db1b2 db1b3 db2b3 gb1 gb2 gb3 BW4
     refine last_one (i := 16) (by kernel_rfl) rfl ?_
     intro K hK
     have x0 := htl.a.1
     have x1 := htl.a.2.1
     have x2 := htl.a.2.2.1
     have x3 := htl.a.2.2.2
     go_simp
     obtain ⟨W5, hW5⟩ : ∃ W5, (W4.setCell ⟨b1, 0, none⟩ (.int .u64 (hiW PL))).setCell ⟨b1, 1, none⟩ (.int .u64 (loW PL)) = W5 := ⟨_, rfl⟩
     have htl := htl.set1 (.int .u64 (hiW PL)) (.int .u64 (loW PL))
     rw [hW5] at htl
     try rw [hW5]
     refine hK.out _ _ (fun _ => HSB.out _ htl.bel) (fun _ => ?_)
     clear hK K x0 x1 x2 x3 hW5
     refine last_one (i := 17) (by kernel_rfl) rfl ?_
     intro K hK
     have x0 := htl.b.1
     have x1 := htl.b.2.1
     have x2 := htl.b.2.2.1
     have x3 := htl.b.2.2.2
     go_simp
     obtain ⟨W6, hW6⟩ : ∃ W6, (W5.setCell ⟨b2, 0, none⟩ (.int .u64 (hiW PH))).setCell ⟨b2, 1, none⟩ (.int .u64 (loW PH)) = W6 := ⟨_, rfl⟩
     have htl := htl.set2 (.int .u64 (hiW PH)) (.int .u64 (loW PH))
     rw [hW6] at htl
     try rw [hW6]
     refine hK.out _ _ (fun _ => HSB.out _ htl.bel) (fun _ => ?_)
     clear hK K x0 x1 x2 x3 hW6
     refine last_one (i := 18) (by kernel_rfl) rfl ?_
     intro K hK
     have x0 := htl.c.1
     have x1 := htl.c.2.1
     have x2 := htl.c.2.2.1
     have x3 := htl.c.2.2.2
     go_simp
     obtain ⟨W7, hW7⟩ : ∃ W7, (W6.setCell ⟨b3, 0, none⟩ (.int .u64 (hiW PD))).setCell ⟨b3, 1, none⟩ (.int .u64 (loW PD)) = W7 := ⟨_, rfl⟩
     have htl := htl.set3 (.int .u64 (hiW PD)) (.int .u64 (loW PD))
     rw [hW7] at htl
     try rw [hW7]
     refine hK.out _ _ (fun h => absurd rfl h) (fun _ => ?_)
     clear hK K x0 x1 x2 x3 hW7
     refine last_done (by kernel_rfl) ?_ _
     have HTL : Hid _ := htl
     clear htl HSB HCP
     go_wp2
     go_meet
     exact ⟨b1, b2, b3, rfl, rfl, rfl, HTL.out.a.1, HTL.out.a.2.1, HTL.out.b.1, HTL.out.b.2.1, HTL.out.c.1, HTL.out.c.2.1, HTL.out.bel⟩
    case h14n71 =>
     intro K hK
     go_simp
     obtain ⟨b2, hb2⟩ : ∃ b2, W2.heap.size = b2 := ⟨_, rfl⟩
     obtain ⟨W3, hW3⟩ : ∃ W3, W2.alloc (.cells #[.int .u64 0, .int .u64 0] 64) = W3 := ⟨_, rfl⟩
     have nb2 : Bx W3 b2 (.int .u64 0) (.int .u64 0) := by rw [← hW3, ← hb2]; exact Bx.new W2 _ _ _
     have bW3 : Below W2.heap.size W2 W3 := by rw [← hW3]; exact (Below.refl _ _).alloc (Nat.le_refl _) _
     try rw [hb2]
     try rw [hW3]
     have BW3 : Below w6.heap.size w6 W3 := BW2.trans (bW3.mono BW2.size)
     have gb2 : w6.heap.size ≤ b2 := by rw [← hb2]; exact BW2.size
     have db2b3 : b2 ≠ b3 := Ne.symm (Nat.ne_of_lt (by rw [← hb2]; exact nb3.lt))
     have nb3 := nb3.below bW3
     refine hK.out _ _ (fun _ => HSB.out _ BW3) (fun _ => ?_)
     clear hK K hW3 hb2
     refine last_one (i := 13) (by kernel_rfl) rfl ?_
     intro K hK
     go_simp
     obtain ⟨b1, hb1⟩ : ∃ b1, W3.heap.size = b1 := ⟨_, rfl⟩
     obtain ⟨W4, hW4⟩ : ∃ W4, W3.alloc (.cells #[.int .u64 0, .int .u64 0] 64) = W4 := ⟨_, rfl⟩
     have nb1 : Bx W4 b1 (.int .u64 0) (.int .u64 0) := by rw [← hW4, ← hb1]; exact Bx.new W3 _ _ _
     have bW4 : Below W3.heap.size W3 W4 := by rw [← hW4]; exact (Below.refl _ _).alloc (Nat.le_refl _) _
     try rw [hb1]
     try rw [hW4]
     have BW4 : Below w6.heap.size w6 W4 := BW3.trans (bW4.mono BW3.size)
     have gb1 : w6.heap.size ≤ b1 := by rw [← hb1]; exact BW3.size
     have db1b3 : b1 ≠ b3 := Ne.symm (Nat.ne_of_lt (by rw [← hb1]; exact nb3.lt))
     have db1b2 : b1 ≠ b2 := Ne.symm (Nat.ne_of_lt (by rw [← hb1]; exact nb2.lt))
     have nb3 := nb3.below bW4
     have nb2 := nb2.below bW4
     refine hK.out _ _ (fun _ => HSB.out _ BW4) (fun _ => ?_)
     clear hK K hW4 hb1
     have htl := (⟨nb1, nb2, nb3, db1b2, db1b3, db2b3, gb1, gb2, gb3, BW4⟩ : Lf w6.heap.size w6 b1 b2 b3 _ _ _ _ _ _ W4)
     clear nb1 nb2 nb3 db1b2 db1b3 db2b3 gb1 gb2 gb3 BW4
     refine last_one (i := 16) (by kernel_rfl) rfl ?_
     intro K hK
     have x0 := htl.a.1
     have x1 := htl.a.2.1
     have x2 := htl.a.2.2.1
     have x3 := htl.a.2.2.2
     go_simp
     obtain ⟨W5, hW5⟩ : ∃ W5, (W4.setCell ⟨b1, 0, none⟩ (.int .u64 (hiW PL))).setCell ⟨b1, 1, none⟩ (.int .u64 (loW PL)) = W5 := ⟨_, rfl⟩
     have htl := htl.set1 (.int .u64 (hiW PL)) (.int .u64 (loW PL))
     rw [hW5] at htl
     try rw [hW5]
     refine hK.out _ _ (fun _ => HSB.out _ htl.bel) (fun _ => ?_)
     clear hK K x0 x1 x2 x3 hW5
     refine last_one (i := 17) (by kernel_rfl) rfl ?_
     intro K hK
     have x0 := htl.b.1
     have x1 := htl.b.2.1
     have x2 := htl.b.2.2.1
     have x3 := htl.b.2.2.2
     go_simp
     obtain ⟨W6, hW6⟩ : ∃ W6, (W5.setCell ⟨b2, 0, none⟩ (.int .u64 (hiW PH))).setCell ⟨b2, 1, none⟩ (.int .u64 (loW PH)) = W6 := ⟨_, rfl⟩
     have htl := htl.set2 (.int .u64 (hiW PH)) (.int .u64 (loW PH))
     rw [hW6] at htl
     try rw [hW6]
     refine hK.out _ _ (fun _ => HSB.out _ htl.bel) (fun _ => ?_)
     clear hK K x0 x1 x2 x3 hW6
     refine last_one (i := 18) (by kernel_rfl) rfl ?_
     intro K hK
     have x0 := htl.c.1
     have x1 := htl.c.2.1
     have x2 := htl.c.2.2.1
     have x3 := htl.c.2.2.2
     go_simp
     obtain ⟨W7, hW7⟩ : ∃ W7, (W6.setCell ⟨b3, 0, none⟩ (.int .u64 (hiW PD))).setCell ⟨b3, 1, none⟩ (.int .u64 (loW PD)) = W7 := ⟨_, rfl⟩
     have htl := htl.set3 (.int .u64 (hiW PD)) (.int .u64 (loW PD))
     rw [hW7] at htl
     try rw [hW7]
     refine hK.out _ _ (fun h => absurd rfl h) (fun _ => ?_)
     clear hK K x0 x1 x2 x3 hW7
     refine last_done (by kernel_rfl) ?_ _
     have HTL : Hid _ := htl
     clear htl HSB HCP
     go_wp2
     go_meet
     exact ⟨b1, b2, b3, rfl, rfl, rfl, HTL.out.a.1, HTL.out.a.2.1, HTL.out.b.1, HTL.out.b.2.1, HTL.out.c.1, HTL.out.c.2.1, HTL.out.bel⟩
   case h13n66 =>
    intro K hK
    go_simp
    obtain ⟨b1, hb1⟩ : ∃ b1, W1.heap.size = b1 := ⟨_, rfl⟩
    obtain ⟨W2, hW2⟩ : ∃ W2, W1.alloc (.cells #[.int .u64 0, .int .u64 0] 64) = W2 := ⟨_, rfl⟩
    have nb1 : Bx W2 b1 (.int .u64 0) (.int .u64 0) := by rw [← hW2, ← hb1]; exact Bx.new W1 _ _ _
    have bW2 : Below W1.heap.size W1 W2 := by rw [← hW2]; exact (Below.refl _ _).alloc (Nat.le_refl _) _
    try rw [hb1]
    try rw [hW2]
    have BW2 : Below w6.heap.size w6 W2 := BW1.trans (bW2.mono BW1.size)
    have gb1 : w6.heap.size ≤ b1 := by rw [← hb1]; exact BW1.size
    have db1b3 : b1 ≠ b3 := Ne.symm (Nat.ne_of_lt (by rw [← hb1]; exact nb3.lt))
    have nb3 := nb3.below bW2
    refine hK.out _ _ (fun _ => HSB.out _ BW2) (fun _ => ?_)
    clear hK K hW2 hb1
    refine last_few (i := 8) (l := [14]) (by kernel_rfl) (List.forall_mem_cons.2 ⟨⟨_, rfl, ?h8n72⟩, List.forall_mem_cons.2 ⟨⟨_, rfl, ?h14n72⟩, List.forall_mem_nil _⟩⟩)
    case h8n72 =>
     intro K hK
     go_simp
     go_at_call 23
     refine (HCP.out _ BW2).mono ?_
     rintro e W3 ⟨rfl, bW3⟩
     have BW3 : Below w6.heap.size w6 W3 := BW2.trans (bW3.mono BW2.size)
     have nb3 := nb3.below bW3
     have nb1 := nb1.below bW3
     have HSW3 := HSB.out _ BW3
     go_simp
     refine hK.out _ _ (fun _ => HSW3) (fun _ => ?_)
     clear hK K
     refine last_take (i := 9) (v := ?v9k73) rfl (by kernel_rfl) (by kernel_rfl) (by kernel_rfl) (by kernel_rfl) rfl (fun _ _ _ h => h) (by rfl) HSW3 ?hy9k73 ?rest9k73
     case hy9k73 =>
      intro xx hSx
      go_simp
      try (with_reducible rfl)
     simp only [Act.put, List.setIfInBounds_toArray, List.set_cons_zero, List.set_cons_succ]
     refine last_take (i := 10) (v := ?v10k74) rfl (by kernel_rfl) (by kernel_rfl) (by kernel_rfl) (by kernel_rfl) rfl (fun _ _ _ h => h) (by rfl) HSW3 ?hy10k74 ?rest10k74
     case hy10k74 =>
      intro xx hSx
      go_simp
      try (with_reducible rfl)
     simp only [Act.put, List.setIfInBounds_toArray, List.set_cons_zero, List.set_cons_succ]
     refine last_take (i := 11) (v := ?v11k75) rfl (by kernel_rfl) (by kernel_rfl) (by kernel_rfl) (by kernel_rfl) rfl (fun _ _ _ h => h) (by rfl) HSW3 ?hy11k75 ?rest11k75
     case hy11k75 =>
      intro xx hSx
      go_simp
      try (with_reducible rfl)
     simp only [Act.put, List.setIfInBounds_toArray, List.set_cons_zero, List.set_cons_succ]
     refine last_take (i := 12) (v := ?v12k76) rfl (by kernel_rfl) (by kernel_rfl) (by kernel_rfl) (by kernel_rfl) rfl (fun _ _ _ h => h) (by rfl) HSW3 ?hy12k76 ?rest12k76
     case hy12k76 =>
      intro xx hSx
      go_simp
      try (with_reducible rfl)
     simp only [Act.put, List.setIfInBounds_toArray, List.set_cons_zero, List.set_cons_succ]
     refine last_one (i := 14) (by kernel_rfl) rfl ?_
     intro K hK
     go_simp
     obtain ⟨b2, hb2⟩ : ∃ b2, W3.heap.size = b2 := ⟨_, rfl⟩
     obtain ⟨W4, hW4⟩ : ∃ W4, W3.alloc (.cells #[.int .u64 0, .int .u64 0] 64) = W4 := ⟨_, rfl⟩
     have nb2 : Bx W4 b2 (.int .u64 0) (.int .u64 0) := by rw [← hW4, ← hb2]; exact Bx.new W3 _ _ _
     have bW4 : Below W3.heap.size W3 W4 := by rw [← hW4]; exact (Below.refl _ _).alloc (Nat.le_refl _) _
     try rw [hb2]
     try rw [hW4]
     have BW4 : Below w6.heap.size w6 W4 := BW3.trans (bW4.mono BW3.size)
     have gb2 : w6.heap.size ≤ b2 := by rw [← hb2]; exact BW3.size
     have db2b3 : b2 ≠ b3 := Ne.symm (Nat.ne_of_lt (by rw [← hb2]; exact nb3.lt))
     have db1b2 : b1 ≠ b2 := Nat.ne_of_lt (by rw [← hb2]; exact nb1.lt)
     have nb3 := nb3.below bW4
     have nb1 := nb1.below bW4
     refine hK.out _ _ (fun _ => HSB.out _ BW4) (fun _ => ?_)
     clear hK K hW4 hb2
     have htl := (⟨nb1, nb2, nb3, db1b2, db1b3, db2b3, gb1, gb2, gb3, BW4⟩ : Lf w6.heap.size w6 b1 b2 b3 _ _ _ _ _ _ W4)
     clear nb1 nb2 nb3 db1b2 db1b3 db2b3 gb1 gb2 gb3 BW4
     refine last_one (i := 16) (by kernel_rfl) rfl ?_
     intro K hK
     have x0 := htl.a.1
     have x1 := htl.a.2.1
     have x2 := htl.a.2.2.1
     have x3 := htl.a.2.2.2
     go_simp
     obtain ⟨W5, hW5⟩ : ∃ W5, (W4.setCell ⟨b1, 0, none⟩ (.int .u64 (hiW PL))).setCell ⟨b1, 1, none⟩ (.int .u64 (loW PL)) = W5 := ⟨_, rfl⟩
     have htl := htl.set1 (.int .u64 (hiW PL)) (.int .u64 (loW PL))
     rw [hW5] at htl
     try rw [hW5]
     refine hK.out _ _ (fun _ => HSB.out _ htl.bel) (fun _ => ?_)
     clear hK K x0 x1 x2 x3 hW5
     refine last_one (i := 17) (by kernel_rfl) rfl ?_
     intro K hK
     have x0 := htl.b.1
     have x1 := htl.b.2.1
     have x2 := htl.b.2.2.1
     have x3 := htl.b.2.2.2
     go_simp
     obtain ⟨W6, hW6⟩ : ∃ W6, (W5.setCell ⟨b2, 0, none⟩ (.int .u64 (hiW PH))).setCell ⟨b2, 1, none⟩ (.int .u64 (loW PH)) = W6 := ⟨_, rfl⟩
     have htl := htl.set2 (.int .u64 (hiW PH)) (.int .u64 (loW PH))
     rw [hW6] at htl
     try rw [hW6]
     refine hK.out _ _ (fun _ => HSB.out _ htl.bel) (fun _ => ?_)
     clear hK K x0 x1 x2 x3 hW6
     refine last_one (i := 18) (by kernel_rfl) rfl ?_
     intro K hK
     have x0 := htl.c.1
     have x1 := htl.c.2.1
     have x2 := htl.c.2.2.1
     have x3 := htl.c.2.2.2
     go_simp
     obtain ⟨W7, hW7⟩ : ∃ W7, (W6.setCell ⟨b3, 0, none⟩ (.int .u64 (hiW PD))).setCell ⟨b3, 1, none⟩ (.int .u64 (loW PD)) = W7 := ⟨_, rfl⟩
     have htl := htl.set3 (.int .u64 (hiW PD)) (.int .u64 (loW PD))
     rw [hW7] at htl
     try rw [hW7]
     refine hK.out _ _ (fun h => absurd rfl h) (fun _ => ?_)
     clear hK K x0 x1 x2 x3 hW7
     refine last_done (by kernel_rfl) ?_ _
     have HTL : Hid _ := htl
     clear htl HSB HCP
     go_wp2
     go_meet
     exact ⟨b1, b2, b3, rfl, rfl, rfl, HTL.out.a.1, HTL.out.a.2.1, HTL.out.b.1, HTL.out.b.2.1, HTL.out.c.1, HTL.out.c.2.1, HTL.out.bel⟩
    case h14n72 =>
     intro K hK
     go_simp
     obtain ⟨b2, hb2⟩ : ∃ b2, W2.heap.size = b2 := ⟨_, rfl⟩
     obtain ⟨W3, hW3⟩ : ∃ W3, W2.alloc (.cells #[.int .u64 0, .int .u64 0] 64) = W3 := ⟨_, rfl⟩
     have nb2 : Bx W3 b2 (.int .u64 0) (.int .u64 0) := by rw [← hW3, ← hb2]; exact Bx.new W2 _ _ _
     have bW3 : Below W2.heap.size W2 W3 := by rw [← hW3]; exact (Below.refl _ _).alloc (Nat.le_refl _) _
     try rw [hb2]
     try rw [hW3]
     have BW3 : Below w6.heap.size w6 W3 := BW2.trans (bW3.mono BW2.size)
     have gb2 : w6.heap.size ≤ b2 := by rw [← hb2]; exact BW2.size
     have db2b3 : b2 ≠ b3 := Ne.symm (Nat.ne_of_lt (by rw [← hb2]; exact nb3.lt))
     have db1b2 : b1 ≠ b2 := Nat.ne_of_lt (by rw [← hb2]; exact nb1.lt)
     have nb3 := nb3.below bW3
     have nb1 := nb1.below bW3
     refine hK.out _ _ (fun _ => HSB.out _ BW3) (fun _ => ?_)
     clear hK K hW3 hb2
     refine last_one (i := 8) (by kernel_rfl) rfl ?_
     intro K hK
     go_simp
     go_at_call 23
     refine (HCP.out _ BW3).mono ?_
     rintro e W4 ⟨rfl, bW4⟩
     have BW4 : Below w6.heap.size w6 W4 := BW3.trans (bW4.mono BW3.size)
     have nb3 := nb3.below bW4
     have nb1 := nb1.below bW4
     have nb2 := nb2.below bW4
     have HSW4 := HSB.out _ BW4
     go_simp
     refine hK.out _ _ (fun _ => HSW4) (fun _ => ?_)
     clear hK K
     refine last_take (i := 9) (v := ?v9k77) rfl (by kernel_rfl) (by kernel_rfl) (by kernel_rfl) (by kernel_rfl) rfl (fun _ _ _ h => h) (by rfl) HSW4 ?hy9k77 ?rest9k77
     case hy9k77 =>
      intro xx hSx
      go_simp
      try (with_reducible rfl)
     simp only [Act.put, List.setIfInBounds_toArray, List.set_cons_zero, List.set_cons_succ]
     refine last_take (i := 10) (v := ?v10k78) rfl (by kernel_rfl) (by kernel_rfl) (by kernel_rfl) (by kernel_rfl) rfl (fun _ _ _ h => h) (by rfl) HSW4 ?hy10k78 ?rest10k78
     case hy10k78 =>
      intro xx hSx
      go_simp
      try (with_reducible rfl)
     simp only [Act.put, List.setIfInBounds_toArray, List.set_cons_zero, List.set_cons_succ]
     refine last_take (i := 11) (v := ?v11k79) rfl (by kernel_rfl) (by kernel_rfl) (by kernel_rfl) (by kernel_rfl) rfl (fun _ _ _ h => h) (by rfl) HSW4 ?hy11k79 ?rest11k79
     case hy11k79 =>
      intro xx hSx
      go_simp
      try (with_reducible rfl)
     simp only [Act.put, List.setIfInBounds_toArray, List.set_cons_zero, List.set_cons_succ]
     refine last_take (i := 12) (v := ?v12k80) rfl (by kernel_rfl) (by kernel_rfl) (by kernel_rfl) (by kernel_rfl) rfl (fun _ _ _ h => h) (by rfl) HSW4 ?hy12k80 ?rest12k80
     case hy12k80 =>
      intro xx hSx
      go_simp
      try (with_reducible rfl)
     simp only [Act.put, List.setIfInBounds_toArray, List.set_cons_zero, List.set_cons_succ]
     have htl := (⟨nb1, nb2, nb3, db1b2, db1b3, db2b3, gb1, gb2, gb3, BW4⟩ : Lf w6.heap.size w6 b1 b2 b3 _ _ _ _ _ _ W4)
     clear nb1 nb2 nb3 db1b2 db1b3 db2b3 gb1 gb2 gb3 BW4
     refine last_one (i := 16) (by kernel_rfl) rfl ?_
     intro K hK
     have x0 := htl.a.1
     have x1 := htl.a.2.1
     have x2 := htl.a.2.2.1
     have x3 := htl.a.2.2.2
     go_simp
     obtain ⟨W5, hW5⟩ : ∃ W5, (W4.setCell ⟨b1, 0, none⟩ (.int .u64 (hiW PL))).setCell ⟨b1, 1, none⟩ (.int .u64 (loW PL)) = W5 := ⟨_, rfl⟩
     have htl := htl.set1 (.int .u64 (hiW PL)) (.int .u64 (loW PL))
     rw [hW5] at htl
     try rw [hW5]
     refine hK.out _ _ (fun _ => HSB.out _ htl.bel) (fun _ => ?_)
     clear hK K x0 x1 x2 x3 hW5
     refine last_one (i := 17) (by kernel_rfl) rfl ?_
     intro K hK
     have x0 := htl.b.1
     have x1 := htl.b.2.1
     have x2 := htl.b.2.2.1
     have x3 := htl.b.2.2.2
     go_simp
     obtain ⟨W6, hW6⟩ : ∃ W6, (W5.setCell ⟨b2, 0, none⟩ (.int .u64 (hiW PH))).setCell ⟨b2, 1, none⟩ (.int .u64 (loW PH)) = W6 := ⟨_, rfl⟩
     have htl := htl.set2 (.int .u64 (hiW PH)) (.int .u64 (loW PH))
     rw [hW6] at htl
     try rw [hW6]
     refine hK.out _ _ (fun _ => HSB.out _ htl.bel) (fun _ => ?_)
     clear hK K x0 x1 x2 x3 hW6
     refine last_one (i := 18) (by kernel_rfl) rfl ?_
     intro K hK
     have x0 := htl.c.1
     have x1 := htl.c.2.1
     have x2 := htl.c.2.2.1
     have x3 := htl.c.2.2.2
     go_simp
     obtain ⟨W7, hW7⟩ : ∃ W7, (W6.setCell ⟨b3, 0, none⟩ (.int .u64 (hiW PD))).setCell ⟨b3, 1, none⟩ (.int .u64 (loW PD)) = W7 := ⟨_, rfl⟩
     have htl := htl.set3 (.int .u64 (hiW PD)) (.int .u64 (loW PD))
     rw [hW7] at htl
     try rw [hW7]
     refine hK.out _ _ (fun h => absurd rfl h) (fun _ => ?_)
     clear hK K x0 x1 x2 x3 hW7
     refine last_done (by kernel_rfl) ?_ _
     have HTL : Hid _ := htl
     clear htl HSB HCP
     go_wp2
     go_meet
     exact ⟨b1, b2, b3, rfl, rfl, rfl, HTL.out.a.1, HTL.out.a.2.1, HTL.out.b.1, HTL.out.b.2.1, HTL.out.c.1, HTL.out.c.2.1, HTL.out.bel⟩
   case h14n66 =>
    intro K hK
    go_simp
    obtain ⟨b2, hb2⟩ : ∃ b2, W1.heap.size = b2 := ⟨_, rfl⟩
    obtain ⟨W2, hW2⟩ : ∃ W2, W1.alloc (.cells #[.int .u64 0, .int .u64 0] 64) = W2 := ⟨_, rfl⟩
    have nb2 : Bx W2 b2 (.int .u64 0) (.int .u64 0) := by rw [← hW2, ← hb2]; exact Bx.new W1 _ _ _
    have bW2 : Below W1.heap.size W1 W2 := by rw [← hW2]; exact (Below.refl _ _).alloc (Nat.le_refl _) _
    try rw [hb2]
    try rw [hW2]
    have BW2 : Below w6.heap.size w6 W2 := BW1.trans (bW2.mono BW1.size)
    have gb2 : w6.heap.size ≤ b2 := by rw [← hb2]; exact BW1.size
    have db2b3 : b2 ≠ b3 := Ne.symm (Nat.ne_of_lt (by rw [← hb2]; exact nb3.lt))
    have nb3 := nb3.below bW2
    refine hK.out _ _ (fun _ => HSB.out _ BW2) (fun _ => ?_)
    clear hK K hW2 hb2
    refine last_few (i := 8) (l := [13]) (by kernel_rfl) (List.forall_mem_cons.2 ⟨⟨_, rfl, ?h8n81⟩, List.forall_mem_cons.2 ⟨⟨_, rfl, ?h13n81⟩, List.forall_mem_nil _⟩⟩)
    case h8n81 =>
     intro K hK
     go_simp
     go_at_call 23
     refine (HCP.out _ BW2).mono ?_
     rintro e W3 ⟨rfl, bW3⟩
     have BW3 : Below w6.heap.size w6 W3 := BW2.trans (bW3.mono BW2.size)
     have nb3 := nb3.below bW3
     have nb2 := nb2.below bW3
     have HSW3 := HSB.out _ BW3
     go_simp
     refine hK.out _ _ (fun _ => HSW3) (fun _ => ?_)
     clear hK K
     refine last_take (i := 9) (v := ?v9k82) rfl (by kernel_rfl) (by kernel_rfl) (by kernel_rfl) (by kernel_rfl) rfl (fun _ _ _ h => h) (by rfl) HSW3 ?hy9k82 ?rest9k82
     case hy9k82 =>
      intro xx hSx
      go_simp
      try (with_reducible rfl)
     simp only [Act.put, List.setIfInBounds_toArray, List.set_cons_zero, List.set_cons_succ]
     refine last_take (i := 10) (v := ?v10k83) rfl (by kernel_rfl) (by kernel_rfl) (by kernel_rfl) (by kernel_rfl) rfl (fun _ _ _ h => h) (by rfl) HSW3 ?hy10k83 ?rest10k83
     case hy10k83 =>
      intro xx hSx
      go_simp
      try (with_reducible rfl)
     simp only [Act.put, List.setIfInBounds_toArray, List.set_cons_zero, List.set_cons_succ]
     refine last_take (i := 11) (v := ?v11k84) rfl (by kernel_rfl) (by kernel_rfl) (by kernel_rfl) (by kernel_rfl) rfl (fun _ _ _ h => h) (by rfl) HSW3 ?hy11k84 ?rest11k84
     case hy11k84 =>
      intro xx hSx
      go_simp
      try (with_reducible rfl)
     simp only [Act.put, List.setIfInBounds_toArray, List.set_cons_zero, List.set_cons_succ]
     refine last_take (i := 12) (v := ?v12k85) rfl (by kernel_rfl) (by kernel_rfl) (by kernel_rfl) (by kernel_rfl) rfl (fun _ _ _ h => h) (by rfl) HSW3 ?hy12k85 ?rest12k85
     case hy12k85 =>
      intro xx hSx
      go_simp
      try (with_reducible rfl)
     simp only [Act.put, List.setIfInBounds_toArray, List.set_cons_zero, List.set_cons_succ]
     refine last_one (i := 13) (by kernel_rfl) rfl ?_
     intro K hK
     go_simp
     obtain ⟨b1, hb1⟩ : ∃ b1, W3.heap.size = b1 := ⟨_, rfl⟩
     obtain ⟨W4, hW4⟩ : ∃ W4, W3.alloc (.cells #[.int .u64 0, .int .u64 0] 64) = W4 := ⟨_, rfl⟩
     have nb1 : Bx W4 b1 (.int .u64 0) (.int .u64 0) := by rw [← hW4, ← hb1]; exact Bx.new W3 _ _ _
     have bW4 : Below W3.heap.size W3 W4 := by rw [← hW4]; exact (Below.refl _ _).alloc (Nat.le_refl _) _
     try rw [hb1]
     try rw [hW4]
     have BW4 : Below w6.heap.size w6 W4 := BW3.trans (bW4.mono BW3.size)
     have gb1 : w6.heap.size ≤ b1 := by rw [← hb1]; exact BW3.size
     have db1b3 : b1 ≠ b3 := Ne.symm (Nat.ne_of_lt (by rw [← hb1]; exact nb3.lt))
     have db1b2 : b1 ≠ b2 := Ne.symm (Nat.ne_of_lt (by rw [← hb1]; exact nb2.lt))
     have nb3 := nb3.below bW4
     have nb2 := nb2.below bW4
     refine hK.out _ _ (fun _ => HSB.out _ BW4) (fun _ => ?_)
     clear hK K hW4 hb1
     have htl := (⟨nb1, nb2, nb3, db1b2, db1b3, db2b3, gb1, gb2, gb3, BW4⟩ : Lf w6.heap.size w6 b1 b2 b3 _ _ _ _ _ _ W4)
     clear nb1 nb2 nb3 db1b2 db1b3 db2b3 gb1 gb2 gb3 BW4
     refine last_one (i := 16) (by kernel_rfl) rfl ?_
     intro K hK
     have x0 := htl.a.1
     have x1 := htl.a.2.1
     have x2 := htl.a.2.2.1
     have x3 := htl.a.2.2.2
     go_simp
     obtain ⟨W5, hW5⟩ : ∃ W5, (W4.setCell ⟨b1, 0, none⟩ (.int .u64 (hiW PL))).setCell ⟨b1, 1, none⟩ (.int .u64 (loW PL)) = W5 := ⟨_, rfl⟩
     have htl := htl.set1 (.int .u64 (hiW PL)) (.int .u64 (loW PL))
     rw [hW5] at htl
     try rw [hW5]
     refine hK.out _ _ (fun _ => HSB.out _ htl.bel) (fun _ => ?_)
     clear hK K x0 x1 x2 x3 hW5
     refine last_one (i := 17) (by kernel_rfl) rfl ?_
     intro K hK
     have x0 := htl.b.1
     have x1 := htl.b.2.1
     have x2 := htl.b.2.2.1
     have x3 := htl.b.2.2.2
     go_simp
     obtain ⟨W6, hW6⟩ : ∃ W6, (W5.setCell ⟨b2, 0, none⟩ (.int .u64 (hiW PH))).setCell ⟨b2, 1, none⟩ (.int .u64 (loW PH)) = W6 := ⟨_, rfl⟩
     have htl := htl.set2 (.int .u64 (hiW PH)) (.int .u64 (loW PH))
     rw [hW6] at htl
     try rw [hW6]
     refine hK.out _ _ (fun _ => HSB.out _ htl.bel) (fun _ => ?_)
     clear hK K x0 x1 x2 x3 hW6
     refine last_one (i := 18) (by kernel_rfl) rfl ?_
     intro K hK
     have x0 := htl.c.1
     have x1 := htl.c.2.1
     have x2 := htl.c.2.2.1
     have x3 := htl.c.2.2.2
     go_simp
     obtain ⟨W7, hW7⟩ : ∃ W7, (W6.setCell ⟨b3, 0, none⟩ (.int .u64 (hiW PD))).setCell ⟨b3, 1, none⟩ (.int .u64 (loW PD)) = W7 := ⟨_, rfl⟩
     have htl := htl.set3 (.int .u64 (hiW PD)) (.int .u64 (loW PD))
     rw [hW7] at htl
     try rw [hW7]
     refine hK.out _ _ (fun h => absurd rfl h) (fun _ => ?_)
     clear hK K x0 x1 x2 x3 hW7
     refine last_done (by kernel_rfl) ?_ _
     have HTL : Hid _ := htl
     clear htl HSB HCP
     go_wp2
     go_meet
     exact ⟨b1, b2, b3, rfl, rfl, rfl, HTL.out.a.1, HTL.out.a.2.1, HTL.out.b.1, HTL.out.b.2.1, HTL.out.c.1, HTL.out.c.2.1, HTL.out.bel⟩
    case h13n81 =>
     intro K hK
     go_simp
     obtain ⟨b1, hb1⟩ : ∃ b1, W2.heap.size = b1 := ⟨_, rfl⟩
     obtain ⟨W3, hW3⟩ : ∃ W3, W2.alloc (.cells #[.int .u64 0, .int .u64 0] 64) = W3 := ⟨_, rfl⟩
     have nb1 : Bx W3 b1 (.int .u64 0) (.int .u64 0) := by rw [← hW3, ← hb1]; exact Bx.new W2 _ _ _
     have bW3 : Below W2.heap.size W2 W3 := by rw [← hW3]; exact (Below.refl _ _).alloc (Nat.le_refl _) _
     try rw [hb1]
     try rw [hW3]
     have BW3 : Below w6.heap.size w6 W3 := BW2.trans (bW3.mono BW2.size)
     have gb1 : w6.heap.size ≤ b1 := by rw [← hb1]; exact BW2.size
     have db1b3 : b1 ≠ b3 := Ne.symm (Nat.ne_of_lt (by rw [← hb1]; exact nb3.lt))
     have db1b2 : b1 ≠ b2 := Ne.symm (Nat.ne_of_lt (by rw [← hb1]; exact nb2.lt))
     have nb3 := nb3.below bW3
     have nb2 := nb2.below bW3
     refine hK.out _ _ (fun _ => HSB.out _ BW3) (fun _ => ?_)
     clear hK K hW3 hb1
     refine last_one (i := 8) (by kernel_rfl) rfl ?_
     intro K hK
     go_simp
     go_at_call 23
     refine (HCP.out _ BW3).mono ?_
     rintro e W4 ⟨rfl, bW4⟩
     have BW4 : Below w6.heap.size w6 W4 := BW3.trans (bW4.mono BW3.size)
     have nb3 := nb3.below bW4
     have nb2 := nb2.below bW4
     have nb1 := nb1.below bW4
     have HSW4 := HSB.out _ BW4
     go_simp
     refine hK.out _ _ (fun _ => HSW4) (fun _ => ?_)
     clear hK K
     refine last_take (i := 9) (v := ?v9k86) rfl (by kernel_rfl) (by kernel_rfl) (by kernel_rfl) (by kernel_rfl) rfl (fun _ _ _ h => h) (by rfl) HSW4 ?hy9k86 ?rest9k86
     case hy9k86 =>
      intro xx hSx
      go_simp
      try (with_reducible rfl)
     simp only [Act.put, List.setIfInBounds_toArray, List.set_cons_zero, List.set_cons_succ]
     refine last_take (i := 10) (v := ?v10k87) rfl (by kernel_rfl) (by kernel_rfl) (by kernel_rfl) (by kernel_rfl) rfl (fun _ _ _ h => h) (by rfl) HSW4 ?hy10k87 ?rest10k87
     case hy10k87 =>
      intro xx hSx
      go_simp
      try (with_reducible rfl)
     simp only [Act.put, List.setIfInBounds_toArray, List.set_cons_zero, List.set_cons_succ]
     refine last_take (i := 11) (v := ?v11k88) rfl (by kernel_rfl) (by kernel_rfl) (by kernel_rfl) (by kernel_rfl) rfl (fun _ _ _ h => h) (by rfl) HSW4 ?hy11k88 ?rest11k88
     case hy11k88 =>
      intro xx hSx
      go_simp
      try (with_reducible rfl)
     simp only [Act.put, List.setIfInBounds_toArray, List.set_cons_zero, List.set_cons_succ]
     refine last_take (i := 12) (v := ?v12k89) rfl (by kernel_rfl) (by kernel_rfl) (by kernel_rfl) (by kernel_rfl) rfl (fun _ _ _ h => h) (by rfl) HSW4 ?hy12k89 ?rest12k89
     case hy12k89 =>
      intro xx hSx
      go_simp
      try (with_reducible rfl)
     simp only [Act.put, List.setIfInBounds_toArray, List.set_cons_zero, List.set_cons_succ]
     have htl := (⟨nb1, nb2, nb3, db1b2, db1b3, db2b3, gb1, gb2, gb3, BW4⟩ : Lf w6.heap.size w6 b1 b2 b3 _ _ _ _ _ _ W4)
     clear nb1 nb2 nb3 db1b2 db1b3 db2b3 gb1 gb2 gb3 BW4
     refine last_one (i := 16) (by kernel_rfl) rfl ?_
     intro K hK
     have x0 := htl.a.1
     have x1 := htl.a.2.1
     have x2 := htl.a.2.2.1
     have x3 := htl.a.2.2.2
     go_simp
     obtain ⟨W5, hW5⟩ : ∃ W5, (W4.setCell ⟨b1, 0, none⟩ (.int .u64 (hiW PL))).setCell ⟨b1, 1, none⟩ (.int .u64 (loW PL)) = W5 := ⟨_, rfl⟩
     have htl := htl.set1 (.int .u64 (hiW PL)) (.int .u64 (loW PL))
     rw [hW5] at htl
     try rw [hW5]
     refine hK.out _ _ (fun _ => HSB.out _ htl.bel) (fun _ => ?_)
     clear hK K x0 x1 x2 x3 hW5
     refine last_one (i := 17) (by kernel_rfl) rfl ?_
     intro K hK
     have x0 := htl.b.1
     have x1 := htl.b.2.1
     have x2 := htl.b.2.2.1
     have x3 := htl.b.2.2.2
     go_simp
     obtain ⟨W6, hW6⟩ : ∃ W6, (W5.setCell ⟨b2, 0, none⟩ (.int .u64 (hiW PH))).setCell ⟨b2, 1, none⟩ (.int .u64 (loW PH)) = W6 := ⟨_, rfl⟩
     have htl := htl.set2 (.int .u64 (hiW PH)) (.int .u64 (loW PH))
     rw [hW6] at htl
     try rw [hW6]
     refine hK.out _ _ (fun _ => HSB.out _ htl.bel) (fun _ => ?_)
     clear hK K x0 x1 x2 x3 hW6
     refine last_one (i := 18) (by kernel_rfl) rfl ?_
     intro K hK
     have x0 := htl.c.1
     have x1 := htl.c.2.1
     have x2 := htl.c.2.2.1
     have x3 := htl.c.2.2.2
     go_simp
     obtain ⟨W7, hW7⟩ : ∃ W7, (W6.setCell ⟨b3, 0, none⟩ (.int .u64 (hiW PD))).setCell ⟨b3, 1, none⟩ (.int .u64 (loW PD)) = W7 := ⟨_, rfl⟩
     have htl := htl.set3 (.int .u64 (hiW PD)) (.int .u64 (loW PD))
     rw [hW7] at htl
     try rw [hW7]
     refine hK.out _ _ (fun h => absurd rfl h) (fun _ => ?_)
     clear hK K x0 x1 x2 x3 hW7
     refine last_done (by kernel_rfl) ?_ _
     have HTL : Hid _ := htl
     clear htl HSB HCP
     go_wp2
     go_meet
     exact ⟨b1, b2, b3, rfl, rfl, rfl, HTL.out.a.1, HTL.out.a.2.1, HTL.out.b.1, HTL.out.b.2.1, HTL.out.c.1, HTL.out.c.2.1, HTL.out.bel⟩
 case rest =>
 obtain ⟨b1, b2, b3, rfl, rfl, rfl, u0, u1, u2, u3, u4, u5, hb⟩ := hcut
 have HA7 : Hid (AccC wc G (l ++ [bhAc])) := AccC.below hb HA6.out
 have HB7 : Hid (Below w.heap.size w wc) := HBW.out.trans (hb.mono HBW.out.size)
 have hp := (cell_of (o := 1) (heapK HPB6.out hb) rfl).1
 obtain ⟨j0, j1, j2, j3, j4, j5, j6, j7⟩ := Jb.cells (heapK HJB6.out hb)
 have HU : Hid (wc.cell? ⟨b1, 0, none⟩ = some (.int .u64 (hiW PL)) ∧ wc.cell? ⟨b1, 1, none⟩ = some (.int .u64 (loW PL)) ∧ wc.cell? ⟨b2, 0, none⟩ = some (.int .u64 (hiW PH)) ∧ wc.cell? ⟨b2, 1, none⟩ = some (.int .u64 (loW PH)) ∧ wc.cell? ⟨b3, 0, none⟩ = some (.int .u64 (hiW PD)) ∧ wc.cell? ⟨b3, 1, none⟩ = some (.int .u64 (loW PD))) := ⟨u0, u1, u2, u3, u4, u5⟩
 obtain ⟨W7, hW7⟩ : ∃ W7, wc = W7 := ⟨_, rfl⟩
 rw [hW7] at HA7 HB7 HU hp j0 j1 j2 j3 j4 j5 j6 j7
 rw [hW7]
 clear hW7 hb u0 u1 u2 u3 u4 u5 HCP HPB6 HJB6 HA6 HBW HPP hq0 hq1
 have cR := HPR.out W7 HB7.out
 go_wp2_with fail
 refine cR.mono ?_
 rintro e x2 ⟨rfl, hb2⟩
 have HU2 : Hid (x2.cell? ⟨b1, 0, none⟩ = some (.int .u64 (hiW PL)) ∧ x2.cell? ⟨b1, 1, none⟩ = some (.int .u64 (loW PL)) ∧ x2.cell? ⟨b2, 0, none⟩ = some (.int .u64 (hiW PH)) ∧ x2.cell? ⟨b2, 1, none⟩ = some (.int .u64 (loW PH)) ∧ x2.cell? ⟨b3, 0, none⟩ = some (.int .u64 (hiW PD)) ∧ x2.cell? ⟨b3, 1, none⟩ = some (.int .u64 (loW PD))) := ⟨cellB hb2 HU.out.1, cellB hb2 HU.out.2.1, cellB hb2 HU.out.2.2.1, cellB hb2 HU.out.2.2.2.1, cellB hb2 HU.out.2.2.2.2.1, cellB hb2 HU.out.2.2.2.2.2⟩
 have HA8 : Hid (AccC x2 G (l ++ [bhAc])) := AccC.below hb2 HA7.out
 have HB8 : Hid (Below w.heap.size w x2) := HB7.out.trans (hb2.mono HB7.out.size)
 clear hb2 cR HA7 HB7 HU hp j0 j1 j2 j3 j4 j5 j6 j7 HPR
 have y1 := Bx.new x2 (.int .u64 (hiW PL)) (.int .u64 (loW PL)) 68
 have y2 := Bx.new (x2.alloc (.cells #[.int .u64 (hiW PL), .int .u64 (loW PL)] 68)) (.int .u64 (hiW PH)) (.int .u64 (loW PH)) 68
 have y3 := Bx.new ((x2.alloc (.cells #[.int .u64 (hiW PL), .int .u64 (loW PL)] 68)).alloc (.cells #[.int .u64 (hiW PH), .int .u64 (loW PH)] 68)) (.int .u64 (hiW PD)) (.int .u64 (loW PD)) 68
 have y1' := (y1.alloc #[.int .u64 (hiW PH), .int .u64 (loW PH)] 68).alloc #[.int .u64 (hiW PD), .int .u64 (loW PD)] 68
 have y2' := y2.alloc #[.int .u64 (hiW PD), .int .u64 (loW PD)] 68
 have bb : Below x2.heap.size x2 (((x2.alloc (.cells #[.int .u64 (hiW PL), .int .u64 (loW PL)] 68)).alloc (.cells #[.int .u64 (hiW PH), .int .u64 (loW PH)] 68)).alloc (.cells #[.int .u64 (hiW PD), .int .u64 (loW PD)] 68)) := (((Below.refl _ x2).alloc (Nat.le_refl _) _).alloc (by simp) _).alloc (by simp; omega) _
 simp only [World.size_alloc] at y2' y3
 go_upto_region 6 with fail
 obtain ⟨W8, hW8⟩ : ∃ W8, ((x2.alloc (.cells #[.int .u64 (hiW PL), .int .u64 (loW PL)] 68)).alloc (.cells #[.int .u64 (hiW PH), .int .u64 (loW PH)] 68)).alloc (.cells #[.int .u64 (hiW PD), .int .u64 (loW PD)] 68) = W8 := ⟨_, rfl⟩
 rw [hW8] at y1' y2' y3 bb
 try rw [hW8]
 obtain ⟨KK, hKK⟩ : ∃ KK, x2.heap.size = KK := ⟨_, rfl⟩
 rw [hKK] at y1' y2' y3
 try rw [hKK]
 have HA9 : Hid (AccC W8 G (l ++ [bhAc])) := AccC.below bb HA8.out
 have HB9 : Hid (Below w.heap.size w W8) := HB8.out.trans (bb.mono HB8.out.size)
 have HCC : Hid (Hc13 W8 ⟨G, Q * 5, none⟩ ⟨b1, 0, none⟩ ⟨b1, 1, none⟩ ⟨b2, 0, none⟩ ⟨b2, 1, none⟩ ⟨b3, 0, none⟩ ⟨b3, 1, none⟩ ⟨KK, 0, none⟩ ⟨KK, 1, none⟩ ⟨KK + 1, 0, none⟩ ⟨KK + 1, 1, none⟩ ⟨KK + 1 + 1, 0, none⟩ ⟨KK + 1 + 1, 1, none⟩ (.string ⟨#[98, 101, 104, 105, 110, 100]⟩) (.int .u64 (hiW PL)) (.int .u64 (loW PL)) (.int .u64 (hiW PH)) (.int .u64 (loW PH)) (.int .u64 (hiW PD)) (.int .u64 (loW PD)) (.int .u64 (hiW PL)) (.int .u64 (loW PL)) (.int .u64 (hiW PH)) (.int .u64 (loW PH)) (.int .u64 (hiW PD)) (.int .u64 (loW PD)) W8) := by
  have hk := ((HA9.out.at (k := Q) (a := bhAc) (by rw [List.getElem?_append_right (by rw [HL.out]; omega), HL.out]; simp)).nm)
  exact ⟨hk, cellB bb HU2.out.1, cellB bb HU2.out.2.1, cellB bb HU2.out.2.2.1, cellB bb HU2.out.2.2.2.1, cellB bb HU2.out.2.2.2.2.1, cellB bb HU2.out.2.2.2.2.2, y1'.1, y1'.2.1, y2'.1, y2'.2.1, y3.1, y3.2.1, Below.refl _ _, Nat.le_refl _⟩
 clear hW8 hKK y1 y2 y3 y1' y2' bb HA8 HB8 HU2
 go_wp2
 go_loopg [16] Q (fun gk x wq => ∃ k q : Nat, k + gk = Q ∧ x = .int .i64 k ∧ wq = W8.drewN q)
 case atStart => exact ⟨0, 0, by omega, rfl, rfl⟩
 case round =>
  obtain ⟨k, q, hk, rfl, rfl⟩ := hrel
  by_cases hlt : k < Q
  ·have hlt' : (k : Int) < Q := by omega
   have hlt2 : (k : Int) < (Q : Int) + 1 := by omega
   have hkl : k < l.length := by rw [HL.out]; exact hlt
   obtain ⟨g, o, hao, hal⟩ := HAL.out
   obtain rfl := hao (by omega)
   obtain ⟨a, ha, hac⟩ := Acs.at (hal (W8.drewN q) (HB9.out.trans ((bel_draw W8 q).mono HB9.out.size))) hkl
   have hag := AccC.at (AccC.below (bel_draw W8 q) HA9.out) (k := k) (a := a) (by rw [List.getElem?_append_left hkl]; exact ha)
   obtain ⟨y0, y1, y2, y3, y4⟩ := hac
   obtain ⟨z0, z1, z2, z3, z4⟩ := hag
   generalize a.nm = nm at *
   generalize a.pa = pa at *
   generalize a.sh = sh at *
   generalize a.cl = cl at *
   generalize a.us = us at *
   clear hal hao ha hkl
   obtain ⟨W, hW⟩ : ∃ W, W8.drewN q = W := ⟨_, rfl⟩
   have HW : Hid (W8.drewN q = W) := hW
   rw [hW] at y0 y1 y2 y3 y4 z0 z1 z2 z3 z4 ⊢
   clear hW
   go_upto_region 9 with fail
   go_quiet (fail)
   clear y0 y1 y2 y3 y4 z0 z1 z2 z3 z4
   go_wp2
   go_roundg (Q - (k + 1))
   case measure => omega
   case rel => exact ⟨k + 1, q + nq, by omega, rfl, by rw [← HW.out]; simp⟩
  ·obtain rfl : k = Q := by omega
   have hlt2 : (k : Int) < (k : Int) + 1 := by omega
   have cm := pcmp_nu PL PH
   unfold nu at cm
   have HV : Hid (Hc13 W8 ⟨G, k * 5, none⟩ ⟨b1, 0, none⟩ ⟨b1, 1, none⟩ ⟨b2, 0, none⟩ ⟨b2, 1, none⟩ ⟨b3, 0, none⟩ ⟨b3, 1, none⟩ ⟨KK, 0, none⟩ ⟨KK, 1, none⟩ ⟨KK + 1, 0, none⟩ ⟨KK + 1, 1, none⟩ ⟨KK + 1 + 1, 0, none⟩ ⟨KK + 1 + 1, 1, none⟩ (.string ⟨#[98, 101, 104, 105, 110, 100]⟩) (.int .u64 (hiW PL)) (.int .u64 (loW PL)) (.int .u64 (hiW PH)) (.int .u64 (loW PH)) (.int .u64 (hiW PD)) (.int .u64 (loW PD)) (.int .u64 (hiW PL)) (.int .u64 (loW PL)) (.int .u64 (hiW PH)) (.int .u64 (loW PH)) (.int .u64 (hiW PD)) (.int .u64 (loW PD)) W8) := HCC.out
   have HS : Hid (Hc13 W8 ⟨G, k * 5, none⟩ ⟨b1, 0, none⟩ ⟨b1, 1, none⟩ ⟨b2, 0, none⟩ ⟨b2, 1, none⟩ ⟨b3, 0, none⟩ ⟨b3, 1, none⟩ ⟨KK, 0, none⟩ ⟨KK, 1, none⟩ ⟨KK + 1, 0, none⟩ ⟨KK + 1, 1, none⟩ ⟨KK + 1 + 1, 0, none⟩ ⟨KK + 1 + 1, 1, none⟩ (.string ⟨#[98, 101, 104, 105, 110, 100]⟩) (.int .u64 (hiW PL)) (.int .u64 (loW PL)) (.int .u64 (hiW PH)) (.int .u64 (loW PH)) (.int .u64 (hiW PD)) (.int .u64 (loW PD)) (.int .u64 (hiW PL)) (.int .u64 (loW PL)) (.int .u64 (hiW PH)) (.int .u64 (loW PH)) (.int .u64 (hiW PD)) (.int .u64 (loW PD)) (W8.drewN q).drew) := Hc13.keep HV.out ((bel_draw W8 q).trans (drew_belowI (W8.drewN q)))
   have hde := HLE.out
   clear HCC HA9 HAL HLE
   go_upto_region 11 with fail
   go_region_held3 (fun x => x.cell? ⟨G, k * 5, none⟩ = some (.string ⟨#[98, 101, 104, 105, 110, 100]⟩) ∧ x.cell? ⟨b1, 0, none⟩ = some (.int .u64 (hiW PL)) ∧ x.cell? ⟨b1, 1, none⟩ = some (.int .u64 (loW PL)) ∧ x.cell? ⟨b2, 0, none⟩ = some (.int .u64 (hiW PH)) ∧ x.cell? ⟨b2, 1, none⟩ = some (.int .u64 (loW PH)) ∧ x.cell? ⟨b3, 0, none⟩ = some (.int .u64 (hiW PD)) ∧ x.cell? ⟨b3, 1, none⟩ = some (.int .u64 (loW PD)) ∧ x.cell? ⟨KK, 0, none⟩ = some (.int .u64 (hiW PL)) ∧ x.cell? ⟨KK, 1, none⟩ = some (.int .u64 (loW PL)) ∧ x.cell? ⟨KK + 1, 0, none⟩ = some (.int .u64 (hiW PH)) ∧ x.cell? ⟨KK + 1, 1, none⟩ = some (.int .u64 (loW PH)) ∧ x.cell? ⟨KK + 1 + 1, 0, none⟩ = some (.int .u64 (hiW PD)) ∧ x.cell? ⟨KK + 1 + 1, 1, none⟩ = some (.int .u64 (loW PD)) ∧ Below W8.heap.size W8 x ∧ W8.heap.size ≤ x.heap.size)
    (first | exact HS.out | exact HX.out | assumption | exact Hc13.keep (by assumption) (by assumption))
    (first
    | (go_at_call 48; refine (num_any _ _ _).mono ?_; rintro e x ⟨rfl, hx⟩; have HX : Hid (Hc13 W8 ⟨G, k * 5, none⟩ ⟨b1, 0, none⟩ ⟨b1, 1, none⟩ ⟨b2, 0, none⟩ ⟨b2, 1, none⟩ ⟨b3, 0, none⟩ ⟨b3, 1, none⟩ ⟨KK, 0, none⟩ ⟨KK, 1, none⟩ ⟨KK + 1, 0, none⟩ ⟨KK + 1, 1, none⟩ ⟨KK + 1 + 1, 0, none⟩ ⟨KK + 1 + 1, 1, none⟩ (.string ⟨#[98, 101, 104, 105, 110, 100]⟩) (.int .u64 (hiW PL)) (.int .u64 (loW PL)) (.int .u64 (hiW PH)) (.int .u64 (loW PH)) (.int .u64 (hiW PD)) (.int .u64 (loW PD)) (.int .u64 (hiW PL)) (.int .u64 (loW PL)) (.int .u64 (hiW PH)) (.int .u64 (loW PH)) (.int .u64 (hiW PD)) (.int .u64 (loW PD)) x) := Hc13.keep (by first | exact HX.out | exact HS.out | assumption) hx; clear hx)
    | (go_at_call 49; refine (cm _).mono ?_; rintro e x ⟨rfl, hx⟩; have HX : Hid (Hc13 W8 ⟨G, k * 5, none⟩ ⟨b1, 0, none⟩ ⟨b1, 1, none⟩ ⟨b2, 0, none⟩ ⟨b2, 1, none⟩ ⟨b3, 0, none⟩ ⟨b3, 1, none⟩ ⟨KK, 0, none⟩ ⟨KK, 1, none⟩ ⟨KK + 1, 0, none⟩ ⟨KK + 1, 1, none⟩ ⟨KK + 1 + 1, 0, none⟩ ⟨KK + 1 + 1, 1, none⟩ (.string ⟨#[98, 101, 104, 105, 110, 100]⟩) (.int .u64 (hiW PL)) (.int .u64 (loW PL)) (.int .u64 (hiW PH)) (.int .u64 (loW PH)) (.int .u64 (hiW PD)) (.int .u64 (loW PD)) (.int .u64 (hiW PL)) (.int .u64 (loW PL)) (.int .u64 (hiW PH)) (.int .u64 (loW PH)) (.int .u64 (hiW PD)) (.int .u64 (loW PD)) x) := Hc13.keep (by first | exact HX.out | assumption) hx; clear hx))
   all_goals
    have hbz := HB9.out.trans (HX.out.bel.mono HB9.out.size)
    have HBZ : Hid _ := hbz
    clear HX HS HV hbz
    go_wp2
    go_ret
    exact ⟨by simp [*], HBZ.out⟩
end Go.Proofs.YtdkbmligaodpmaaGreatDoor
