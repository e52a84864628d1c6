/-
 LAYER 16: the reference (backfillref16): Priority: its head; what it refuses (made by gen16p.py).
 LAYER 16: the reference (backfillref16): Clone (made by gen16o.py).
-/
import Derived.Test.YtdkbmligaodpmaaGreatDoorXrfz
import Derived.Test.YtdkbmligaodpmaaGreatDoorXriz
import Derived.Test.YtdkbmligaodpmaaGreatDoorXiyz
import Derived.Test.YtdkbmligaodpmaaGreatDoorXsfz
import Derived.Deep.AppendLies
namespace Go.Proofs.YtdkbmligaodpmaaGreatDoor
open Go.RowKit Wd Tr Cg Ld

def prOk (c : Cf) (l : List Ac) (L : List Bd) (now : Int) (j : Jb) : Bool := decide (loadE l = 0) && (decide (l.length = L.length) && wtB c L now j)
def prLo (c : Cf) (l : List Ac) (L : List Bd) (now : Int) (j : Jb) : Int := bif prOk c l L now j then idLo c l L now j else 0
def prHi (c : Cf) (l : List Ac) (L : List Bd) (now : Int) (j : Jb) : Int := bif prOk c l L now j then idHi c l L now j else 0
def prDe (c : Cf) (l : List Ac) (L : List Bd) (now : Int) (j : Jb) : Int := bif prOk c l L now j then 9223372036854775808 else 0
structure QrS (w x : World) (c : Cf) (B d : Nat) (v1 v2 : Value) (L : List Bd) (j : Jb) (a1 b1 a2 b2 a3 b3 : Int) : Prop where
 job : x.heap[w.heap.size]? = some (.cells (jbL j) 39 (0, 0))
 r1 : Bx x (w.heap.size + 1) (.int .u64 a1) (.int .u64 b1)
 r2 : Bx x (w.heap.size + 1 + 1) (.int .u64 a2) (.int .u64 b2)
 r3 : Bx x (w.heap.size + 1 + 1 + 1) (.int .u64 a3) (.int .u64 b3)
 idl : RIdl c B x d v1 v2 L
 bel : Below w.heap.size w x
 big : w.heap.size + 4 ≤ x.heap.size
 low : ∀ k, RK d v1 v2 k → k < w.heap.size
section
variable {w x y : World} {c : Cf} {B d : Nat} {v1 v2 : Value} {L : List Bd} {j : Jb} {a1 b1 a2 b2 a3 b3 : Int}
theorem QrS.below (h : QrS w x c B d v1 v2 L j a1 b1 a2 b2 a3 b3) (b : Below x.heap.size x y) : QrS w y c B d v1 v2 L j a1 b1 a2 b2 a3 b3 :=
 ⟨heapK h.job b, h.r1.below b, h.r2.below b, h.r3.below b, h.idl.below b, h.bel.trans (b.mono (by have := h.big; omega)), by have := h.big; have := b.size; omega, h.low⟩
theorem QrS.mid (h : QrS w x c B d v1 v2 L j a1 b1 a2 b2 a3 b3) (k : Nat) (hk : w.heap.size < k) (p q : Value) :
  ((x.setCell ⟨k, 0, none⟩ p).setCell ⟨k, 1, none⟩ q).heap[w.heap.size]? = some (.cells (jbL j) 39 (0, 0)) ∧ RIdl c B ((x.setCell ⟨k, 0, none⟩ p).setCell ⟨k, 1, none⟩ q) d v1 v2 L ∧ Below w.heap.size w ((x.setCell ⟨k, 0, none⟩ p).setCell ⟨k, 1, none⟩ q) ∧ w.heap.size + 4 ≤ ((x.setCell ⟨k, 0, none⟩ p).setCell ⟨k, 1, none⟩ q).heap.size := by
 have hC : Chg (fun i => i = k) x ((x.setCell ⟨k, 0, none⟩ p).setCell ⟨k, 1, none⟩ q) := (Chg.refl (fun i => i = k) x).two
 refine ⟨?_, h.idl.chg hC (fun i hi e => ?_), (h.bel.setCell (by simp; omega) _).setCell (by simp; omega) _, by simp; exact h.big⟩
 ·rw [Below.heap_setCell _ _ _ _ (by simp; omega), Below.heap_setCell _ _ _ _ (by simp; omega)]
  exact h.job
 ·have := h.low i hi
  omega
theorem QrS.set1 (h : QrS w x c B d v1 v2 L j a1 b1 a2 b2 a3 b3) (p q : Int) : QrS w ((x.setCell ⟨w.heap.size + 1, 0, none⟩ (.int .u64 p)).setCell ⟨w.heap.size + 1, 1, none⟩ (.int .u64 q)) c B d v1 v2 L j p q a2 b2 a3 b3 := by
 obtain ⟨m1, m2, m3, m4⟩ := h.mid (w.heap.size + 1) (by omega) (.int .u64 p) (.int .u64 q)
 exact ⟨m1, set_two h.r1 _ _, bx_far h.r2 (by omega), bx_far h.r3 (by omega), m2, m3, m4, h.low⟩
theorem QrS.set2 (h : QrS w x c B d v1 v2 L j a1 b1 a2 b2 a3 b3) (p q : Int) : QrS w ((x.setCell ⟨w.heap.size + 1 + 1, 0, none⟩ (.int .u64 p)).setCell ⟨w.heap.size + 1 + 1, 1, none⟩ (.int .u64 q)) c B d v1 v2 L j a1 b1 p q a3 b3 := by
 obtain ⟨m1, m2, m3, m4⟩ := h.mid (w.heap.size + 1 + 1) (by omega) (.int .u64 p) (.int .u64 q)
 exact ⟨m1, bx_far h.r1 (by omega), set_two h.r2 _ _, bx_far h.r3 (by omega), m2, m3, m4, h.low⟩
theorem QrS.set3 (h : QrS w x c B d v1 v2 L j a1 b1 a2 b2 a3 b3) (p q : Int) : QrS w ((x.setCell ⟨w.heap.size + 1 + 1 + 1, 0, none⟩ (.int .u64 p)).setCell ⟨w.heap.size + 1 + 1 + 1, 1, none⟩ (.int .u64 q)) c B d v1 v2 L j a1 b1 a2 b2 p q := by
 obtain ⟨m1, m2, m3, m4⟩ := h.mid (w.heap.size + 1 + 1 + 1) (by omega) (.int .u64 p) (.int .u64 q)
 exact ⟨m1, bx_far h.r1 (by omega), bx_far h.r2 (by omega), set_two h.r3 _ _, m2, m3, m4, h.low⟩
abbrev qrW (w : World) (j : Jb) : World := (((w.alloc (.cells (jbL j) 39)).alloc (.cells #[.int .u64 0, .int .u64 0] 68)).alloc (.cells #[.int .u64 0, .int .u64 0] 68)).alloc (.cells #[.int .u64 0, .int .u64 0] 68)
theorem QrS.start (h : RIdl c B w d v1 v2 L) (j : Jb) : QrS w (qrW w j) c B d v1 v2 L j 0 0 0 0 0 0 := by
 have hb : Below w.heap.size w (qrW w j) := ((((Below.refl _ w).alloc (Nat.le_refl _) _).alloc (by simp) _).alloc (by simp; omega) _).alloc (by simp; omega) _
 have x1 := Bx.new (w.alloc (.cells (jbL j) 39)) (.int .u64 0) (.int .u64 0) 68
 have x2 := Bx.new ((w.alloc (.cells (jbL j) 39)).alloc (.cells #[.int .u64 0, .int .u64 0] 68)) (.int .u64 0) (.int .u64 0) 68
 have x3 := Bx.new (((w.alloc (.cells (jbL j) 39)).alloc (.cells #[.int .u64 0, .int .u64 0] 68)).alloc (.cells #[.int .u64 0, .int .u64 0] 68)) (.int .u64 0) (.int .u64 0) 68
 simp only [World.size_alloc] at x1 x2 x3
 refine ⟨?_, (x1.alloc _ _).alloc _ _, x2.alloc _ _, x3, h.below hb, hb, by simp, h.lt⟩
 exact (Below.heap_alloc _ _ _ (by simp; omega)).trans ((Below.heap_alloc _ _ _ (by simp; omega)).trans ((Below.heap_alloc _ _ _ (by simp)).trans (heap_alloc_new _ _)))
end
theorem ok_parts {c : Cf} {l : List Ac} {L : List Bd} {now : Int} {j : Jb} (h : prOk c l L now j = true) : loadE l = 0 ∧ l.length = L.length ∧ wtB c L now j = true := by
 unfold prOk at h
 simp only [Bool.and_eq_true, decide_eq_true_eq] at h
 exact h
theorem pr_yes {c : Cf} {l : List Ac} {L : List Bd} {now : Int} {j : Jb} (h : prOk c l L now j = true) : prLo c l L now j = idLo c l L now j ∧ prHi c l L now j = idHi c l L now j ∧ prDe c l L now j = 9223372036854775808 := by
 unfold prLo prHi prDe
 rw [h]
 exact ⟨rfl, rfl, rfl⟩
theorem pr_no {c : Cf} {l : List Ac} {L : List Bd} {now : Int} {j : Jb} (h : prOk c l L now j = false) : prLo c l L now j = 0 ∧ prHi c l L now j = 0 ∧ prDe c l L now j = 0 := by
 unfold prLo prHi prDe
 rw [h]
 exact ⟨rfl, rfl, rfl⟩
theorem iprio_any {c : Cf} (hck : chkZ c = 0) {B : Nat} {w : World} {d : Nat} {v : Value} {L : List Bd} (h : Idl c B w d v L) (hT : Tab w) {ao : Option Addr} {l : List Ac} {cap : Nat} (hA : AcsAt w ao l) (hs : ∀ a ∈ l, a.nm.size ≤ maxLen) (hn : l.length * 48 ≤ 140737488355328) (hc : l.length ≤ cap) (now : Int) (j : Jb) :
  Calls Tryz.prog 23 #[.pointer (some ⟨d, 0, none⟩), .slice ao l.length cap, .int .i64 now, jbV j] w fun e w' => e = .returned (.tuple #[nuV (prLo c l L now j), nuV (prHi c l L now j), nuV (prDe c l L now j)]) ∧ Below w.heap.size w w' := by
 cases hp : prOk c l L now j with
 | true =>
  obtain ⟨e1, e2, e3⟩ := pr_yes hp
  obtain ⟨h1, h2, h3⟩ := ok_parts hp
  rw [e1, e2, e3]
  exact prio_yes hck h hT hA hs hn hc now j h1 h2 h3
 | false =>
  obtain ⟨e1, e2, e3⟩ := pr_no hp
  rw [e1, e2, e3]
  by_cases h1 : loadE l = 0
  ·by_cases h2 : l.length = L.length
   ·refine prio_no3 h hA hs hn hc now j h1 h2 ?_
    unfold prOk at hp
    rw [decide_eq_true h1, decide_eq_true h2, Bool.true_and, Bool.true_and] at hp
    exact hp
   ·exact prio_no2 h hA hs hn hc now j h1 h2
  ·exact prio_no1 h hA hs hn hc now j h1
theorem no_any {c : Cf} {l : List Ac} {L : List Bd} {now : Int} {j : Jb} (h : prOk c l L now j = false) (hE : loadE l = 0) {q q2 : Nat} (hq : l.length = q) (hq2 : L.length = q2) : (((q : Int) != (q2 : Int)) || (decide (j.ac < 0) || (decide ((q : Int) ≤ j.ac) || (decide (j.su < 0) || (decide (now < j.su) || (decide (1099511627776 < now) || (decide (j.no < 1) || decide (c.nodes < j.no)))))))) = true := by
 cases hb : (((q : Int) != (q2 : Int)) || (decide (j.ac < 0) || (decide ((q : Int) ≤ j.ac) || (decide (j.su < 0) || (decide (now < j.su) || (decide (1099511627776 < now) || (decide (j.no < 1) || decide (c.nodes < j.no)))))))) with
 | true => rfl
 | false =>
  simp only [Bool.or_eq_false_iff, decide_eq_false_iff_not, bne_eq_false_iff_eq] at hb
  obtain ⟨h1, h2, h3, h4, h5, h6, h7, h8⟩ := hb
  have : prOk c l L now j = true := by
   unfold prOk wtB
   simp only [Bool.and_eq_true, decide_eq_true_eq]
   exact ⟨hE, by omega, okA_of (by omega) (by omega), by omega, by omega, by omega, by omega, by omega⟩
  rw [h] at this
  cases this
theorem yes_any {c : Cf} {l : List Ac} {L : List Bd} {now : Int} {j : Jb} (h : wtB c L now j = true) (hll : l.length = L.length) {q q2 : Nat} (hq : l.length = q) (hq2 : L.length = q2) : ((q : Int) != (q2 : Int)) = false ∧ decide (j.ac < 0) = false ∧ decide ((q : Int) ≤ j.ac) = false ∧ decide (j.su < 0) = false ∧ decide (now < j.su) = false ∧ decide (1099511627776 < now) = false ∧ decide (j.no < 1) = false ∧ decide (c.nodes < j.no) = false := by
 obtain ⟨⟨h0, h1⟩, h2, h3, h4, h5, h6⟩ := wt_yes h
 refine ⟨?_, decide_eq_false (by omega), decide_eq_false (by omega), decide_eq_false (by omega), decide_eq_false (by omega), decide_eq_false (by omega), decide_eq_false (by omega), decide_eq_false (by omega)⟩
 rw [bne_eq_false_iff_eq]
 omega
theorem cell_far {x : World} {n k o o1 o2 : Nat} {a p q : Value} (hne : n ≠ k) (h : x.cell? ⟨n, o, none⟩ = some a) : ((x.setCell ⟨k, o1, none⟩ p).setCell ⟨k, o2, none⟩ q).cell? ⟨n, o, none⟩ = some a := by
 simp [go_sem, *]
theorem two_far {x : World} {n k : Nat} {a b p q : Value} (hne : n ≠ k) (h : x.cell? ⟨n, 0, none⟩ = some a ∧ x.cell? ⟨n, 1, none⟩ = some b) : ((x.setCell ⟨k, 0, none⟩ p).setCell ⟨k, 1, none⟩ q).cell? ⟨n, 0, none⟩ = some a ∧ ((x.setCell ⟨k, 0, none⟩ p).setCell ⟨k, 1, none⟩ q).cell? ⟨n, 1, none⟩ = some b := ⟨cell_far hne h.1, cell_far hne h.2⟩
theorem four_far {x : World} {n m k : Nat} {a b a' b' p q : Value} (hne : n ≠ k) (hme : m ≠ k) (h : x.cell? ⟨n, 0, none⟩ = some a ∧ x.cell? ⟨n, 1, none⟩ = some b ∧ x.cell? ⟨m, 0, none⟩ = some a' ∧ x.cell? ⟨m, 1, none⟩ = some b') : ((x.setCell ⟨k, 0, none⟩ p).setCell ⟨k, 1, none⟩ q).cell? ⟨n, 0, none⟩ = some a ∧ ((x.setCell ⟨k, 0, none⟩ p).setCell ⟨k, 1, none⟩ q).cell? ⟨n, 1, none⟩ = some b ∧ ((x.setCell ⟨k, 0, none⟩ p).setCell ⟨k, 1, none⟩ q).cell? ⟨m, 0, none⟩ = some a' ∧ ((x.setCell ⟨k, 0, none⟩ p).setCell ⟨k, 1, none⟩ q).cell? ⟨m, 1, none⟩ = some b' := ⟨cell_far hne h.1, cell_far hne h.2.1, cell_far hme h.2.2.1, cell_far hme h.2.2.2⟩
set_option maxRecDepth 20000 in
set_option maxHeartbeats 2000000 in
theorem rprio_no1 {c : Cf} {B : Nat} {w : World} {d : Nat} {v1 v2 : Value} {L : List Bd} (h : RIdl c B w d v1 v2 L) {ao : Option Addr} {l : List Ac} {cap : Nat} (hA : AcsAt w ao l) (hn : l.length * 48 ≤ 140737488355328) (now : Int) (j : Jb) (hl : loadE l ≠ 0) :
  Calls Tryz.prog 47 #[.pointer (some ⟨d, 0, none⟩), .slice ao l.length cap, .int .i64 now, jbV j] w fun e w' => e = .returned (.tuple #[nuV 0, nuV 0, nuV 0]) ∧ Below w.heap.size w w' := by
 have hP := QrS.start h j
 have cL := rload_any (c := cap) (hA.below hP.bel) hn
 have HP : Hid _ := hP
 have HL : Hid (loadE l ≠ 0) := hl
 have hne : (loadE l != 0) = true := by simp [hl]
 clear h hA hP hl
 generalize hq : l.length = q at *
 clear hq
 go_enter Tryz.func47, Tryz.ntmps47
 go_wp2_with fail
 refine cL.mono ?_
 rintro e w1 ⟨_, h2, hb⟩
 obtain rfl := h2 HL.out
 have hP1 := HP.out.below hb
 have HBG : Hid (w.heap.size + 4 ≤ w1.heap.size) := hP1.big
 have nb := Bx.new w1 (.int .u64 0) (.int .u64 0) 68
 have HP1 : Hid _ := hP1.below (Bk.below1 w1 (.cells #[.int .u64 0, .int .u64 0] 68))
 have HNB : Hid _ := nb
 clear cL hP1 HP h2 hb nb
 generalize loadE l = E at *
 go_upto_region 3 with fail
 obtain ⟨V0, hV0⟩ : ∃ V0, w1.alloc (.cells #[.int .u64 0, .int .u64 0] 68) = V0 := ⟨_, rfl⟩
 rw [hV0] at HP1 HNB
 rw [hV0]
 clear hV0
 go_cut [94] (fun b wq => b = .bool true ∧ QrS w wq c B d v1 v2 L j 0 0 0 0 0 0 ∧ Bx wq w1.heap.size (.int .u64 0) (.int .u64 0))
 case first =>
  go_quiet (fail)
  go_wp2
  go_meet
  exact ⟨rfl, HP1.out.below (bel_draw V0 _), Bx.below (W := V0) HNB.out (bel_draw V0 _)⟩
 case rest =>
  obtain ⟨rfl, hP2, hN2⟩ := hcut
  have hP3 := hP2.below (drew_belowI wc)
  have hN3 := hN2.below (drew_belowI wc)
  clear hP2 hN2
  go_upto_region 4 with fail
  refine wp_region_last (S := (fun x' : World => x'.cell? ⟨w1.heap.size, 0, none⟩ = some (.int .u64 0) ∧ x'.cell? ⟨w1.heap.size, 1, none⟩ = some (.int .u64 0))) (L := 5) (by kernel_rfl) ?_
  obtain ⟨U, hU⟩ : ∃ U, wc.drew = U := ⟨_, rfl⟩
  rw [hU] at hP3 hN3
  rw [hU]
  clear hU
  obtain ⟨x0, x1, x2, x3⟩ := hP3.r1
  obtain ⟨y0, y1, y2, y3⟩ := hP3.r2
  obtain ⟨z0, z1, z2, z3⟩ := hP3.r3
  obtain ⟨n0, n1, _, _⟩ := hN3
  have HP3 : Hid _ := hP3
  have HN : Hid (w1.heap.size ≠ w.heap.size + 1 ∧ w1.heap.size ≠ w.heap.size + 1 + 1) := ⟨by have := HBG.out; omega, by have := HBG.out; omega⟩
  have HS0 : (fun x' : World => x'.cell? ⟨w1.heap.size, 0, none⟩ = some (.int .u64 0) ∧ x'.cell? ⟨w1.heap.size, 1, none⟩ = some (.int .u64 0)) U := ⟨n0, n1⟩
  clear hP3 n0 n1
  refine last_take (i := 0) (v := ?v0) rfl (by kernel_rfl) (by kernel_rfl) (by kernel_rfl) (by kernel_rfl) rfl (fun _ _ _ h => h) (by rfl) HS0 ?hy0 ?rest0
  case hy0 =>
   intro xx hSx
   obtain ⟨s1, s2⟩ := hSx
   go_simp
   try (with_reducible rfl)
  simp only [Act.put, List.setIfInBounds_toArray, List.set_cons_zero, List.set_cons_succ]
  refine last_take (i := 1) (v := ?v1) rfl (by kernel_rfl) (by kernel_rfl) (by kernel_rfl) (by kernel_rfl) rfl (fun _ _ _ h => h) (by rfl) HS0 ?hy1 ?rest1
  case hy1 =>
   intro xx hSx
   obtain ⟨s1, s2⟩ := hSx
   go_simp
   try (with_reducible rfl)
  simp only [Act.put, List.setIfInBounds_toArray, List.set_cons_zero, List.set_cons_succ]
  refine last_take (i := 2) (v := ?v2) rfl (by kernel_rfl) (by kernel_rfl) (by kernel_rfl) (by kernel_rfl) rfl (fun _ _ _ h => h) (by rfl) HS0 ?hy2 ?rest2
  case hy2 =>
   intro xx hSx
   obtain ⟨s1, s2⟩ := hSx
   go_simp
   try (with_reducible rfl)
  simp only [Act.put, List.setIfInBounds_toArray, List.set_cons_zero, List.set_cons_succ]
  refine last_one (i := 3) (by kernel_rfl) rfl ?_
  intro K hK
  go_simp
  have HS1 := two_far (p := .int .u64 0) (q := .int .u64 0) HN.out.1 HS0
  refine hK.out _ _ (fun _ => HS1) (fun _ => ?_)
  clear hK K
  refine last_one (i := 4) (by kernel_rfl) rfl ?_
  intro K hK
  go_simp
  have HS2 := two_far (p := .int .u64 0) (q := .int .u64 0) HN.out.2 HS1
  refine hK.out _ _ (fun _ => HS2) (fun _ => ?_)
  clear hK K
  refine last_one (i := 5) (by kernel_rfl) rfl ?_
  intro K hK
  go_simp
  refine hK.out _ _ (fun h => absurd rfl h) (fun _ => ?_)
  clear hK K HS1 HS2 HS0
  refine last_done (by kernel_rfl) ?_ _
  have HZ : Hid _ := (((HP3.out.set1 0 0).set2 0 0).set3 0 0).bel
  clear HP3
  go_wp2
  refine bodyPost_ret (v := .tuple #[spV 0 0, spV 0 0, spV 0 0]) (by simp [results, Tryz.results47, go_sem, *]) rfl ⟨rfl, HZ.out⟩
set_option maxRecDepth 20000 in
set_option maxHeartbeats 4000000 in
theorem rprio_no2 {c : Cf} {B : Nat} {w : World} {d : Nat} {v1 v2 : Value} {L : List Bd} (h : RIdl c B w d v1 v2 L) {ao : Option Addr} {l : List Ac} {cap : Nat} (hA : AcsAt w ao l) (hn : l.length * 48 ≤ 140737488355328) (now : Int) (j : Jb) (hl : loadE l = 0) (hno : prOk c l L now j = false) :
  Calls Tryz.prog 47 #[.pointer (some ⟨d, 0, none⟩), .slice ao l.length cap, .int .i64 now, jbV j] w fun e w' => e = .returned (.tuple #[nuV 0, nuV 0, nuV 0]) ∧ Below w.heap.size w w' := by
 have hP := QrS.start h j
 have cL := rload_any (c := cap) (hA.below hP.bel) hn
 have HP : Hid _ := hP
 obtain ⟨q, hq⟩ : ∃ q, l.length = q := ⟨_, rfl⟩
 obtain ⟨q2, hq2⟩ : ∃ q2, L.length = q2 := ⟨_, rfl⟩
 have HNO : Hid _ := no_any hno hl hq hq2
 have HL : Hid (loadE l = 0) := hl
 obtain ⟨ao1, c1, e1⟩ := h.sh1
 rw [hq2] at e1
 rw [hq] at cL ⊢
 subst e1
 clear h hA hP hl hq hn hno hq2
 go_enter Tryz.func47, Tryz.ntmps47
 go_wp2_with fail
 refine cL.mono ?_
 rintro e w1 ⟨h1, _, hb⟩
 obtain ⟨dt, vt, rfl, _⟩ := h1 HL.out
 have hP1 := HP.out.below hb
 have HBG : Hid (w.heap.size + 4 ≤ w1.heap.size) := hP1.big
 have nb := Bx.new w1 (.int .u64 0) (.int .u64 0) 68
 have HP1 : Hid _ := hP1.below (Bk.below1 w1 (.cells #[.int .u64 0, .int .u64 0] 68))
 have HNB : Hid _ := nb
 clear cL hP1 HP h1 hb nb HL
 go_upto_region 3 with fail
 obtain ⟨V0, hV0⟩ : ∃ V0, w1.alloc (.cells #[.int .u64 0, .int .u64 0] 68) = V0 := ⟨_, rfl⟩
 rw [hV0] at HP1 HNB
 rw [hV0]
 clear hV0
 go_cut [94] (fun b wq => b = .bool true ∧ QrS w wq c B d (.slice ao1 q2 c1) v2 L j 0 0 0 0 0 0 ∧ Bx wq w1.heap.size (.int .u64 0) (.int .u64 0))
 case first =>
  have c8 := HP1.out.idl.two.c8.1
  have c0 := HP1.out.idl.two.c0
  obtain ⟨j0, j1, j2, j3, j4, j5, j6, j7⟩ := Jb.cells HP1.out.job
  clear j2 j4 j5 j6 j7
  have HO := HNO.out
  clear HNO
  cases h1 : ((q : Int) != (q2 : Int)) with
  | true =>
   clear HO
   go_quiet (fail)
   go_wp2
   go_meet
   exact ⟨rfl, HP1.out.below (bel_draw V0 _), Bx.below (W := V0) HNB.out (bel_draw V0 _)⟩
  | false =>
  cases h2 : decide (j.ac < 0) with
  | true =>
   clear HO
   go_quiet (fail)
   go_wp2
   go_meet
   exact ⟨rfl, HP1.out.below (bel_draw V0 _), Bx.below (W := V0) HNB.out (bel_draw V0 _)⟩
  | false =>
  cases h3 : decide ((q : Int) ≤ j.ac) with
  | true =>
   clear HO
   go_quiet (fail)
   go_wp2
   go_meet
   exact ⟨rfl, HP1.out.below (bel_draw V0 _), Bx.below (W := V0) HNB.out (bel_draw V0 _)⟩
  | false =>
  cases h4 : decide (j.su < 0) with
  | true =>
   clear HO
   go_quiet (fail)
   go_wp2
   go_meet
   exact ⟨rfl, HP1.out.below (bel_draw V0 _), Bx.below (W := V0) HNB.out (bel_draw V0 _)⟩
  | false =>
  cases h5 : decide (now < j.su) with
  | true =>
   clear HO
   go_quiet (fail)
   go_wp2
   go_meet
   exact ⟨rfl, HP1.out.below (bel_draw V0 _), Bx.below (W := V0) HNB.out (bel_draw V0 _)⟩
  | false =>
  cases h6 : decide (1099511627776 < now) with
  | true =>
   clear HO
   go_quiet (fail)
   go_wp2
   go_meet
   exact ⟨rfl, HP1.out.below (bel_draw V0 _), Bx.below (W := V0) HNB.out (bel_draw V0 _)⟩
  | false =>
  cases h7 : decide (j.no < 1) with
  | true =>
   clear HO
   go_quiet (fail)
   go_wp2
   go_meet
   exact ⟨rfl, HP1.out.below (bel_draw V0 _), Bx.below (W := V0) HNB.out (bel_draw V0 _)⟩
  | false =>
  cases h8 : decide (c.nodes < j.no) with
  | true =>
   clear HO
   go_quiet (fail)
   go_wp2
   go_meet
   exact ⟨rfl, HP1.out.below (bel_draw V0 _), Bx.below (W := V0) HNB.out (bel_draw V0 _)⟩
  | false =>
   exfalso
   rw [h1, h2, h3, h4, h5, h6, h7, h8] at HO
   cases HO
 case rest =>
  clear HNO
  obtain ⟨rfl, hP2, hN2⟩ := hcut
  have hP3 := hP2.below (drew_belowI wc)
  have hN3 := hN2.below (drew_belowI wc)
  clear hP2 hN2
  go_upto_region 4 with fail
  refine wp_region_last (S := (fun x' : World => x'.cell? ⟨w1.heap.size, 0, none⟩ = some (.int .u64 0) ∧ x'.cell? ⟨w1.heap.size, 1, none⟩ = some (.int .u64 0))) (L := 5) (by kernel_rfl) ?_
  obtain ⟨U, hU⟩ : ∃ U, wc.drew = U := ⟨_, rfl⟩
  rw [hU] at hP3 hN3
  rw [hU]
  clear hU
  obtain ⟨x0, x1, x2, x3⟩ := hP3.r1
  obtain ⟨y0, y1, y2, y3⟩ := hP3.r2
  obtain ⟨z0, z1, z2, z3⟩ := hP3.r3
  obtain ⟨n0, n1, _, _⟩ := hN3
  have HP3 : Hid _ := hP3
  have HN : Hid (w1.heap.size ≠ w.heap.size + 1 ∧ w1.heap.size ≠ w.heap.size + 1 + 1) := ⟨by have := HBG.out; omega, by have := HBG.out; omega⟩
  have HS0 : (fun x' : World => x'.cell? ⟨w1.heap.size, 0, none⟩ = some (.int .u64 0) ∧ x'.cell? ⟨w1.heap.size, 1, none⟩ = some (.int .u64 0)) U := ⟨n0, n1⟩
  clear hP3 n0 n1
  refine last_take (i := 0) (v := ?v0) rfl (by kernel_rfl) (by kernel_rfl) (by kernel_rfl) (by kernel_rfl) rfl (fun _ _ _ h => h) (by rfl) HS0 ?hy0 ?rest0
  case hy0 =>
   intro xx hSx
   obtain ⟨s1, s2⟩ := hSx
   go_simp
   try (with_reducible rfl)
  simp only [Act.put, List.setIfInBounds_toArray, List.set_cons_zero, List.set_cons_succ]
  refine last_take (i := 1) (v := ?v1) rfl (by kernel_rfl) (by kernel_rfl) (by kernel_rfl) (by kernel_rfl) rfl (fun _ _ _ h => h) (by rfl) HS0 ?hy1 ?rest1
  case hy1 =>
   intro xx hSx
   obtain ⟨s1, s2⟩ := hSx
   go_simp
   try (with_reducible rfl)
  simp only [Act.put, List.setIfInBounds_toArray, List.set_cons_zero, List.set_cons_succ]
  refine last_take (i := 2) (v := ?v2) rfl (by kernel_rfl) (by kernel_rfl) (by kernel_rfl) (by kernel_rfl) rfl (fun _ _ _ h => h) (by rfl) HS0 ?hy2 ?rest2
  case hy2 =>
   intro xx hSx
   obtain ⟨s1, s2⟩ := hSx
   go_simp
   try (with_reducible rfl)
  simp only [Act.put, List.setIfInBounds_toArray, List.set_cons_zero, List.set_cons_succ]
  refine last_one (i := 3) (by kernel_rfl) rfl ?_
  intro K hK
  go_simp
  have HS1 := two_far (p := .int .u64 0) (q := .int .u64 0) HN.out.1 HS0
  refine hK.out _ _ (fun _ => HS1) (fun _ => ?_)
  clear hK K
  refine last_one (i := 4) (by kernel_rfl) rfl ?_
  intro K hK
  go_simp
  have HS2 := two_far (p := .int .u64 0) (q := .int .u64 0) HN.out.2 HS1
  refine hK.out _ _ (fun _ => HS2) (fun _ => ?_)
  clear hK K
  refine last_one (i := 5) (by kernel_rfl) rfl ?_
  intro K hK
  go_simp
  refine hK.out _ _ (fun h => absurd rfl h) (fun _ => ?_)
  clear hK K HS1 HS2 HS0
  refine last_done (by kernel_rfl) ?_ _
  have HZ : Hid _ := (((HP3.out.set1 0 0).set2 0 0).set3 0 0).bel
  clear HP3
  go_wp2
  refine bodyPost_ret (v := .tuple #[spV 0 0, spV 0 0, spV 0 0]) (by simp [results, Tryz.results47, go_sem, *]) rfl ⟨rfl, HZ.out⟩
end Go.Proofs.YtdkbmligaodpmaaGreatDoor
namespace Go.Proofs.YtdkbmligaodpmaaGreatDoor
open Go.RowKit Wd Tr Cg

theorem last_two {P : Program} {ops : Array Oper} {Q : Exit → Act → World → Prop} {md : Region.Mode} {S : World → Prop} {L : Nat} {i j : Nat} {oi oj : Oper} {fuel : Nat} {listed : Array Bool} {a : Act} {w : World} (hr : Region.ready md ops listed = [i, j]) (hi : ops[i]? = some oi) (hj : ops[j]? = some oj)
  (h1 : ∀ K' : Act → World → Prop, Shut (∀ a w, (i ≠ L → S w) → ((i ≠ L → S w) → wpLast P md ops Q S L fuel (listed.setIfInBounds i true) a w) → K' a w) → if Region.wanted oi (yielded ops a.tmps) = true then Oper.wp P oi a w K' Q else K' (a.put oi.dst undef) w)
  (h2 : ∀ K' : Act → World → Prop, Shut (∀ a w, (j ≠ L → S w) → ((j ≠ L → S w) → wpLast P md ops Q S L fuel (listed.setIfInBounds j true) a w) → K' a w) → if Region.wanted oj (yielded ops a.tmps) = true then Oper.wp P oj a w K' Q else K' (a.put oj.dst undef) w) :
  wpLast P md ops Q S L (fuel + 1) listed a w := by
 refine ⟨fun e => (by rw [hr] at e; cases e), fun k hk => ?_⟩
 rw [hr] at hk
 obtain rfl | rfl : k = i ∨ k = j := by simpa using hk
 ·exact wpOp_step hi (fun K' hK => h1 K' (fun a w hS hW => hK a w ⟨hS, hW hS⟩))
 ·exact wpOp_step hj (fun K' hK => h2 K' (fun a w hS hW => hK a w ⟨hS, hW hS⟩))
theorem ridl_new {c : Cf} {B : Nat} {W : World} {ga gb ca cb : Nat} {L : List Bd} {q : Nat} (hq : L.length = q) (hB : B ≤ W.heap.size) (r1 : W.ownsRow B 68 2 (.slice (some ⟨ga, 0, none⟩) q ca) q (flatN (L.map Bd.lo))) (r2 : W.ownsRow B 68 2 (.slice (some ⟨gb, 0, none⟩) q cb) q (flatN (L.map Bd.hi))) (hne : ga ≠ gb) (ok : ∀ b ∈ L, b.Ok) (few : L.length ≤ 1000000) :
  RIdl c B (W.alloc (.cells (rdH c (.slice (some ⟨ga, 0, none⟩) q ca) (.slice (some ⟨gb, 0, none⟩) q cb)) 45)) W.heap.size (.slice (some ⟨ga, 0, none⟩) q ca) (.slice (some ⟨gb, 0, none⟩) q cb) L := by
 subst hq
 exact ⟨heap_top W _, r1.alloc _, r2.alloc _, fun k h1 h2 => hne (by simp [Value.ownBlock] at h1 h2; omega), hB, ok, few⟩
set_option maxRecDepth 20000 in
set_option maxHeartbeats 4000000 in
theorem riclone_any {c : Cf} {B : Nat} {w : World} {d : Nat} {v1 v2 : Value} {L : List Bd} (h : RIdl c B w d v1 v2 L) (h0 : 0 < L.length) :
  Calls Tryz.prog 19 #[.pointer (some ⟨d, 0, none⟩)] w fun e w' => ∃ d' v1' v2', e = .returned (.pointer (some ⟨d', 0, none⟩)) ∧ RIdl c w.heap.size w' d' v1' v2' L ∧ Below w.heap.size w w' := by
 obtain ⟨i0, hi0, hz0, hz1, hz2⟩ := info_parts Tryz.infRn
 obtain ⟨q, hq⟩ : ∃ q, L.length = q := ⟨_, rfl⟩
 have hfew := h.few
 obtain ⟨U1, hU1⟩ : ∃ U1, L.map Bd.lo = U1 := ⟨_, rfl⟩
 obtain ⟨U2, hU2⟩ : ∃ U2, L.map Bd.hi = U2 := ⟨_, rfl⟩
 have r1 := h.row1
 have r2 := h.row2
 have hblk := h.blk
 have hok := h.ok
 rw [hU1] at r1
 rw [hU2] at r2
 rw [hq] at r1 r2 h0
 rw [hq] at hfew
 have hq0 : 0 < q := h0
 rcases r1.2 with ⟨_, x0⟩ | ⟨g1, p1, cur1, rfl, k1⟩
 ·omega
 rcases r2.2 with ⟨_, x0⟩ | ⟨g2, p2, cur2, rfl, k2⟩
 ·omega
 have HF1 : Hid ((flatN U1).length = q * 2) := show (flatN U1).length = q * 2 by rw [flatN_len, ← hU1, List.length_map, hq]
 have HF2 : Hid ((flatN U2).length = q * 2) := show (flatN U2).length = q * 2 by rw [flatN_len, ← hU2, List.length_map, hq]
 have HC1 : Hid (∀ W, Below w.heap.size w W → ∀ j u, (flatN U1)[j]? = some u → W.cell? ((⟨g1, 0, none⟩ : Addr).add j) = some u) := fun W hb j u hu => cellB hb (r1.cells rfl j u hu)
 have HC2 : Hid (∀ W, Below w.heap.size w W → ∀ j u, (flatN U2)[j]? = some u → W.cell? ((⟨g2, 0, none⟩ : Addr).add j) = some u) := fun W hb j u hu => cellB hb (r2.cells rfl j u hu)
 have HBLK : Hid (w.heap[d]? = some (.cells (rdH c (.slice (some ⟨g1, 0, none⟩) q p1) (.slice (some ⟨g2, 0, none⟩) q p2)) 45 (0, 0))) := hblk
 have HEND : Hid (∀ (W : World) (ga ca gb cb : Nat), Below w.heap.size w W → W.ownsRow w.heap.size 68 2 (.slice (some ⟨ga, 0, none⟩) q ca) q (flatN U1) → W.ownsRow w.heap.size 68 2 (.slice (some ⟨gb, 0, none⟩) q cb) q (flatN U2) → ga ≠ gb →
   RIdl c w.heap.size (W.alloc (.cells (rdH c (.slice (some ⟨ga, 0, none⟩) q ca) (.slice (some ⟨gb, 0, none⟩) q cb)) 45)) W.heap.size (.slice (some ⟨ga, 0, none⟩) q ca) (.slice (some ⟨gb, 0, none⟩) q cb) L ∧ Below w.heap.size w (W.alloc (.cells (rdH c (.slice (some ⟨ga, 0, none⟩) q ca) (.slice (some ⟨gb, 0, none⟩) q cb)) 45))) := fun W ga ca gb cb hb o1 o2 hne => by
  rw [← hU1] at o1
  rw [← hU2] at o2
  exact ⟨ridl_new hq hb.size o1 o2 hne hok (by rw [hq]; exact hfew), hb.alloc hb.size _⟩
 have Bw : Below w.heap.size w w.drew := drew_belowI w
 clear r1 r2 k1 k2 h h0 hok hblk hq hU1 hU2
 go_enter Tryz.func19, Tryz.ntmps19
 go_upto_region 1 with fail
 refine wp_region_last (S := (fun x' : World => x'.heap[d]? = some (.cells (rdH c (.slice (some ⟨g1, 0, none⟩) q p1) (.slice (some ⟨g2, 0, none⟩) q p2)) 45 (0, 0)))) (L := 18) (by kernel_rfl) ?_
 obtain ⟨w0, hw0⟩ : ∃ w0, w.drew = w0 := ⟨_, rfl⟩
 rw [hw0] at Bw
 rw [hw0]
 have hza : w0.heap.size ≤ w.heap.size := by rw [← hw0]; exact Nat.le_refl _
 have hzb : w.heap.size ≤ w0.heap.size := by rw [← hw0]; exact Nat.le_refl _
 clear hw0
 have HS0 : (fun x' : World => x'.heap[d]? = some (.cells (rdH c (.slice (some ⟨g1, 0, none⟩) q p1) (.slice (some ⟨g2, 0, none⟩) q p2)) 45 (0, 0))) w0 := heapK HBLK.out Bw
 refine last_take (i := 0) (v := ?v0k1) rfl (by kernel_rfl) (by kernel_rfl) (by kernel_rfl) (by kernel_rfl) rfl (fun _ _ _ h => h) (by rfl) HS0 ?hy0k1 ?rest0k1
 case hy0k1 =>
  intro xx hSx
  go_simp
  try (with_reducible rfl)
 simp only [Act.put, List.setIfInBounds_toArray, List.set_cons_zero, List.set_cons_succ]
 refine last_take (i := 1) (v := ?v1k2) rfl (by kernel_rfl) (by kernel_rfl) (by kernel_rfl) (by kernel_rfl) rfl (fun _ _ _ h => h) (by rfl) HS0 ?hy1k2 ?rest1k2
 case hy1k2 =>
  intro xx hSx
  go_simp
  try (with_reducible rfl)
 simp only [Act.put, List.setIfInBounds_toArray, List.set_cons_zero, List.set_cons_succ]
 refine last_take (i := 2) (v := ?v2k3) rfl (by kernel_rfl) (by kernel_rfl) (by kernel_rfl) (by kernel_rfl) rfl (fun _ _ _ h => h) (by rfl) HS0 ?hy2k3 ?rest2k3
 case hy2k3 =>
  intro xx hSx
  go_simp
  try (with_reducible rfl)
 simp only [Act.put, List.setIfInBounds_toArray, List.set_cons_zero, List.set_cons_succ]
 refine last_take (i := 3) (v := ?v3k4) rfl (by kernel_rfl) (by kernel_rfl) (by kernel_rfl) (by kernel_rfl) rfl (fun _ _ _ h => h) (by rfl) HS0 ?hy3k4 ?rest3k4
 case hy3k4 =>
  intro xx hSx
  have z0 : xx.cell? ⟨d, 0, none⟩ = some (.int .i64 c.nodes) := (cell_of (o := 0) hSx rfl).1
  have z1 : xx.cell? ⟨d, 1, none⟩ = some (.int .i64 c.queue) := (cell_of (o := 1) hSx rfl).1
  have z2 : xx.cell? ⟨d, 2, none⟩ = some (.int .i64 c.limit) := (cell_of (o := 2) hSx rfl).1
  have z3 : xx.cell? ⟨d, 3, none⟩ = some (.int .i64 c.age) := (cell_of (o := 3) hSx rfl).1
  have z4 : xx.cell? ⟨d, 4, none⟩ = some (.int .i64 c.fair) := (cell_of (o := 4) hSx rfl).1
  have z5 : xx.cell? ⟨d, 5, none⟩ = some (.int .i64 c.size) := (cell_of (o := 5) hSx rfl).1
  have z6 : xx.cell? ⟨d, 6, none⟩ = some (.int .i64 c.period) := (cell_of (o := 6) hSx rfl).1
  have z7 : xx.cell? ⟨d, 7, none⟩ = some (.int .i64 c.half) := (cell_of (o := 7) hSx rfl).1
  go_simp
  try (with_reducible rfl)
 simp only [Act.put, List.setIfInBounds_toArray, List.set_cons_zero, List.set_cons_succ]
 refine last_take (i := 5) (v := ?v5k5) rfl (by kernel_rfl) (by kernel_rfl) (by kernel_rfl) (by kernel_rfl) rfl (fun _ _ _ h => h) (by rfl) HS0 ?hy5k5 ?rest5k5
 case hy5k5 =>
  intro xx hSx
  go_simp
  try (with_reducible rfl)
 simp only [Act.put, List.setIfInBounds_toArray, List.set_cons_zero, List.set_cons_succ]
 refine last_take (i := 6) (v := ?v6k6) rfl (by kernel_rfl) (by kernel_rfl) (by kernel_rfl) (by kernel_rfl) rfl (fun _ _ _ h => h) (by rfl) HS0 ?hy6k6 ?rest6k6
 case hy6k6 =>
  intro xx hSx
  go_simp
  try (with_reducible rfl)
 simp only [Act.put, List.setIfInBounds_toArray, List.set_cons_zero, List.set_cons_succ]
 refine last_take (i := 7) (v := ?v7k7) rfl (by kernel_rfl) (by kernel_rfl) (by kernel_rfl) (by kernel_rfl) rfl (fun _ _ _ h => h) (by rfl) HS0 ?hy7k7 ?rest7k7
 case hy7k7 =>
  intro xx hSx
  go_simp
  try (with_reducible rfl)
 simp only [Act.put, List.setIfInBounds_toArray, List.set_cons_zero, List.set_cons_succ]
 refine last_take (i := 8) (v := ?v8k8) rfl (by kernel_rfl) (by kernel_rfl) (by kernel_rfl) (by kernel_rfl) rfl (fun _ _ _ h => h) (by rfl) HS0 ?hy8k8 ?rest8k8
 case hy8k8 =>
  intro xx hSx
  have z8 : xx.cell? ⟨d, 8, none⟩ = some (.slice (some ⟨g1, 0, none⟩) q p1) := (cell_of (o := 8) hSx rfl).1
  go_simp
  try (with_reducible rfl)
 simp only [Act.put, List.setIfInBounds_toArray, List.set_cons_zero, List.set_cons_succ]
 refine last_take (i := 11) (v := ?v11k9) rfl (by kernel_rfl) (by kernel_rfl) (by kernel_rfl) (by kernel_rfl) rfl (fun _ _ _ h => h) (by rfl) HS0 ?hy11k9 ?rest11k9
 case hy11k9 =>
  intro xx hSx
  go_simp
  try (with_reducible rfl)
 simp only [Act.put, List.setIfInBounds_toArray, List.set_cons_zero, List.set_cons_succ]
 refine last_take (i := 12) (v := ?v12k10) rfl (by kernel_rfl) (by kernel_rfl) (by kernel_rfl) (by kernel_rfl) rfl (fun _ _ _ h => h) (by rfl) HS0 ?hy12k10 ?rest12k10
 case hy12k10 =>
  intro xx hSx
  go_simp
  try (with_reducible rfl)
 simp only [Act.put, List.setIfInBounds_toArray, List.set_cons_zero, List.set_cons_succ]
 refine last_take (i := 13) (v := ?v13k11) rfl (by kernel_rfl) (by kernel_rfl) (by kernel_rfl) (by kernel_rfl) rfl (fun _ _ _ h => h) (by rfl) HS0 ?hy13k11 ?rest13k11
 case hy13k11 =>
  intro xx hSx
  go_simp
  try (with_reducible rfl)
 simp only [Act.put, List.setIfInBounds_toArray, List.set_cons_zero, List.set_cons_succ]
 refine last_take (i := 14) (v := ?v14k12) rfl (by kernel_rfl) (by kernel_rfl) (by kernel_rfl) (by kernel_rfl) rfl (fun _ _ _ h => h) (by rfl) HS0 ?hy14k12 ?rest14k12
 case hy14k12 =>
  intro xx hSx
  have z9 : xx.cell? ⟨d, 9, none⟩ = some (.slice (some ⟨g2, 0, none⟩) q p2) := (cell_of (o := 9) hSx rfl).1
  go_simp
  try (with_reducible rfl)
 simp only [Act.put, List.setIfInBounds_toArray, List.set_cons_zero, List.set_cons_succ]
 refine last_two (i := 4) (j := 10) (by kernel_rfl) rfl rfl ?ha ?hb
 case ha =>
  intro K hK
  go_simp
  obtain ⟨ba, hba⟩ : ∃ ba, w0.heap.size = ba := ⟨_, rfl⟩
  obtain ⟨w1, hw1⟩ : ∃ w1, w0.alloc (.cells #[] 68) = w1 := ⟨_, rfl⟩
  have mba : w1.ownsRow ba 68 2 (.slice (some ⟨ba, 0, none⟩) 0 0) 0 [] := by rw [← hw1, ← hba]; exact made0 w0 68 2
  have bw1 : Below w0.heap.size w0 w1 := by rw [← hw1]; exact (Below.refl _ _).alloc (Nat.le_refl _) _
  have sw1 : w1.heap.size ≤ ba + 1 ∧ ba + 1 ≤ w1.heap.size := by rw [← hw1, ← hba]; simp
  try rw [hba]
  try rw [hw1]
  have Bw1 : Below w.heap.size w w1 := Bw.trans (bw1.mono (by have := Bw.size; omega))
  refine hK.out _ _ (fun _ => heapK HBLK.out Bw1) (fun _ => ?_)
  have qba : w0.heap.size ≤ ba ∧ ba ≤ w0.heap.size := by omega
  clear hK K hw1 hba
  have hba0 : w.heap.size ≤ ba ∧ ba ≤ w.heap.size := by omega
  refine last_two (i := 9) (j := 10) (by kernel_rfl) rfl rfl ?hc ?hd
  case hc =>
   intro K hK
   refine step_append_lies _ (by rfl) _ _ _ (by rfl) ba 68 i0 _ 2 16 Tryz.underlying43 hi0 hz0 hz1 hz2 rfl (by decide) (.slice (some ⟨ba, 0, none⟩) 0 0) 0 [] (by rfl) mba ⟨g1, 0, none⟩ q p1 (flatN U1) (by rfl) HF1.out (HC1.out _ Bw1) (flatN_one U1) hq0 (Nat.le_trans (m := 35184372088832) (by omega) (by decide)) (by omega) (by omega) _ rfl ?_
   intro va cva w2 ova grva atva ltva
   rw [Nat.zero_add, List.nil_append] at ova
   rw [Nat.zero_add]
   have at'va : va = ba ∨ va = w1.heap.size := by rcases atva with e | e; exact .inl (by simpa [Value.ownBlock] using e.symm); exact .inr e
   have zzva := grva.size
   have Bw2 : Below w.heap.size w w2 := Bw1.grown grva Bw1.size (fun k e => by simp [Value.ownBlock] at e; omega)
   refine hK.out _ _ (fun _ => heapK HBLK.out Bw2) (fun _ => ?_)
   clear hK K
   have ova := own_base ova (show w.heap.size ≤ ba by omega)
   refine last_one (i := 10) (by kernel_rfl) rfl ?_
   intro K hK
   go_simp
   obtain ⟨bb, hbb⟩ : ∃ bb, w2.heap.size = bb := ⟨_, rfl⟩
   obtain ⟨w3, hw3⟩ : ∃ w3, w2.alloc (.cells #[] 68) = w3 := ⟨_, rfl⟩
   have mbb : w3.ownsRow bb 68 2 (.slice (some ⟨bb, 0, none⟩) 0 0) 0 [] := by rw [← hw3, ← hbb]; exact made0 w2 68 2
   have bw3 : Below w2.heap.size w2 w3 := by rw [← hw3]; exact (Below.refl _ _).alloc (Nat.le_refl _) _
   have sw3 : w3.heap.size ≤ bb + 1 ∧ bb + 1 ≤ w3.heap.size := by rw [← hw3, ← hbb]; simp
   try rw [hbb]
   try rw [hw3]
   have Bw3 : Below w.heap.size w w3 := Bw2.trans (bw3.mono (by have := Bw2.size; omega))
   refine hK.out _ _ (fun _ => heapK HBLK.out Bw3) (fun _ => ?_)
   have qbb : w2.heap.size ≤ bb ∧ bb ≤ w2.heap.size := by omega
   clear hK K hw3 hbb
   have ova := row_kept ova bw3
   refine last_one (i := 15) (by kernel_rfl) rfl ?_
   intro K hK
   refine step_append_lies _ (by rfl) _ _ _ (by rfl) bb 68 i0 _ 2 16 Tryz.underlying43 hi0 hz0 hz1 hz2 rfl (by decide) (.slice (some ⟨bb, 0, none⟩) 0 0) 0 [] (by rfl) mbb ⟨g2, 0, none⟩ q p2 (flatN U2) (by rfl) HF2.out (HC2.out _ Bw3) (flatN_one U2) hq0 (Nat.le_trans (m := 35184372088832) (by omega) (by decide)) (by omega) (by omega) _ rfl ?_
   intro vb cvb w4 ovb grvb atvb ltvb
   rw [Nat.zero_add, List.nil_append] at ovb
   rw [Nat.zero_add]
   have at'vb : vb = bb ∨ vb = w3.heap.size := by rcases atvb with e | e; exact .inl (by simpa [Value.ownBlock] using e.symm); exact .inr e
   have zzvb := grvb.size
   have Bw4 : Below w.heap.size w w4 := Bw3.grown grvb Bw3.size (fun k e => by simp [Value.ownBlock] at e; omega)
   have ova := ova.kept grvb (by simp [Value.ownBlock]; omega)
   refine hK.out _ _ (fun _ => heapK HBLK.out Bw4) (fun _ => ?_)
   clear hK K
   have ovb := own_base ovb (show w.heap.size ≤ bb by omega)
   refine last_one (i := 16) (by kernel_rfl) rfl ?_
   intro K hK
   go_simp
   refine hK.out _ _ (fun _ => heapK HBLK.out Bw4) (fun _ => ?_)
   clear hK K
   have hfin := HEND.out w4 va cva vb cvb Bw4 ova ovb (by omega)
   refine last_one (i := 17) (by kernel_rfl) rfl ?_
   intro K hK
   go_simp
   refine hK.out _ _ (fun _ => heapK HBLK.out hfin.2) (fun _ => ?_)
   clear hK K
   refine last_one (i := 18) (by kernel_rfl) rfl ?_
   intro K hK
   go_simp
   refine hK.out _ _ (fun h => absurd rfl h) (fun _ => ?_)
   clear hK K
   refine last_done (by kernel_rfl) ?_ _
   clear HBLK HF1 HF2 HC1 HC2 HEND
   have HFI : Hid _ := hfin
   clear hfin ova ovb
   go_wp2
   go_ret
   exact ⟨_, rfl, ⟨_, _, HFI.out.1⟩, HFI.out.2⟩
  case hd =>
   intro K hK
   go_simp
   obtain ⟨bb, hbb⟩ : ∃ bb, w1.heap.size = bb := ⟨_, rfl⟩
   obtain ⟨w2, hw2⟩ : ∃ w2, w1.alloc (.cells #[] 68) = w2 := ⟨_, rfl⟩
   have mbb : w2.ownsRow bb 68 2 (.slice (some ⟨bb, 0, none⟩) 0 0) 0 [] := by rw [← hw2, ← hbb]; exact made0 w1 68 2
   have bw2 : Below w1.heap.size w1 w2 := by rw [← hw2]; exact (Below.refl _ _).alloc (Nat.le_refl _) _
   have sw2 : w2.heap.size ≤ bb + 1 ∧ bb + 1 ≤ w2.heap.size := by rw [← hw2, ← hbb]; simp
   try rw [hbb]
   try rw [hw2]
   have Bw2 : Below w.heap.size w w2 := Bw1.trans (bw2.mono (by have := Bw1.size; omega))
   have mba := row_kept mba bw2
   refine hK.out _ _ (fun _ => heapK HBLK.out Bw2) (fun _ => ?_)
   have qbb : w1.heap.size ≤ bb ∧ bb ≤ w1.heap.size := by omega
   clear hK K hw2 hbb
   refine last_one (i := 9) (by kernel_rfl) rfl ?_
   intro K hK
   refine step_append_lies _ (by rfl) _ _ _ (by rfl) ba 68 i0 _ 2 16 Tryz.underlying43 hi0 hz0 hz1 hz2 rfl (by decide) (.slice (some ⟨ba, 0, none⟩) 0 0) 0 [] (by rfl) mba ⟨g1, 0, none⟩ q p1 (flatN U1) (by rfl) HF1.out (HC1.out _ Bw2) (flatN_one U1) hq0 (Nat.le_trans (m := 35184372088832) (by omega) (by decide)) (by omega) (by omega) _ rfl ?_
   intro va cva w3 ova grva atva ltva
   rw [Nat.zero_add, List.nil_append] at ova
   rw [Nat.zero_add]
   have at'va : va = ba ∨ va = w2.heap.size := by rcases atva with e | e; exact .inl (by simpa [Value.ownBlock] using e.symm); exact .inr e
   have zzva := grva.size
   have Bw3 : Below w.heap.size w w3 := Bw2.grown grva Bw2.size (fun k e => by simp [Value.ownBlock] at e; omega)
   have mbb := mbb.kept grva (by simp [Value.ownBlock]; omega)
   refine hK.out _ _ (fun _ => heapK HBLK.out Bw3) (fun _ => ?_)
   clear hK K
   have ova := own_base ova (show w.heap.size ≤ ba by omega)
   refine last_one (i := 15) (by kernel_rfl) rfl ?_
   intro K hK
   refine step_append_lies _ (by rfl) _ _ _ (by rfl) bb 68 i0 _ 2 16 Tryz.underlying43 hi0 hz0 hz1 hz2 rfl (by decide) (.slice (some ⟨bb, 0, none⟩) 0 0) 0 [] (by rfl) mbb ⟨g2, 0, none⟩ q p2 (flatN U2) (by rfl) HF2.out (HC2.out _ Bw3) (flatN_one U2) hq0 (Nat.le_trans (m := 35184372088832) (by omega) (by decide)) (by omega) (by omega) _ rfl ?_
   intro vb cvb w4 ovb grvb atvb ltvb
   rw [Nat.zero_add, List.nil_append] at ovb
   rw [Nat.zero_add]
   have at'vb : vb = bb ∨ vb = w3.heap.size := by rcases atvb with e | e; exact .inl (by simpa [Value.ownBlock] using e.symm); exact .inr e
   have zzvb := grvb.size
   have Bw4 : Below w.heap.size w w4 := Bw3.grown grvb Bw3.size (fun k e => by simp [Value.ownBlock] at e; omega)
   have ova := ova.kept grvb (by simp [Value.ownBlock]; omega)
   refine hK.out _ _ (fun _ => heapK HBLK.out Bw4) (fun _ => ?_)
   clear hK K
   have ovb := own_base ovb (show w.heap.size ≤ bb by omega)
   refine last_one (i := 16) (by kernel_rfl) rfl ?_
   intro K hK
   go_simp
   refine hK.out _ _ (fun _ => heapK HBLK.out Bw4) (fun _ => ?_)
   clear hK K
   have hfin := HEND.out w4 va cva vb cvb Bw4 ova ovb (by omega)
   refine last_one (i := 17) (by kernel_rfl) rfl ?_
   intro K hK
   go_simp
   refine hK.out _ _ (fun _ => heapK HBLK.out hfin.2) (fun _ => ?_)
   clear hK K
   refine last_one (i := 18) (by kernel_rfl) rfl ?_
   intro K hK
   go_simp
   refine hK.out _ _ (fun h => absurd rfl h) (fun _ => ?_)
   clear hK K
   refine last_done (by kernel_rfl) ?_ _
   clear HBLK HF1 HF2 HC1 HC2 HEND
   have HFI : Hid _ := hfin
   clear hfin ova ovb
   go_wp2
   go_ret
   exact ⟨_, rfl, ⟨_, _, HFI.out.1⟩, HFI.out.2⟩
 case hb =>
  intro K hK
  go_simp
  obtain ⟨bb, hbb⟩ : ∃ bb, w0.heap.size = bb := ⟨_, rfl⟩
  obtain ⟨w1, hw1⟩ : ∃ w1, w0.alloc (.cells #[] 68) = w1 := ⟨_, rfl⟩
  have mbb : w1.ownsRow bb 68 2 (.slice (some ⟨bb, 0, none⟩) 0 0) 0 [] := by rw [← hw1, ← hbb]; exact made0 w0 68 2
  have bw1 : Below w0.heap.size w0 w1 := by rw [← hw1]; exact (Below.refl _ _).alloc (Nat.le_refl _) _
  have sw1 : w1.heap.size ≤ bb + 1 ∧ bb + 1 ≤ w1.heap.size := by rw [← hw1, ← hbb]; simp
  try rw [hbb]
  try rw [hw1]
  have Bw1 : Below w.heap.size w w1 := Bw.trans (bw1.mono (by have := Bw.size; omega))
  refine hK.out _ _ (fun _ => heapK HBLK.out Bw1) (fun _ => ?_)
  have qbb : w0.heap.size ≤ bb ∧ bb ≤ w0.heap.size := by omega
  clear hK K hw1 hbb
  have hba0 : w.heap.size ≤ bb ∧ bb ≤ w.heap.size := by omega
  refine last_one (i := 4) (by kernel_rfl) rfl ?_
  intro K hK
  go_simp
  obtain ⟨ba, hba⟩ : ∃ ba, w1.heap.size = ba := ⟨_, rfl⟩
  obtain ⟨w2, hw2⟩ : ∃ w2, w1.alloc (.cells #[] 68) = w2 := ⟨_, rfl⟩
  have mba : w2.ownsRow ba 68 2 (.slice (some ⟨ba, 0, none⟩) 0 0) 0 [] := by rw [← hw2, ← hba]; exact made0 w1 68 2
  have bw2 : Below w1.heap.size w1 w2 := by rw [← hw2]; exact (Below.refl _ _).alloc (Nat.le_refl _) _
  have sw2 : w2.heap.size ≤ ba + 1 ∧ ba + 1 ≤ w2.heap.size := by rw [← hw2, ← hba]; simp
  try rw [hba]
  try rw [hw2]
  have Bw2 : Below w.heap.size w w2 := Bw1.trans (bw2.mono (by have := Bw1.size; omega))
  have mbb := row_kept mbb bw2
  refine hK.out _ _ (fun _ => heapK HBLK.out Bw2) (fun _ => ?_)
  have qba : w1.heap.size ≤ ba ∧ ba ≤ w1.heap.size := by omega
  clear hK K hw2 hba
  refine last_one (i := 9) (by kernel_rfl) rfl ?_
  intro K hK
  refine step_append_lies _ (by rfl) _ _ _ (by rfl) ba 68 i0 _ 2 16 Tryz.underlying43 hi0 hz0 hz1 hz2 rfl (by decide) (.slice (some ⟨ba, 0, none⟩) 0 0) 0 [] (by rfl) mba ⟨g1, 0, none⟩ q p1 (flatN U1) (by rfl) HF1.out (HC1.out _ Bw2) (flatN_one U1) hq0 (Nat.le_trans (m := 35184372088832) (by omega) (by decide)) (by omega) (by omega) _ rfl ?_
  intro va cva w3 ova grva atva ltva
  rw [Nat.zero_add, List.nil_append] at ova
  rw [Nat.zero_add]
  have at'va : va = ba ∨ va = w2.heap.size := by rcases atva with e | e; exact .inl (by simpa [Value.ownBlock] using e.symm); exact .inr e
  have zzva := grva.size
  have Bw3 : Below w.heap.size w w3 := Bw2.grown grva Bw2.size (fun k e => by simp [Value.ownBlock] at e; omega)
  have mbb := mbb.kept grva (by simp [Value.ownBlock]; omega)
  refine hK.out _ _ (fun _ => heapK HBLK.out Bw3) (fun _ => ?_)
  clear hK K
  have ova := own_base ova (show w.heap.size ≤ ba by omega)
  refine last_one (i := 15) (by kernel_rfl) rfl ?_
  intro K hK
  refine step_append_lies _ (by rfl) _ _ _ (by rfl) bb 68 i0 _ 2 16 Tryz.underlying43 hi0 hz0 hz1 hz2 rfl (by decide) (.slice (some ⟨bb, 0, none⟩) 0 0) 0 [] (by rfl) mbb ⟨g2, 0, none⟩ q p2 (flatN U2) (by rfl) HF2.out (HC2.out _ Bw3) (flatN_one U2) hq0 (Nat.le_trans (m := 35184372088832) (by omega) (by decide)) (by omega) (by omega) _ rfl ?_
  intro vb cvb w4 ovb grvb atvb ltvb
  rw [Nat.zero_add, List.nil_append] at ovb
  rw [Nat.zero_add]
  have at'vb : vb = bb ∨ vb = w3.heap.size := by rcases atvb with e | e; exact .inl (by simpa [Value.ownBlock] using e.symm); exact .inr e
  have zzvb := grvb.size
  have Bw4 : Below w.heap.size w w4 := Bw3.grown grvb Bw3.size (fun k e => by simp [Value.ownBlock] at e; omega)
  have ova := ova.kept grvb (by simp [Value.ownBlock]; omega)
  refine hK.out _ _ (fun _ => heapK HBLK.out Bw4) (fun _ => ?_)
  clear hK K
  have ovb := own_base ovb (show w.heap.size ≤ bb by omega)
  refine last_one (i := 16) (by kernel_rfl) rfl ?_
  intro K hK
  go_simp
  refine hK.out _ _ (fun _ => heapK HBLK.out Bw4) (fun _ => ?_)
  clear hK K
  have hfin := HEND.out w4 va cva vb cvb Bw4 ova ovb (by omega)
  refine last_one (i := 17) (by kernel_rfl) rfl ?_
  intro K hK
  go_simp
  refine hK.out _ _ (fun _ => heapK HBLK.out hfin.2) (fun _ => ?_)
  clear hK K
  refine last_one (i := 18) (by kernel_rfl) rfl ?_
  intro K hK
  go_simp
  refine hK.out _ _ (fun h => absurd rfl h) (fun _ => ?_)
  clear hK K
  refine last_done (by kernel_rfl) ?_ _
  clear HBLK HF1 HF2 HC1 HC2 HEND
  have HFI : Hid _ := hfin
  clear hfin ova ovb
  go_wp2
  go_ret
  exact ⟨_, rfl, ⟨_, _, HFI.out.1⟩, HFI.out.2⟩
end Go.Proofs.YtdkbmligaodpmaaGreatDoor
