/-
 LAYER 16: package ideal: Priority: its head; what it refuses.
 LAYER 16: package ideal: Priority: who can't wait; the two sides out of an Ideal.
-/
import Derived.Test.YtdkbmligaodpmaaGreatDoorXilz
import Derived.Test.YtdkbmligaodpmaaGreatDoorXirz
import Derived.Test.YtdkbmligaodpmaaGreatDoorIdNqz
namespace Go.Proofs.YtdkbmligaodpmaaGreatDoor
open Go.RowKit Wd Tr Cg Ld

structure PrS (w x : World) (c : Cf) (B d : Nat) (v : Value) (L : List Bd) (j : Jb) (a1 b1 a2 b2 a3 b3 : Int) : Prop where
 job : x.heap[w.heap.size]? = some (.cells (jbL j) 39 (0, 0))
 r1 : Bx x (w.heap.size + 1) (.int .u64 a1) (.int .u64 b1)
 r2 : Bx x (w.heap.size + 1 + 1) (.int .u64 a2) (.int .u64 b2)
 r3 : Bx x (w.heap.size + 1 + 1 + 1) (.int .u64 a3) (.int .u64 b3)
 idl : Idl c B x d v L
 bel : Below w.heap.size w x
 big : w.heap.size + 4 ≤ x.heap.size
 low : ∀ k, IK d v k → k < w.heap.size
section
variable {w x y : World} {c : Cf} {B d : Nat} {v : Value} {L : List Bd} {j : Jb} {a1 b1 a2 b2 a3 b3 : Int}
theorem PrS.below (h : PrS w x c B d v L j a1 b1 a2 b2 a3 b3) (b : Below x.heap.size x y) : PrS w y c B d v L j a1 b1 a2 b2 a3 b3 :=
 ⟨heapK h.job b, h.r1.below b, h.r2.below b, h.r3.below b, h.idl.below b, h.bel.trans (b.mono (by have := h.big; omega)), by have := h.big; have := b.size; omega, h.low⟩
theorem bx_far {x : World} {g k : Nat} {a b p q : Value} {o o' : Nat} (h : Bx x g a b) (hne : g ≠ k) : Bx ((x.setCell ⟨k, o, none⟩ p).setCell ⟨k, o', none⟩ q) g a b := by
 obtain ⟨h0, h1, h2, h3⟩ := h
 exact ⟨by simp [go_sem, *], by simp [go_sem, *], by simp [go_sem, *], by simp [go_sem, *]⟩
theorem PrS.mid (h : PrS w x c B d v L j a1 b1 a2 b2 a3 b3) (k : Nat) (hk : w.heap.size < k) (p q : Value) :
  ((x.setCell ⟨k, 0, none⟩ p).setCell ⟨k, 1, none⟩ q).heap[w.heap.size]? = some (.cells (jbL j) 39 (0, 0)) ∧ Idl c B ((x.setCell ⟨k, 0, none⟩ p).setCell ⟨k, 1, none⟩ q) d v L ∧ Below w.heap.size w ((x.setCell ⟨k, 0, none⟩ p).setCell ⟨k, 1, none⟩ q) ∧ w.heap.size + 4 ≤ ((x.setCell ⟨k, 0, none⟩ p).setCell ⟨k, 1, none⟩ q).heap.size := by
 have hC : Chg (fun i => i = k) x ((x.setCell ⟨k, 0, none⟩ p).setCell ⟨k, 1, none⟩ q) := (Chg.refl (fun i => i = k) x).two
 refine ⟨?_, h.idl.chg hC (fun i hi e => ?_), (h.bel.setCell (by simp; omega) _).setCell (by simp; omega) _, by simp; exact h.big⟩
 ·rw [Below.heap_setCell _ _ _ _ (by simp; omega), Below.heap_setCell _ _ _ _ (by simp; omega)]
  exact h.job
 ·have := h.low i hi
  omega
theorem PrS.set1 (h : PrS w x c B d v L j a1 b1 a2 b2 a3 b3) (p q : Int) : PrS w ((x.setCell ⟨w.heap.size + 1, 0, none⟩ (.int .u64 p)).setCell ⟨w.heap.size + 1, 1, none⟩ (.int .u64 q)) c B d v L j p q a2 b2 a3 b3 := by
 obtain ⟨m1, m2, m3, m4⟩ := h.mid (w.heap.size + 1) (by omega) (.int .u64 p) (.int .u64 q)
 exact ⟨m1, set_two h.r1 _ _, bx_far h.r2 (by omega), bx_far h.r3 (by omega), m2, m3, m4, h.low⟩
theorem PrS.set2 (h : PrS w x c B d v L j a1 b1 a2 b2 a3 b3) (p q : Int) : PrS w ((x.setCell ⟨w.heap.size + 1 + 1, 0, none⟩ (.int .u64 p)).setCell ⟨w.heap.size + 1 + 1, 1, none⟩ (.int .u64 q)) c B d v L j a1 b1 p q a3 b3 := by
 obtain ⟨m1, m2, m3, m4⟩ := h.mid (w.heap.size + 1 + 1) (by omega) (.int .u64 p) (.int .u64 q)
 exact ⟨m1, bx_far h.r1 (by omega), set_two h.r2 _ _, bx_far h.r3 (by omega), m2, m3, m4, h.low⟩
theorem PrS.set3 (h : PrS w x c B d v L j a1 b1 a2 b2 a3 b3) (p q : Int) : PrS w ((x.setCell ⟨w.heap.size + 1 + 1 + 1, 0, none⟩ (.int .u64 p)).setCell ⟨w.heap.size + 1 + 1 + 1, 1, none⟩ (.int .u64 q)) c B d v L j a1 b1 a2 b2 p q := by
 obtain ⟨m1, m2, m3, m4⟩ := h.mid (w.heap.size + 1 + 1 + 1) (by omega) (.int .u64 p) (.int .u64 q)
 exact ⟨m1, bx_far h.r1 (by omega), bx_far h.r2 (by omega), set_two h.r3 _ _, m2, m3, m4, h.low⟩
abbrev prW (w : World) (j : Jb) : World := (((w.alloc (.cells (jbL j) 39)).alloc (.cells #[.int .u64 0, .int .u64 0] 64)).alloc (.cells #[.int .u64 0, .int .u64 0] 64)).alloc (.cells #[.int .u64 0, .int .u64 0] 64)
theorem PrS.start (h : Idl c B w d v L) (j : Jb) : PrS w (prW w j) c B d v L j 0 0 0 0 0 0 := by
 have hb : Below w.heap.size w (prW w j) := ((((Below.refl _ w).alloc (Nat.le_refl _) _).alloc (by simp) _).alloc (by simp; omega) _).alloc (by simp; omega) _
 have x1 := Bx.new (w.alloc (.cells (jbL j) 39)) (.int .u64 0) (.int .u64 0) 64
 have x2 := Bx.new ((w.alloc (.cells (jbL j) 39)).alloc (.cells #[.int .u64 0, .int .u64 0] 64)) (.int .u64 0) (.int .u64 0) 64
 have x3 := Bx.new (((w.alloc (.cells (jbL j) 39)).alloc (.cells #[.int .u64 0, .int .u64 0] 64)).alloc (.cells #[.int .u64 0, .int .u64 0] 64)) (.int .u64 0) (.int .u64 0) 64
 simp only [World.size_alloc] at x1 x2 x3
 refine ⟨?_, (x1.alloc _ _).alloc _ _, x2.alloc _ _, x3, h.below hb, hb, by simp, h.lt⟩
 exact (Below.heap_alloc _ _ _ (by simp; omega)).trans ((Below.heap_alloc _ _ _ (by simp; omega)).trans ((Below.heap_alloc _ _ _ (by simp)).trans (heap_alloc_new _ _)))
end
set_option maxRecDepth 20000 in
set_option maxHeartbeats 1000000 in
theorem prio_no1 {c : Cf} {B : Nat} {w : World} {d : Nat} {v : Value} {L : List Bd} (h : Idl c B w d v L) {ao : Option Addr} {l : List Ac} {cap : Nat} (hA : AcsAt w ao l) (hs : ∀ a ∈ l, a.nm.size ≤ maxLen) (hn : l.length * 48 ≤ 140737488355328) (hc : l.length ≤ cap) (now : Int) (j : Jb) (hl : loadE l ≠ 0) :
  Calls Tryz.prog 23 #[.pointer (some ⟨d, 0, none⟩), .slice ao l.length cap, .int .i64 now, jbV j] w fun e w' => e = .returned (.tuple #[nuV 0, nuV 0, nuV 0]) ∧ Below w.heap.size w w' := by
 have hP := PrS.start h j
 have cL := pload_any (hA.below hP.bel) hs hn hc
 have HP : Hid _ := hP
 have hne : (loadE l != 0) = true := by simp [hl]
 clear h hA hP
 generalize hq : l.length = q at *
 clear hq
 go_enter Tryz.func23, Tryz.ntmps23
 go_wp2_with fail
 refine cL.mono ?_
 rintro e w1 hLP
 obtain rfl := hLP.2.1 hl
 have hP1 := HP.out.below hLP.2.2
 obtain ⟨x0, x1, x2, x3⟩ := hP1.r1
 obtain ⟨y0, y1, y2, y3⟩ := hP1.r2
 obtain ⟨z0, z1, z2, z3⟩ := hP1.r3
 have HP1 : Hid _ := hP1
 clear hLP cL hP1 HP hl
 generalize loadE l = E at *
 go_upto_region 2 with fail
 go_quiet (fail)
 go_wp2
 refine bodyPost_ret (v := .tuple #[spV 0 0, spV 0 0, spV 0 0]) (by simp [results, Tryz.results23, go_sem, *]) rfl ⟨rfl, ?_⟩
 exact (((HP1.out.below (bel_draw w1 _)).set1 0 0).set2 0 0).set3 0 0 |>.bel
theorem Tree.len {S : Nat → Prop} {W : World} {t : Nat} {l : List Ac} {K : Nat → Nat → Bool} (h : Tree S W t l K) : Calls Tryz.prog 62 #[.pointer (some ⟨t, 0, none⟩)] W fun e w' => e = .returned (.int .i64 l.length) ∧ w' = W := by
 obtain ⟨v, m, kv, ks, hp, _⟩ := h
 exact (plen_any hp).mono (fun _ _ hh => ⟨hh.1, hh.2.symm⟩)
theorem Tree.draw {S : Nat → Prop} {W : World} {t : Nat} {l : List Ac} {K : Nat → Nat → Bool} (h : Tree S W t l K) (n : Nat) : Tree S (W.drewN n) t l K := h.below (bel_draw W n)
set_option maxRecDepth 20000 in
set_option maxHeartbeats 1000000 in
theorem prio_no2 {c : Cf} {B : Nat} {w : World} {d : Nat} {v : Value} {L : List Bd} (h : Idl c B w d v L) {ao : Option Addr} {l : List Ac} {cap : Nat} (hA : AcsAt w ao l) (hs : ∀ a ∈ l, a.nm.size ≤ maxLen) (hn : l.length * 48 ≤ 140737488355328) (hc : l.length ≤ cap) (now : Int) (j : Jb) (hl : loadE l = 0) (hll : l.length ≠ L.length) :
  Calls Tryz.prog 23 #[.pointer (some ⟨d, 0, none⟩), .slice ao l.length cap, .int .i64 now, jbV j] w fun e w' => e = .returned (.tuple #[nuV 0, nuV 0, nuV 0]) ∧ Below w.heap.size w w' := by
 have hP := PrS.start h j
 have cL := pload_any (hA.below hP.bel) hs hn hc
 have HP : Hid _ := hP
 have hne : ((l.length : Int) != (L.length : Int)) = true := by simp; omega
 clear h hA hP
 go_enter Tryz.func23, Tryz.ntmps23
 go_wp2_with fail
 refine cL.mono ?_
 rintro e w1 hLP
 obtain ⟨t, rfl, hTr⟩ := hLP.1 hl
 have hP1 := HP.out.below hLP.2.2
 obtain ⟨x0, x1, x2, x3⟩ := hP1.r1
 obtain ⟨y0, y1, y2, y3⟩ := hP1.r2
 obtain ⟨z0, z1, z2, z3⟩ := hP1.r3
 have HLn : Hid (∀ m, Calls Tryz.prog 62 #[.pointer (some ⟨t, 0, none⟩)] (w1.drewN m) fun e w' => e = .returned (.int .i64 (l.length : Int)) ∧ w' = w1.drewN m) := fun m => by
  have := (hTr.draw m).len
  rw [List.length_map] at this
  exact this
 obtain ⟨ao', cp', hv⟩ := hP1.idl.shape
 subst hv
 have c0 := hP1.idl.c0
 have HP1 : Hid _ := hP1
 clear hLP cL hP1 HP hl hTr hll
 generalize hq : l.length = q at *
 generalize hq2 : L.length = q2 at *
 clear hq hq2
 go_upto_region 2 with fail
 go_quiet ((go_at_call 62; exact Calls.quiet_of_same (HLn.out _)))
 go_wp2
 refine bodyPost_ret (v := .tuple #[spV 0 0, spV 0 0, spV 0 0]) (by simp [results, Tryz.results23, go_sem, *]) rfl ⟨rfl, ?_⟩
 exact (((HP1.out.below (bel_draw w1 _)).set1 0 0).set2 0 0).set3 0 0 |>.bel
end Go.Proofs.YtdkbmligaodpmaaGreatDoor
namespace Go.Proofs.YtdkbmligaodpmaaGreatDoor
open Go.RowKit Wd Tr Cg Ld

theorem Jb.cells {x : World} {g : Nat} {j : Jb} (h : x.heap[g]? = some (.cells (jbL j) 39 (0, 0))) :
  x.cell? ⟨g, 0, none⟩ = some (.int .i64 j.ac) ∧ x.cell? ⟨g, 1, none⟩ = some (.int .i64 j.no) ∧ x.cell? ⟨g, 2, none⟩ = some (.int .i64 j.li) ∧ x.cell? ⟨g, 3, none⟩ = some (.int .i64 j.su) ∧ x.cell? ⟨g, 4, none⟩ = some (.int .i64 j.st) ∧ x.cell? ⟨g, 5, none⟩ = some (.int .i64 j.sr) ∧ x.cell? ⟨g, 6, none⟩ = some (.int .i64 j.en) ∧ x.cell? ⟨g, 7, none⟩ = some (.slice j.sa j.sl j.sc) :=
 ⟨(cell_of h rfl).1, (cell_of h rfl).1, (cell_of h rfl).1, (cell_of h rfl).1, (cell_of h rfl).1, (cell_of h rfl).1, (cell_of h rfl).1, (cell_of h rfl).1⟩
set_option maxRecDepth 20000 in
set_option maxHeartbeats 1000000 in
theorem prio_no3 {c : Cf} {B : Nat} {w : World} {d : Nat} {v : Value} {L : List Bd} (h : Idl c B w d v L) {ao : Option Addr} {l : List Ac} {cap : Nat} (hA : AcsAt w ao l) (hs : ∀ a ∈ l, a.nm.size ≤ maxLen) (hn : l.length * 48 ≤ 140737488355328) (hc : l.length ≤ cap) (now : Int) (j : Jb) (hl : loadE l = 0) (hll : l.length = L.length) (hw : wtB c L now j = false) :
  Calls Tryz.prog 23 #[.pointer (some ⟨d, 0, none⟩), .slice ao l.length cap, .int .i64 now, jbV j] w fun e w' => e = .returned (.tuple #[nuV 0, nuV 0, nuV 0]) ∧ Below w.heap.size w w' := by
 have hP := PrS.start h j
 have cL := pload_any (hA.below hP.bel) hs hn hc
 have HP : Hid _ := hP
 have HLL : Hid (l.length = L.length) := hll
 clear h hA hP hll
 go_enter Tryz.func23, Tryz.ntmps23
 go_wp2_with fail
 refine cL.mono ?_
 rintro e w1 hLP
 obtain ⟨t, rfl, hTr⟩ := hLP.1 hl
 have hP1 := HP.out.below hLP.2.2
 have cN : Calls Tryz.prog 62 #[.pointer (some ⟨t, 0, none⟩)] w1.drew fun e w' => e = .returned (.int .i64 (L.length : Int)) ∧ w' = w1.drew := by
  have := (hTr.below (drew_belowI w1)).len
  rw [List.length_map, HLL.out] at this
  exact this
 have cW := waits_any (hP1.idl.below (drew_belowI w1)) now j
 rw [hw] at cW
 obtain ⟨ao', cp', hv⟩ := hP1.idl.shape
 subst hv
 have c0 := hP1.idl.c0
 obtain ⟨j0, j1, j2, j3, j4, j5, j6, j7⟩ := Jb.cells hP1.job
 have HP1 : Hid _ := hP1
 clear hLP cL hP1 HP hl hTr hw
 generalize hq : l.length = q at *
 generalize hq2 : L.length = q2 at *
 clear hq hq2
 go_upto_region 2 with fail
 go_cut [38] (fun b wq => b = .bool true ∧ PrS w wq c B d (.slice ao' q2 cp') L j 0 0 0 0 0 0)
 case first =>
  go_region_with (first
   | (go_at_call 62; refine cN.mono ?_; rintro e x ⟨rfl, rfl⟩)
   | (go_at_call 63; refine cW.mono ?_; rintro e x ⟨rfl, hx⟩; have HX : Hid (Below w1.drew.heap.size w1.drew x) := hx))
  all_goals
   have HPX : Hid _ := (HP1.out.below (drew_belowI w1)).below HX.out
   clear HX HP1 cN cW
   go_wp2
   go_meet
   exact ⟨rfl, HPX.out⟩
 case rest =>
  obtain ⟨rfl, hP2⟩ := hcut
  obtain ⟨x0, x1, x2, x3⟩ := hP2.r1
  obtain ⟨y0, y1, y2, y3⟩ := hP2.r2
  obtain ⟨z0, z1, z2, z3⟩ := hP2.r3
  have HP2 : Hid _ := hP2
  clear hP2 HP1 cN cW j0 j1 j2 j3 j4 j5 j6 j7 c0
  go_wp2
  refine bodyPost_ret (v := .tuple #[spV 0 0, spV 0 0, spV 0 0]) (by simp [results, Tryz.results23, go_sem, *]) rfl ⟨rfl, ?_⟩
  exact ((HP2.out.set1 0 0).set2 0 0).set3 0 0 |>.bel
def mL (l : List Ac) (L : List Bd) : List Ac := withU l (L.map loS)
def mH (l : List Ac) (L : List Bd) : List Ac := withU l (L.map hiS)
theorem side_of {l : List Ac} {L : List Bd} (hwu : Wu l) (hll : l.length = L.length) (hok : ∀ b ∈ L, b.Ok) : Side (mL l L) (mH l L) := by
 have h1 : (L.map loS).length = l.length := by simp [hll]
 have h2 : (L.map hiS).length = l.length := by simp [hll]
 have a1 := withU_alike h1
 have a2 := withU_alike h2
 refine ⟨a1.symm.trans a2, a1.wu hwu, withU_ok h1 (fun u hu => ?_), withU_ok h2 (fun u hu => ?_), fun n => ?_⟩
 ·obtain ⟨b, hb, rfl⟩ := List.mem_map.1 hu
  exact lo_short (hok b hb)
 ·obtain ⟨b, hb, rfl⟩ := List.mem_map.1 hu
  exact hi_short (hok b hb)
 ·by_cases hn : n < L.length
  ·have e : L[n]? = some L[n] := List.getElem?_eq_getElem hn
   rw [show usOf (mL l L) n = loS L[n] from withU_us h1 (by rw [List.getElem?_map, e]; rfl), show usOf (mH l L) n = hiS L[n] from withU_us h2 (by rw [List.getElem?_map, e]; rfl)]
   exact short_le (hok _ (List.getElem_mem hn))
  ·have e1 : (mL l L)[n]? = none := List.getElem?_eq_none (by have := withU_len h1; unfold mL; omega)
   have e2 : (mH l L)[n]? = none := List.getElem?_eq_none (by have := withU_len h2; unfold mH; omega)
   unfold usOf
   rw [e1, e2]
   exact Int.le_refl _
theorem fs_of {x : World} {t B : Nat} {vo : Value} {l : List Ac} {L : List Bd} (hT : Tree (fun _ => True) x t (l.map plainAc) (kidB (l.map plainAc))) (hwu : Wu l) (hll : l.length = L.length) (hok : ∀ b ∈ L, b.Ok) (hrow : x.ownsRow B 93 2 vo L.length (flat2 (shL L))) :
  ∃ og cap, vo = .slice (some ⟨og, 0, none⟩) (mL l L).length cap ∧ Fs x t og (mL l L) (mH l L) := by
 have hs := side_of hwu hll hok
 have h1 : (L.map loS).length = l.length := by simp [hll]
 have h2 : (L.map hiS).length = l.length := by simp [hll]
 have a1 := withU_alike h1
 have hml : (mL l L).length = L.length := by rw [show (mL l L).length = l.length from withU_len h1, hll]
 have hpos := hwu.pos
 rcases hrow.2 with ⟨_, h0⟩ | ⟨g, cap, cur, rfl, r⟩
 ·omega
 ·refine ⟨g, cap, by rw [hml], ⟨?_, fun i hi => ?_, fun i hi => ?_⟩, hs⟩
  ·have e : (mL l L).map plainAc = l.map plainAc := a1.symm
   rw [e]
   exact hT
  ·rw [hml] at hi
   have e : L[i]? = some L[i] := List.getElem?_eq_getElem hi
   have e2 : (shL L)[i]? = some (loS L[i], hiS L[i]) := by unfold shL; rw [List.getElem?_map, e]; rfl
   rw [hrow.cellAt (i * 2) (by omega), (flat2_at e2).1, show usOf (mL l L) i = loS L[i] from withU_us h1 (by rw [List.getElem?_map, e]; rfl)]
  ·rw [hml] at hi
   have e : L[i]? = some L[i] := List.getElem?_eq_getElem hi
   have e2 : (shL L)[i]? = some (loS L[i], hiS L[i]) := by unfold shL; rw [List.getElem?_map, e]; rfl
   rw [hrow.cellAt (i * 2 + 1) (by omega), (flat2_at e2).2, show usOf (mH l L) i = hiS L[i] from withU_us h2 (by rw [List.getElem?_map, e]; rfl)]
end Go.Proofs.YtdkbmligaodpmaaGreatDoor
