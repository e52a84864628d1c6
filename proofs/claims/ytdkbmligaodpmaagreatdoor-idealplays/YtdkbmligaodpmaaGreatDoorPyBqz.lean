/-
 IDEALPLAYS walked, of a config that may be (made by gen16py.py).
-/
import Derived.Test.YtdkbmligaodpmaaGreatDoorXplz
import Derived.Test.YtdkbmligaodpmaaGreatDoorPlBqz
import Derived.Test.YtdkbmligaodpmaaGreatDoorXriz
import Derived.Test.YtdkbmligaodpmaaGreatDoorXrmz
import Derived.Test.YtdkbmligaodpmaaGreatDoorXrpz
import Derived.Test.YtdkbmligaodpmaaGreatDoorXiyz
namespace Go.Proofs.YtdkbmligaodpmaaGreatDoor
open Go.RowKit Wd Tr Cg Ld

def Py (c : Cf) (w : World) (v : Value) (wr : World) : Prop := ∃ ps own, Fam c w.heap.size own ps v wr ∧ 0 < ps.length ∧ ps.length ≤ 4 ∧ Below w.heap.size w wr
theorem Py.mk {c : Cf} {w : World} {v : Value} {wr : World} {ps : List Pt} (h : ∃ own, Fam c w.heap.size own ps v wr) (h0 : 0 < ps.length) (h4 : ps.length ≤ 4) (hb : Below w.heap.size w wr) : Py c w v wr := by
 obtain ⟨own, hF⟩ := h
 exact ⟨ps, own, hF, h0, h4, hb⟩
theorem Py.turn {c : Cf} {w : World} {v : Value} {wr : World} {ps : List Pt} {i : Nat} {p : Pt} (h : ∃ own, Fam c w.heap.size own (ps.set i p) v wr) (h0 : 0 < ps.length) (h4 : ps.length ≤ 4) (hb : Below w.heap.size w wr) : Py c w v wr := Py.mk h (by rw [List.length_set]; exact h0) (by rw [List.length_set]; exact h4) hb
set_option maxRecDepth 20000 in
set_option maxHeartbeats 16000000 in
theorem plays_yes (hrp : RPrio) {w : World} (hT : Tab w) {ao so : Option Addr} {l : List Ac} {ss : List Sp} {ca cs : Nat} (hA : AcsAt w ao l) (hs : ∀ a ∈ l, a.nm.size ≤ maxLen) (hn : l.length * 48 ≤ 140737488355328) (hS : SpsAt w so ss) (hI : ∀ s ∈ ss, I64 s.on ∧ I64 s.n) (hsl : ss.length ≤ 140737488355328) (c : Cf) (hck : chkZ c = 0) :
  Calls Tryz.prog 3 #[cfV c, .slice ao l.length ca, .slice so ss.length cs] w fun e w' => e = .returned (.bool true) ∧ Below w.heap.size w w' := by
 obtain ⟨r, _⟩ := chk_yes hck
 obtain ⟨i0, hi0, hz0, hz1, hz2⟩ := info_parts Tryz.infPr
 have hSt := St.new w c
 have c1 := ishown_any (Tab.below hSt.bel hT)
 have HNW : Hid (∀ x, Below w.heap.size w x → Calls Tryz.prog 8 #[cfV c] x fun e w' => ∃ d v, e = .returned (.tuple #[.pointer (some ⟨d, 0, none⟩), .int .i64 0]) ∧ Idl c x.heap.size w' d v [zeB] ∧ Below x.heap.size x w') := fun x hx => inew_yes hck x (Tab.below hx hT)
 have HRN : Hid (∀ x, Calls Tryz.prog 9 #[cfV c] x fun e w' => ∃ d v1 v2, e = .returned (.tuple #[.pointer (some ⟨d, 0, none⟩), .int .i64 0]) ∧ RIdl c x.heap.size w' d v1 v2 [zeB] ∧ Below x.heap.size x w') := fun x => rinew_yes hck x
 obtain ⟨q, hq⟩ : ∃ q, l.length = q := ⟨_, rfl⟩
 have HPP : Hid (∀ (x : World) (p : Pt) (own : Nat → Nat) (i : Nat) (B : Nat) (now : Int) (j : Jb), Below w.heap.size w x → Pair c B own i p x → Calls Tryz.prog 17 #[.agg #[.pointer (some ⟨p.t, 0, none⟩), .pointer (some ⟨p.d, 0, none⟩)], .slice ao q ca, .int .i64 now, jbV j] x fun e w' => e = .returned (.bool true) ∧ Below x.heap.size x w') := fun x p own i B now j hx hp => by
  have := plp_any hrp (cap := ca) hck hp.tr hp.rf (Tab.below hx hT) (hA.below hx) hs hn now j
  rw [hq] at this
  exact this
 have HSS : Hid (∀ x, Below w.heap.size w x → SpsAt x so ss) := fun x hx => hS.below hx
 have HII : Hid (∀ s ∈ ss, I64 s.on ∧ I64 s.n) := hI
 have HR : Hid (Rng c) := r
 obtain ⟨N, hN⟩ : ∃ N, ss.length = N := ⟨_, rfl⟩
 have HN : Hid (ss.length = N) := hN
 rw [hq, hN]
 rw [hN] at hsl
 rw [hq] at hn
 unfold cfV at *
 clear hA hs hS hI r hck hq hN hT hrp
 go_enter Tryz.func3, Tryz.ntmps3
 go_wp2_with fail
 refine c1.mono ?_
 rintro e w1 ⟨rfl, b1⟩
 replace hSt := keepW hSt b1
 clear b1 c1
 obtain ⟨s0, s1, s2, s3, s4, s5, s6, s7, hB, hz⟩ := hSt
 have cN := HNW.out w1 hB
 go_wp2_with fail
 refine cN.mono ?_
 rintro e w2 ⟨t, tv, rfl, hI2, b2⟩
 have hSt : St w w.heap.size c w2 := keepW ⟨s0, s1, s2, s3, s4, s5, s6, s7, hB, hz⟩ b2
 have HI2 : Hid (Idl c w1.heap.size w2 t tv [zeB]) := hI2
 have hz1' := hB.size
 clear s0 s1 s2 s3 s4 s5 s6 s7 hB hz b2 cN hI2
 obtain ⟨s0, s1, s2, s3, s4, s5, s6, s7, hB, hz⟩ := hSt
 have cR := HRN.out w2
 go_wp2_with fail
 refine cR.mono ?_
 rintro e w3 ⟨d, v1, v2, rfl, hR3, b3⟩
 have HF0 : Hid (∃ own, Fam c w.heap.size own [⟨t, tv, d, v1, v2, [zeB]⟩] (.slice (some ⟨w3.heap.size, 0, none⟩) 1 1) (w3.alloc (.cells #[.pointer (some ⟨t, 0, none⟩), .pointer (some ⟨d, 0, none⟩)] 35))) := fam_start (p := ⟨t, tv, d, v1, v2, [zeB]⟩) ((HI2.out.below b3).base hz1') (hR3.base hB.size) ⟨Nat.zero_lt_one, (show 1 ≤ 200 by decide)⟩ (by have := hB.size; have := b3.size; omega)
 have HB4 : Hid (Below w.heap.size w (w3.alloc (.cells #[.pointer (some ⟨t, 0, none⟩), .pointer (some ⟨d, 0, none⟩)] 35))) := (hB.trans (b3.mono hB.size)).alloc (by have := hB.size; have := b3.size; omega) _
 clear s0 s1 s2 s3 s4 s5 s6 s7 hB hz hz1' b3 cR hR3 HI2 HNW HRN
 go_upto_region 9 with fail
 obtain ⟨w4, hw4⟩ : ∃ w4, w3.alloc (.cells #[.pointer (some ⟨t, 0, none⟩), .pointer (some ⟨d, 0, none⟩)] 35) = w4 := ⟨_, rfl⟩
 rw [hw4] at HF0 HB4
 try rw [hw4]
 have HP4 : Hid (Py c w (.slice (some ⟨w3.heap.size, 0, none⟩) 1 1) w4) := Py.mk HF0.out Nat.zero_lt_one (show 1 ≤ 4 by decide) HB4.out
 clear hw4 HF0 HB4
 go_wp2
 go_loopg [12, 13] N (fun gk v x wr => ∃ i : Nat, i + gk = N ∧ x = .int .i64 i ∧ Py c w v wr)
 case atStart => exact ⟨0, by omega, rfl, HP4.out⟩
 case round =>
  clear HP4
  obtain ⟨i, hi, rfl, ps, own, hF, hp0, hp4, hBw⟩ := hrel
  obtain ⟨M, hM⟩ : ∃ M, ps.length = M := ⟨_, rfl⟩
  obtain ⟨px, hpx⟩ : ∃ px, ps[0]? = some px := ⟨_, List.getElem?_eq_getElem hp0⟩
  obtain ⟨gv, cp, rfl, _⟩ := hF.at hpx
  rw [hM]
  by_cases hlt : i < N
  ·have hlt' : (i : Int) < N := by omega
   obtain ⟨gs, os, hso, hcs⟩ := HSS.out wr hBw
   obtain rfl := hso (by rw [HN.out]; omega)
   obtain ⟨s, hs⟩ : ∃ s, ss[i]? = some s := ⟨_, List.getElem?_eq_getElem (by rw [HN.out]; exact hlt)⟩
   obtain ⟨hon, hnn⟩ := HII.out s (List.mem_of_getElem? hs)
   have hsp := hcs i s hs
   have hM0 : 0 < M := by omega
   obtain ⟨k0, k1⟩ := pk_box (c := s.on) (n := (M : Int)) (by omega)
   obtain ⟨pi, hpi⟩ : ∃ pi : Nat, pkV s.on M = pi := ⟨(pkV s.on M).toNat, by omega⟩
   have cP := fun x => pick_any (x := s.on) (n := (M : Int)) hon (by omega) x
   rw [hpi] at cP
   have hpil : pi < ps.length := by omega
   have hpl' : (pi : Int) < M := by omega
   obtain ⟨p, hp⟩ : ∃ p, ps[pi]? = some p := ⟨_, List.getElem?_eq_getElem hpil⟩
   obtain ⟨g', cp', ev, x1, x2⟩ := hF.at hp
   cases ev
   have HF : Hid (Fam c w.heap.size own ps (.slice (some ⟨gv, 0, none⟩) M cp) wr) := by rw [← hM]; exact hF
   have HB : Hid (Below w.heap.size w wr) := hBw
   have HM : Hid (ps.length = M ∧ 0 < M ∧ M ≤ 4) := ⟨hM, by omega, by omega⟩
   have HPI : Hid (ps[pi]? = some p) := hp
   have HNN : Hid (I64 s.n) := hnn
   obtain ⟨q0, q1, q2, q3, q4, q5, q6, q7, q8, q9, q10, q11, q12⟩ := hsp
   have y1 := x1.1
   have y2 := x2.1
   clear hF hBw hso hcs hs hon hnn k0 k1 hpi hpil hp0 hp4 hpx x1 x2 hp
   go_wp2_with fail
   refine (cP _).mono ?_
   rintro e x ⟨rfl, hxx⟩
   obtain rfl := hxx.symm
   have a1 := allocC (.cells (spL s) 41) y1
   have a2 := allocC (.cells (spL s) 41) y2
   go_upto_region 15 with fail
   obtain ⟨z, hz⟩ : ∃ z, wr.heap.size = z := ⟨_, rfl⟩
   obtain ⟨X, hX⟩ : ∃ X, (wr.alloc (.cells (spL s) 41)).alloc (.cells #[.pointer (some ⟨p.t, 0, none⟩), .pointer (some ⟨p.d, 0, none⟩)] 35) = X := ⟨_, rfl⟩
   have bX : Below wr.heap.size wr X := by rw [← hX]; exact ((Below.refl _ wr).alloc (Nat.le_refl _) _).alloc (by simp) _
   have HBS : Hid (SpAt X z 0 s) := by
    refine SpAt.box ?_
    rw [← hX, ← hz]
    exact (Below.heap_alloc _ _ _ (by simp)).trans (heap_alloc_new wr _)
   have HBP : Hid (X.heap[z + 1]? = some (.cells #[.pointer (some ⟨p.t, 0, none⟩), .pointer (some ⟨p.d, 0, none⟩)] 35 (0, 0))) := by
    have := heap_alloc_new (wr.alloc (.cells (spL s) 41)) (.cells #[.pointer (some ⟨p.t, 0, none⟩), .pointer (some ⟨p.d, 0, none⟩)] 35)
    rw [hX, World.size_alloc, hz] at this
    exact this
   have HFX : Hid (Fam c w.heap.size own ps (.slice (some ⟨gv, 0, none⟩) M cp) X) := HF.out.below bX
   have HBX : Hid (Below w.heap.size w X) := HB.out.trans (bX.mono HB.out.size)
   have HZX : Hid (∀ k, (IK p.t p.tv k ∨ RK p.d p.v1 p.v2 k) → k < z) := fun k hk => by rw [← hz]; exact (HF.out.ok pi p HPI.out).lt hk
   try rw [hX]
   try rw [hz]
   clear hX hz bX a1 a2 y1 y2 HF HB cP q0 q1 q2 q3 q4 q5 q6 q7 q8 q9 q10 q11 q12
   have HPR : Hid (Pair c w.heap.size own pi p X) := HFX.out.ok pi p HPI.out
   have hb0 := (cell_of (o := 0) HBP.out rfl).1
   have hb1 := (cell_of (o := 1) HBP.out rfl).1
   obtain ⟨kk, kon, ka, kn, know, kj0, kj1, kj2, kj3, kj4, kj5, kj6, kj7⟩ := HBS.out
   simp only [Nat.zero_add] at kk kon ka kn know kj0 kj1 kj2 kj3 kj4 kj5 kj6 kj7
   by_cases e1 : s.kd = 1
   ·rw [e1] at kk
    obtain ⟨ao1, cq, ev1⟩ := HPR.out.rf.sh1
    have c8 := HPR.out.rf.two.c8.1
    rw [ev1] at c8
    by_cases h200 : p.L.length < 200
    ·have hi200 : (p.L.length : Int) < 200 := by omega
     have HY : Hid (Fam c w.heap.size own ps (.slice (some ⟨gv, 0, none⟩) M cp) X.drew) := HFX.out.below (drew_belowI X)
     have cO := iopen_any (HY.out.ok pi p HPI.out).tr (B := w.heap.size) (by have := HBX.out.size; exact this) (by omega)
     have HS : Hid (X.drew.cell? ⟨z + 1, 0, none⟩ = some (.pointer (some ⟨p.t, 0, none⟩)) ∧ X.drew.cell? ⟨z + 1, 1, none⟩ = some (.pointer (some ⟨p.d, 0, none⟩))) := ⟨hb0, hb1⟩
     have HQL : Hid (p.L.length < 200 ∧ 0 < p.L.length) := ⟨h200, HPR.out.few.1⟩
     obtain ⟨ql, hql⟩ : ∃ ql, p.L.length = ql := ⟨_, rfl⟩
     have HQE : Hid (p.L.length = ql) := hql
     rw [hql] at c8 hi200 cO
     clear ka kn know kj0 kj1 kj2 kj3 kj4 kj5 kj6 kj7 kon hql
     go_upto_region 18 with fail
     clear c8 kk
     refine wp_region_last (S := (fun x' : World => x'.cell? ⟨z + 1, 0, none⟩ = some (.pointer (some ⟨p.t, 0, none⟩)) ∧ x'.cell? ⟨z + 1, 1, none⟩ = some (.pointer (some ⟨p.d, 0, none⟩)))) (L := 7) (by kernel_rfl) ?_
     have HSW0 : (fun x' : World => x'.cell? ⟨z + 1, 0, none⟩ = some (.pointer (some ⟨p.t, 0, none⟩)) ∧ x'.cell? ⟨z + 1, 1, none⟩ = some (.pointer (some ⟨p.d, 0, none⟩))) (X.drew) := HS.out
     clear HS
     refine last_take (i := 0) (v := ?v0k1) rfl (by kernel_rfl) (by kernel_rfl) (by kernel_rfl) (by kernel_rfl) rfl (fun _ _ _ h => h) (by rfl) HSW0 ?hy0k1 ?rest0k1
     case hy0k1 =>
      intro xx hSx
      go_simp
      try (with_reducible rfl)
     simp only [Act.put, List.setIfInBounds_toArray, List.set_cons_zero, List.set_cons_succ]
     refine last_take (i := 1) (v := ?v1k2) rfl (by kernel_rfl) (by kernel_rfl) (by kernel_rfl) (by kernel_rfl) rfl (fun _ _ _ h => h) (by rfl) HSW0 ?hy1k2 ?rest1k2
     case hy1k2 =>
      intro xx hSx
      obtain ⟨s0, s1⟩ := hSx
      go_simp
      try (with_reducible rfl)
     simp only [Act.put, List.setIfInBounds_toArray, List.set_cons_zero, List.set_cons_succ]
     refine last_take (i := 3) (v := ?v3k3) rfl (by kernel_rfl) (by kernel_rfl) (by kernel_rfl) (by kernel_rfl) rfl (fun _ _ _ h => h) (by rfl) HSW0 ?hy3k3 ?rest3k3
     case hy3k3 =>
      intro xx hSx
      go_simp
      try (with_reducible rfl)
     simp only [Act.put, List.setIfInBounds_toArray, List.set_cons_zero, List.set_cons_succ]
     refine last_take (i := 4) (v := ?v4k4) rfl (by kernel_rfl) (by kernel_rfl) (by kernel_rfl) (by kernel_rfl) rfl (fun _ _ _ h => h) (by rfl) HSW0 ?hy4k4 ?rest4k4
     case hy4k4 =>
      intro xx hSx
      obtain ⟨s0, s1⟩ := hSx
      go_simp
      try (with_reducible rfl)
     simp only [Act.put, List.setIfInBounds_toArray, List.set_cons_zero, List.set_cons_succ]
     refine last_one (i := 2) (by kernel_rfl) rfl ?_
     intro K hK
     go_simp
     go_at_call 11
     refine (cO).mono ?_
     rintro e x1 ⟨rfl, tv', I1, C1, A1⟩
     have HSx1 : (fun x' : World => x'.cell? ⟨z + 1, 0, none⟩ = some (.pointer (some ⟨p.t, 0, none⟩)) ∧ x'.cell? ⟨z + 1, 1, none⟩ = some (.pointer (some ⟨p.d, 0, none⟩))) x1 := ⟨C1.cell HSW0.1 (fun e => by have := HZX.out _ (.inl e); first | (simp at this; done) | (simp at this; omega)), C1.cell HSW0.2 (fun e => by have := HZX.out _ (.inl e); first | (simp at this; done) | (simp at this; omega))⟩
     have cO2 := riopen_any (HY.out.rf1 HPI.out C1) (Nat.le_trans (HBX.out.size) C1.size) (by have := HQL.out; omega)
     rw [HQE.out] at cO2
     go_simp
     refine hK.out _ _ (fun _ => HSx1) (fun _ => ?_)
     clear hK K HSW0
     refine last_one (i := 5) (by kernel_rfl) rfl ?_
     intro K hK
     go_simp
     go_at_call 12
     refine (cO2).mono ?_
     rintro e x2 ⟨rfl, v1', v2', R2', C2, A2⟩
     have HSx2 : (fun x' : World => x'.cell? ⟨z + 1, 0, none⟩ = some (.pointer (some ⟨p.t, 0, none⟩)) ∧ x'.cell? ⟨z + 1, 1, none⟩ = some (.pointer (some ⟨p.d, 0, none⟩))) x2 := ⟨C2.cell HSx1.1 (fun e => by have := HZX.out _ (.inr e); first | (simp at this; done) | (simp at this; omega)), C2.cell HSx1.2 (fun e => by have := HZX.out _ (.inr e); first | (simp at this; done) | (simp at this; omega))⟩
     go_simp
     refine hK.out _ _ (fun _ => HSx2) (fun _ => ?_)
     clear hK K HSx1
     refine last_take (i := 6) (v := ?v6k5) rfl (by kernel_rfl) (by kernel_rfl) (by kernel_rfl) (by kernel_rfl) rfl (fun _ _ _ h => h) (by rfl) HSx2 ?hy6k5 ?rest6k5
     case hy6k5 =>
      intro xx hSx
      go_simp
      try (with_reducible rfl)
     simp only [Act.put, List.setIfInBounds_toArray, List.set_cons_zero, List.set_cons_succ]
     refine last_one (i := 7) (by kernel_rfl) rfl ?_
     intro K hK
     go_simp
     refine hK.out _ _ (fun h => absurd rfl h) (fun _ => ?_)
     clear hK K HSx2
     refine last_done (by kernel_rfl) ?_ _
     have HFN : Hid (Py c w (.slice (some ⟨gv, 0, none⟩) M cp) x2) := Py.turn (ps := ps) (HY.out.act HPI.out I1 C1 (fun k hk => by rcases hk with rfl | hk; exact .inl (.inl rfl); rcases A1 with e | ⟨m, hm, e⟩; exact .inl (.inr (by rw [← e]; exact hk)); rw [e] at hk; cases hk; exact .inr hm) R2' C2 A2 (by rw [List.length_append]; have := HQL.out; simp; omega)) (by have := HM.out; omega) (by have := HM.out; omega) (C2.below (C1.below (HBX.out.trans ((drew_belowI X).mono HBX.out.size)) (HBX.out.size) (fun k e => (HPR.out.tr.low k e))) (Nat.le_trans HBX.out.size C1.size) (fun k e => (HPR.out.rf.low k e)))
     clear I1 C1 A1 R2' C2 A2 cO cO2
     go_wp2
     go_roundg (N - (i + 1))
     case measure => omega
     case rel => exact ⟨i + 1, by omega, rfl, HFN.out⟩
    ·have hi200 : ¬ (p.L.length : Int) < 200 := by omega
     have HFN : Hid (Py c w (.slice (some ⟨gv, 0, none⟩) M cp) X) := Py.mk ⟨own, HFX.out⟩ (by have := HM.out; omega) (by have := HM.out; omega) HBX.out
     generalize p.L.length = ql at *
     go_wp2
     go_roundg (N - (i + 1))
     case measure => omega
     case rel => exact ⟨i + 1, by omega, rfl, HFN.out⟩
   have f1 : (s.kd == 1) = false := by simp [e1]
   by_cases e2 : s.kd = 2
   ·rw [e2] at kk
    clear f1
    have HY : Hid (Fam c w.heap.size own ps (.slice (some ⟨gv, 0, none⟩) M cp) X.drew) := HFX.out.below (drew_belowI X)
    have cO := icharge_any HR.out (HY.out.ok pi p HPI.out).tr s.a s.n
    have HS : Hid (X.drew.cell? ⟨z + 1, 0, none⟩ = some (.pointer (some ⟨p.t, 0, none⟩)) ∧ X.drew.cell? ⟨z + 1, 1, none⟩ = some (.pointer (some ⟨p.d, 0, none⟩)) ∧ X.drew.cell? ⟨z, 2, none⟩ = some (.int .i64 s.a) ∧ X.drew.cell? ⟨z, 3, none⟩ = some (.int .i64 s.n)) := ⟨hb0, hb1, ka, kn⟩
    go_upto_region 20 with fail
    clear kk kon ka kn know kj0 kj1 kj2 kj3 kj4 kj5 kj6 kj7
    refine wp_region_last (S := (fun x' : World => x'.cell? ⟨z + 1, 0, none⟩ = some (.pointer (some ⟨p.t, 0, none⟩)) ∧ x'.cell? ⟨z + 1, 1, none⟩ = some (.pointer (some ⟨p.d, 0, none⟩)) ∧ x'.cell? ⟨z, 2, none⟩ = some (.int .i64 s.a) ∧ x'.cell? ⟨z, 3, none⟩ = some (.int .i64 s.n))) (L := 15) (by kernel_rfl) ?_
    have HSW0 : (fun x' : World => x'.cell? ⟨z + 1, 0, none⟩ = some (.pointer (some ⟨p.t, 0, none⟩)) ∧ x'.cell? ⟨z + 1, 1, none⟩ = some (.pointer (some ⟨p.d, 0, none⟩)) ∧ x'.cell? ⟨z, 2, none⟩ = some (.int .i64 s.a) ∧ x'.cell? ⟨z, 3, none⟩ = some (.int .i64 s.n)) (X.drew) := HS.out
    clear HS
    refine last_take (i := 0) (v := ?v0k6) rfl (by kernel_rfl) (by kernel_rfl) (by kernel_rfl) (by kernel_rfl) rfl (fun _ _ _ h => h) (by rfl) HSW0 ?hy0k6 ?rest0k6
    case hy0k6 =>
     intro xx hSx
     go_simp
     try (with_reducible rfl)
    simp only [Act.put, List.setIfInBounds_toArray, List.set_cons_zero, List.set_cons_succ]
    refine last_take (i := 1) (v := ?v1k7) rfl (by kernel_rfl) (by kernel_rfl) (by kernel_rfl) (by kernel_rfl) rfl (fun _ _ _ h => h) (by rfl) HSW0 ?hy1k7 ?rest1k7
    case hy1k7 =>
     intro xx hSx
     obtain ⟨s0, s1, s2, s3⟩ := hSx
     go_simp
     try (with_reducible rfl)
    simp only [Act.put, List.setIfInBounds_toArray, List.set_cons_zero, List.set_cons_succ]
    refine last_take (i := 2) (v := ?v2k8) rfl (by kernel_rfl) (by kernel_rfl) (by kernel_rfl) (by kernel_rfl) rfl (fun _ _ _ h => h) (by rfl) HSW0 ?hy2k8 ?rest2k8
    case hy2k8 =>
     intro xx hSx
     go_simp
     try (with_reducible rfl)
    simp only [Act.put, List.setIfInBounds_toArray, List.set_cons_zero, List.set_cons_succ]
    refine last_take (i := 3) (v := ?v3k9) rfl (by kernel_rfl) (by kernel_rfl) (by kernel_rfl) (by kernel_rfl) rfl (fun _ _ _ h => h) (by rfl) HSW0 ?hy3k9 ?rest3k9
    case hy3k9 =>
     intro xx hSx
     obtain ⟨s0, s1, s2, s3⟩ := hSx
     go_simp
     try (with_reducible rfl)
    simp only [Act.put, List.setIfInBounds_toArray, List.set_cons_zero, List.set_cons_succ]
    refine last_take (i := 4) (v := ?v4k10) rfl (by kernel_rfl) (by kernel_rfl) (by kernel_rfl) (by kernel_rfl) rfl (fun _ _ _ h => h) (by rfl) HSW0 ?hy4k10 ?rest4k10
    case hy4k10 =>
     intro xx hSx
     go_simp
     try (with_reducible rfl)
    simp only [Act.put, List.setIfInBounds_toArray, List.set_cons_zero, List.set_cons_succ]
    refine last_take (i := 5) (v := ?v5k11) rfl (by kernel_rfl) (by kernel_rfl) (by kernel_rfl) (by kernel_rfl) rfl (fun _ _ _ h => h) (by rfl) HSW0 ?hy5k11 ?rest5k11
    case hy5k11 =>
     intro xx hSx
     obtain ⟨s0, s1, s2, s3⟩ := hSx
     go_simp
     try (with_reducible rfl)
    simp only [Act.put, List.setIfInBounds_toArray, List.set_cons_zero, List.set_cons_succ]
    refine last_take (i := 7) (v := ?v7k12) rfl (by kernel_rfl) (by kernel_rfl) (by kernel_rfl) (by kernel_rfl) rfl (fun _ _ _ h => h) (by rfl) HSW0 ?hy7k12 ?rest7k12
    case hy7k12 =>
     intro xx hSx
     go_simp
     try (with_reducible rfl)
    simp only [Act.put, List.setIfInBounds_toArray, List.set_cons_zero, List.set_cons_succ]
    refine last_take (i := 8) (v := ?v8k13) rfl (by kernel_rfl) (by kernel_rfl) (by kernel_rfl) (by kernel_rfl) rfl (fun _ _ _ h => h) (by rfl) HSW0 ?hy8k13 ?rest8k13
    case hy8k13 =>
     intro xx hSx
     obtain ⟨s0, s1, s2, s3⟩ := hSx
     go_simp
     try (with_reducible rfl)
    simp only [Act.put, List.setIfInBounds_toArray, List.set_cons_zero, List.set_cons_succ]
    refine last_take (i := 9) (v := ?v9k14) rfl (by kernel_rfl) (by kernel_rfl) (by kernel_rfl) (by kernel_rfl) rfl (fun _ _ _ h => h) (by rfl) HSW0 ?hy9k14 ?rest9k14
    case hy9k14 =>
     intro xx hSx
     go_simp
     try (with_reducible rfl)
    simp only [Act.put, List.setIfInBounds_toArray, List.set_cons_zero, List.set_cons_succ]
    refine last_take (i := 10) (v := ?v10k15) rfl (by kernel_rfl) (by kernel_rfl) (by kernel_rfl) (by kernel_rfl) rfl (fun _ _ _ h => h) (by rfl) HSW0 ?hy10k15 ?rest10k15
    case hy10k15 =>
     intro xx hSx
     obtain ⟨s0, s1, s2, s3⟩ := hSx
     go_simp
     try (with_reducible rfl)
    simp only [Act.put, List.setIfInBounds_toArray, List.set_cons_zero, List.set_cons_succ]
    refine last_take (i := 11) (v := ?v11k16) rfl (by kernel_rfl) (by kernel_rfl) (by kernel_rfl) (by kernel_rfl) rfl (fun _ _ _ h => h) (by rfl) HSW0 ?hy11k16 ?rest11k16
    case hy11k16 =>
     intro xx hSx
     go_simp
     try (with_reducible rfl)
    simp only [Act.put, List.setIfInBounds_toArray, List.set_cons_zero, List.set_cons_succ]
    refine last_take (i := 12) (v := ?v12k17) rfl (by kernel_rfl) (by kernel_rfl) (by kernel_rfl) (by kernel_rfl) rfl (fun _ _ _ h => h) (by rfl) HSW0 ?hy12k17 ?rest12k17
    case hy12k17 =>
     intro xx hSx
     obtain ⟨s0, s1, s2, s3⟩ := hSx
     go_simp
     try (with_reducible rfl)
    simp only [Act.put, List.setIfInBounds_toArray, List.set_cons_zero, List.set_cons_succ]
    refine last_one (i := 6) (by kernel_rfl) rfl ?_
    intro K hK
    go_simp
    go_at_call 13
    refine (cO).mono ?_
    rintro e x1 ⟨rfl, I1, C1⟩
    have HSx1 : (fun x' : World => x'.cell? ⟨z + 1, 0, none⟩ = some (.pointer (some ⟨p.t, 0, none⟩)) ∧ x'.cell? ⟨z + 1, 1, none⟩ = some (.pointer (some ⟨p.d, 0, none⟩)) ∧ x'.cell? ⟨z, 2, none⟩ = some (.int .i64 s.a) ∧ x'.cell? ⟨z, 3, none⟩ = some (.int .i64 s.n)) x1 := ⟨C1.cell HSW0.1 (fun e => by have := HZX.out _ (.inl e); first | (simp at this; done) | (simp at this; omega)), C1.cell HSW0.2.1 (fun e => by have := HZX.out _ (.inl e); first | (simp at this; done) | (simp at this; omega)), C1.cell HSW0.2.2.1 (fun e => by have := HZX.out _ (.inl e); first | (simp at this; done) | (simp at this; omega)), C1.cell HSW0.2.2.2 (fun e => by have := HZX.out _ (.inl e); first | (simp at this; done) | (simp at this; omega))⟩
    have cO2 := richarge_any HR.out (HY.out.rf1 HPI.out C1) s.a s.n
    go_simp
    refine hK.out _ _ (fun _ => HSx1) (fun _ => ?_)
    clear hK K HSW0
    refine last_one (i := 13) (by kernel_rfl) rfl ?_
    intro K hK
    go_simp
    go_at_call 14
    refine (cO2).mono ?_
    rintro e x2 ⟨rfl, R2', C2⟩
    have HSx2 : (fun x' : World => x'.cell? ⟨z + 1, 0, none⟩ = some (.pointer (some ⟨p.t, 0, none⟩)) ∧ x'.cell? ⟨z + 1, 1, none⟩ = some (.pointer (some ⟨p.d, 0, none⟩)) ∧ x'.cell? ⟨z, 2, none⟩ = some (.int .i64 s.a) ∧ x'.cell? ⟨z, 3, none⟩ = some (.int .i64 s.n)) x2 := ⟨C2.cell HSx1.1 (fun e => by have := HZX.out _ (.inr e); first | (simp at this; done) | (simp at this; omega)), C2.cell HSx1.2.1 (fun e => by have := HZX.out _ (.inr e); first | (simp at this; done) | (simp at this; omega)), C2.cell HSx1.2.2.1 (fun e => by have := HZX.out _ (.inr e); first | (simp at this; done) | (simp at this; omega)), C2.cell HSx1.2.2.2 (fun e => by have := HZX.out _ (.inr e); first | (simp at this; done) | (simp at this; omega))⟩
    go_simp
    refine hK.out _ _ (fun _ => HSx2) (fun _ => ?_)
    clear hK K HSx1
    refine last_take (i := 14) (v := ?v14k18) rfl (by kernel_rfl) (by kernel_rfl) (by kernel_rfl) (by kernel_rfl) rfl (fun _ _ _ h => h) (by rfl) HSx2 ?hy14k18 ?rest14k18
    case hy14k18 =>
     intro xx hSx
     go_simp
     try (with_reducible rfl)
    simp only [Act.put, List.setIfInBounds_toArray, List.set_cons_zero, List.set_cons_succ]
    refine last_one (i := 15) (by kernel_rfl) rfl ?_
    intro K hK
    go_simp
    refine hK.out _ _ (fun h => absurd rfl h) (fun _ => ?_)
    clear hK K HSx2
    refine last_done (by kernel_rfl) ?_ _
    have HFN : Hid (Py c w (.slice (some ⟨gv, 0, none⟩) M cp) x2) := Py.turn (ps := ps) (HY.out.act HPI.out I1 C1 (fun k hk => .inl hk) R2' C2 (fun k hk => .inl hk) (by rw [chgL_len]; exact HPR.out.few)) (by have := HM.out; omega) (by have := HM.out; omega) (C2.below (C1.below (HBX.out.trans ((drew_belowI X).mono HBX.out.size)) (HBX.out.size) (fun k e => (HPR.out.tr.low k e))) (Nat.le_trans HBX.out.size C1.size) (fun k e => (HPR.out.rf.low k e)))
    clear I1 C1 R2' C2 cO cO2
    go_wp2
    go_roundg (N - (i + 1))
    case measure => omega
    case rel => exact ⟨i + 1, by omega, rfl, HFN.out⟩
   have f2 : (s.kd == 2) = false := by simp [e2]
   by_cases e3 : s.kd = 3
   ·rw [e3] at kk
    clear f1 f2 kon ka kn know kj0 kj1 kj2 kj3 kj4 kj5 kj6 kj7
    have cO := ifade_any HPR.out.tr
    go_wp2_with fail
    refine cO.mono ?_
    rintro e x1 ⟨rfl, I1, C1⟩
    have hb1' := C1.cell hb1 (fun e => by have := HZX.out _ (.inl e); simp at this; omega)
    have cO2 := rifade_any HR.out (HFX.out.rf1 HPI.out C1)
    have HC1 : Hid _ := C1
    have HI1 : Hid _ := I1
    clear I1 C1 cO hb0 hb1 kk
    go_wp2_with fail
    refine cO2.mono ?_
    rintro e x2 ⟨rfl, R2', C2⟩
    have I1 := HI1.out
    have C1 := HC1.out
    have HFN : Hid (Py c w (.slice (some ⟨gv, 0, none⟩) M cp) x2) := Py.turn (ps := ps) (HFX.out.act HPI.out I1 C1 (fun k hk => .inl hk) R2' C2 (fun k hk => .inl hk) (by rw [List.length_map]; exact HPR.out.few)) (by have := HM.out; omega) (by have := HM.out; omega) (C2.below (C1.below HBX.out (HBX.out.size) (fun k e => (HPR.out.tr.low k e))) (Nat.le_trans HBX.out.size C1.size) (fun k e => (HPR.out.rf.low k e)))
    clear I1 C1 R2' C2 cO2 HC1 HI1
    go_wp2
    go_roundg (N - (i + 1))
    case measure => omega
    case rel => exact ⟨i + 1, by omega, rfl, HFN.out⟩
   have f3 : (s.kd == 3) = false := by simp [e3]
   by_cases e4 : s.kd = 4
   ·rw [e4] at kk
    clear f1 f2 f3 kon ka kn
    have cO := HPP.out X p own pi w.heap.size s.now s.jb HBX.out HPR.out
    go_wp2_with fail
    refine cO.mono ?_
    rintro e x1 ⟨rfl, bx⟩
    have HFN : Hid (Py c w (.slice (some ⟨gv, 0, none⟩) M cp) x1) := Py.mk ⟨own, HFX.out.below bx⟩ (by have := HM.out; omega) (by have := HM.out; omega) (HBX.out.trans (bx.mono HBX.out.size))
    clear bx cO
    go_wp2
    go_roundg (N - (i + 1))
    case measure => omega
    case rel => exact ⟨i + 1, by omega, rfl, HFN.out⟩
   have f4 : (s.kd == 4) = false := by simp [e4]
   by_cases e5 : s.kd = 5
   ·rw [e5] at kk
    clear f1 f2 f3 f4 kon ka know kj0 kj1 kj2 kj3 kj4 kj5 kj6 kj7
    have HV : Hid (Hc2 X ⟨z + 1, 0, none⟩ ⟨z + 1, 1, none⟩ (.pointer (some ⟨p.t, 0, none⟩)) (.pointer (some ⟨p.d, 0, none⟩)) X) := ⟨hb0, hb1, Below.refl _ _, Nat.le_refl _⟩
    have HCA : Hid (∀ x, Below X.heap.size X x → Calls Tryz.prog 18 #[.pointer (some ⟨p.t, 0, none⟩)] x fun e w' => ∃ d' v', e = .returned (.pointer (some ⟨d', 0, none⟩)) ∧ Idl c x.heap.size w' d' v' p.L ∧ Below x.heap.size x w') := fun x hx => iclone_any (HPR.out.tr.below hx)
    have HCB : Hid (∀ x, Below X.heap.size X x → Calls Tryz.prog 19 #[.pointer (some ⟨p.d, 0, none⟩)] x fun e w' => ∃ d' v1' v2', e = .returned (.pointer (some ⟨d', 0, none⟩)) ∧ RIdl c x.heap.size w' d' v1' v2' p.L ∧ Below x.heap.size x w') := fun x hx => riclone_any (HPR.out.rf.below hx) HPR.out.few.1
    have HPL : Hid (0 < p.L.length) := HPR.out.few.1
    go_upto_region 27 with fail
    clear hb0 hb1 kk
    go_cut [17] (fun b wq => ∃ (n t' d' : Nat) (tv' v1' v2' : Value), b = .pointer (some ⟨n, 0, none⟩) ∧ wq.cell? ⟨n, 0, none⟩ = some (.pointer (some ⟨t', 0, none⟩)) ∧ wq.cell? ⟨n, 1, none⟩ = some (.pointer (some ⟨d', 0, none⟩)) ∧ Idl c X.heap.size wq t' tv' p.L ∧ RIdl c X.heap.size wq d' v1' v2' p.L ∧ Below X.heap.size X wq)
    case first =>
     refine wp_region_last (S := (fun x' : World => x'.cell? ⟨z + 1, 0, none⟩ = some (.pointer (some ⟨p.t, 0, none⟩)) ∧ x'.cell? ⟨z + 1, 1, none⟩ = some (.pointer (some ⟨p.d, 0, none⟩)))) (L := 8) (by kernel_rfl) ?_
     obtain ⟨W0, hW0⟩ : ∃ W0, X.drew = W0 := ⟨_, rfl⟩
     have BW0 : Below X.heap.size X W0 := by rw [← hW0]; exact drew_belowI X
     rw [hW0]
     clear hW0
     have HSB : Hid (∀ x, Below X.heap.size X x → (fun x' : World => x'.cell? ⟨z + 1, 0, none⟩ = some (.pointer (some ⟨p.t, 0, none⟩)) ∧ x'.cell? ⟨z + 1, 1, none⟩ = some (.pointer (some ⟨p.d, 0, none⟩))) x) := fun x hx => have h := Hc2.keep HV.out hx; ⟨h.1, h.2.1⟩
     have HSW0 := HSB.out _ BW0
     clear HV HPR HFX HBP HBS
     refine last_take (i := 0) (v := ?v0k19) rfl (by kernel_rfl) (by kernel_rfl) (by kernel_rfl) (by kernel_rfl) rfl (fun _ _ _ h => h) (by rfl) HSW0 ?hy0k19 ?rest0k19
     case hy0k19 =>
      intro xx hSx
      go_simp
      try (with_reducible rfl)
     simp only [Act.put, List.setIfInBounds_toArray, List.set_cons_zero, List.set_cons_succ]
     refine last_take (i := 1) (v := ?v1k20) rfl (by kernel_rfl) (by kernel_rfl) (by kernel_rfl) (by kernel_rfl) rfl (fun _ _ _ h => h) (by rfl) HSW0 ?hy1k20 ?rest1k20
     case hy1k20 =>
      intro xx hSx
      obtain ⟨s0, s1⟩ := hSx
      go_simp
      try (with_reducible rfl)
     simp only [Act.put, List.setIfInBounds_toArray, List.set_cons_zero, List.set_cons_succ]
     refine last_take (i := 3) (v := ?v3k21) rfl (by kernel_rfl) (by kernel_rfl) (by kernel_rfl) (by kernel_rfl) rfl (fun _ _ _ h => h) (by rfl) HSW0 ?hy3k21 ?rest3k21
     case hy3k21 =>
      intro xx hSx
      go_simp
      try (with_reducible rfl)
     simp only [Act.put, List.setIfInBounds_toArray, List.set_cons_zero, List.set_cons_succ]
     refine last_take (i := 4) (v := ?v4k22) rfl (by kernel_rfl) (by kernel_rfl) (by kernel_rfl) (by kernel_rfl) rfl (fun _ _ _ h => h) (by rfl) HSW0 ?hy4k22 ?rest4k22
     case hy4k22 =>
      intro xx hSx
      obtain ⟨s0, s1⟩ := hSx
      go_simp
      try (with_reducible rfl)
     simp only [Act.put, List.setIfInBounds_toArray, List.set_cons_zero, List.set_cons_succ]
     refine last_few (i := 2) (l := [7]) (by kernel_rfl) (List.forall_mem_cons.2 ⟨⟨_, rfl, ?h2n23⟩, List.forall_mem_cons.2 ⟨⟨_, rfl, ?h7n23⟩, List.forall_mem_nil _⟩⟩)
     case h2n23 =>
      intro K hK
      go_simp
      go_at_call 18
      refine (HCA.out _ BW0).mono ?_
      rintro e W1 ⟨t', tv', rfl, I1, bW1⟩
      have BW1 : Below X.heap.size X W1 := BW0.trans (bW1.mono BW0.size)
      replace I1 := I1.base BW0.size
      have HSW1 := HSB.out _ BW1
      go_simp
      refine hK.out _ _ (fun _ => HSW1) (fun _ => ?_)
      clear hK K HSW0 bW1
      refine last_few (i := 5) (l := [7]) (by kernel_rfl) (List.forall_mem_cons.2 ⟨⟨_, rfl, ?h5n24⟩, List.forall_mem_cons.2 ⟨⟨_, rfl, ?h7n24⟩, List.forall_mem_nil _⟩⟩)
      case h5n24 =>
       intro K hK
       go_simp
       go_at_call 19
       refine (HCB.out _ BW1).mono ?_
       rintro e W2 ⟨d', v1', v2', rfl, R1, bW2⟩
       have BW2 : Below X.heap.size X W2 := BW1.trans (bW2.mono BW1.size)
       have I1 := I1.below bW2
       replace R1 := R1.base BW1.size
       have HSW2 := HSB.out _ BW2
       go_simp
       refine hK.out _ _ (fun _ => HSW2) (fun _ => ?_)
       clear hK K HSW1 bW2
       refine last_take (i := 6) (v := ?v6k25) rfl (by kernel_rfl) (by kernel_rfl) (by kernel_rfl) (by kernel_rfl) rfl (fun _ _ _ h => h) (by rfl) HSW2 ?hy6k25 ?rest6k25
       case hy6k25 =>
        intro xx hSx
        go_simp
        try (with_reducible rfl)
       simp only [Act.put, List.setIfInBounds_toArray, List.set_cons_zero, List.set_cons_succ]
       refine last_one (i := 7) (by kernel_rfl) rfl ?_
       intro K hK
       go_simp
       obtain ⟨b1, hb1⟩ : ∃ b1, W2.heap.size = b1 := ⟨_, rfl⟩
       obtain ⟨W3, hW3⟩ : ∃ W3, W2.alloc (.cells #[.pointer none, .pointer none] 35) = W3 := ⟨_, rfl⟩
       have nb1 : Bx W3 b1 (.pointer none) (.pointer none) := by rw [← hW3, ← hb1]; exact Bx.new W2 _ _ _
       have bW3 : Below W2.heap.size W2 W3 := by rw [← hW3]; exact (Below.refl _ _).alloc (Nat.le_refl _) _
       try rw [hb1]
       try rw [hW3]
       have BW3 : Below X.heap.size X W3 := BW2.trans (bW3.mono BW2.size)
       have gb1 : X.heap.size ≤ b1 := by rw [← hb1]; exact BW2.size
       have I1 := I1.below bW3
       have R1 := R1.below bW3
       have HSW3 := HSB.out _ BW3
       refine hK.out _ _ (fun _ => HSW3) (fun _ => ?_)
       clear hK K hW3 hb1 HSW2 bW3
       refine last_one (i := 8) (by kernel_rfl) rfl ?_
       intro K hK
       have x0 := nb1.1
       have x1 := nb1.2.1
       have x2 := nb1.2.2.1
       have x3 := nb1.2.2.2
       go_simp
       obtain ⟨W4, hW4⟩ : ∃ W4, (W3.setCell ⟨b1, 0, none⟩ (.pointer (some ⟨t', 0, none⟩))).setCell ⟨b1, 1, none⟩ (.pointer (some ⟨d', 0, none⟩)) = W4 := ⟨_, rfl⟩
       have I1 := I1.store2 HPL.out nb1.1 (.pointer (some ⟨t', 0, none⟩)) (.pointer (some ⟨d', 0, none⟩))
       have R1 := R1.store2 HPL.out nb1.1 (.pointer (some ⟨t', 0, none⟩)) (.pointer (some ⟨d', 0, none⟩))
       have nb1 := set_two nb1 (.pointer (some ⟨t', 0, none⟩)) (.pointer (some ⟨d', 0, none⟩))
       have BW4 : Below X.heap.size X ((W3.setCell ⟨b1, 0, none⟩ (.pointer (some ⟨t', 0, none⟩))).setCell ⟨b1, 1, none⟩ (.pointer (some ⟨d', 0, none⟩))) := (BW3.setCell gb1 (.pointer (some ⟨t', 0, none⟩))).setCell gb1 (.pointer (some ⟨d', 0, none⟩))
       rw [hW4] at BW4 nb1 I1 R1
       try rw [hW4]
       refine hK.out _ _ (fun h => absurd rfl h) (fun _ => ?_)
       clear hK K x0 x1 x2 x3 hW4 HSW3
       refine last_done (by kernel_rfl) ?_ _
       have HF1 : Hid (Bx W4 b1 (.pointer (some ⟨t', 0, none⟩)) (.pointer (some ⟨d', 0, none⟩))) := nb1
       have HF3 : Hid (Below X.heap.size X W4) := BW4
       have HF4 : Hid (Idl c X.heap.size W4 t' tv' p.L) := I1
       have HF5 : Hid (RIdl c X.heap.size W4 d' v1' v2' p.L) := R1
       clear nb1 gb1 BW4 HSB I1 R1
       go_wp2
       go_meet
       exact ⟨b1, t', d', tv', v1', v2', rfl, HF1.out.1, HF1.out.2.1, HF4.out, HF5.out, HF3.out⟩
      case h7n24 =>
       intro K hK
       go_simp
       obtain ⟨b1, hb1⟩ : ∃ b1, W1.heap.size = b1 := ⟨_, rfl⟩
       obtain ⟨W2, hW2⟩ : ∃ W2, W1.alloc (.cells #[.pointer none, .pointer none] 35) = W2 := ⟨_, rfl⟩
       have nb1 : Bx W2 b1 (.pointer none) (.pointer none) := by rw [← hW2, ← hb1]; exact Bx.new W1 _ _ _
       have bW2 : Below W1.heap.size W1 W2 := by rw [← hW2]; exact (Below.refl _ _).alloc (Nat.le_refl _) _
       try rw [hb1]
       try rw [hW2]
       have BW2 : Below X.heap.size X W2 := BW1.trans (bW2.mono BW1.size)
       have gb1 : X.heap.size ≤ b1 := by rw [← hb1]; exact BW1.size
       have I1 := I1.below bW2
       have HSW2 := HSB.out _ BW2
       refine hK.out _ _ (fun _ => HSW2) (fun _ => ?_)
       clear hK K hW2 hb1 HSW1 bW2
       refine last_one (i := 5) (by kernel_rfl) rfl ?_
       intro K hK
       go_simp
       go_at_call 19
       refine (HCB.out _ BW2).mono ?_
       rintro e W3 ⟨d', v1', v2', rfl, R1, bW3⟩
       have BW3 : Below X.heap.size X W3 := BW2.trans (bW3.mono BW2.size)
       have nb1 := nb1.below bW3
       have I1 := I1.below bW3
       replace R1 := R1.base BW2.size
       have HSW3 := HSB.out _ BW3
       go_simp
       refine hK.out _ _ (fun _ => HSW3) (fun _ => ?_)
       clear hK K HSW2 bW3
       refine last_take (i := 6) (v := ?v6k26) rfl (by kernel_rfl) (by kernel_rfl) (by kernel_rfl) (by kernel_rfl) rfl (fun _ _ _ h => h) (by rfl) HSW3 ?hy6k26 ?rest6k26
       case hy6k26 =>
        intro xx hSx
        go_simp
        try (with_reducible rfl)
       simp only [Act.put, List.setIfInBounds_toArray, List.set_cons_zero, List.set_cons_succ]
       refine last_one (i := 8) (by kernel_rfl) rfl ?_
       intro K hK
       have x0 := nb1.1
       have x1 := nb1.2.1
       have x2 := nb1.2.2.1
       have x3 := nb1.2.2.2
       go_simp
       obtain ⟨W4, hW4⟩ : ∃ W4, (W3.setCell ⟨b1, 0, none⟩ (.pointer (some ⟨t', 0, none⟩))).setCell ⟨b1, 1, none⟩ (.pointer (some ⟨d', 0, none⟩)) = W4 := ⟨_, rfl⟩
       have I1 := I1.store2 HPL.out nb1.1 (.pointer (some ⟨t', 0, none⟩)) (.pointer (some ⟨d', 0, none⟩))
       have R1 := R1.store2 HPL.out nb1.1 (.pointer (some ⟨t', 0, none⟩)) (.pointer (some ⟨d', 0, none⟩))
       have nb1 := set_two nb1 (.pointer (some ⟨t', 0, none⟩)) (.pointer (some ⟨d', 0, none⟩))
       have BW4 : Below X.heap.size X ((W3.setCell ⟨b1, 0, none⟩ (.pointer (some ⟨t', 0, none⟩))).setCell ⟨b1, 1, none⟩ (.pointer (some ⟨d', 0, none⟩))) := (BW3.setCell gb1 (.pointer (some ⟨t', 0, none⟩))).setCell gb1 (.pointer (some ⟨d', 0, none⟩))
       rw [hW4] at BW4 nb1 I1 R1
       try rw [hW4]
       refine hK.out _ _ (fun h => absurd rfl h) (fun _ => ?_)
       clear hK K x0 x1 x2 x3 hW4 HSW3
       refine last_done (by kernel_rfl) ?_ _
       have HF1 : Hid (Bx W4 b1 (.pointer (some ⟨t', 0, none⟩)) (.pointer (some ⟨d', 0, none⟩))) := nb1
       have HF3 : Hid (Below X.heap.size X W4) := BW4
       have HF4 : Hid (Idl c X.heap.size W4 t' tv' p.L) := I1
       have HF5 : Hid (RIdl c X.heap.size W4 d' v1' v2' p.L) := R1
       clear nb1 gb1 BW4 HSB I1 R1
       go_wp2
       go_meet
       exact ⟨b1, t', d', tv', v1', v2', rfl, HF1.out.1, HF1.out.2.1, HF4.out, HF5.out, HF3.out⟩
     case h7n23 =>
      intro K hK
      go_simp
      obtain ⟨b1, hb1⟩ : ∃ b1, W0.heap.size = b1 := ⟨_, rfl⟩
      obtain ⟨W1, hW1⟩ : ∃ W1, W0.alloc (.cells #[.pointer none, .pointer none] 35) = W1 := ⟨_, rfl⟩
      have nb1 : Bx W1 b1 (.pointer none) (.pointer none) := by rw [← hW1, ← hb1]; exact Bx.new W0 _ _ _
      have bW1 : Below W0.heap.size W0 W1 := by rw [← hW1]; exact (Below.refl _ _).alloc (Nat.le_refl _) _
      try rw [hb1]
      try rw [hW1]
      have BW1 : Below X.heap.size X W1 := BW0.trans (bW1.mono BW0.size)
      have gb1 : X.heap.size ≤ b1 := by rw [← hb1]; exact BW0.size
      have HSW1 := HSB.out _ BW1
      refine hK.out _ _ (fun _ => HSW1) (fun _ => ?_)
      clear hK K hW1 hb1 HSW0 bW1
      refine last_one (i := 2) (by kernel_rfl) rfl ?_
      intro K hK
      go_simp
      go_at_call 18
      refine (HCA.out _ BW1).mono ?_
      rintro e W2 ⟨t', tv', rfl, I1, bW2⟩
      have BW2 : Below X.heap.size X W2 := BW1.trans (bW2.mono BW1.size)
      have nb1 := nb1.below bW2
      replace I1 := I1.base BW1.size
      have HSW2 := HSB.out _ BW2
      go_simp
      refine hK.out _ _ (fun _ => HSW2) (fun _ => ?_)
      clear hK K HSW1 bW2
      refine last_one (i := 5) (by kernel_rfl) rfl ?_
      intro K hK
      go_simp
      go_at_call 19
      refine (HCB.out _ BW2).mono ?_
      rintro e W3 ⟨d', v1', v2', rfl, R1, bW3⟩
      have BW3 : Below X.heap.size X W3 := BW2.trans (bW3.mono BW2.size)
      have nb1 := nb1.below bW3
      have I1 := I1.below bW3
      replace R1 := R1.base BW2.size
      have HSW3 := HSB.out _ BW3
      go_simp
      refine hK.out _ _ (fun _ => HSW3) (fun _ => ?_)
      clear hK K HSW2 bW3
      refine last_take (i := 6) (v := ?v6k27) rfl (by kernel_rfl) (by kernel_rfl) (by kernel_rfl) (by kernel_rfl) rfl (fun _ _ _ h => h) (by rfl) HSW3 ?hy6k27 ?rest6k27
      case hy6k27 =>
       intro xx hSx
       go_simp
       try (with_reducible rfl)
      simp only [Act.put, List.setIfInBounds_toArray, List.set_cons_zero, List.set_cons_succ]
      refine last_one (i := 8) (by kernel_rfl) rfl ?_
      intro K hK
      have x0 := nb1.1
      have x1 := nb1.2.1
      have x2 := nb1.2.2.1
      have x3 := nb1.2.2.2
      go_simp
      obtain ⟨W4, hW4⟩ : ∃ W4, (W3.setCell ⟨b1, 0, none⟩ (.pointer (some ⟨t', 0, none⟩))).setCell ⟨b1, 1, none⟩ (.pointer (some ⟨d', 0, none⟩)) = W4 := ⟨_, rfl⟩
      have I1 := I1.store2 HPL.out nb1.1 (.pointer (some ⟨t', 0, none⟩)) (.pointer (some ⟨d', 0, none⟩))
      have R1 := R1.store2 HPL.out nb1.1 (.pointer (some ⟨t', 0, none⟩)) (.pointer (some ⟨d', 0, none⟩))
      have nb1 := set_two nb1 (.pointer (some ⟨t', 0, none⟩)) (.pointer (some ⟨d', 0, none⟩))
      have BW4 : Below X.heap.size X ((W3.setCell ⟨b1, 0, none⟩ (.pointer (some ⟨t', 0, none⟩))).setCell ⟨b1, 1, none⟩ (.pointer (some ⟨d', 0, none⟩))) := (BW3.setCell gb1 (.pointer (some ⟨t', 0, none⟩))).setCell gb1 (.pointer (some ⟨d', 0, none⟩))
      rw [hW4] at BW4 nb1 I1 R1
      try rw [hW4]
      refine hK.out _ _ (fun h => absurd rfl h) (fun _ => ?_)
      clear hK K x0 x1 x2 x3 hW4 HSW3
      refine last_done (by kernel_rfl) ?_ _
      have HF1 : Hid (Bx W4 b1 (.pointer (some ⟨t', 0, none⟩)) (.pointer (some ⟨d', 0, none⟩))) := nb1
      have HF3 : Hid (Below X.heap.size X W4) := BW4
      have HF4 : Hid (Idl c X.heap.size W4 t' tv' p.L) := I1
      have HF5 : Hid (RIdl c X.heap.size W4 d' v1' v2' p.L) := R1
      clear nb1 gb1 BW4 HSB I1 R1
      go_wp2
      go_meet
      exact ⟨b1, t', d', tv', v1', v2', rfl, HF1.out.1, HF1.out.2.1, HF4.out, HF5.out, HF3.out⟩
    case rest =>
    obtain ⟨n, t', d', tv', v1', v2', rfl, n0, n1, hI', hR', hbZ⟩ := hcut
    have hkn := cellB hbZ kn
    have HIZ : Hid _ := hI'
    have HRZ : Hid _ := hR'
    have HBZ : Hid (Below X.heap.size X wc) := hbZ
    have HWZ : Hid (Below w.heap.size w wc) := HBX.out.trans (hbZ.mono HBX.out.size)
    obtain ⟨Z, hZ⟩ : ∃ Z, wc = Z := ⟨_, rfl⟩
    rw [hZ] at HIZ HRZ HBZ HWZ n0 n1 hkn
    rw [hZ]
    clear hZ hI' hR' hbZ HV HCA HCB kn
    have HFEW : Hid (0 < p.L.length ∧ p.L.length ≤ 200) := HPR.out.few
    by_cases hm4 : M < 4
    ·have hm4' : (M : Int) < 4 := by omega
     have HRW : Hid (Z.ownsRow w.heap.size 35 2 (.slice (some ⟨gv, 0, none⟩) M cp) M (flatP ps)) := by
      have := (HFX.out.below HBZ.out).row
      rw [HM.out.1] at this
      exact this
     go_wp2_with (at_builtin; refine wpList_append_own_at _ rfl (.tmp 134) (.tmp 136) 36 rfl w.heap.size 35 i0 _ 2 16 Tryz.underlying36 hi0 hz0 hz1 hz2 rfl (by decide) _ M (flatP ps) rfl (HRW.out.alloc _) ⟨Z.heap.size, 0, none⟩ 1 1 [.pointer (some ⟨t', 0, none⟩), .pointer (some ⟨d', 0, none⟩)] rfl rfl (new_cells Z [.pointer (some ⟨t', 0, none⟩), .pointer (some ⟨d', 0, none⟩)] 35) (ptV_one ⟨t', tv', d', v1', v2', p.L⟩) (Nat.le_trans (m := 35184372088832) (by omega) (by decide)) (by omega) (by have := HWZ.out.size; simp; omega) ?_; intro vn x2 o2 gr2 _ _; obtain ⟨gn, cn, en, _⟩ := own_slice o2; subst en; have HFN : Hid (Py c w (.slice (some ⟨gn, 0, none⟩) (M + 1) cn) x2) := Py.mk (ps := ps ++ [⟨t', tv', d', v1', v2', p.L⟩]) (HFX.out.more HBX.out.size HBZ.out HIZ.out HRZ.out HFEW.out (by rw [HM.out.1]; exact o2) gr2) (by simp) (by rw [List.length_append, HM.out.1]; simp; omega) ((HWZ.out.alloc HWZ.out.size _).grown gr2 (by have := HWZ.out.size; simp; omega) (fun k e => (HRW.out.lt k e).1)); clear o2 gr2)
     go_roundg (N - (i + 1))
     case measure => omega
     case rel => exact ⟨i + 1, by omega, rfl, HFN.out⟩
    ·have hm4' : ¬ (M : Int) < 4 := by omega
     obtain rfl : M = 4 := by have := HM.out; omega
     obtain ⟨k0, k1⟩ := pk_box (c := s.n) (n := (4 : Int)) (by omega)
     obtain ⟨pj, hpj⟩ : ∃ pj : Nat, pkV s.n 4 = pj := ⟨(pkV s.n 4).toNat, by omega⟩
     have cP := fun x => pick_any (x := s.n) (n := 4) HNN.out (by omega) x
     rw [hpj] at cP
     have hpl4 : (pj : Int) < 4 := by omega
     have HPJ : Hid (pj < ps.length) := show pj < ps.length by have := HM.out.1; omega
     obtain ⟨pp, hpp⟩ : ∃ pp, ps[pj]? = some pp := ⟨_, List.getElem?_eq_getElem HPJ.out⟩
     obtain ⟨g', cp', ev, x1, x2⟩ := (HFX.out.below HBZ.out).at hpp
     rw [HM.out.1] at ev
     cases ev
     obtain ⟨x1, fx1⟩ := x1
     obtain ⟨x2, fx2⟩ := x2
     have HPUT : Hid (∀ U, Below Z.heap.size Z U → Py c w (.slice (some ⟨gv, 0, none⟩) 4 cp) ((U.setCell ⟨gv, pj * 2, none⟩ (.pointer (some ⟨t', 0, none⟩))).setCell ⟨gv, pj * 2 + 1, none⟩ (.pointer (some ⟨d', 0, none⟩)))) := fun U hU => by
      have hF := HFX.out
      rw [← HM.out.1] at hF
      have hh := hF.put (p' := ⟨t', tv', d', v1', v2', p.L⟩) HBX.out.size HPJ.out (HBZ.out.trans (hU.mono HBZ.out.size)) (HIZ.out.below hU) (HRZ.out.below hU) HFEW.out
      rw [HM.out.1] at hh
      have hg := ((HFX.out.below HBZ.out).row.lt gv rfl).1
      exact Py.turn (ps := ps) hh (by have := HM.out.1; omega) (by have := HM.out.1; omega) (((HWZ.out.trans (hU.mono HWZ.out.size)).setCell hg _).setCell hg _)
     clear k0 k1 hpj hpp
     go_upto_region 32 with fail
     go_region_with (first
      | (go_at_call 10; refine (cP _).mono ?_; rintro e x ⟨rfl, hxx⟩; obtain rfl := hxx.symm))
     all_goals
      go_wp2
      go_roundg (N - (i + 1))
      case measure => omega
      case rel => exact ⟨i + 1, by omega, rfl, by first | exact HPUT.out _ (drew_belowI Z) | exact HPUT.out Z.drew (drew_belowI Z)⟩
   ·have f5 : (s.kd == 5) = false := by simp [e5]
    have HFN : Hid (Py c w (.slice (some ⟨gv, 0, none⟩) M cp) X) := Py.mk ⟨own, HFX.out⟩ (by have := HM.out; omega) (by have := HM.out; omega) HBX.out
    clear e1 e2 e3 e4 e5 kon ka kn know kj0 kj1 kj2 kj3 kj4 kj5 kj6 kj7 hb0 hb1
    generalize s.kd = kd at *
    go_wp2
    go_roundg (N - (i + 1))
    case measure => omega
    case rel => exact ⟨i + 1, by omega, rfl, HFN.out⟩
  ·obtain rfl : i = N := by omega
   have hge : ¬ (i : Int) < i := by omega
   have HFE : Hid (Fam c w.heap.size own ps (.slice (some ⟨gv, 0, none⟩) M cp) wr) := by rw [← hM]; exact hF
   have HBE : Hid (Below w.heap.size w wr) := hBw
   have HME : Hid (ps.length = M ∧ M ≤ 4) := ⟨hM, by omega⟩
   have hM4 : M ≤ 4 := by omega
   clear hF hBw hM hpx hp0 hp4
   obtain ⟨V4, hV4⟩ : ∃ V4, wr = V4 := ⟨_, rfl⟩
   rw [hV4] at HFE HBE
   rw [hV4]
   clear hV4
   go_wp2
   go_loopg [18] M (fun gk x wr => ∃ m : Nat, m + gk = M ∧ x = .int .i64 m ∧ Below V4.heap.size V4 wr)
   case atStart => exact ⟨0, by omega, rfl, Below.refl _ _⟩
   case round =>
    obtain ⟨m, hm, rfl, hB5⟩ := hrel
    have HB5 : Hid (Below V4.heap.size V4 wr) := hB5
    clear hB5
    obtain ⟨V5, hV5⟩ : ∃ V5, wr = V5 := ⟨_, rfl⟩
    rw [hV5] at HB5
    rw [hV5]
    clear hV5
    by_cases hltm : m < M
    ·have hltm' : (m : Int) < M := by omega
     obtain ⟨p, hp⟩ : ∃ p, ps[m]? = some p := ⟨_, List.getElem?_eq_getElem (by rw [HME.out.1]; exact hltm)⟩
     have HPM : Hid (ps[m]? = some p) := hp
     clear hp
     go_wp2
     go_loopg [19] q (fun gk x wr => ∃ k : Nat, k + gk = q ∧ k ≤ q ∧ x = .int .i64 k ∧ Below V5.heap.size V5 wr)
     case atStart => exact ⟨0, by omega, by omega, rfl, Below.refl _ _⟩
     case round =>
      obtain ⟨k, hk, hkq, rfl, hB6⟩ := hrel
      by_cases hltk : k < q
      ·have hltk' : (k : Int) < q := by omega
       by_cases h2k : k < 200
       ·have h2k' : (k : Int) < 200 := by omega
        have hF6 := (HFE.out.below HB5.out).below hB6
        have hW6 : Below w.heap.size w wr := (HBE.out.trans (HB5.out.mono HBE.out.size)).trans (hB6.mono (Nat.le_trans HBE.out.size HB5.out.size))
        obtain ⟨g', cp', ev, x1, x2⟩ := hF6.at HPM.out
        rw [HME.out.1] at ev
        cases ev
        have y1 := x1.1
        have y2 := x2.1
        have cO := HPP.out wr p own m w.heap.size 100 ⟨k, 1, 0, 0, 0, 0, 0, none, 0, 0⟩ hW6 (hF6.ok m p HPM.out)
        have HB6 : Hid (Below V5.heap.size V5 wr) := hB6
        clear hF6 hW6 x1 x2 hB6
        go_wp2_with fail
        refine cO.mono ?_
        rintro e x ⟨rfl, bx⟩
        have HB7 : Hid (Below V5.heap.size V5 x) := HB6.out.trans (bx.mono HB6.out.size)
        clear bx cO HB6 y1 y2
        go_wp2
        go_roundg (q - (k + 1))
        case measure => omega
        case rel => exact ⟨k + 1, by omega, by omega, rfl, HB7.out⟩
       ·have h2k' : ¬ (k : Int) < 200 := by omega
        have HB6 : Hid (Below V4.heap.size V4 wr) := HB5.out.trans (hB6.mono HB5.out.size)
        clear hB6
        go_wp2
        go_roundg (M - (m + 1))
        case measure => omega
        case rel => exact ⟨m + 1, by omega, rfl, HB6.out⟩
      ·have hltk' : ¬ (k : Int) < q := by omega
       have HB6 : Hid (Below V4.heap.size V4 wr) := HB5.out.trans (hB6.mono HB5.out.size)
       clear hB6
       go_wp2
       go_roundg (M - (m + 1))
       case measure => omega
       case rel => exact ⟨m + 1, by omega, rfl, HB6.out⟩
    ·have hltm' : ¬ (m : Int) < M := by omega
     have HB6 : Hid (Below w.heap.size w V5) := HBE.out.trans (HB5.out.mono HBE.out.size)
     go_wp2
     go_ret
     exact ⟨rfl, HB6.out⟩
end Go.Proofs.YtdkbmligaodpmaaGreatDoor
