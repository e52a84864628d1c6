/-
 LAYER 16: package ideal: Priority of what can be (made by gen16y.py).
 LAYER 16: the statements' head: shown.
-/
import Derived.Test.YtdkbmligaodpmaaGreatDoorXiwz
namespace Go.Proofs.YtdkbmligaodpmaaGreatDoor
open Go.RowKit Wd Tr Cg Ld

def T4 (V : World) (d k : Nat) (a b s n : Int) (x : World) : Prop := x.cell? ⟨d, 2, none⟩ = some (.int .i64 a) ∧ x.cell? ⟨d, 4, none⟩ = some (.int .i64 b) ∧ x.cell? ⟨k, 3, none⟩ = some (.int .i64 s) ∧ x.cell? ⟨k, 1, none⟩ = some (.int .i64 n) ∧ Below V.heap.size V x ∧ V.heap.size ≤ x.heap.size
theorem T4.keep {V x y : World} {d k : Nat} {a b s n : Int} (h : T4 V d k a b s n x) (bw : Below x.heap.size x y) : T4 V d k a b s n y := by
 obtain ⟨h0, h1, h2, h3, hB, hz⟩ := h
 exact ⟨keepC bw h0, keepC bw h1, keepC bw h2, keepC bw h3, hB.trans (bw.mono hz), Nat.le_trans hz bw.size⟩
theorem T4.far {V x u : World} {d k : Nat} {a b s n : Int} {va vb : Value} (h : T4 V d k a b s n x) (hu : T4 V d k a b s n u) : T4 V d k a b s n ((x.setCell ⟨u.heap.size, 0, none⟩ va).setCell ⟨u.heap.size, 1, none⟩ vb) := by
 have nd := World.block_lt_of_cell? u _ hu.1
 have nk := World.block_lt_of_cell? u _ hu.2.2.1
 simp only at nd nk
 have yd : d ≠ u.heap.size := by omega
 have yk : k ≠ u.heap.size := by omega
 have z : V.heap.size ≤ u.heap.size := hu.2.2.2.2.2
 obtain ⟨h0, h1, h2, h3, hB, hz⟩ := h
 exact ⟨by simp [go_sem, *], by simp [go_sem, *], by simp [go_sem, *], by simp [go_sem, *], (hB.setCell z _).setCell z _, by simp; exact hz⟩
theorem T4.bel {V x : World} {d k : Nat} {a b s n : Int} (h : T4 V d k a b s n x) : Below V.heap.size V x := h.2.2.2.2.1
def T1 (V : World) (k : Nat) (a : Int) (x : World) : Prop := x.cell? ⟨k, 0, none⟩ = some (.int .i64 a) ∧ Below V.heap.size V x ∧ V.heap.size ≤ x.heap.size
theorem T1.keep {V x y : World} {k : Nat} {a : Int} (h : T1 V k a x) (bw : Below x.heap.size x y) : T1 V k a y := by
 obtain ⟨h0, hB, hz⟩ := h
 exact ⟨keepC bw h0, hB.trans (bw.mono hz), Nat.le_trans hz bw.size⟩
theorem T1.far {V x u : World} {k : Nat} {a : Int} {va vb : Value} (h : T1 V k a x) (hu : T1 V k a u) : T1 V k a ((x.setCell ⟨u.heap.size, 0, none⟩ va).setCell ⟨u.heap.size, 1, none⟩ vb) := by
 have nk := World.block_lt_of_cell? u _ hu.1
 simp only at nk
 have yk : k ≠ u.heap.size := by omega
 have z : V.heap.size ≤ u.heap.size := hu.2.2
 obtain ⟨h0, hB, hz⟩ := h
 exact ⟨by simp [go_sem, *], (hB.setCell z _).setCell z _, by simp; exact hz⟩
theorem T1.bel {V x : World} {k : Nat} {a : Int} (h : T1 V k a x) : Below V.heap.size V x := h.2.1
def restV (c : Cf) (now : Int) (j : Jb) : Int := c.age * (now - j.su) + c.size * j.no
def idLo (c : Cf) (l : List Ac) (L : List Bd) (now : Int) (j : Jb) : Int := Wd.addV (restV c now j * 9223372036854775808) (c.fair * (fLo (mL l L) (mH l L) (flo c) j.ac.toNat : Nat))
def idHi (c : Cf) (l : List Ac) (L : List Bd) (now : Int) (j : Jb) : Int := Wd.addV (restV c now j * 9223372036854775808) (c.fair * (fHi (mL l L) (mH l L) (flo c) j.ac.toNat : Nat))
theorem wt_yes {c : Cf} {L : List Bd} {now : Int} {j : Jb} (h : wtB c L now j = true) : (0 ≤ j.ac ∧ j.ac < L.length) ∧ 0 ≤ j.su ∧ j.su ≤ now ∧ now ≤ 1099511627776 ∧ 1 ≤ j.no ∧ j.no ≤ c.nodes := by
 unfold wtB at h
 simp only [Bool.and_eq_true, decide_eq_true_eq] at h
 obtain ⟨h0, h1, h2, h3, h4, h5⟩ := h
 exact ⟨okA_iff.1 h0, h1, h2, h3, h4, h5⟩
theorem rest_box {c : Cf} (r : Rng c) {L : List Bd} {now : Int} {j : Jb} (h : wtB c L now j = true) :
  IntKind.i64.wrap (now - j.su) = now - j.su ∧ IntKind.i64.wrap (c.age * (now - j.su)) = c.age * (now - j.su) ∧ IntKind.i64.wrap (c.size * j.no) = c.size * j.no ∧ IntKind.i64.wrap (c.age * (now - j.su) + c.size * j.no) = restV c now j ∧ IntKind.u64.wrap (restV c now j) = restV c now j ∧ Word (restV c now j) ∧ restV c now j ≤ 1152921504875282432 := by
 obtain ⟨_, h1, h2, h3, h4, h5⟩ := wt_yes h
 have := r.a0; have := r.a1; have := r.s0; have := r.s1; have := r.n1
 have m1 := mul_box (a := c.age) (b := now - j.su) (A := 1048576) (B := 1099511627776) (by omega) (by omega) (by omega) (by omega)
 have m2 := mul_box (a := c.size) (b := j.no) (A := 1048576) (B := 256) (by omega) (by omega) (by omega) (by omega)
 unfold restV
 refine ⟨by rw [IntKind.wrap_i64]; omega, by rw [IntKind.wrap_i64]; omega, by rw [IntKind.wrap_i64]; omega, by rw [IntKind.wrap_i64]; omega, by rw [IntKind.wrap_u64]; omega, ⟨by omega, by omega⟩, by omega⟩
structure PrT (w x : World) (c : Cf) (B d : Nat) (v : Value) (L : List Bd) (j : Jb) (g h : Nat) (R FL FH a1 b1 a2 b2 a3 b3 : Int) : Prop where
 st : PrS w x c B d v L j a1 b1 a2 b2 a3 b3
 g0 : x.cell? ⟨g, 0, none⟩ = some (.int .u64 (hiW R))
 g1 : x.cell? ⟨g, 1, none⟩ = some (.int .u64 (loW R))
 h0 : x.cell? ⟨h, 0, none⟩ = some (.int .u64 FL)
 h1 : x.cell? ⟨h, 1, none⟩ = some (.int .u64 FH)
 gb : w.heap.size + 4 ≤ g
 hb : w.heap.size + 4 ≤ h
section
variable {w x y : World} {c : Cf} {B d : Nat} {v : Value} {L : List Bd} {j : Jb} {g h : Nat} {R FL FH a1 b1 a2 b2 a3 b3 : Int}
theorem PrT.below (t : PrT w x c B d v L j g h R FL FH a1 b1 a2 b2 a3 b3) (b : Below x.heap.size x y) : PrT w y c B d v L j g h R FL FH a1 b1 a2 b2 a3 b3 :=
 ⟨t.st.below b, keepC b t.g0, keepC b t.g1, keepC b t.h0, keepC b t.h1, t.gb, t.hb⟩
theorem PrT.set1 (t : PrT w x c B d v L j g h R FL FH a1 b1 a2 b2 a3 b3) (p q : Int) : PrT w ((x.setCell ⟨w.heap.size + 1, 0, none⟩ (.int .u64 p)).setCell ⟨w.heap.size + 1, 1, none⟩ (.int .u64 q)) c B d v L j g h R FL FH p q a2 b2 a3 b3 := by
 obtain ⟨st, g0, g1, h0, h1, gb, hb⟩ := t
 have e1 : g ≠ w.heap.size + 1 := by omega
 have e2 : h ≠ w.heap.size + 1 := by omega
 exact ⟨st.set1 p q, by simp [go_sem, *], by simp [go_sem, *], by simp [go_sem, *], by simp [go_sem, *], gb, hb⟩
theorem PrT.set2 (t : PrT w x c B d v L j g h R FL FH a1 b1 a2 b2 a3 b3) (p q : Int) : PrT w ((x.setCell ⟨w.heap.size + 1 + 1, 0, none⟩ (.int .u64 p)).setCell ⟨w.heap.size + 1 + 1, 1, none⟩ (.int .u64 q)) c B d v L j g h R FL FH a1 b1 p q a3 b3 := by
 obtain ⟨st, g0, g1, h0, h1, gb, hb⟩ := t
 have e1 : g ≠ w.heap.size + 1 + 1 := by omega
 have e2 : h ≠ w.heap.size + 1 + 1 := by omega
 exact ⟨st.set2 p q, by simp [go_sem, *], by simp [go_sem, *], by simp [go_sem, *], by simp [go_sem, *], gb, hb⟩
end
set_option maxRecDepth 20000 in
set_option maxHeartbeats 8000000 in
theorem prio_yes {c : Cf} (hck : chkZ c = 0) {B : Nat} {w : World} {d : Nat} {v : Value} {L : List Bd} (h : Idl c B w d v L) (hT : Tab w) {ao : Option Addr} {l : List Ac} {cap : Nat} (hA : AcsAt w ao l) (hs : ∀ a ∈ l, a.nm.size ≤ maxLen) (hn : l.length * 48 ≤ 140737488355328) (hc : l.length ≤ cap) (now : Int) (j : Jb) (hl : loadE l = 0) (hll : l.length = L.length) (hw : wtB c L now j = true) :
  Calls Tryz.prog 23 #[.pointer (some ⟨d, 0, none⟩), .slice ao l.length cap, .int .i64 now, jbV j] w fun e w' => e = .returned (.tuple #[nuV (idLo c l L now j), nuV (idHi c l L now j), nuV 9223372036854775808]) ∧ Below w.heap.size w w' := by
 obtain ⟨r, _⟩ := chk_yes hck
 have hP := PrS.start h j
 have cL := pload_any (hA.below hP.bel) hs hn hc
 have HP : Hid _ := hP
 have HLL : Hid (l.length = L.length) := hll
 have hwu : Wu l := wf_load hl
 have hok := h.ok
 obtain ⟨⟨p0, p1⟩, _⟩ := wt_yes hw
 obtain ⟨p, hp⟩ : ∃ p : Nat, j.ac = p := ⟨j.ac.toNat, by omega⟩
 obtain ⟨e1, e2, e3, e4, e5, wr, rb⟩ := rest_box r hw
 have hml : (mL l L).length = L.length := by rw [show (mL l L).length = l.length from withU_len (by simp [hll]), hll]
 have hpm : p < (mL l L).length := by omega
 have hcb := c_box r
 have wfl : Word (flo c) := by unfold flo; exact ⟨by omega, by omega⟩
 have pfl : 0 < flo c := by unfold flo; omega
 have hsm : ∀ a ∈ mL l L, a.nm.size ≤ maxLen := fun a ha => by
  obtain ⟨n, hn'⟩ := List.mem_iff_getElem?.1 ha
  have hlt : n < (mL l L).length := (List.getElem?_eq_some_iff.1 hn').1
  have e1 : l[n]? = some l[n] := List.getElem?_eq_getElem (by omega)
  have e2 : (L.map loS)[n]? = some (loS L[n]) := by rw [List.getElem?_map, List.getElem?_eq_getElem (by omega)]; rfl
  have e3 := withU_get e1 e2
  unfold mL at hn'
  rw [hn'] at e3
  cases e3
  exact hs l[n] (List.getElem_mem _)
 have hf0 := r.f0; have hf1 := r.f1
 have wf : IntKind.u64.wrap c.fair = c.fair := by rw [IntKind.wrap_u64]; omega
 have HWF : Hid (Word c.fair) := show Word c.fair from ⟨by omega, by omega⟩
 have HAN : Hid (idLo c l L now j = Wd.addV (restV c now j * 9223372036854775808) (c.fair * (fLo (mL l L) (mH l L) (flo c) p : Nat)) ∧ idHi c l L now j = Wd.addV (restV c now j * 9223372036854775808) (c.fair * (fHi (mL l L) (mH l L) (flo c) p : Nat))) := by
  refine show _ ∧ _ from ⟨?_, ?_⟩
  ·unfold idLo; rw [hp, Int.toNat_natCast]
  ·unfold idHi; rw [hp, Int.toNat_natCast]
 rw [HAN.out.1, HAN.out.2]
 have wFL : Word (fLo (mL l L) (mH l L) (flo c) p : Nat) := ⟨Int.natCast_nonneg _, by have := half_top (xHi (mL l L) (mH l L) (flo c) p); unfold fLo; omega⟩
 have wFH : Word (fHi (mL l L) (mH l L) (flo c) p : Nat) := ⟨Int.natCast_nonneg _, by have := upp_top (xLo (mL l L) (mH l L) (flo c) p); unfold fHi; omega⟩
 have HPM : Hid _ := hpm
 have HSM : Hid _ := hsm
 have HWU : Hid _ := hwu
 have HOK : Hid _ := hok
 have HRB : Hid (Word (restV c now j) ∧ Num (restV c now j * 9223372036854775808)) := show _ ∧ _ from ⟨wr, ⟨by have := wr.1; omega, by unfold top; omega⟩⟩
 have HT0 : Hid (Tab w) := hT
 have HPJ : Hid (j.ac = (p : Int)) := hp
 have HEE : Hid (IntKind.i64.wrap (now - j.su) = now - j.su ∧ IntKind.i64.wrap (c.age * (now - j.su)) = c.age * (now - j.su) ∧ IntKind.i64.wrap (c.size * j.no) = c.size * j.no ∧ IntKind.u64.wrap (restV c now j) = restV c now j) := show _ ∧ _ ∧ _ ∧ _ from ⟨e1, e2, e3, e5⟩
 have HWW : Hid (IntKind.u64.wrap c.fair = c.fair) := wf
 have HFW : Hid (Word (fLo (mL l L) (mH l L) (flo c) p : Nat) ∧ Word (fHi (mL l L) (mH l L) (flo c) p : Nat)) := show _ ∧ _ from ⟨wFL, wFH⟩
 have HFL : Hid (Word (flo c) ∧ 0 < flo c) := show _ ∧ _ from ⟨wfl, pfl⟩
 clear hp e1 e2 e3 e5 wf wFL wFH wfl pfl
 have HRV : Hid (IntKind.i64.wrap (c.age * (now - j.su) + c.size * j.no) = restV c now j) := e4
 clear h hA hP hll hck r hwu hok p0 p1 wr rb hml hpm hcb hsm hf0 hf1 hT hs hn hc e4
 generalize hq : l.length = q at *
 have HQ : Hid (l.length = q) := hq
 clear hq
 go_enter Tryz.func23, Tryz.ntmps23
 go_wp2_with fail
 refine cL.mono ?_
 rintro e w1 hLP
 obtain ⟨t, rfl, hTr⟩ := hLP.1 hl
 have hP1 := HP.out.below hLP.2.2
 have HTR : Hid (Tree (fun _ => True) w1 t (l.map plainAc) (kidB (l.map plainAc))) := hTr.mono (fun _ _ _ => trivial)
 have cN : Calls Tryz.prog 62 #[.pointer (some ⟨t, 0, none⟩)] w1.drew fun e w' => e = .returned (.int .i64 (L.length : Int)) ∧ w' = w1.drew := by
  have := (hTr.below (drew_belowI w1)).len
  rw [List.length_map, HQ.out, HLL.out] at this
  exact this
 have cW := waits_any (hP1.idl.below (drew_belowI w1)) now j
 rw [hw] at cW
 obtain ⟨ao', cp', hv⟩ := hP1.idl.shape
 subst hv
 have c0 := hP1.idl.c0
 obtain ⟨j0, j1, j2, j3, j4, j5, j6, j7⟩ := Jb.cells hP1.job
 have HP1 : Hid _ := hP1
 clear hLP cL hP1 HP hl hTr hw
 generalize hq2 : L.length = q2 at *
 have HQ2 : Hid (L.length = q2) := hq2
 clear hq2
 go_upto_region 2 with fail
 go_cut [38] (fun b wq => b = .bool false ∧ PrS w wq c B d (.slice ao' q2 cp') L j 0 0 0 0 0 0 ∧ Tree (fun _ => True) wq t (l.map plainAc) (kidB (l.map plainAc)))
 case first =>
  go_region_with (first
   | (go_at_call 62; refine cN.mono ?_; rintro e x ⟨rfl, rfl⟩)
   | (go_at_call 63; refine cW.mono ?_; rintro e x ⟨rfl, hx⟩; have HX : Hid (Below w1.drew.heap.size w1.drew x) := hx))
  all_goals
   have HPX : Hid (PrS w x c B d (.slice ao' q2 cp') L j 0 0 0 0 0 0 ∧ Tree (fun _ => True) x t (l.map plainAc) (kidB (l.map plainAc))) := show _ ∧ _ from ⟨(HP1.out.below (drew_belowI w1)).below HX.out, (HTR.out.below (drew_belowI w1)).below HX.out⟩
   clear HX HP1 cN cW
   go_wp2
   go_meet
   exact ⟨rfl, HPX.out.1, HPX.out.2⟩
 case rest =>
  obtain ⟨rfl, hP2, hT2⟩ := hcut
  have HP2 : Hid _ := hP2
  have HT2 : Hid (Tree (fun _ => True) wc t (l.map plainAc) (kidB (l.map plainAc))) := hT2
  clear hP2 hT2 HP1 HTR cN cW j0 j1 j2 j3 j4 j5 j6 j7 c0
  obtain ⟨V, hV⟩ : ∃ V, wc = V := ⟨_, rfl⟩
  rw [hV] at HP2 HT2
  rw [hV]
  clear hV
  go_upto_region 4 with fail
  have HV : Hid (T4 V d w.heap.size c.age c.size j.su j.no V) := by
   have hP2 := HP2.out
   obtain ⟨_, j1, _, j3, _⟩ := Jb.cells hP2.job
   exact ⟨hP2.idl.c2, hP2.idl.c4, j3, j1, Below.refl _ _, Nat.le_refl _⟩
  have HS : Hid (T4 V d w.heap.size c.age c.size j.su j.no V.drew) := T4.keep HV.out (drew_belowI V)
  have cM := mul_num' (restV c now j) 9223372036854775808 HRB.out.1 ⟨by omega, by omega⟩
  have e4 := HRV.out
  obtain ⟨e1, e2, e3, e5⟩ := HEE.out
  go_cut [13] (fun b wq => ∃ g : Nat, b = .pointer (some ⟨g, 0, none⟩) ∧ wq.cell? ⟨g, 0, none⟩ = some (.int .u64 (hiW (restV c now j * 9223372036854775808))) ∧ wq.cell? ⟨g, 1, none⟩ = some (.int .u64 (loW (restV c now j * 9223372036854775808))) ∧ V.heap.size ≤ g ∧ Below V.heap.size V wq)
  case first =>
   generalize restV c now j = RV at *
   go_region_held3 (fun x => x.cell? ⟨d, 2, none⟩ = some (.int .i64 c.age) ∧ x.cell? ⟨d, 4, none⟩ = some (.int .i64 c.size) ∧ x.cell? ⟨w.heap.size, 3, none⟩ = some (.int .i64 j.su) ∧ x.cell? ⟨w.heap.size, 1, none⟩ = some (.int .i64 j.no) ∧ Below V.heap.size V x ∧ V.heap.size ≤ x.heap.size) (first | exact HS.out | exact HX.out | exact T4.far HX.out HV.out | exact T4.far HX.out HS.out | exact T4.far HX.out HX.out | exact T4.keep HX.out ((Below.refl _ _).alloc (Nat.le_refl _) _) | assumption | exact T4.keep (by assumption) (by assumption) | exact T4.keep (by assumption) ((Below.refl _ _).alloc (Nat.le_refl _) _) | exact T4.keep HS.out ((Below.refl _ _).alloc (Nat.le_refl _) _) | exact T4.keep HX.out ((Below.refl _ _).alloc (Nat.le_refl _) _))
    (first
    | (go_at_call 64; refine (cM _).mono ?_; rintro e x ⟨rfl, hx⟩; have HX : Hid (T4 V d w.heap.size c.age c.size j.su j.no x) := T4.keep (by first | exact HS.out | assumption) hx; obtain ⟨hc1, hf1⟩ := bkeep hx))
   all_goals
    rename_i h6x
    have h6 : T4 V d w.heap.size c.age c.size j.su j.no _ := h6x
    have H6 : Hid _ := h6.bel
    have z1 := HV.out.bel.size
    have z2 := HS.out.bel.size
    have z3 := HX.out.bel.size
    clear h6x h6 HS HX HV HP2 HT2
    go_wp2
    go_meet
    exact ⟨_, rfl, by simp [go_sem, *], by simp [go_sem, *], by first | assumption | omega | (simp; omega), H6.out⟩
  case rest =>
   obtain ⟨g, rfl, g0, g1, hg, hB⟩ := hcut
   have HG : Hid (wc.cell? ⟨g, 0, none⟩ = some (.int .u64 (hiW (restV c now j * 9223372036854775808))) ∧ wc.cell? ⟨g, 1, none⟩ = some (.int .u64 (loW (restV c now j * 9223372036854775808)))) := show _ ∧ _ from ⟨g0, g1⟩
   have HP3 : Hid _ := HP2.out.below hB
   have HT3 : Hid (Tree (fun _ => True) wc t (l.map plainAc) (kidB (l.map plainAc))) := Tree.below HT2.out hB
   have HVG : Hid (w.heap.size + 4 ≤ g) := show w.heap.size + 4 ≤ g by have := HP2.out.big; omega
   clear HS HV HP2 HT2 g0 g1 hB cM e4 e1 e2 e3 e5 hg
   obtain ⟨V, hV⟩ : ∃ V, wc = V := ⟨_, rfl⟩
   rw [hV] at HP3 HT3 HG
   rw [hV]
   clear hV
   have HV : Hid (T1 V w.heap.size (p : Int) V) := by
    have hP3 := HP3.out
    obtain ⟨j0, _⟩ := Jb.cells hP3.job
    rw [HPJ.out] at j0
    exact ⟨j0, Below.refl _ _, Nat.le_refl _⟩
   have HS : Hid (T1 V w.heap.size (p : Int) V.drew) := T1.keep HV.out (drew_belowI V)
   have HTV : Hid (Tab V) := Tab.below HP3.out.bel HT0.out
   have cF := fun (x : World) (hx : Below V.heap.size V x) => family_any (HP3.out.idl.below hx) t
   go_upto_region 5 with fail
   go_cut [14] (fun b wq => ∃ h : Nat, b = .pointer (some ⟨h, 0, none⟩) ∧ wq.cell? ⟨h, 0, none⟩ = some (.int .u64 (fLo (mL l L) (mH l L) (flo c) p : Nat)) ∧ wq.cell? ⟨h, 1, none⟩ = some (.int .u64 (fHi (mL l L) (mH l L) (flo c) p : Nat)) ∧ V.heap.size ≤ h ∧ Below V.heap.size V wq)
   case first =>
    go_region_held3 (fun x => x.cell? ⟨w.heap.size, 0, none⟩ = some (.int .i64 (p : Int)) ∧ Below V.heap.size V x ∧ V.heap.size ≤ x.heap.size) (first | exact HS.out | exact HY.out | exact HX.out | exact T1.far HY.out HV.out | exact T1.far HY.out HS.out | exact T1.far HY.out HX.out | exact T1.far HY.out HY.out | exact T1.keep HY.out ((Below.refl _ _).alloc (Nat.le_refl _) _) | assumption | exact T1.keep (by assumption) (by assumption) | exact T1.keep (by assumption) ((Below.refl _ _).alloc (Nat.le_refl _) _) | exact T1.keep HS.out ((Below.refl _ _).alloc (Nat.le_refl _) _) | exact T1.keep HX.out ((Below.refl _ _).alloc (Nat.le_refl _) _) | exact T1.keep HY.out ((Below.refl _ _).alloc (Nat.le_refl _) _))
     (first
     | (go_at_call 65; refine (cF _ (T1.bel (by first | exact HS.out | assumption))).mono ?_; rintro e x ⟨vo, rfl, hrow, hx⟩; have HX : Hid (T1 V w.heap.size (p : Int) x) := T1.keep (by first | exact HS.out | assumption) hx; obtain ⟨hc1, hf1⟩ := bkeep hx; obtain ⟨og, cap2, hvo, hfs⟩ := fs_of (Tree.below HT3.out HX.out.bel) HWU.out (by rw [HQ.out, HLL.out, HQ2.out]) HOK.out hrow; subst hvo; have HFS : Hid (Fs x t og (mL l L) (mH l L)) := hfs; clear hfs hrow hx)
     | (go_at_call 66; refine (pfac_any (Fs.below HFS.out (by first | exact Below.refl _ _ | exact (Below.refl _ _).alloc (Nat.le_refl _) _)) HFL.out.1 HFL.out.2 cap2 HPM.out HSM.out (Tab.below (T1.bel (by first | exact HX.out | assumption)) HTV.out)).mono ?_; rintro e x ⟨rfl, hx⟩; have HY : Hid (T1 V w.heap.size (p : Int) x) := T1.keep (by first | exact HX.out | assumption) hx; obtain ⟨hc2, hf2⟩ := bkeep hx; (first | (have g2 := tkC hc1 hc2; have j2 := tkF hc1 hf1 hf2) | skip)))
    all_goals
     rename_i h6x
     have h6 : T1 V w.heap.size (p : Int) _ := h6x
     have H6 : Hid _ := h6.bel
     have z1 := HV.out.bel.size
     have z2 := HS.out.bel.size
     have z3 := HX.out.bel.size
     have z4 := HY.out.bel.size
     clear h6x h6 HS HX HY HV HP3 HT3 cF
     go_wp2
     go_meet
     exact ⟨_, rfl, by simp [go_sem, *], by simp [go_sem, *], by first | assumption | omega | (simp; omega), H6.out⟩
   case rest =>
    obtain ⟨h, rfl, h0, h1, hh, hB⟩ := hcut
    generalize hFL : ((fLo (mL l L) (mH l L) (flo c) p : Nat) : Int) = FL at *
    generalize hFH : ((fHi (mL l L) (mH l L) (flo c) p : Nat) : Int) = FH at *
    have hPT : PrT w wc c B d (.slice ao' q2 cp') L j g h (restV c now j * 9223372036854775808) FL FH 0 0 0 0 0 0 :=
     ⟨HP3.out.below hB, keepC hB HG.out.1, keepC hB HG.out.2, h0, h1, HVG.out, by have := HP3.out.big; omega⟩
    have HFF : Hid (((fLo (mL l L) (mH l L) (flo c) p : Nat) : Int) = FL ∧ ((fHi (mL l L) (mH l L) (flo c) p : Nat) : Int) = FH) := show _ ∧ _ from ⟨hFL, hFH⟩
    have HPT : Hid _ := hPT
    have nR := HRB.out.2
    generalize hRR : restV c now j * 9223372036854775808 = RR at *
    have HRR : Hid (restV c now j * 9223372036854775808 = RR) := hRR
    clear HS HV HP3 HT3 cF h0 h1 hB hh HG HVG hFL hFH hPT HTV hRR HRB HRV HEE
    obtain ⟨V5, hV5⟩ : ∃ V5, wc = V5 := ⟨_, rfl⟩
    rw [hV5] at HPT
    rw [hV5]
    clear hV5
    have wf := HWW.out
    have cM1 := mul_num' c.fair FL HWF.out HFW.out.1
    have cM2 := mul_num' c.fair FH HWF.out HFW.out.2
    have nM1 := mul_num HWF.out HFW.out.1
    have nM2 := mul_num HWF.out HFW.out.2
    have cA1 := add_num RR (c.fair * FL) nR nM1
    have cA2 := add_num RR (c.fair * FH) nR nM2
    have cO := of_num 9223372036854775808 ⟨by omega, by omega⟩
    clear nM1 nM2 nR HWW HFW HWF HFL
    generalize hXL : Wd.addV RR (c.fair * FL) = XL at *
    generalize hXH : Wd.addV RR (c.fair * FH) = XH at *
    have HXX : Hid (Wd.addV RR (c.fair * FL) = XL ∧ Wd.addV RR (c.fair * FH) = XH) := show _ ∧ _ from ⟨hXL, hXH⟩
    generalize hYL : c.fair * FL = YL at *
    generalize hYH : c.fair * FH = YH at *
    have HYY : Hid (c.fair * FL = YL ∧ c.fair * FH = YH) := show _ ∧ _ from ⟨hYL, hYH⟩
    clear hYL hYH
    generalize addB RR YL = BL at *
    generalize addB RR YH = BH at *
    clear hXL hXH
    go_upto_region 6 with fail
    go_cut [8] (fun b wq => b = .pointer (some ⟨w.heap.size + 1, 0, none⟩) ∧ PrT w wq c B d (.slice ao' q2 cp') L j g h RR FL FH (hiW XL) (loW XL) 0 0 0 0)
    case first =>
     obtain ⟨r0, r1, r2, r3⟩ := HPT.out.st.r1
     have g0 := HPT.out.g0
     have g1 := HPT.out.g1
     have h0 := HPT.out.h0
     have d3 := HPT.out.st.idl.c3
     go_region_with (first
      | (go_at_call 64; refine (cM1 _).mono ?_; rintro e x ⟨rfl, hx⟩; have x0 := keepC hx r0; have x1 := keepC hx r1; have y0 := keepF hx r0 r2; have y1 := keepF hx r1 r3; have xg0 := keepC hx g0; have xg1 := keepC hx g1; have HX : Hid (Below V5.drew.heap.size V5.drew x) := hx)
      | (go_at_call 67; refine (cA1 _).mono ?_; rintro e y ⟨rfl, hy⟩; have u0 := keepC hy x0; have u1 := keepC hy x1; have v0 := keepF hy x0 y0; have v1 := keepF hy x1 y1; have HY : Hid (Below x.heap.size x y) := hy))
     all_goals
      have HZ : Hid _ := (((HPT.out.below (drew_belowI V5)).below HX.out).below HY.out).set1 (hiW XL) (loW XL)
      clear HX HY HPT g0 g1 h0 d3 r0 r1 r2 r3 x0 x1 y0 y1 xg0 xg1 cM1 cM2 cA1 cA2 cO
      go_wp2
      go_meet
      exact ⟨rfl, HZ.out⟩
    case rest =>
     obtain ⟨rfl, hPT⟩ := hcut
     have HPT6 : Hid _ := hPT
     clear hPT HPT cM1 cA1
     obtain ⟨V6, hV6⟩ : ∃ V6, wc = V6 := ⟨_, rfl⟩
     rw [hV6] at HPT6
     rw [hV6]
     clear hV6
     go_upto_region 7 with fail
     go_cut [9] (fun b wq => b = .pointer (some ⟨w.heap.size + 1 + 1, 0, none⟩) ∧ PrT w wq c B d (.slice ao' q2 cp') L j g h RR FL FH (hiW XL) (loW XL) (hiW XH) (loW XH) 0 0)
     case first =>
      obtain ⟨r0, r1, r2, r3⟩ := HPT6.out.st.r2
      have g0 := HPT6.out.g0
      have g1 := HPT6.out.g1
      have h1 := HPT6.out.h1
      have d3 := HPT6.out.st.idl.c3
      go_region_with (first
       | (go_at_call 64; refine (cM2 _).mono ?_; rintro e x ⟨rfl, hx⟩; have x0 := keepC hx r0; have x1 := keepC hx r1; have y0 := keepF hx r0 r2; have y1 := keepF hx r1 r3; have xg0 := keepC hx g0; have xg1 := keepC hx g1; have HX : Hid (Below V6.drew.heap.size V6.drew x) := hx)
       | (go_at_call 67; refine (cA2 _).mono ?_; rintro e y ⟨rfl, hy⟩; have u0 := keepC hy x0; have u1 := keepC hy x1; have v0 := keepF hy x0 y0; have v1 := keepF hy x1 y1; have HY : Hid (Below x.heap.size x y) := hy))
      all_goals
       have HZ : Hid _ := (((HPT6.out.below (drew_belowI V6)).below HX.out).below HY.out).set2 (hiW XH) (loW XH)
       clear HX HY HPT6 g0 g1 h1 d3 r0 r1 r2 r3 x0 x1 y0 y1 xg0 xg1 cM2 cA2 cO
       go_wp2
       go_meet
       exact ⟨rfl, HZ.out⟩
     case rest =>
      obtain ⟨rfl, hPT⟩ := hcut
      have HPT7 : Hid _ := hPT.st
      clear hPT HPT6 cM2 cA2
      obtain ⟨V7, hV7⟩ : ∃ V7, wc = V7 := ⟨_, rfl⟩
      rw [hV7] at HPT7
      rw [hV7]
      clear hV7
      obtain ⟨p0, p1, p2, p3⟩ := HPT7.out.r1
      obtain ⟨q0, q1, q2', q3⟩ := HPT7.out.r2
      obtain ⟨s0, s1, s2, s3⟩ := HPT7.out.r3
      go_upto_region 8 with fail
      go_region_with (first
       | (go_at_call 68; refine (cO _).mono ?_; rintro e x ⟨rfl, hx⟩; have p0x := keepC hx p0; have p1x := keepC hx p1; have p2x := keepF hx p0 p2; have p3x := keepF hx p1 p3; have q0x := keepC hx q0; have q1x := keepC hx q1; have q2x := keepF hx q0 q2'; have q3x := keepF hx q1 q3; have s0x := keepC hx s0; have s1x := keepC hx s1; have s2x := keepF hx s0 s2; have s3x := keepF hx s1 s3; have HX : Hid (Below V7.drew.heap.size V7.drew x) := hx; clear hx))
      all_goals
       have HZ : Hid _ := (((((HPT7.out.below (drew_belowI V7)).below HX.out).set1 (hiW XL) (loW XL)).set2 (hiW XH) (loW XH)).set3 (hiW 9223372036854775808) (loW 9223372036854775808)).bel
       clear HX HPT7 cO p0 p1 p2 p3 q0 q1 q2' q3 s0 s1 s2 s3
       go_wp2
       refine bodyPost_ret (v := .tuple #[nuV XL, nuV XH, nuV 9223372036854775808]) (by simp [results, Tryz.results23, go_sem, *]) rfl ⟨by rw [HFF.out.1, HFF.out.2, HRR.out, HYY.out.1, HYY.out.2, HXX.out.1, HXX.out.2], HZ.out⟩
end Go.Proofs.YtdkbmligaodpmaaGreatDoor
namespace Go.Proofs.YtdkbmligaodpmaaGreatDoor
open Go.RowKit Wd Tr Cg Ld

theorem iplain_any (w : World) : Calls Tryz.prog 36 #[] w fun e w' => e = .returned (cfV cEx) ∧ Below w.heap.size w w' := by
 go_enter Tryz.func36, Tryz.ntmps36
 go_wp2
 exact bodyPost_ret (v := .agg #[.int .i64 4, .int .i64 8, .int .i64 10, .int .i64 1, .int .i64 1000, .int .i64 0, .int .i64 100, .int .i64 100]) (by simp [results, Tryz.results36, go_sem]) rfl ⟨rfl, by repeat first | exact (Below.refl _ _) | exact ((Below.refl _ _).alloc (Nat.le_refl _) _) | refine Below.setCell ?_ (by simp) _⟩
def lE2 : List Ac := [⟨⟨#[114, 111, 111, 116]⟩, -1, 1, false, 0⟩, ⟨⟨#[97]⟩, 0, 3, false, 0⟩]
def jE2 : Jb := ⟨1, 2, 0, 3, 0, 0, 0, none, 0, 0⟩
theorem e2_load : loadE lE2 = 0 := by kernel_rfl
theorem e2_lo : idLo cEx lE2 [zeB, zeB] 10 jE2 = 9287935641112759238656 := by kernel_rfl
theorem e2_hi : idHi cEx lE2 [zeB, zeB] 10 jE2 = 9287935641112759238656 := by kernel_rfl
theorem e2_wt : wtB cEx [zeB, zeB] 10 jE2 = true := by kernel_rfl
theorem e2_nm : ∀ a ∈ lE2, a.nm.size ≤ maxLen := fun a h => by
 simp only [lE2, List.mem_cons, List.not_mem_nil, or_false] at h
 rcases h with rfl | rfl <;> decide
abbrev e2Cs : Array Value := #[.string ⟨#[114, 111, 111, 116]⟩, .int .i64 (-1), .int .i64 1, .bool false, .int .u64 0, .string ⟨#[97]⟩, .int .i64 0, .int .i64 3, .bool false, .int .u64 0]
theorem e2_acs (w : World) : AcsAt (w.alloc (.cells e2Cs 62)) (some ⟨w.heap.size, 0, none⟩) lE2 := by
 refine ⟨w.heap.size, 0, fun _ => rfl, fun k a h => ?_⟩
 have hh := heap_alloc_new w (.cells e2Cs 62)
 match k, h with
 | 0, h => cases h; exact ⟨cells_at (k := 0) hh rfl, cells_at (k := 1) hh rfl, cells_at (k := 2) hh rfl, cells_at (k := 3) hh rfl, cells_at (k := 4) hh rfl⟩
 | 1, h => cases h; exact ⟨cells_at (k := 5) hh rfl, cells_at (k := 6) hh rfl, cells_at (k := 7) hh rfl, cells_at (k := 8) hh rfl, cells_at (k := 9) hh rfl⟩
 | n + 2, h => simp [lE2] at h
theorem e2_hiw : hiW 9287935641112759238656 = 503 ∧ loW 9287935641112759238656 = 9223372036854775808 ∧ hiW 9223372036854775808 = 0 ∧ loW 9223372036854775808 = 9223372036854775808 := by decide
set_option maxHeartbeats 1000000 in
set_option maxRecDepth 20000 in
theorem ishown_any {w : World} (hT : Tab w) : Calls Tryz.prog 7 #[] w fun e w' => e = .returned (.bool true) ∧ Below w.heap.size w w' := by
 have HT : Hid (Tab w) := hT
 clear hT
 go_enter Tryz.func7, Tryz.ntmps7
 go_wp2_with fail
 refine (iplain_any _).mono ?_
 rintro e w1 ⟨rfl, hb1⟩
 go_wp2_with fail
 refine (inew_yes ex_chk w1 (Tab.below hb1 HT.out)).mono ?_
 rintro e w2 ⟨d, v, rfl, hI, hb2⟩
 have cO := iopen_any hI (by have := hb2.size; omega) (by decide)
 have hB2 := hb1.trans (hb2.mono hb1.size)
 have hlow := hI.low
 have hz1 := hb1.size
 have hz2 := hb2.size
 have HI : Hid _ := hlow
 clear hI hb1 hb2 hlow
 go_wp2_with fail
 refine cO.mono ?_
 rintro e w3 ⟨rfl, v', hI3, hC3, _⟩
 have hB3 : Below w.heap.size w w3 := hC3.below hB2 hB2.size (fun i hi => by have := HI.out i hi; omega)
 have hI3' : Idl cEx w1.heap.size w3 d v' [zeB, zeB] := hI3
 obtain ⟨w4, hw4⟩ : ∃ w4, w3.alloc (.cells e2Cs 62) = w4 := ⟨_, rfl⟩
 have hA := e2_acs w3
 rw [hw4] at hA
 have hb34 : Below w3.heap.size w3 w4 := by rw [← hw4]; exact (Below.refl _ _).alloc (Nat.le_refl _) _
 have hB4 : Below w.heap.size w w4 := hB3.trans (hb34.mono hB3.size)
 have hI4 := hI3'.below hb34
 have cP := prio_yes ex_chk hI4 (Tab.below hB4 HT.out) (cap := 2) hA e2_nm (by decide) (by decide) 10 jE2 e2_load rfl e2_wt
 rw [e2_lo, e2_hi] at cP
 obtain ⟨h1, h2, h3, h4⟩ := e2_hiw
 simp only [nuV, h1, h2, h3, h4] at cP
 have HI4 : Hid _ := hI4
 have HB4 : Hid (Below w.heap.size w w4) := hB4
 have HW4 : Hid _ := hw4
 have hz3 := hC3.size
 have hz4 := hb34.size
 clear cO hI3 hI3' hC3 hB2 hB3 hA hb34 hB4 hI4 h1 h2 h3 h4 hw4
 go_upto_region 6 with fail
 rw [HW4.out]
 clear HW4
 go_wp2_with fail
 refine cP.mono ?_
 rintro e w5 ⟨rfl, hb5⟩
 have hI5 := HI4.out.below hb5
 have hb58 : Below w5.heap.size w5 (((w5.alloc (.cells #[.int .u64 503, .int .u64 9223372036854775808] 64)).alloc (.cells #[.int .u64 503, .int .u64 9223372036854775808] 64)).alloc (.cells #[.int .u64 0, .int .u64 9223372036854775808] 64)) := (((Below.refl _ w5).alloc (Nat.le_refl _) _).alloc (by simp) _).alloc (by simp; omega) _
 have cC := icharge_any ex_rng (hI5.below hb58) 1 5
 have hE : chgE cEx.nodes [zeB, zeB] 1 5 = 160 := by decide
 rw [hE] at cC
 have hlt5 := hI5.lt
 have hB5 : Below w.heap.size w w5 := HB4.out.trans (hb5.mono HB4.out.size)
 have HL5 : Hid _ := hlt5
 have HLO : Hid _ := hI5.low
 have hs5 := hB5.size
 have t0 := Bx.new w5 (.int .u64 503) (.int .u64 9223372036854775808) 64
 have t0 := (t0.alloc #[.int .u64 503, .int .u64 9223372036854775808] 64).alloc #[.int .u64 0, .int .u64 9223372036854775808] 64
 have t1 := (Bx.new (w5.alloc (.cells #[.int .u64 503, .int .u64 9223372036854775808] 64)) (.int .u64 503) (.int .u64 9223372036854775808) 64).alloc #[.int .u64 0, .int .u64 9223372036854775808] 64
 have t2 := Bx.new ((w5.alloc (.cells #[.int .u64 503, .int .u64 9223372036854775808] 64)).alloc (.cells #[.int .u64 503, .int .u64 9223372036854775808] 64)) (.int .u64 0) (.int .u64 9223372036854775808) 64
 simp only [World.size_alloc] at t1 t2
 obtain ⟨t00, t01, _, _⟩ := t0
 obtain ⟨t10, t11, _, _⟩ := t1
 obtain ⟨t20, t21, _, _⟩ := t2
 have hB8 := hB5.trans (hb58.mono hs5)
 have h58 := hb58.size
 clear cP hI5 hlt5 hb5 hb58 hE HI4 HB4 hB5
 obtain ⟨w8, hw8⟩ : ∃ w8, ((w5.alloc (.cells #[.int .u64 503, .int .u64 9223372036854775808] 64)).alloc (.cells #[.int .u64 503, .int .u64 9223372036854775808] 64)).alloc (.cells #[.int .u64 0, .int .u64 9223372036854775808] 64) = w8 := ⟨_, rfl⟩
 rw [hw8] at cC t00 t01 t10 t11 t20 t21 hB8 h58
 have HW8 : Hid _ := hw8
 clear hw8
 go_upto_region 7 with fail
 rw [HW8.out]
 clear HW8
 go_wp2_with fail
 refine cC.mono ?_
 rintro e w9 ⟨rfl, _, hC9⟩
 have k : ∀ i, w5.heap.size ≤ i → ¬ IK d v' i := fun i hi hk => by have := HL5.out i hk; omega
 have u00 := allocC (.cells #[.int .u64 503, .int .u64 9223372036854775808] 64) (hC9.cell t00 (k _ (Nat.le_refl _)))
 have u01 := allocC (.cells #[.int .u64 503, .int .u64 9223372036854775808] 64) (hC9.cell t01 (k _ (Nat.le_refl _)))
 have u10 := allocC (.cells #[.int .u64 503, .int .u64 9223372036854775808] 64) (hC9.cell t10 (k _ (by simp)))
 have u11 := allocC (.cells #[.int .u64 503, .int .u64 9223372036854775808] 64) (hC9.cell t11 (k _ (by simp)))
 have u20 := allocC (.cells #[.int .u64 503, .int .u64 9223372036854775808] 64) (hC9.cell t20 (k _ (by simp; omega)))
 have u21 := allocC (.cells #[.int .u64 503, .int .u64 9223372036854775808] 64) (hC9.cell t21 (k _ (by simp; omega)))
 have hB9 : Below w.heap.size w w9 := hC9.below hB8 (by omega) (fun i hi => by have := HLO.out i hi; omega)
 have hs9 := hB9.size
 clear cC hC9 t00 t01 t10 t11 t20 t21 k
 go_wp2
 go_ret
 exact ⟨rfl, hB9.alloc hs9 _⟩
end Go.Proofs.YtdkbmligaodpmaaGreatDoor
