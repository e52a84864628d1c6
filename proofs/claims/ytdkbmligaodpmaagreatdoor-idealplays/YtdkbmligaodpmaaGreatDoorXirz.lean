/-
 LAYER 16: package ideal: effective (made by gen16q.py).
 LAYER 16: package ideal: factor (made by gen16f.py).
-/
import Derived.Test.YtdkbmligaodpmaaGreatDoorXilz
import Derived.Test.YtdkbmligaodpmaaGreatDoorRgAqz
import Derived.Test.YtdkbmligaodpmaaGreatDoorSfZqz
namespace Go.Proofs.YtdkbmligaodpmaaGreatDoor
open Go.RowKit Wd Tr Cg Ld

def E7 (w : World) (k g j r : Nat) (t og n cap : Nat) (fl a b pq sh : Int) (x : World) : Prop := x.cell? ⟨k, 0, none⟩ = some (.pointer (some ⟨t, 0, none⟩)) ∧ x.cell? ⟨k, 1, none⟩ = some (.slice (some ⟨og, 0, none⟩) n cap) ∧ x.cell? ⟨k, 2, none⟩ = some (.int .u64 fl) ∧ x.cell? ⟨g, 0, none⟩ = some (.int .u64 a) ∧ x.cell? ⟨g, 1, none⟩ = some (.int .u64 b) ∧ x.cell? ⟨j, 1, none⟩ = some (.int .i64 pq) ∧ x.cell? ⟨j, 2, none⟩ = some (.int .i64 sh) ∧ x.cell? ⟨r, 0, none⟩ = some (cvA x ⟨r, 0, none⟩) ∧ x.cell? ⟨r, 1, none⟩ = some (cvA x ⟨r, 1, none⟩) ∧ x.frozen? ⟨r, 0, none⟩ = false ∧ x.frozen? ⟨r, 1, none⟩ = false ∧ Below w.heap.size w x ∧ w.heap.size ≤ x.heap.size
theorem E7.keep {w x y : World} {k g j r : Nat} {t og n cap : Nat} {fl a b pq sh : Int} (h : E7 w k g j r t og n cap fl a b pq sh x) (bw : Below x.heap.size x y) : E7 w k g j r t og n cap fl a b pq sh y := by
 obtain ⟨h0, h1, h2, h3, h4, h5, h6, r0, r1, f0, f1, hB, hz⟩ := h
 exact ⟨keepC bw h0, keepC bw h1, keepC bw h2, keepC bw h3, keepC bw h4, keepC bw h5, keepC bw h6, cvA_keep bw r0, cvA_keep bw r1, keepF bw r0 f0, keepF bw r1 f1, hB.trans (bw.mono hz), Nat.le_trans hz bw.size⟩
theorem E7.store {w x : World} {k g j r : Nat} {t og n cap : Nat} {fl a b pq sh : Int} (u v : Value) (h : E7 w k g j r t og n cap fl a b pq sh x) (nk : k ≠ r) (ng : g ≠ r) (nj : j ≠ r) (hr : w.heap.size ≤ r) : E7 w k g j r t og n cap fl a b pq sh ((x.setCell ⟨r, 0, none⟩ u).setCell ⟨r, 1, none⟩ v) := by
 obtain ⟨h0, h1, h2, h3, h4, h5, h6, r0, r1, f0, f1, hB, hz⟩ := h
 exact ⟨by simp [go_sem, *], by simp [go_sem, *], by simp [go_sem, *], by simp [go_sem, *], by simp [go_sem, *], by simp [go_sem, *], by simp [go_sem, *], by unfold cvA; simp [go_sem, *], by unfold cvA; simp [go_sem, *], by simp [go_sem, *], by simp [go_sem, *], (hB.setCell hr _).setCell hr _, by simp; exact hz⟩
theorem E7.tail {w x : World} {k g j r : Nat} {t og n cap : Nat} {fl a b pq sh : Int} (h : E7 w k g j r t og n cap fl a b pq sh x) : x.cell? ⟨r, 0, none⟩ = some (cvA x ⟨r, 0, none⟩) ∧ x.cell? ⟨r, 1, none⟩ = some (cvA x ⟨r, 1, none⟩) ∧ Below w.heap.size w x := by
 obtain ⟨_, _, _, _, _, _, _, r0, r1, _, _, hB, _⟩ := h
 exact ⟨r0, r1, hB⟩
theorem E7.bel {w x : World} {k g j r t og n cap : Nat} {fl a b pq sh : Int} (h : E7 w k g j r t og n cap fl a b pq sh x) : Below w.heap.size w x := h.2.2.2.2.2.2.2.2.2.2.2.1
theorem sub_ge {a b : Int} (h : b ≤ a) : subV a b = a - b := by unfold subV; rw [if_pos h]
set_option maxRecDepth 20000 in
set_option maxHeartbeats 2000000 in
theorem peff_any {t og : Nat} {m k : List Ac} {fl : Int} (hw : Word fl) (h0 : 0 < fl) (cap : Nat) : ∀ (d : Nat) {p : Nat} {W : World}, Fs W t og m k → p < m.length → Dep m d p →
  Calls Tryz.prog 113 #[famV t og m.length cap fl, .int .i64 p] W fun e w' => e = .returned (spV (efV m (wV k fl) p) (ehV k (wV m fl) p)) ∧ Below W.heap.size W w' := by
 intro d
 induction d with
 | zero =>
  intro p W hf hp hd
  obtain rfl : p = 0 := hd
  have x := Bx.new (W.alloc (.cells #[.pointer (some ⟨t, 0, none⟩), .slice (some ⟨og, 0, none⟩) m.length cap, .int .u64 fl] 130)) (.int .u64 0) (.int .u64 0) 93
  simp only [World.size_alloc] at x
  have hb : Below W.heap.size W ((W.alloc (.cells #[.pointer (some ⟨t, 0, none⟩), .slice (some ⟨og, 0, none⟩) m.length cap, .int .u64 fl] 130)).alloc (.cells #[.int .u64 0, .int .u64 0] 93)) := ((Below.refl _ W).alloc (Nat.le_refl _) _).alloc (by simp) _
  have c1 := pused_any (hf.below hb) hw h0 hp cap
  have e00 : ((0 : Nat) : Int) = 0 := rfl
  rw [ef_root, eh_root]
  rw [e00] at c1 ⊢
  clear hf hp hw h0 e00
  generalize uV m (wV k fl) 0 = U1 at *
  generalize uH k (wV m fl) 0 = U2 at *
  generalize m.length = L at *
  go_enter Tryz.func113, Tryz.ntmps113
  go_wp2_with fail
  refine c1.mono ?_
  rintro e w1 ⟨rfl, hb1⟩
  obtain ⟨y0, y1, y2, y3⟩ := (x.below hb1).alloc #[.int .u64 U1, .int .u64 U2] 93
  have hb2 := hb.trans (hb1.mono hb.size)
  have hz := hb2.size
  clear c1 x hb1 hb
  go_wp2
  exact bodyPost_ret (v := spV U1 U2) (by simp [results, Tryz.results113, go_sem, y0, y1]) rfl ⟨rfl, ((hb2.alloc (by omega) _).setCell (by simp) _).setCell (by simp) _⟩
 | succ d ih =>
  intro p W hf hp hd
  have hwu := hf.sd.wu
  have hp0 : p ≠ 0 := hd.1
  have hul := hwu.up_lt hp
  have hpk := hf.sd.lt hp
  have x := Bx.new (W.alloc (.cells #[.pointer (some ⟨t, 0, none⟩), .slice (some ⟨og, 0, none⟩) m.length cap, .int .u64 fl] 130)) (.int .u64 0) (.int .u64 0) 93
  simp only [World.size_alloc] at x
  have hb : Below W.heap.size W ((W.alloc (.cells #[.pointer (some ⟨t, 0, none⟩), .slice (some ⟨og, 0, none⟩) m.length cap, .int .u64 fl] 130)).alloc (.cells #[.int .u64 0, .int .u64 0] 93)) := ((Below.refl _ W).alloc (Nat.le_refl _) _).alloc (by simp) _
  have k0 : ((W.alloc (.cells #[.pointer (some ⟨t, 0, none⟩), .slice (some ⟨og, 0, none⟩) m.length cap, .int .u64 fl] 130)).alloc (.cells #[.int .u64 0, .int .u64 0] 93)).cell? ⟨W.heap.size, 0, none⟩ = some (.pointer (some ⟨t, 0, none⟩)) := allocC _ (by simp)
  have k1 : ((W.alloc (.cells #[.pointer (some ⟨t, 0, none⟩), .slice (some ⟨og, 0, none⟩) m.length cap, .int .u64 fl] 130)).alloc (.cells #[.int .u64 0, .int .u64 0] 93)).cell? ⟨W.heap.size, 1, none⟩ = some (.slice (some ⟨og, 0, none⟩) m.length cap) := allocC _ (by simp)
  have k2 : ((W.alloc (.cells #[.pointer (some ⟨t, 0, none⟩), .slice (some ⟨og, 0, none⟩) m.length cap, .int .u64 fl] 130)).alloc (.cells #[.int .u64 0, .int .u64 0] 93)).cell? ⟨W.heap.size, 2, none⟩ = some (.int .u64 fl) := allocC _ (by simp)
  have c1 := pused_any (hf.below hb) hw h0 hp cap
  obtain ⟨a, ha⟩ : ∃ a, m[p]? = some a := ⟨_, List.getElem?_eq_getElem hp⟩
  have cG := fun (x : World) (hx : Below W.heap.size W x) => (hf.below hx).fm.get hwu ha
  rw [up_at hwu ha hp0] at cG
  have cE := fun (x : World) (hx : Below W.heap.size W x) => ih (hf.below hx) hul hd.2
  have cT := fun (x : World) (hx : Below W.heap.size W x) => ptog_any (hf.below hx).fm hwu hul m.length cap fl
  have hst := sh_tog hwu hp hp0
  have hsm := (hwu.sh hp).2
  have htw := tog_word hwu (up m p)
  have hu := u_low hf.sd hw hp
  have hwk := w_ge m fl
  have hU2 := uH_word hf.sd.um (w := wV m fl) (by omega) p
  have hF1 := ef_falls hwu hf.sd.ul (hf.sd.wok hw) hp hp0
  have hF2 := eh_falls hf.sd.wm hf.sd.um (w := wV m fl) (by omega) hpk hp0
  have hE1 := ef_word hwu hf.sd.ul (hf.sd.wok hw) hul
  have hE2 := eh_word hf.sd.wm hf.sd.um (w := wV m fl) (by omega) (hf.sd.lt hul)
  have hE3 := ef_word hwu hf.sd.ul (hf.sd.wok hw) hp
  have hE4 := eh_word hf.sd.wm hf.sd.um (w := wV m fl) (by omega) hpk
  have e1 := ef_up hwu (wV k fl) hp hp0
  have e2 := eh_up hf.sd.wm (wV m fl) hpk hp0
  rw [← hf.sd.alike.up, ← hf.sd.alike.sh, ← hf.sd.alike.tog] at e2
  rw [← hf.sd.alike.up] at hF2
  rw [sh_of ha] at e1 e2 hst hsm
  have p1 := part_of (x := efV m (wV k fl) (up m p) - uV m (wV k fl) p) (by omega) hst.1 hst.2
  have p2 := cl_part (x := ehV k (wV m fl) (up m p) - uH k (wV m fl) p) (by omega) hst.1 hst.2
  have ws : IntKind.u64.wrap a.sh = a.sh := by rw [IntKind.wrap_u64]; omega
  have HE : Hid (narV (uV m (wV k fl) p + narV (subV (efV m (wV k fl) (up m p)) (uV m (wV k fl) p) * a.sh / tog m (up m p))) = efV m (wV k fl) p ∧ narV (uH k (wV m fl) p + narV (cl (subV (ehV k (wV m fl) (up m p)) (uH k (wV m fl) p) * a.sh) (tog m (up m p)))) = ehV k (wV m fl) p) := by
   refine show _ ∧ _ from ⟨?_, ?_⟩
   ·have i1 : narV ((efV m (wV k fl) (up m p) - uV m (wV k fl) p) * a.sh / tog m (up m p)) = (efV m (wV k fl) (up m p) - uV m (wV k fl) p) * a.sh / tog m (up m p) := nar_small (by omega)
    rw [sub_ge hF1.1, i1, ← e1]
    exact nar_small (by omega)
   ·have i2 : narV (cl ((ehV k (wV m fl) (up m p) - uH k (wV m fl) p) * a.sh) (tog m (up m p))) = cl ((ehV k (wV m fl) (up m p) - uH k (wV m fl) p) * a.sh) (tog m (up m p)) := nar_small (by omega)
    rw [sub_ge hF2, i2, ← e2]
    exact nar_small (by omega)
  have w1w : Word (uV m (wV k fl) p) := ⟨by omega, by omega⟩
  have w2w : Word (uH k (wV m fl) p) := ⟨by omega, by omega⟩
  have w3w : Word (efV m (wV k fl) (up m p)) := ⟨by omega, by omega⟩
  have w4w : Word (ehV k (wV m fl) (up m p)) := ⟨by omega, by omega⟩
  have w5w : Word a.sh := ⟨by omega, by omega⟩
  have w6w : Word (tog m (up m p)) := ⟨by omega, by omega⟩
  have tnz : tog m (up m p) ≠ 0 := by omega
  rw [← HE.out.1, ← HE.out.2]
  have hpz : ¬ (p : Int) = 0 := by omega
  clear ih hf hd hw h0 hst hsm htw hu hwk hU2 hF1 hF2 hE1 hE2 hE3 hE4 e1 e2 p1 p2 hwu ha hul hp0 hp hpk
  generalize uV m (wV k fl) p = U1 at *
  generalize uH k (wV m fl) p = U2 at *
  generalize efV m (wV k fl) (up m p) = E1 at *
  generalize ehV k (wV m fl) (up m p) = E2 at *
  generalize tog m (up m p) = tg at *
  generalize a.sh = sh at *
  generalize ((up m p : Nat) : Int) = pq at *
  generalize m.length = L at *
  go_enter Tryz.func113, Tryz.ntmps113
  go_wp2_with fail
  refine c1.mono ?_
  rintro e w1 ⟨rfl, hb1⟩
  have x1 := (x.below hb1).alloc #[.int .u64 U1, .int .u64 U2] 93
  have u1 := Bx.new w1 (.int .u64 U1) (.int .u64 U2) 93
  have hb2 := hb.trans (hb1.mono hb.size)
  have hb3 := hb2.alloc (o := .cells #[.int .u64 U1, .int .u64 U2] 93) hb2.size
  have k01 := allocC (.cells #[.int .u64 U1, .int .u64 U2] 93) (keepC hb1 k0)
  have k11 := allocC (.cells #[.int .u64 U1, .int .u64 U2] 93) (keepC hb1 k1)
  have k21 := allocC (.cells #[.int .u64 U1, .int .u64 U2] 93) (keepC hb1 k2)
  have hlt1 := (x.below hb1).lt
  clear c1 x hb1 hb hb2 k0 k1 k2
  go_wp2_with fail
  refine (cG _ hb3).mono ?_
  rintro e w3 ⟨rfl, hb4⟩
  have x2 := x1.below hb4
  have u2 := u1.below hb4
  have hb5 := hb3.trans (hb4.mono hb3.size)
  have k02 := keepC hb4 k01
  have k12 := keepC hb4 k11
  have k22 := keepC hb4 k21
  have hlt2 := u2.lt
  have hlt3 := x2.lt
  clear x1 u1 hb3 hb4 k01 k11 k21 cG
  have hV : E7 W W.heap.size w1.heap.size w3.heap.size (W.heap.size + 1) t og L cap fl U1 U2 pq sh (w3.alloc (.cells #[.string a.nm, .int .i64 pq, .int .i64 sh, .bool a.cl, .int .u64 0] 62)).drew :=
   ⟨allocC _ k02, allocC _ k12, allocC _ k22, (u2.alloc _ _).1, (u2.alloc _ _).2.1, by simp [go_sem], by simp [go_sem], cvA_of (x2.alloc _ _).1, cvA_of (x2.alloc _ _).2.1, (x2.alloc _ _).2.2.1, (x2.alloc _ _).2.2.2, (hb5.alloc hb5.size _).drew, by have := hb5.size; simp; omega⟩
  go_upto_region 5 with fail
  generalize w3.alloc (.cells #[.string a.nm, .int .i64 pq, .int .i64 sh, .bool a.cl, .int .u64 0] 62) = w4 at *
  have n1 : W.heap.size ≠ W.heap.size + 1 := by omega
  have n2 : w1.heap.size ≠ W.heap.size + 1 := by omega
  have n3 : w3.heap.size ≠ W.heap.size + 1 := by omega
  generalize w1.heap.size = g at *
  generalize w3.heap.size = j at *
  have HS : Hid (E7 W W.heap.size g j (W.heap.size + 1) t og L cap fl U1 U2 pq sh w4.drew) := hV
  have HT : ∀ (x : World) (u v : Value), E7 W W.heap.size g j (W.heap.size + 1) t og L cap fl U1 U2 pq sh x → E7 W W.heap.size g j (W.heap.size + 1) t og L cap fl U1 U2 pq sh ((x.setCell ⟨W.heap.size + 1, 0, none⟩ u).setCell ⟨W.heap.size + 1, 1, none⟩ v) := fun x u v h => E7.store u v h n1 n2 n3 (by omega)
  clear hV x2 u2 hb5 k02 k12 k22 hlt2 hlt3 hlt1
  go_region_held3 (fun x => x.cell? ⟨W.heap.size, 0, none⟩ = some (.pointer (some ⟨t, 0, none⟩)) ∧ x.cell? ⟨W.heap.size, 1, none⟩ = some (.slice (some ⟨og, 0, none⟩) L cap) ∧ x.cell? ⟨W.heap.size, 2, none⟩ = some (.int .u64 fl) ∧ x.cell? ⟨g, 0, none⟩ = some (.int .u64 U1) ∧ x.cell? ⟨g, 1, none⟩ = some (.int .u64 U2) ∧ x.cell? ⟨j, 1, none⟩ = some (.int .i64 pq) ∧ x.cell? ⟨j, 2, none⟩ = some (.int .i64 sh) ∧ x.cell? ⟨W.heap.size + 1, 0, none⟩ = some (cvA x ⟨W.heap.size + 1, 0, none⟩) ∧ x.cell? ⟨W.heap.size + 1, 1, none⟩ = some (cvA x ⟨W.heap.size + 1, 1, none⟩) ∧ x.frozen? ⟨W.heap.size + 1, 0, none⟩ = false ∧ x.frozen? ⟨W.heap.size + 1, 1, none⟩ = false ∧ Below W.heap.size W x ∧ W.heap.size ≤ x.heap.size) (first | exact HS.out | assumption | exact E7.keep (by assumption) (by assumption) | exact HT _ _ _ (by assumption))
   (first
   | (go_at_call 113; refine (cE _ (E7.bel (by first | exact HS.out | assumption))).mono ?_; rintro e x ⟨rfl, hx⟩)
   | (go_at_call 151; refine (cT _ (E7.bel (by first | exact HS.out | assumption))).mono ?_; rintro e x ⟨rfl, hx⟩)
   | (go_at_call 150; refine (raised_any _ _ _ _ _ _ (by assumption) (by assumption) (by assumption) (by assumption) (by assumption) (by assumption) (by assumption) _).mono ?_; rintro e x ⟨rfl, hx⟩))
  all_goals
   rename_i hHeld
   have hS : E7 W W.heap.size g j (W.heap.size + 1) t og L cap fl U1 U2 pq sh _ := hHeld
   clear hHeld
   obtain ⟨z0, z1, hB⟩ := hS.tail
   obtain ⟨v0, v1, q0, q1⟩ := two_read z0 z1
   clear HS HT hS z0 z1
   go_wp2
   exact bodyPost_ret (v := spV (narV (U1 + narV (subV E1 U1 * sh / tg))) (narV (U2 + narV (cl (subV E2 U2 * sh) tg)))) (by simp [results, Tryz.results113, go_sem, q0, q1]) rfl ⟨rfl, hB⟩
end Go.Proofs.YtdkbmligaodpmaaGreatDoor
namespace Go.Proofs.YtdkbmligaodpmaaGreatDoor
open Go.RowKit Wd Tr Cg Ld

def F5 (w : World) (k nb db r : Nat) (t og n cap p : Nat) (fl a b : Int) (x : World) : Prop := x.cell? ⟨k, 0, none⟩ = some (.pointer (some ⟨t, 0, none⟩)) ∧ x.cell? ⟨k, 1, none⟩ = some (.slice (some ⟨og, 0, none⟩) n cap) ∧ x.cell? ⟨k, 2, none⟩ = some (.int .u64 fl) ∧ x.cell? ⟨nb, p, none⟩ = some (.int .u64 a) ∧ x.cell? ⟨db, p, none⟩ = some (.int .u64 b) ∧ x.cell? ⟨r, 0, none⟩ = some (cvA x ⟨r, 0, none⟩) ∧ x.cell? ⟨r, 1, none⟩ = some (cvA x ⟨r, 1, none⟩) ∧ x.frozen? ⟨r, 0, none⟩ = false ∧ x.frozen? ⟨r, 1, none⟩ = false ∧ Below w.heap.size w x ∧ w.heap.size ≤ x.heap.size
theorem F5.keep {w x y : World} {k nb db r : Nat} {t og n cap p : Nat} {fl a b : Int} (h : F5 w k nb db r t og n cap p fl a b x) (bw : Below x.heap.size x y) : F5 w k nb db r t og n cap p fl a b y := by
 obtain ⟨h0, h1, h2, h3, h4, r0, r1, f0, f1, hB, hz⟩ := h
 exact ⟨keepC bw h0, keepC bw h1, keepC bw h2, keepC bw h3, keepC bw h4, cvA_keep bw r0, cvA_keep bw r1, keepF bw r0 f0, keepF bw r1 f1, hB.trans (bw.mono hz), Nat.le_trans hz bw.size⟩
theorem F5.far {w x u : World} {k nb db r : Nat} {t og n cap p : Nat} {fl a b : Int} {va vb : Value} (h : F5 w k nb db r t og n cap p fl a b x) (hu : F5 w k nb db r t og n cap p fl a b u) : F5 w k nb db r t og n cap p fl a b ((x.setCell ⟨u.heap.size, 0, none⟩ va).setCell ⟨u.heap.size, 1, none⟩ vb) := by
 have nk := World.block_lt_of_cell? u _ hu.1
 have nnb := World.block_lt_of_cell? u _ hu.2.2.2.1
 have ndb := World.block_lt_of_cell? u _ hu.2.2.2.2.1
 have nr := World.block_lt_of_cell? u _ hu.2.2.2.2.2.1
 simp only at nk nnb ndb nr
 have yk : k ≠ u.heap.size := by omega
 have ynb : nb ≠ u.heap.size := by omega
 have ydb : db ≠ u.heap.size := by omega
 have yr : r ≠ u.heap.size := by omega
 obtain ⟨h0, h1, h2, h3, h4, r0, r1, f0, f1, hB, hz⟩ := h
 have z : w.heap.size ≤ u.heap.size := hu.2.2.2.2.2.2.2.2.2.2
 exact ⟨by simp [go_sem, *], by simp [go_sem, *], by simp [go_sem, *], by simp [go_sem, *], by simp [go_sem, *], by unfold cvA; simp [go_sem, *], by unfold cvA; simp [go_sem, *], by simp [go_sem, *], by simp [go_sem, *], (hB.setCell z _).setCell z _, by simp; exact hz⟩
theorem F5.bel {w x : World} {k nb db r : Nat} {t og n cap p : Nat} {fl a b : Int} (h : F5 w k nb db r t og n cap p fl a b x) : Below w.heap.size w x := h.2.2.2.2.2.2.2.2.2.1
theorem Fm.list {W : World} {t og : Nat} {l : List Ac} {lo hi : Nat → Int} (h : Fm W t og l lo hi) (hwu : Wu l) :
  Calls Tryz.prog 112 #[.pointer (some ⟨t, 0, none⟩)] W fun e w' => ∃ v, e = .returned v ∧ w'.ownsRow W.heap.size 62 5 v (l.map plainAc).length (flatA (l.map plainAc)) ∧ Below W.heap.size W w' := by
 obtain ⟨v, m, kv, ks, hp1, _⟩ := h.tree
 have hl := hwu.len
 have hp := hwu.pos
 exact plist_any hp1 (by rw [List.length_map]; omega) (fun e => by rw [← List.length_map (f := plainAc), e] at hp; simp at hp)
theorem row_cap {w : World} {B e sz n : Nat} {ao : Option Addr} {c : Nat} {vs : List Value} (h : w.ownsRow B e sz (.slice ao n c) n vs) : n ≤ c := by
 rcases h.2 with ⟨e0, h0⟩ | ⟨g, cap, cur, e0, _, _, hc, _⟩
 ·cases e0; omega
 ·cases e0; exact hc
set_option maxRecDepth 20000 in
set_option maxHeartbeats 2000000 in
theorem pfac_any {W : World} {t og : Nat} {m k : List Ac} {fl : Int} (hf : Fs W t og m k) (hw : Word fl) (h0 : 0 < fl) (cap : Nat) {p : Nat} (hp : p < m.length) (hs : ∀ a ∈ m, a.nm.size ≤ maxLen) (hT : Tab W) :
  Calls Tryz.prog 66 #[famV t og m.length cap fl, .int .i64 p] W fun e w' => e = .returned (spV (fLo m k fl p : Nat) (fHi m k fl p : Nat)) ∧ Below W.heap.size W w' := by
 have hwu := hf.sd.wu
 have hlen := hwu.len
 obtain ⟨d, _, hd⟩ := hwu.deep hp
 have x := Bx.new (W.alloc (.cells #[.pointer (some ⟨t, 0, none⟩), .slice (some ⟨og, 0, none⟩) m.length cap, .int .u64 fl] 130)) (.int .u64 0) (.int .u64 0) 93
 simp only [World.size_alloc] at x
 have hb : Below W.heap.size W ((W.alloc (.cells #[.pointer (some ⟨t, 0, none⟩), .slice (some ⟨og, 0, none⟩) m.length cap, .int .u64 fl] 130)).alloc (.cells #[.int .u64 0, .int .u64 0] 93)) := ((Below.refl _ W).alloc (Nat.le_refl _) _).alloc (by simp) _
 have k0 : ((W.alloc (.cells #[.pointer (some ⟨t, 0, none⟩), .slice (some ⟨og, 0, none⟩) m.length cap, .int .u64 fl] 130)).alloc (.cells #[.int .u64 0, .int .u64 0] 93)).cell? ⟨W.heap.size, 0, none⟩ = some (.pointer (some ⟨t, 0, none⟩)) := allocC _ (by simp)
 have k1 : ((W.alloc (.cells #[.pointer (some ⟨t, 0, none⟩), .slice (some ⟨og, 0, none⟩) m.length cap, .int .u64 fl] 130)).alloc (.cells #[.int .u64 0, .int .u64 0] 93)).cell? ⟨W.heap.size, 1, none⟩ = some (.slice (some ⟨og, 0, none⟩) m.length cap) := allocC _ (by simp)
 have k2 : ((W.alloc (.cells #[.pointer (some ⟨t, 0, none⟩), .slice (some ⟨og, 0, none⟩) m.length cap, .int .u64 fl] 130)).alloc (.cells #[.int .u64 0, .int .u64 0] 93)).cell? ⟨W.heap.size, 2, none⟩ = some (.int .u64 fl) := allocC _ (by simp)
 have c1 := (hf.below hb).fm.list hwu
 have cE := fun (x : World) (hx : Below W.heap.size W x) => peff_any hw h0 cap d (hf.below hx) hp hd
 obtain ⟨d1, d2, d3, d4⟩ := den_word hwu hp
 have cA := iatl_any (n := numV m p) (d := denV m p) (by omega) (by omega)
 obtain ⟨a1, a2, a3⟩ := at_pos d1 d2 d4
 have hE3 := ef_word hwu hf.sd.ul (hf.sd.wok hw) hp
 have hE4 := eh_word hf.sd.wm hf.sd.um (w := wV m fl) (by have := w_ge m fl; omega) (hf.sd.lt hp)
 have cB := by_any (efV m (wV k fl) p) (ehV k (wV m fl) p) (atN (numV m p) (denV m p)) (atD (numV m p) (denV m p)) ⟨by omega, by omega⟩ ⟨by omega, by omega⟩ ⟨by omega, by unfold atN; split <;> omega⟩ ⟨by omega, by omega⟩ (by omega)
 have g1 := pd_word (e := efV m (wV k fl) p) (by omega) d1 d2 d4
 have g2 := pow_word (e := ehV k (wV m fl) p) (by omega) d1 d2 d4
 have e1 : narV (efV m (wV k fl) p * atD (numV m p) (denV m p) / 2147483648 / atN (numV m p) (denV m p)) = ((xLo m k fl p : Nat) : Int) := by
  show pdV (efV m (wV k fl) p) (numV m p) (denV m p) = _
  unfold xLo
  rw [Int.toNat_of_nonneg g1.1]
 have e2 : narV (cl (cl (ehV k (wV m fl) p * atD (numV m p) (denV m p)) 2147483648) (atN (numV m p) (denV m p))) = ((xHi m k fl p : Nat) : Int) := by
  show powV (ehV k (wV m fl) p) (numV m p) (denV m p) = _
  unfold xHi
  rw [Int.toNat_of_nonneg g2.1]
 rw [e1, e2] at cB
 have hx1 : xLo m k fl p < 18446744073709551616 := by unfold xLo; have := g1.1; have := g1.2; omega
 have hx2 : xHi m k fl p < 18446744073709551616 := by unfold xHi; have := g2.1; have := g2.2; omega
 have cH := fun (x : World) (hx : Below W.heap.size W x) => bounds_any (xHi m k fl p) hx2 x (Tab.below hx hT)
 have cL := fun (x : World) (hx : Below W.heap.size W x) => bounds_any (xLo m k fl p) hx1 x (Tab.below hx hT)
 have hP0 : loadE (m.map plainAc) = 0 := load_wf hwu
 have hsP : ∀ a ∈ m.map plainAc, a.nm.size ≤ maxLen := fun a ha => by
  obtain ⟨b, hb, rfl⟩ := List.mem_map.1 ha
  exact hs b hb
 have hPn := (plain_alike m).num p
 have hPd := (plain_alike m).den p
 have hPl : (m.map plainAc).length = m.length := List.length_map ..
 have HFF : Hid (fLo m k fl p = halfN (xHi m k fl p) ∧ fHi m k fl p = uppN (xLo m k fl p)) := show _ ∧ _ from ⟨rfl, rfl⟩
 rw [HFF.out.1, HFF.out.2]
 have hp' : (p : Int) < m.length := by omega
 have hq0 : (0 : Int) ≤ p := by omega
 have HPN : Hid _ := hPn
 have HPD : Hid _ := hPd
 have HPL : Hid _ := hPl
 have HP0 : Hid _ := hP0
 have HSP : Hid _ := hsP
 have hplt : p < (m.map plainAc).length := by rw [hPl]; exact hp
 have HPT : Hid (p < (m.map plainAc).length) := hplt
 have h48 : (m.map plainAc).length * 48 ≤ 140737488355328 := by rw [hPl]; omega
 have H48 : Hid ((m.map plainAc).length * 48 ≤ 140737488355328) := h48
 clear hf hwu hd hT hw h0 d1 d2 d3 d4 a1 a2 a3 hE3 hE4 g1 g2 e1 e2 hx1 hx2 hs hP0 hsP hPn hPd hPl hplt h48
 generalize fLo m k fl p = FL at *
 generalize fHi m k fl p = FH at *
 go_enter Tryz.func66, Tryz.ntmps66
 go_wp2_with fail
 refine c1.mono ?_
 rintro e w1 ⟨v, rfl, hrow, hb1⟩
 obtain ⟨ao, c, rfl, hA, _⟩ := acs_row hrow
 have hc := row_cap hrow
 have cS := shares_any hA HSP.out H48.out hc
 rw [HPL.out] at cS
 have hb2 := hb.trans (hb1.mono hb.size)
 have x1 := x.below hb1
 have k01 := keepC hb1 k0
 have k11 := keepC hb1 k1
 have k21 := keepC hb1 k2
 clear c1 x hb hb1 k0 k1 k2 hrow hA hc
 go_wp2_with fail
 refine cS.mono ?_
 rintro e w2 hSP
 obtain ⟨nb, db, rfl, hnb, hdb, _, rn, rd⟩ := hSP.1 HP0.out
 have hb3 := hSP.2.2
 have n0 := rn.cell HPT.out
 have n1 := rd.cell HPT.out
 rw [← HPN.out] at n0
 rw [← HPD.out] at n1
 try rw [HPL.out]
 have hb4 := hb2.trans (hb3.mono hb2.size)
 have x2 := x1.below hb3
 have k02 := keepC hb3 k01
 have k12 := keepC hb3 k11
 have k22 := keepC hb3 k21
 have hlt := x1.lt
 have hlt2 := hb2.size
 clear hSP cS x1 hb2 hb3 k01 k11 k21 rn rd HPN HPD HPL HP0 HSP HPT H48
 generalize hXL : xLo m k fl p = XL at *
 generalize hXH : xHi m k fl p = XH at *
 have HXX : Hid (xLo m k fl p = XL ∧ xHi m k fl p = XH) := show _ ∧ _ from ⟨hXL, hXH⟩
 clear hXL hXH
 generalize efV m (wV k fl) p = EF at *
 generalize ehV k (wV m fl) p = EH at *
 generalize atN (numV m p) (denV m p) = AN at *
 generalize atD (numV m p) (denV m p) = AD at *
 generalize numV m p = NU at *
 generalize denV m p = DE at *
 generalize m.length = L at *
 have HV : Hid (F5 W W.heap.size nb db (W.heap.size + 1) t og L cap p fl NU DE w2) := ⟨k02, k12, k22, n0, n1, cvA_of x2.1, cvA_of x2.2.1, x2.2.2.1, x2.2.2.2, hb4, hb4.size⟩
 have HS : Hid (F5 W W.heap.size nb db (W.heap.size + 1) t og L cap p fl NU DE w2.drew) := F5.keep HV.out (drew_belowI w2)
 clear k02 k12 k22 n0 n1 x2 hb4
 go_upto_region 2 with fail
 go_cut [7] (fun b wq => ∃ g : Nat, b = .pointer (some ⟨g, 0, none⟩) ∧ wq.cell? ⟨g, 0, none⟩ = some (.int .u64 (XL : Nat)) ∧ wq.cell? ⟨g, 1, none⟩ = some (.int .u64 (XH : Nat)) ∧ F5 W W.heap.size nb db (W.heap.size + 1) t og L cap p fl NU DE wq)
 case first =>
  go_region_held3 (fun x => x.cell? ⟨W.heap.size, 0, none⟩ = some (.pointer (some ⟨t, 0, none⟩)) ∧ x.cell? ⟨W.heap.size, 1, none⟩ = some (.slice (some ⟨og, 0, none⟩) L cap) ∧ x.cell? ⟨W.heap.size, 2, none⟩ = some (.int .u64 fl) ∧ x.cell? ⟨nb, p, none⟩ = some (.int .u64 NU) ∧ x.cell? ⟨db, p, none⟩ = some (.int .u64 DE) ∧ x.cell? ⟨W.heap.size + 1, 0, none⟩ = some (cvA x ⟨W.heap.size + 1, 0, none⟩) ∧ x.cell? ⟨W.heap.size + 1, 1, none⟩ = some (cvA x ⟨W.heap.size + 1, 1, none⟩) ∧ x.frozen? ⟨W.heap.size + 1, 0, none⟩ = false ∧ x.frozen? ⟨W.heap.size + 1, 1, none⟩ = false ∧ Below W.heap.size W x ∧ W.heap.size ≤ x.heap.size) (first | exact HS.out | exact HZ.out | exact HY.out | exact HX.out | exact F5.far HZ.out HV.out | exact F5.far HZ.out HS.out | exact F5.far HZ.out HX.out | exact F5.far HZ.out HY.out | exact F5.keep HZ.out ((Below.refl _ _).alloc (Nat.le_refl _) _) | assumption | exact F5.keep (by assumption) (by assumption) | exact F5.keep (by assumption) ((Below.refl _ _).alloc (Nat.le_refl _) _) | exact F5.keep HS.out ((Below.refl _ _).alloc (Nat.le_refl _) _) | exact F5.keep HX.out ((Below.refl _ _).alloc (Nat.le_refl _) _) | exact F5.keep HY.out ((Below.refl _ _).alloc (Nat.le_refl _) _))
   (first
   | (go_at_call 113; refine (cE _ (F5.bel (by first | exact HS.out | assumption))).mono ?_; rintro e x ⟨rfl, hx⟩; have HX : Hid (F5 W W.heap.size nb db (W.heap.size + 1) t og L cap p fl NU DE x) := F5.keep (by first | exact HS.out | assumption) hx; obtain ⟨hc1, hf1⟩ := bkeep hx)
   | (go_at_call 115; refine (cA _).mono ?_; rintro e x ⟨rfl, hx⟩; have HY : Hid (F5 W W.heap.size nb db (W.heap.size + 1) t og L cap p fl NU DE x) := F5.keep (by first | exact HX.out | assumption) hx; obtain ⟨hc2, hf2⟩ := bkeep hx; (first | (have g2 := tkC hc1 hc2; have j2 := tkF hc1 hf1 hf2) | skip))
   | (go_at_call 114; refine (cB _).mono ?_; rintro e x ⟨rfl, hx⟩; have HZ : Hid (F5 W W.heap.size nb db (W.heap.size + 1) t og L cap p fl NU DE x) := F5.keep (by first | exact HY.out | assumption) hx; obtain ⟨hc3, hf3⟩ := bkeep hx; (first | (have g3 := tkC hc2 hc3; have j3 := tkF hc2 hf2 hf3) | skip); (first | (have g4 := tkC g2 hc3; have j4 := tkF g2 j2 hf3) | skip)))
  all_goals
   rename_i h6x
   have h6 : F5 W W.heap.size nb db (W.heap.size + 1) t og L cap p fl NU DE _ := h6x
   have H6 : Hid _ := h6
   clear h6x h6 HS HX HY HZ HV
   go_wp2
   go_meet
   exact ⟨_, rfl, by simp [go_sem, *], by simp [go_sem, *], H6.out⟩
 case rest =>
  obtain ⟨g, rfl, q0, q1, hS⟩ := hcut
  clear HS HV cE cA cB
  obtain ⟨_, _, _, _, _, r0, r1, rf0, rf1, hB, _⟩ := hS
  go_wp2_with fail
  refine (cH _ hB).mono ?_
  rintro e w5 ⟨rfl, hb5⟩
  have q05 := keepC hb5 q0
  have r05 := keepC hb5 r0
  have r15 := keepC hb5 r1
  have rf05 := keepF hb5 r0 rf0
  have rf15 := keepF hb5 r1 rf1
  have hB5 := hB.trans (hb5.mono hB.size)
  clear q0 q1 r0 r1 rf0 rf1 hB hb5 cH
  go_wp2_with fail
  refine (cL _ hB5).mono ?_
  rintro e w6 ⟨rfl, hb6⟩
  have r06 := keepC hb6 r05
  have r16 := keepC hb6 r15
  have rf06 := keepF hb6 r05 rf05
  have rf16 := keepF hb6 r15 rf15
  have hB6 := hB5.trans (hb6.mono hB5.size)
  clear q05 r05 r15 rf05 rf15 hB5 hb6 cL
  go_wp2
  exact bodyPost_ret (v := spV (halfN XH : Nat) (uppN XL : Nat)) (by simp [results, Tryz.results66, go_sem, *]) rfl ⟨by rw [HXX.out.1, HXX.out.2], (hB6.setCell (by simp) _).setCell (by simp) _⟩
end Go.Proofs.YtdkbmligaodpmaaGreatDoor
