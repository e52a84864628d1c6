/-
  The document's examples.
-/
import Derived.Test.YtjgllfpnmmopdaaGreatDoorPrBq
import Derived.Test.YtjgllfpnmmopdaaGreatDoorXsn
import Derived.Deep.QuietTactic
namespace Go.Proofs.YtjgllfpnmmopdaaGreatDoor
open Go.RowKit Wd Tr Cg
set_option maxHeartbeats 1000000 in
set_option maxRecDepth 20000 in
theorem ints_yes (g o m cap g' o' cap' : Nat) (ao ao' : Option Addr) (f : Nat → Int) (w : World) (hao : 0 < m → ao = some ⟨g, o, none⟩) (hao' : 0 < m → ao' = some ⟨g', o', none⟩) (hm : m ≤ 140737488355328)
    (hc : ∀ j, j < m → w.cell? ⟨g, o + j, none⟩ = some (.int .i64 (f j))) (hc' : ∀ j, j < m → w.cell? ⟨g', o' + j, none⟩ = some (.int .i64 (f j))) :
    Calls Tryz.prog 9 #[.slice ao m cap, .slice ao' m cap'] w fun e w' => e = .returned (.bool true) ∧ ∃ q, w' = w.drewN q := by
  have hd : ((m : Int) != (m : Int)) = false := by simp
  go_enter Tryz.func9, Tryz.ntmps9
  go_wp2
  go_loopg [5] m (fun gk c wr => ∃ k : Nat, k + gk = m ∧ c = .int .i64 k ∧ ∃ q, wr = w.drewN q)
  case atStart => exact ⟨0, by omega, rfl, 0, rfl⟩
  case round =>
    obtain ⟨k, hk, rfl, q, rfl⟩ := hrel
    by_cases hlt : k < m
    · have ha := hao (by omega)
      have ha' := hao' (by omega)
      subst ha
      subst ha'
      have hck := hc k hlt
      have hck' := hc' k hlt
      have dck : (w.drewN q).cell? ⟨g, o + k, none⟩ = _ := hck
      have dck' : (w.drewN q).cell? ⟨g', o' + k, none⟩ = _ := hck'
      have hn : (f k != f k) = false := by simp
      go_wp2
      go_quiet (fail)
      go_wp2
      go_roundg (m - (k + 1))
      case measure => omega
      case rel => exact ⟨k + 1, by omega, by go_num, _, rfl⟩
    · have e : k = m := by omega
      subst e
      go_wp2
      go_ret
      exact ⟨rfl, q, rfl⟩
theorem plain14_any (w : World) : Calls Tryz.prog 15 #[] w fun e w' => e = .returned (.agg #[.int .i64 4, .int .i64 8, .int .i64 10, .int .i64 2, .int .i64 1000, .int .i64 3, .int .i64 100, .int .i64 100]) ∧ Below w.heap.size w w' := by
  go_enter Tryz.func15, Tryz.ntmps15
  go_wp2
  exact bodyPost_ret (v := .agg #[.int .i64 4, .int .i64 8, .int .i64 10, .int .i64 2, .int .i64 1000, .int .i64 3, .int .i64 100, .int .i64 100]) (by simp [results, Tryz.results15, go_sem]) rfl ⟨rfl, by repeat first | exact (Below.refl _ _).alloc (Nat.le_refl _) _ | refine Below.setCell ?_ (Nat.le_refl _) _ | exact Below.refl _ _⟩
def cPl : Cf := ⟨4, 8, 10, 2, 1000, 3, 100, 100⟩
def cNo : Cf := ⟨0, 0, 0, 0, 0, 0, 0, 0⟩
theorem pl_rng : Rng cPl := by constructor <;> simp only [cPl] <;> omega
theorem pl_chk : chkZ cPl = 0 := by
  unfold chkZ
  rw [if_neg (fun h => h pl_rng), if_neg (by decide)]
  decide
theorem no_chk : ¬ chkZ cNo = 0 := by
  unfold chkZ
  rw [if_pos (fun h => absurd h.n0 (by decide))]
  decide
theorem pl_wts : Wts cPl 10 4 2 := by constructor <;> decide
theorem pl_1 : prioV cPl 10 4 2 9223372036854775808 = 1018 := by rw [prioV_yes pl_chk pl_wts (by decide)]; decide
theorem pl_2 : prioV cPl 10 4 2 4611686018427387904 = 518 := by rw [prioV_yes pl_chk pl_wts (by decide)]; decide
theorem pl_3 : prioV cPl 10 4 2 0 = 18 := by rw [prioV_yes pl_chk pl_wts (by decide)]; decide
theorem pl_4 : prioV cNo 10 4 2 0 = 0 := prioV_no1 no_chk
theorem pl_sort : sortV (fun a b : Int => decide (a < b)) [3, 1, 2, 1] = [1, 1, 2, 3] := by
  simp [sortV, mergeV]
def jEx : Jb := ⟨0, 2, 0, 4, 0, 0, 0, .slice none 0 0⟩
/-- The example's job, in its block. -/
structure JE (w : World) (b : Nat) (x : World) : Prop where
  c : x.heap[b]? = some (.cells #[.int .i64 0, .int .i64 2, .int .i64 0, .int .i64 4, .int .i64 0, .int .i64 0, .int .i64 0, .slice none 0 0] 34 (0, 0))
  bel : Below w.heap.size w x
theorem JE.below {w x y : World} {b : Nat} (h : JE w b x) (k : Below x.heap.size x y) : JE w b y := ⟨(k.block b (Array.getElem?_eq_some_iff.1 h.c).1).trans h.c, h.bel.trans (k.mono h.bel.size)⟩
theorem JE.cells {w x : World} {B : Nat} (h : JE w B x) : x.cell? ⟨B, 0, none⟩ = some (.int .i64 0) ∧ x.cell? ⟨B, 1, none⟩ = some (.int .i64 2) ∧ x.cell? ⟨B, 2, none⟩ = some (.int .i64 0) ∧ x.cell? ⟨B, 3, none⟩ = some (.int .i64 4) ∧ x.cell? ⟨B, 4, none⟩ = some (.int .i64 0) ∧ x.cell? ⟨B, 5, none⟩ = some (.int .i64 0) ∧ x.cell? ⟨B, 6, none⟩ = some (.int .i64 0) ∧ x.cell? ⟨B, 7, none⟩ = some (.slice none 0 0) :=
  ⟨cells_at h.c rfl, cells_at h.c rfl, cells_at h.c rfl, cells_at h.c rfl, cells_at h.c rfl, cells_at h.c rfl, cells_at h.c rfl, cells_at h.c rfl⟩
def nth4 (l : List Int) (j : Nat) : Int := l.getD j 0
theorem RwN.read {W : World} {b : Nat} {M : List Int} (h : RwN W b M) : ∀ j, j < M.length → W.cell? ⟨b, 0 + j, none⟩ = some (.int .i64 (nth4 M j)) := fun j hj => by
  rw [Nat.zero_add]
  exact h.at (by rw [List.getElem?_eq_getElem hj, nth4, List.getD_eq_getElem?_getD, List.getElem?_eq_getElem hj]; rfl)
set_option maxHeartbeats 1000000 in
set_option maxRecDepth 20000 in
theorem shown_any (w : World) : Calls Tryz.prog 5 #[] w fun e w' => e = .returned (.bool true) ∧ Below w.heap.size w w' := by
  obtain ⟨w1, hw1⟩ : ∃ w1, w.alloc (.cells #[.int .i64 3, .int .i64 1, .int .i64 2, .int .i64 1] 3) = w1 := ⟨_, rfl⟩
  have hr1 : RwN w1 w.heap.size [3, 1, 2, 1] := by rw [← hw1]; exact heap_alloc_new w _
  have b1 : Below w.heap.size w w1 := by rw [← hw1]; exact (Below.refl _ _).alloc (Nat.le_refl _) _
  have hs := Sort_Na clo_Na (w := w1) (n := 4) (c := 4) (ao := some ⟨w.heap.size, 0, none⟩) (l := [3, 1, 2, 1]) (by decide) rfl (fun e => by cases e) (fun ad e => by cases e; exact hr1.src (A := []) (C := []) (by simp) 0 rfl) trivial
  have HB1 : Hid (Below w.heap.size w w1) := b1
  clear b1 hr1
  go_enter Tryz.func5, Tryz.ntmps5
  go_wp2_with fail
  refine hs.mono ?_
  rintro e w2 ⟨rfl, r2, k2, _⟩
  rw [pl_sort] at r2
  have HB2 : Hid (Below w.heap.size w w2) := k2.below HB1.out HB1.out.size (fun _ e => e.elim)
  have HR2 : Hid (RwN w2 w1.heap.size [1, 1, 2, 3]) := r2
  clear hs r2 k2 HB1 hw1
  generalize w1.heap.size = g at *
  clear w1
  go_upto_region 3 with fail
  obtain ⟨B, hB⟩ : ∃ B, w2.heap.size = B := ⟨_, rfl⟩
  obtain ⟨w3, hw3⟩ : ∃ w3, w2.alloc (.cells #[.int .i64 0, .int .i64 2, .int .i64 0, .int .i64 4, .int .i64 0, .int .i64 0, .int .i64 0, .slice none 0 0] 34) = w3 := ⟨_, rfl⟩
  have HJ3 : Hid (JE w B w3) := by
    rw [← hw3, ← hB]
    exact ⟨heap_alloc_new w2 _, HB2.out.alloc HB2.out.size _⟩
  have HR3 : Hid (RwN w3 g [1, 1, 2, 3]) := by rw [← hw3]; exact HR2.out.below ((Below.refl _ _).alloc (Nat.le_refl _) _)
  have hsi : Calls Tryz.prog 9 #[.slice (some ⟨g, 0, none⟩) 4 4, .slice (some ⟨w3.heap.size, 0, none⟩) 4 4] ((w3.alloc (.cells #[.int .i64 1, .int .i64 1, .int .i64 2, .int .i64 3] 3)).drew) fun e w' => e = .returned (.bool true) ∧ ∃ q, w' = ((w3.alloc (.cells #[.int .i64 1, .int .i64 1, .int .i64 2, .int .i64 3] 3)).drew).drewN q := by
    refine ints_yes g 0 4 4 w3.heap.size 0 4 _ _ (nth4 [1, 1, 2, 3]) _ (fun _ => rfl) (fun _ => rfl) (by decide) ?_ ?_
    · exact fun j hj => RwN.read (RwN.below (((Below.refl _ w3).alloc (Nat.le_refl _) _).drew) HR3.out) j hj
    · have h4 : RwN (w3.alloc (.cells #[.int .i64 1, .int .i64 1, .int .i64 2, .int .i64 3] 3)).drew w3.heap.size [1, 1, 2, 3] := heap_alloc_new w3 _
      exact fun j hj => RwN.read h4 j hj
  have HJ4 : Hid (∀ q, JE w B (((w3.alloc (.cells #[.int .i64 1, .int .i64 1, .int .i64 2, .int .i64 3] 3)).drew).drewN q)) := fun q => HJ3.out.below (((Below.refl _ w3).alloc (Nat.le_refl _) _).drew.trans ⟨rfl, rfl, rfl, Nat.le_refl _, fun _ _ => rfl⟩)
  have HJ5 : Hid (JE w B w3.drew ∧ JE w B (w3.alloc (.cells #[.int .i64 1, .int .i64 1, .int .i64 2, .int .i64 3] 3)).drew) := ⟨HJ3.out.below ((Below.refl _ w3).drew), HJ3.out.below (((Below.refl _ w3).alloc (Nat.le_refl _) _).drew)⟩
  have HPR : Hid (∀ (c : Cf) (f : Int) (hf : Word f) (x : World), Calls Tryz.prog 12 #[cfV c, .int .i64 10, jbV jEx, .int .u64 f] x fun e w' => e = .returned (.int .i64 (prioV c 10 4 2 f)) ∧ Below x.heap.size x w') := fun c f hf x => prio_any c 10 jEx hf x
  have p1 := HPR.out cPl 9223372036854775808 (by unfold Word; omega)
  have p2 := HPR.out cPl 4611686018427387904 (by unfold Word; omega)
  have p3 := HPR.out cPl 0 (by unfold Word; omega)
  have p4 := HPR.out cNo 0 (by unfold Word; omega)
  rw [pl_1] at p1
  rw [pl_2] at p2
  rw [pl_3] at p3
  rw [pl_4] at p4
  have H1 : Hid (∀ x : World, Calls Tryz.prog 12 #[.agg #[.int .i64 4, .int .i64 8, .int .i64 10, .int .i64 2, .int .i64 1000, .int .i64 3, .int .i64 100, .int .i64 100], .int .i64 10, .agg #[.int .i64 0, .int .i64 2, .int .i64 0, .int .i64 4, .int .i64 0, .int .i64 0, .int .i64 0, .slice none 0 0], .int .u64 9223372036854775808] x fun e w' => e = .returned (.int .i64 1018) ∧ Below x.heap.size x w') := p1
  have H2 : Hid (∀ x : World, Calls Tryz.prog 12 #[.agg #[.int .i64 4, .int .i64 8, .int .i64 10, .int .i64 2, .int .i64 1000, .int .i64 3, .int .i64 100, .int .i64 100], .int .i64 10, .agg #[.int .i64 0, .int .i64 2, .int .i64 0, .int .i64 4, .int .i64 0, .int .i64 0, .int .i64 0, .slice none 0 0], .int .u64 4611686018427387904] x fun e w' => e = .returned (.int .i64 518) ∧ Below x.heap.size x w') := p2
  have H3 : Hid (∀ x : World, Calls Tryz.prog 12 #[.agg #[.int .i64 4, .int .i64 8, .int .i64 10, .int .i64 2, .int .i64 1000, .int .i64 3, .int .i64 100, .int .i64 100], .int .i64 10, .agg #[.int .i64 0, .int .i64 2, .int .i64 0, .int .i64 4, .int .i64 0, .int .i64 0, .int .i64 0, .slice none 0 0], .int .u64 0] x fun e w' => e = .returned (.int .i64 18) ∧ Below x.heap.size x w') := p3
  have H4 : Hid (∀ x : World, Calls Tryz.prog 12 #[.agg #[.int .i64 0, .int .i64 0, .int .i64 0, .int .i64 0, .int .i64 0, .int .i64 0, .int .i64 0, .int .i64 0], .int .i64 10, .agg #[.int .i64 0, .int .i64 2, .int .i64 0, .int .i64 4, .int .i64 0, .int .i64 0, .int .i64 0, .slice none 0 0], .int .u64 0] x fun e w' => e = .returned (.int .i64 0) ∧ Below x.heap.size x w') := p4
  clear p1 p2 p3 p4 HPR HB2 HR2 HR3
  rw [hw3, hB]
  clear hw3 hB
  go_region_held3 (fun x => x.cell? ⟨B, 0, none⟩ = some (.int .i64 0) ∧ x.cell? ⟨B, 1, none⟩ = some (.int .i64 2) ∧ x.cell? ⟨B, 2, none⟩ = some (.int .i64 0) ∧ x.cell? ⟨B, 3, none⟩ = some (.int .i64 4) ∧ x.cell? ⟨B, 4, none⟩ = some (.int .i64 0) ∧ x.cell? ⟨B, 5, none⟩ = some (.int .i64 0) ∧ x.cell? ⟨B, 6, none⟩ = some (.int .i64 0) ∧ x.cell? ⟨B, 7, none⟩ = some (.slice none 0 0)) (first | exact HJ5.out.1.cells | exact HJ5.out.2.cells | exact HK0.out.cells | exact HK1.out.cells | exact HK2.out.cells | exact HK3.out.cells | exact HK4.out.cells | exact HK5.out.cells | exact HK6.out.cells | exact HK7.out.cells) (first
   | (go_at_call 9; refine hsi.mono ?_; rintro e y0 ⟨rfl, q, hq⟩; have HK0 : Hid (JE w B y0) := hq ▸ HJ4.out q; clear hq)
   | (go_at_call 15; have hk := HK4.out; refine (plain14_any _).mono ?_; rintro e y5 ⟨rfl, hb⟩; have HK5 : Hid (JE w B y5) := hk.below hb; clear hk hb)
   | (go_at_call 15; have hk := HK2.out; refine (plain14_any _).mono ?_; rintro e y3 ⟨rfl, hb⟩; have HK3 : Hid (JE w B y3) := hk.below hb; clear hk hb)
   | (go_at_call 15; have hk := HK0.out; refine (plain14_any _).mono ?_; rintro e y1 ⟨rfl, hb⟩; have HK1 : Hid (JE w B y1) := hk.below hb; clear hk hb)
   | (go_at_call 12; have hk := HK6.out; refine (H4.out _).mono ?_; rintro e y7 ⟨rfl, hb⟩; have HK7 : Hid (JE w B y7) := hk.below hb; clear hk hb)
   | (go_at_call 12; have hk := HK5.out; refine (H3.out _).mono ?_; rintro e y6 ⟨rfl, hb⟩; have HK6 : Hid (JE w B y6) := hk.below hb; clear hk hb)
   | (go_at_call 12; have hk := HK3.out; refine (H2.out _).mono ?_; rintro e y4 ⟨rfl, hb⟩; have HK4 : Hid (JE w B y4) := hk.below hb; clear hk hb)
   | (go_at_call 12; have hk := HK1.out; refine (H1.out _).mono ?_; rintro e y2 ⟨rfl, hb⟩; have HK2 : Hid (JE w B y2) := hk.below hb; clear hk hb)
  )
  have HF : Hid (Below w.heap.size w y7) := HK7.out.bel
  clear HK0 HK1 HK2 HK3 HK4 HK5 HK6 HK7
  go_wp2
  go_ret
  exact ⟨rfl, HF.out⟩
end Go.Proofs.YtjgllfpnmmopdaaGreatDoor
