/-
  lentInts, still.
-/
import Derived.Test.YtmfecocbadekhaaDoorSpoil
namespace Go.Proofs.YtmfecocbadekhaaDoor
open Go.RowKit Nd

/-- The first m numbers of f. -/
def fl (f : Nat → Int) (m : Nat) : List Int := (List.range m).map f
theorem fl_len (f : Nat → Int) (m : Nat) : (fl f m).length = m := by simp [fl]
theorem fl_at (f : Nat → Int) (m j : Nat) (h : j < m) : nthI (fl f m) j = f j := by simp [nthI, fl, h]
theorem fl_src {w : World} {f : Nat → Int} {m g o : Nat} {ao : Option Addr} (hao : 0 < m → ao = some ⟨g, o, none⟩) (hc : ∀ j, j < m → w.cell? ⟨g, o + j, none⟩ = some (.int .i64 (f j))) : ∀ ad, ao = some ad → ∀ j u, (ints (fl f m))[j]? = some u → w.cell? (ad.add j) = some u := by
  intro ad had j u hu
  have hj : j < m := by
    by_cases h : j < m
    · exact h
    · rw [List.getElem?_eq_none (by simp [ints, fl]; omega)] at hu; cases hu
  have := hao (by omega)
  rw [had] at this
  cases this
  have hadd : (⟨g, o, none⟩ : Addr).add j = ⟨g, o + j, none⟩ := by unfold Addr.add; split <;> simp_all
  rw [hadd, hc j hj]
  simp [ints, fl, hj] at hu
  rw [hu]

theorem two_new (w : World) (x y : Value) (t : TypeId) : ∀ j u, [x, y][j]? = some u → (w.alloc (.cells #[x, y] t)).cell? ((⟨w.heap.size, 0, none⟩ : Addr).add j) = some u := by
  intro j u hu
  have ha : (⟨w.heap.size, 0, none⟩ : Addr).add j = ⟨w.heap.size, j, none⟩ := by unfold Addr.add; split <;> simp_all
  rw [ha, cell_of_row _ _ _ _ _ _ (heap_alloc_new w _)]
  simpa using hu
theorem lent_any (g o m lc : Nat) (la : Option Addr) (f : Nat → Int) (w : World) (hao : 0 < m → la = some ⟨g, o, none⟩) (hnil : la = none → m = 0 ∧ lc = 0) (hm : m * 8 ≤ 140737488351232)
    (hc : ∀ j, j < m → w.cell? ⟨g, o + j, none⟩ = some (.int .i64 (f j))) (hgw : g < w.heap.size) :
    Calls Tryd.prog 23 #[.slice la m lc] w fun e w' => ∃ gn cn, e = .returned (.slice (some ⟨gn, 0, none⟩) (m + 2) cn) ∧ w.heap.size ≤ gn ∧ w'.ownsRow 0 3 1 (.slice (some ⟨gn, 0, none⟩) (m + 2) cn) (m + 2) (ints (fl f m ++ [-77, -78])) ∧ Below w.heap.size w w' := by
  obtain ⟨i3, hi3, hz30, hz31, hz32⟩ := info_parts Tryd.info3
  have hr0 := empty_row w 0 (Nat.zero_le _)
  have hil : (ints (fl f m)).length = m := by simp [ints, fl]
  have hsrc := fl_src (w := w.alloc (.cells #[] 3)) hao (fun j hj => keepB (Below.alloc1 w (.cells #[] 3)) hgw (hc j hj))
  clear hc
  go_enter Tryd.func23, Tryd.ntmps23
  go_upto_region 3 with (first | (at_builtin; refine wpList_appSrc _ rfl (.tmp 5) (.tmp 6) 37 rfl 3 i3 (.int .i64 0) 8 Tryd.underlying37 hi3 hz30 hz31 hz32 rfl (some ⟨w.heap.size, 0, none⟩) 0 0 [] rfl hr0 la m lc (ints (fl f m)) rfl hil hnil hsrc (ints_one _) (by unfold maxLen; omega) (by omega) ?_; intro ma mc w1 hm1 hg1 hmv1))
  rw [Nat.zero_add, List.nil_append] at hm1
  have hb1 : Below w.heap.size w w1 := ((Below.refl _ _).alloc (Nat.le_refl _) _).grown hg1 (by simp) (fun k hk => by simp at hk; omega)
  obtain ⟨gm, hgm, hgm1⟩ : ∃ gm, ma = some ⟨gm, 0, none⟩ ∧ w.heap.size ≤ gm := by
    rcases hmv1 with e | ⟨g, hg, e⟩
    · exact ⟨_, e, Nat.le_refl _⟩
    · simp at hg
      exact ⟨g, e, by omega⟩
  subst hgm
  clear hg1 hmv1 hr0 hsrc hil
  have hz1 := hb1.size
  go_wp2_with (first | (at_builtin; refine wpList_app _ rfl (.tmp 8) (.tmp 9) 37 rfl 3 i3 (.int .i64 0) 8 Tryd.underlying37 hi3 hz30 hz31 hz32 rfl (some ⟨gm, 0, none⟩) m mc _ rfl (hm1.alloc _) ⟨_, 0, none⟩ 2 2 [.int .i64 (-77), .int .i64 (-78)] rfl rfl (two_new _ _ _ _) (by intro u hu; simp at hu; rcases hu with rfl | rfl <;> rfl) (by unfold maxLen; omega) (by omega) ?_; intro ma2 mc2 w2 hm2 hg2 hmv2))
  go_ret
  have hb2 : Below w.heap.size w w2 := (hb1.alloc hz1 _).grown hg2 (by simp; omega) (fun k hk => by simp at hk; omega)
  have hm2' : w2.ownsRow 0 3 1 (.slice ma2 (m + 2) mc2) (m + 2) (ints (fl f m ++ [-77, -78])) := by simpa [ints] using hm2
  rcases hmv2 with e | ⟨g2, hg2, e⟩
  · subst e
    exact ⟨gm, mc2, rfl, hgm1, hm2', hb2⟩
  · subst e
    simp at hg2
    exact ⟨g2, mc2, rfl, by omega, hm2', hb2⟩

set_option maxHeartbeats 1000000 in
theorem still_any (gn cn g o m lc : Nat) (la : Option Addr) (f : Nat → Int) (w : World) (hown : w.ownsRow 0 3 1 (.slice (some ⟨gn, 0, none⟩) (m + 2) cn) (m + 2) (ints (fl f m ++ [-77, -78])))
    (hao : 0 < m → la = some ⟨g, o, none⟩) (hm : m * 8 ≤ 140737488351232) (hc : ∀ j, j < m → w.cell? ⟨g, o + j, none⟩ = some (.int .i64 (f j))) :
    Calls Tryd.prog 26 #[.slice (some ⟨gn, 0, none⟩) (m + 2) cn, .slice la m lc] w fun e w' => e = .returned (.bool true) ∧ w.grownBy w' (some gn) := by
  have hat : ∀ j, j < m + 2 → w.cell? ⟨gn, j, none⟩ = some (.int .i64 (nthI (fl f m ++ [-77, -78]) j)) := fun j hj => own_at hown j (by simp [fl]; omega)
  have h1 : ∀ j, j < m → w.cell? ⟨gn, 0 + j, none⟩ = some (.int .i64 (f j)) := fun j hj => by
    rw [Nat.zero_add, hat j (by omega), nthI, List.getD_eq_getElem?_getD, List.getElem?_append_left (by rw [fl_len]; exact hj)]
    simp [fl, hj]
  have h2 : w.cell? ⟨gn, m, none⟩ = some (.int .i64 (-77)) := by rw [hat m (by omega)]; simp [nthI, fl]
  have h3 : w.cell? ⟨gn, m + 1, none⟩ = some (.int .i64 (-78)) := by rw [hat (m + 1) (by omega)]; simp [nthI, fl]
  have hcn : m + 2 ≤ cn := by
    rcases owns_shape hown with ⟨hv, _⟩ | ⟨_, _, hv, _, hn⟩
    · simp at hv
    · simp at hv
      omega
  have HSm : Hid (sameB m m f f = true) := same_self _ _ _ (fun _ _ => rfl)
  have H1 : Hid (∀ j, j < m → w.cell? ⟨gn, 0 + j, none⟩ = some (.int .i64 (f j))) := h1
  have HC : Hid (∀ j, j < m → w.cell? ⟨g, o + j, none⟩ = some (.int .i64 (f j))) := hc
  clear hat h1 hc
  go_enter Tryd.func26, Tryd.ntmps26
  go_wp2_with (go_at_call 13; refine (same_yes gn 0 m cn g o m lc _ _ f f _ (fun _ => rfl) hao (by omega) (by omega) H1.out HC.out HSm.out).mono ?_; rintro e w1 ⟨rfl, q, rfl⟩)
  have R0 : Hid (∃ zs, (w.drewN q).ownsRow 0 3 1 (.slice (some ⟨gn, 0, none⟩) (m + 2) cn) (m + 2) (ints zs) ∧ w.grownBy (w.drewN q) (some gn)) := ⟨_, own_below hown (drew_below w q), drew_gr w q _⟩
  clear hown h2 h3
  go_loopg [7] (m + 2) (fun gk c wr => ∃ k : Nat, k + gk = m + 2 ∧ c = .int .i64 k ∧ ∃ zs, wr.ownsRow 0 3 1 (.slice (some ⟨gn, 0, none⟩) (m + 2) cn) (m + 2) (ints zs) ∧ w.grownBy wr (some gn))
  case atStart => exact ⟨0, by omega, rfl, R0.out⟩
  case round =>
    clear R0
    obtain ⟨k, hk, rfl, zs, ho, hg⟩ := hrel
    by_cases hlt : k < m + 2
    · have hzl : zs.length = m + 2 := by have := ho.1; simpa [ints] using this
      have hck := own_at ho k (by omega)
      have hfk := own_frozen ho k
      have HS := (ho.stored k (.int .i64 5)).1
      rw [ints_set] at HS
      have HG := gr_set wr ⟨gn, k, none⟩ (.int .i64 5)
      clear hzl ho
      go_wp2
      go_roundg (m + 2 - (k + 1))
      case measure => omega
      case rel => exact ⟨k + 1, by omega, by go_num, _, HS, gr_trans hg HG⟩
    · go_wp2
      go_ret
      exact ⟨rfl, hg⟩
end Go.Proofs.YtmfecocbadekhaaDoor
