/-
  THE REFERENCE's turn, Claim, Give, Clone.
-/
import Derived.Test.YtmfecocbadekhaaDoorRefC
namespace Go.Proofs.YtmfecocbadekhaaDoor
open Go.RowKit Nd

namespace Nd
theorem flipF_miss (F : Nat) (f : Nat → Int) (p k : Nat) (h : ∀ j, j < k → (f j).toNat ≠ p) : (flipF F f k).testBit p = F.testBit p := by
  induction k with
  | zero => rfl
  | succ k ih => rw [flipF, Nat.testBit_xor, ih (fun j hj => h j (by omega)), Nat.testBit_two_pow, decide_eq_false (h k (by omega))]; simp
theorem setB_next (n : Nat) (f : Nat → Int) (m : Nat) (h : setB n f m = true) (j : Nat) (hj : j + 1 < m) : f j < f (j + 1) := by
  induction m with
  | zero => omega
  | succ m ih =>
    simp only [setB, Bool.and_eq_true, decide_eq_true_eq, Bool.or_eq_true] at h
    by_cases e : j + 1 = m
    · subst e
      have := h.2
      simp at this
      exact this
    · exact ih h.1.1 (by omega)
theorem setB_lt (n : Nat) (f : Nat → Int) (m : Nat) (h : setB n f m = true) (j d : Nat) (hj : j + (d + 1) < m) : f j < f (j + (d + 1)) := by
  induction d with
  | zero => exact setB_next n f m h j hj
  | succ d ih => exact Int.lt_trans (ih (by omega)) (setB_next n f m h (j + (d + 1)) hj)
theorem allB_at (F : Nat) (f : Nat → Int) (fr : Bool) (m : Nat) (h : allB F f fr m = true) (j : Nat) (hj : j < m) : (decide (0 ≤ f j) && F.testBit (f j).toNat) = fr := by
  induction m with
  | zero => omega
  | succ m ih =>
    simp only [allB, Bool.and_eq_true, beq_iff_eq] at h
    by_cases e : j = m
    · subst e; exact h.2
    · exact ih h.1 (by omega)
theorem flipF_of {F : Nat} {f : Nat → Int} {m n : Nat} {fr : Bool} (hs : setB n f m = true) (ha : allB F f fr m = true) (k : Nat) (hk : k < m) : (flipF F f k).testBit (f k).toNat = fr := by
  have h1 := allB_at F f fr m ha k hk
  have h2 := setB_at n f m hs k hk
  rw [flipF_miss]
  · simpa [h2.1] using h1
  · intro j hj
    have := setB_lt n f m hs j (k - j - 1) (by omega)
    rw [show j + (k - j - 1 + 1) = k by omega] at this
    have := setB_at n f m hs j (by omega)
    omega
end Nd

set_option maxHeartbeats 4000000 in
theorem rturn_any (d g1 cap1 n F g o m cap : Nat) (ao : Option Addr) (f : Nat → Int) (tk : Bool) (w : World) (h : RefIn w d g1 cap1 n F) (hao : 0 < m → ao = some ⟨g, o, none⟩) (hgb : g ≠ g1) (hm : m ≤ 140737488355328)
    (hc : ∀ j, j < m → w.cell? ⟨g, o + j, none⟩ = some (.int .i64 (f j))) :
    Calls Tryd.prog 36 #[.pointer (some ⟨d, 0, none⟩), .slice ao m cap, .bool tk] w fun e w' => e = .returned (.int .i64 (turnE n F f m tk)) ∧ RefIn w' d g1 cap1 n (turnF n F f m tk) ∧ w.grownBy w' (some g1) := by
  have hcd := h.cell
  have HE1 : Hid (setB n f m = false → turnE n F f m tk = 22 ∧ turnF n F f m tk = F) := fun e => by simp [turnE, turnF, e]
  have HE2 : Hid (setB n f m = true → allB F f tk m = false → turnE n F f m tk = 21 ∧ turnF n F f m tk = F) := fun e e' => by simp [turnE, turnF, e, e']
  have HE3 : Hid (setB n f m = true → allB F f tk m = true → turnE n F f m tk = 0 ∧ turnF n F f m tk = flipF F f m) := fun e e' => by simp [turnE, turnF, e, e']
  go_enter Tryd.func36, Tryd.ntmps36
  go_wp2
  go_loopg [7] m (fun gk c wr => ∃ k q : Nat, k + gk = m ∧ c = .int .i64 k ∧ setB n f k = true ∧ wr = w.drewN q)
  case atStart => exact ⟨0, 0, by omega, rfl, rfl, rfl⟩
  case round =>
    obtain ⟨k, q, hk, rfl, hs, rfl⟩ := hrel
    by_cases hlt : k < m
    · have ha := hao (by omega)
      subst ha
      have hck := hc k hlt
      by_cases h0 : f k < 0
      · have HN : Hid (setB n f m = false) := by
          rw [show m = k + 1 + (m - (k + 1)) by omega]
          apply setB_no
          rw [setB]
          simp
          intro _ _
          omega
        have hd : decide (f k < 0) = true := by simp [h0]
        go_wp2
        go_quiet (fail)
        go_wp2
        go_ret
        exact ⟨ret_i (HE1.out HN.out).1.symm, by rw [(HE1.out HN.out).2]; exact h.of_heap rfl, by simpa using drew_gr w (q + nq) _⟩
      · have hd : decide (f k < 0) = false := by simp; omega
        by_cases h1 : (n : Int) ≤ f k
        · have HN : Hid (setB n f m = false) := by
            rw [show m = k + 1 + (m - (k + 1)) by omega]
            apply setB_no
            rw [setB]
            simp
            intro _ _
            omega
          have hd1 : decide ((n : Int) ≤ f k) = true := by simp [h1]
          go_wp2
          go_quiet (fail)
          go_wp2
          go_ret
          exact ⟨ret_i (HE1.out HN.out).1.symm, by rw [(HE1.out HN.out).2]; exact h.of_heap rfl, by simpa using drew_gr w (q + nq) _⟩
        · have hd1 : decide ((n : Int) ≤ f k) = false := by simp; omega
          by_cases hk0 : k = 0
          · subst hk0
            have hc0 : w.cell? ⟨g, o, none⟩ = some (.int .i64 (f 0)) := by simpa using hck
            have HY : Hid (setB n f (0 + 1) = true) := by
              show setB n f (0 + 1) = true
              simp only [setB]; simp; omega
            clear hck
            go_wp2
            go_quiet (fail)
            go_wp2
            go_roundg (m - 1)
            case measure => omega
            case rel => exact ⟨1, q + nq, by omega, by go_num, HY.out, by simp⟩
          · obtain ⟨j, rfl⟩ : ∃ j, k = j + 1 := ⟨k - 1, by omega⟩
            have hcj := hc j (by omega)
            by_cases hle : f (j + 1) ≤ f j
            · have HN : Hid (setB n f m = false) := by
                rw [show m = j + 1 + 1 + (m - (j + 1 + 1)) by omega]
                apply setB_no
                rw [setB]
                simp
                intro _ _ _
                omega
              have hd2 : decide (f (j + 1) ≤ f j) = true := by simp [hle]
              go_wp2
              go_quiet (fail)
              go_wp2
              go_ret
              exact ⟨ret_i (HE1.out HN.out).1.symm, by rw [(HE1.out HN.out).2]; exact h.of_heap rfl, by simpa using drew_gr w (q + nq) _⟩
            · have HY : Hid (setB n f (j + 1 + 1) = true) := by
                show setB n f (j + 1 + 1) = true
                rw [setB, hs]
                simp
                omega
              have hd2 : decide (f (j + 1) ≤ f j) = false := by simp; omega
              go_wp2
              go_quiet (fail)
              go_wp2
              go_roundg (m - (j + 2))
              case measure => omega
              case rel => exact ⟨j + 2, q + nq, by omega, by go_num, HY.out, by simp⟩
    · have e : k = m := by omega
      subst e
      have HSet : Hid (setB n f k = true) := hs
      clear hs
      go_wp2
      go_loopg [8] k (fun gk c wr => ∃ i q : Nat, i + gk = k ∧ c = .int .i64 i ∧ allB F f tk i = true ∧ wr = w.drewN q)
      case atStart => exact ⟨0, q, by omega, rfl, rfl, rfl⟩
      case round =>
        obtain ⟨i, q2, hi, rfl, hall, rfl⟩ := hrel
        by_cases hik : i < k
        · have ha := hao (by omega)
          subst ha
          have hck := hc i hik
          obtain ⟨p, hp⟩ : ∃ p : Nat, f i = p := ⟨(f i).toNat, by have := setB_at n f k HSet.out i hik; omega⟩
          have hpn : p < n := by have := setB_at n f k HSet.out i hik; omega
          have hcp := h.at p hpn
          have HP : Hid (f i = p) := hp
          rw [hp] at hck
          clear hp hc
          cases hB : ((!F.testBit p) == tk) with
          | true =>
            have HN : Hid (allB F f tk k = false) := by
              rw [show k = i + 1 + (k - (i + 1)) by omega]
              apply allB_no
              rw [allB, HP.out]
              cases hF : F.testBit p <;> cases tk <;> simp_all
            go_wp2
            go_quiet (fail)
            go_wp2
            go_ret
            exact ⟨ret_i (HE2.out HSet.out HN.out).1.symm, by rw [(HE2.out HSet.out HN.out).2]; exact h.of_heap rfl, by simpa using drew_gr w (q2 + nq) _⟩
          | false =>
            have HY : Hid (allB F f tk (i + 1) = true) := by
              show allB F f tk (i + 1) = true
              rw [allB, HP.out, hall]
              cases hF : F.testBit p <;> cases tk <;> simp_all
            go_wp2
            go_quiet (fail)
            go_wp2
            go_roundg (k - (i + 1))
            case measure => omega
            case rel => exact ⟨i + 1, q2 + nq, by omega, by go_num, HY.out, by simp⟩
        · have e : i = k := by omega
          subst e
          have HAll : Hid (allB F f tk i = true) := hall
          clear hall
          go_wp2
          go_loopg [9] i (fun gk c wr => ∃ j : Nat, j + gk = i ∧ c = .int .i64 j ∧ RefIn wr d g1 cap1 n (flipF F f j) ∧ w.grownBy wr (some g1))
          case atStart => exact ⟨0, by omega, rfl, h.of_heap rfl, drew_gr w _ _⟩
          case round =>
            clear hcd
            obtain ⟨j, hj, rfl, hr, hgr⟩ := hrel
            by_cases hji : j < i
            · have ha := hao (by omega)
              subst ha
              have hck := hgr.cell (hc j hji) (fun e => hgb (Option.some.inj e))
              have hbit := flipF_of HSet.out HAll.out j hji
              obtain ⟨p, hp⟩ : ∃ p : Nat, f j = p := ⟨(f j).toNat, by have := setB_at n f i HSet.out j hji; omega⟩
              have hpn : p < n := by have := setB_at n f i HSet.out j hji; omega
              rw [hp, Int.toNat_natCast] at hbit
              have hcp := hr.at p hpn
              have hfp := hr.rowfree p
              have hcd := hr.cell
              have HS : Hid (RefIn (wr.setCell ⟨g1, p, none⟩ (.bool tk)) d g1 cap1 n (flipF F f (j + 1))) := by
                have := hr.store (k := p) hpn hbit
                rw [flipF, hp, Int.toNat_natCast]
                exact this
              have HG := gr_set wr ⟨g1, p, none⟩ (.bool tk)
              rw [hp] at hck
              clear hp hbit
              go_wp2
              go_region
              go_wp2
              go_roundg (i - (j + 1))
              case measure => omega
              case rel => exact ⟨j + 1, by omega, by go_num, HS.out.of_heap rfl, gr_trans hgr (gr_drew HG)⟩
            · have e : j = i := by omega
              subst e
              go_wp2
              go_ret
              exact ⟨ret_i (HE3.out HSet.out HAll.out).1.symm, by rw [(HE3.out HSet.out HAll.out).2]; exact hr, hgr⟩

theorem rclaim_any (d g1 cap1 n F g o m cap : Nat) (ao : Option Addr) (f : Nat → Int) (w : World) (h : RefIn w d g1 cap1 n F) (hao : 0 < m → ao = some ⟨g, o, none⟩) (hgb : g ≠ g1) (hm : m ≤ 140737488355328)
    (hc : ∀ j, j < m → w.cell? ⟨g, o + j, none⟩ = some (.int .i64 (f j))) :
    Calls Tryd.prog 24 #[.pointer (some ⟨d, 0, none⟩), .slice ao m cap] w fun e w' => e = .returned (.int .i64 (turnE n F f m true)) ∧ RefIn w' d g1 cap1 n (turnF n F f m true) ∧ w.grownBy w' (some g1) := by
  go_enter Tryd.func24, Tryd.ntmps24
  go_wp2_with (go_at_call 36; refine (rturn_any d g1 cap1 n F g o m cap ao f true _ h hao hgb hm hc).mono ?_; rintro e w2 ⟨rfl, hs2, hg2⟩)
  go_ret
  exact ⟨rfl, hs2, hg2⟩
theorem rgive_any (d g1 cap1 n F g o m cap : Nat) (ao : Option Addr) (f : Nat → Int) (w : World) (h : RefIn w d g1 cap1 n F) (hao : 0 < m → ao = some ⟨g, o, none⟩) (hgb : g ≠ g1) (hm : m ≤ 140737488355328)
    (hc : ∀ j, j < m → w.cell? ⟨g, o + j, none⟩ = some (.int .i64 (f j))) :
    Calls Tryd.prog 25 #[.pointer (some ⟨d, 0, none⟩), .slice ao m cap] w fun e w' => e = .returned (.int .i64 (turnE n F f m false)) ∧ RefIn w' d g1 cap1 n (turnF n F f m false) ∧ w.grownBy w' (some g1) := by
  go_enter Tryd.func25, Tryd.ntmps25
  go_wp2_with (go_at_call 36; refine (rturn_any d g1 cap1 n F g o m cap ao f false _ h hao hgb hm hc).mono ?_; rintro e w2 ⟨rfl, hs2, hg2⟩)
  go_ret
  exact ⟨rfl, hs2, hg2⟩

theorem rclone_any (d g1 cap1 n F : Nat) (w : World) (h : RefIn w d g1 cap1 n F) :
    Calls Tryd.prog 30 #[.pointer (some ⟨d, 0, none⟩)] w fun e w' => ∃ d' g' cap', e = .returned (.pointer (some ⟨d', 0, none⟩)) ∧ RefIn w' d' g' cap' n F ∧ w.heap.size ≤ d' ∧ w.heap.size ≤ g' ∧ Below w.heap.size w w' := by
  obtain ⟨i0, hi, hz0, hz1, hz2⟩ := info_parts Tryd.info4
  have hcd := (h.below (Below.alloc1 w (.cells #[] 4))).cell
  have hn := h.hi
  have hdl := h.dlt
  have hgl := h.glt
  have hr0 : (w.alloc (.cells #[] 4)).ownsRow 0 4 1 (.slice (some ⟨w.heap.size, 0, none⟩) 0 0) 0 [] := World.ownsRow_made w #[] 0 (Nat.zero_le _) (by decide) rfl
  have hl : (bvals F n).length = n := by simp [bvals]
  have hcells : ∀ j u, (bvals F n)[j]? = some u → (w.alloc (.cells #[] 4)).cell? ((⟨g1, 0, none⟩ : Addr).add j) = some u := (h.row.alloc (.cells #[] 4)).cells (g := g1) rfl
  have hone : ∀ u ∈ bvals F n, u.oneCell' = true := by
    intro u hu
    simp [bvals] at hu
    obtain ⟨k, _, rfl⟩ := hu
    rfl
  go_enter Tryd.func30, Tryd.ntmps30
  go_wp2_with (at_builtin; refine wpList_app _ rfl (.tmp 3) (.tmp 7) 56 rfl 4 i0 (.bool false) 1 Tryd.underlying56 hi hz0 hz1 hz2 rfl (some ⟨w.heap.size, 0, none⟩) 0 0 [] rfl hr0 ⟨g1, 0, none⟩ n cap1 (bvals F n) rfl hl hcells hone (by unfold maxLen; omega) (by omega) ?_; intro ao1 cap2 w1 hown1 hgr1 hmv1)
  go_ret
  have hb1 : Below w.heap.size w w1 := ((Below.refl _ _).alloc (Nat.le_refl _) _).grown hgr1 (by simp) (fun j hj => by simp at hj; omega)
  have hz1' := hb1.size
  have hgs := hgr1.size
  simp at hgs
  rw [Nat.zero_add, List.nil_append] at hown1
  have fin : ∀ g', w.heap.size ≤ g' → g' < w1.heap.size → ao1 = some ⟨g', 0, none⟩ → RefIn (w1.alloc (.cells #[.slice ao1 n cap2] 58)) w1.heap.size g' cap2 n F := by
    intro g' h1 h2 h3
    subst h3
    exact ⟨by omega, by rw [heap_alloc_new], hown1.alloc _, hn, h.top⟩
  have lt1 : ∀ g', ao1 = some ⟨g', 0, none⟩ → g' < w1.heap.size := by
    intro g' h3
    subst h3
    rcases hown1.2 with ⟨hv, _⟩ | ⟨g2, c2, cur, hv, _, hg2, _⟩
    · simp at hv
    · simp at hv
      obtain ⟨rfl, _⟩ := hv
      exact (Array.getElem?_eq_some_iff.1 hg2).1
  rcases hmv1 with e | ⟨g', hg', e⟩
  · exact ⟨w1.heap.size, w.heap.size, cap2, rfl, fin _ (Nat.le_refl _) (lt1 _ e) e, by omega, Nat.le_refl _, hb1.alloc (by omega) _⟩
  · simp at hg'
    exact ⟨w1.heap.size, g', cap2, rfl, fin _ (by omega) (lt1 _ e) e, by omega, by omega, hb1.alloc (by omega) _⟩
end Go.Proofs.YtmfecocbadekhaaDoor
