/-
  slices.Clone, Clone.
-/
import Derived.Test.YtjmiifgofedcnaaAI
import Derived.Test.YtjmiifgofedcnaaMapC
import Derived.Lib.SliceRun
namespace Go.Proofs.Ytjmiifgofedcnaa
open Go.RowKit Ag

set_option maxHeartbeats 2000000 in
theorem sclone_I {w : World} {ao : Option Addr} {cap n : Nat} {h : Nat → En} (r : RowIn w 76 ao cap n h) (ok : ∀ k, k < n → (h k).x.oneCell' = true) (hb : n * 40 ≤ 140737488355328) :
    Calls Try.prog 40 #[.slice ao n cap] w fun e w' => ∃ ao' cap', e = .returned (.slice ao' n cap') ∧ RowIn w' 76 ao' cap' n h ∧ (∀ g, ao' = some ⟨g, 0, none⟩ → w.heap.size ≤ g) ∧ Below w.heap.size w w' := by
  have hq := fun w => Lib.run_eql_slice_nil (P := Try.prog) w 66 76 ao n cap 0 0 Try.underlying66
  obtain ⟨i0, hi0, hz0, hz1, hz2⟩ := info_parts Try.inf76
  rcases r with ⟨rfl, rfl, rfl⟩ | ⟨g, cur, rfl, hr⟩
  · go_enter Try.func40, Try.ntmps40
    go_wp2
    go_ret
    exact ⟨none, 0, rfl, .inl ⟨rfl, rfl, rfl⟩, fun g e => (by cases e), Below.refl _ _⟩
  · have hone : ∀ u ∈ flat h n, u.oneCell' = true := flat_one ok
    have hcells : ∀ o, ∀ j u, (flat h n)[j]? = some u → (w.alloc o).cell? ((⟨g, 0, none⟩ : Addr).add j) = some u := hr.flat_cells
    go_enter Try.func40, Try.ntmps40
    go_wp2_with (first
      | (at_builtin; refine wpList_app _ rfl (.tmp 5) (.tmp 6) 66 rfl 76 i0 _ 24 Try.underlying66 hi0 hz0 3 hz1 hz2 rfl (by decide) (some ⟨w.heap.size, 0, none⟩) 0 0 [] rfl (made0 _ _) ⟨g, 0, none⟩ n cap (flat h n) rfl (flat_len h n) (hcells _) hone (Nat.le_trans (m := 35184372088832) (by omega) (by decide)) (by omega) ?_; intro ao' cap' w1 hrow hgr hmv))
    go_ret
    rw [Nat.zero_add, List.nil_append] at hrow
    have hb0 : Below w.heap.size w (w.alloc (.cells #[] 76)) := (Below.refl _ w).alloc (Nat.le_refl _) _
    refine ⟨ao', cap', rfl, RowIn.of_owns hrow, ?_, hb0.grown hgr hb0.size (fun k e => by simp at e; omega)⟩
    intro g' hg'
    rcases hmv with h1 | ⟨g2, h2, h1⟩
    · rw [h1] at hg'
      injection hg' with hg'
      injection hg' with hg'
      omega
    · rw [h1] at hg'
      injection hg' with hg'
      injection hg' with hg'
      have := hb0.size
      omega

theorem keepC_I {w w1 w2 : World} {a m : Nat} {ao : Option Addr} {cap n : Nat} (hb : Below w1.heap.size w1 w2) (h : w1.cell? ⟨a, 0, none⟩ = some (.slice ao n cap) ∧ w1.cell? ⟨a, 1, none⟩ = some (.map (some m)) ∧ Below w.heap.size w w1) :
    w2.cell? ⟨a, 0, none⟩ = some (.slice ao n cap) ∧ w2.cell? ⟨a, 1, none⟩ = some (.map (some m)) ∧ Below w.heap.size w w2 :=
  ⟨(Chg.of_below hb (fun _ => False)).cell h.1 (fun h => h), (Chg.of_below hb (fun _ => False)).cell h.2.1 (fun h => h), h.2.2.trans (hb.mono h.2.2.size)⟩

set_option maxHeartbeats 2000000 in
theorem clone_I {w : World} {a m : Nat} {ao : Option Addr} {L : List En} (r : Agn 68 76 w a m ao L) (hlen : L.length * 40 ≤ 140737488355328) :
    Calls Try.prog 12 #[.pointer (some ⟨a, 0, none⟩)] w fun e w' => ∃ c m' ao', e = .returned (.pointer (some ⟨c, 0, none⟩)) ∧ Agn 68 76 w' c m' ao' L ∧ Below w.heap.size w w' ∧ ∀ k, Kag c m' ao' k → w.heap.size ≤ k := by
  obtain ⟨cap, n, h, r⟩ := r
  rw [r.len] at hlen
  have c0 := r.raw.c0
  have c1 := r.raw.c1
  obtain ⟨D, ho, hd⟩ := r.raw.pm
  have R : Hid _ := r
  have hrow := r.raw.row
  have hone := fun k hk => (r.raw.ok k hk).2.2
  have HD : Hid _ := hd
  clear hd r
  go_enter Try.func12, Try.ntmps12
  go_wp2_with fail
  go_region_held3 (fun w' => w'.cell? ⟨a, 0, none⟩ = some (.slice ao n cap) ∧ w'.cell? ⟨a, 1, none⟩ = some (.map (some m)) ∧ Below w.heap.size w w') (first | exact ⟨c0, c1, (Below.refl _ w).drew⟩ | exact keepC_I (by assumption) (by assumption) | (refine keepC_I ?_ (by assumption); exact (Below.refl _ _).alloc (Nat.le_refl _) _))
    (first
    | (go_at_call 40; have hB : Below w.heap.size w _ := (by assumption : _ ∧ _ ∧ _).2.2; refine (sclone_I (hrow.below hB) hone hlen).mono ?_; rintro e x ⟨ao', cap', rfl, hrow', hnew, hbx⟩)
    | (go_at_call 41; have hB : Below w.heap.size w _ := (by assumption : _ ∧ _ ∧ _).2.2; refine (mclone_any (own_below ho hB)).mono ?_; rintro e y ⟨rfl, hoy, es, clock, rfl⟩))
  all_goals
    have hb2 : Below x.heap.size x (x.alloc (.map es clock)) := (Below.refl _ _).alloc (Nat.le_refl _) _
    have K := clone_mk R.out HD.out (w' := x.alloc (.map es clock)) (m' := x.heap.size) ⟨hrow'.below hb2, hnew, hoy, hB.size, hB.trans (hb2.mono hB.size)⟩
    rw [World.size_alloc] at K
    go_wp2
    go_ret
    exact ⟨_, _, _, rfl, K.1, K.2.1, K.2.2⟩
end Go.Proofs.Ytjmiifgofedcnaa
