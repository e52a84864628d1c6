/-
  ahead, swap.
-/
import Derived.Test.YtjmiifgofedcnaaKeep
namespace Go.Proofs.Ytjmiifgofedcnaa
open Go.RowKit Ag

theorem ahead_I {w : World} {a m : Nat} {ao : Option Addr} {cap n : Nat} {h : Nat → En} (r : Raw 68 76 w a m ao cap n h) (i j : Nat) (hi : i < n) (hj : j < n) :
    Calls Try.prog 65 #[.pointer (some ⟨a, 0, none⟩), .int .i64 i, .int .i64 j] w fun e w' => e = .returned (.bool (bef (h i) (h j))) ∧ Grew w w' := by
  have c0 := r.c0
  obtain ⟨g, cur, rfl, hr, _, _⟩ := r.has (by omega)
  obtain ⟨i0, i1, _⟩ := hr.cell hi
  obtain ⟨j0, j1, _⟩ := hr.cell hj
  have ht := r.top
  clear hr r
  go_enter Try.func65, Try.ntmps65
  go_wp2_with fail
  go_region_held3 (fun w' => w'.cell? ⟨a, 0, none⟩ = some (.slice (some ⟨g, 0, none⟩) n cap) ∧ w'.cell? ⟨g, i * 3, none⟩ = some (.int .i64 (h i).id) ∧ w'.cell? ⟨g, i * 3 + 1, none⟩ = some (.int .i64 (h i).tm) ∧ w'.cell? ⟨g, j * 3, none⟩ = some (.int .i64 (h j).id) ∧ w'.cell? ⟨g, j * 3 + 1, none⟩ = some (.int .i64 (h j).tm)) (first | exact ⟨c0, i0, i1, j0, j1⟩ | exact keep5 (by assumption) (by assumption))
    (first | (go_at_call 68; refine (inOrder_any _ _ _ _ _).mono ?_; rintro e w' ⟨rfl, hg⟩))
  all_goals
    go_wp2
    go_ret
    exact ⟨rfl, Grew.of_drew hg⟩

set_option maxHeartbeats 2000000 in
theorem swap_I {w : World} {a m : Nat} {ao : Option Addr} {cap n : Nat} {h : Nat → En} (r : Raw 68 76 w a m ao cap n h) (i j : Nat) (hi : i < n) (hj : j < n) :
    Calls Try.prog 66 #[.pointer (some ⟨a, 0, none⟩), .int .i64 i, .int .i64 j] w fun e w' => e = .returned (.tuple #[]) ∧ Raw 68 76 w' a m ao cap n (swp h i j) ∧ Chg (Kag a m ao) w w' := by
  have c0 := r.c0
  have c1 := r.c1
  obtain ⟨g, cur, rfl, hr, hga, hgm⟩ := r.has (by omega)
  obtain ⟨i0, i1, i2⟩ := hr.cell hi
  obtain ⟨j0, j1, j2⟩ := hr.cell hj
  have fi0 := frozen_at (k := i * 3) hr.blk
  have fi1 := frozen_at (k := i * 3 + 1) hr.blk
  have fi2 := frozen_at (k := i * 3 + 2) hr.blk
  have fj0 := frozen_at (k := j * 3) hr.blk
  have fj1 := frozen_at (k := j * 3 + 1) hr.blk
  have fj2 := frozen_at (k := j * 3 + 2) hr.blk
  have ht := r.top
  have sxi := fun (p : Addr) (W : World) => run_store Try.prog W p _ .plain (r.ok i hi).2.2
  have sxj := fun (p : Addr) (W : World) => run_store Try.prog W p _ .plain (r.ok j hj).2.2
  obtain ⟨D, ho, hp⟩ := r.pm
  obtain ⟨cur1, hr1⟩ := hr.set3 hi (h j)
  obtain ⟨cur2, hr2⟩ := hr1.set3 hj (h i)
  rw [← swp_upd] at hr2
  have M0 : Hid (Mid 68 76 w a m g cap n (swp h i j) D _) := ⟨(Below.heap_setCell _ _ _ _ (Ne.symm hga)).trans ((Below.heap_setCell _ _ _ _ (Ne.symm hga)).trans ((Below.heap_setCell _ _ _ _ (Ne.symm hga)).trans ((Below.heap_setCell _ _ _ _ (Ne.symm hga)).trans ((Below.heap_setCell _ _ _ _ (Ne.symm hga)).trans ((Below.heap_setCell _ _ _ _ (Ne.symm hga)).trans r.blk))))), ⟨cur2, hr2⟩, (((((ho.setCell (Ne.symm hgm) _).setCell (Ne.symm hgm) _).setCell (Ne.symm hgm) _).setCell (Ne.symm hgm) _).setCell (Ne.symm hgm) _).setCell (Ne.symm hgm) _, ((((((Chg.refl _ w).setCell _ _ (.inl (.inr (.inr ⟨g, rfl, rfl⟩)))).setCell _ _ (.inl (.inr (.inr ⟨g, rfl, rfl⟩)))).setCell _ _ (.inl (.inr (.inr ⟨g, rfl, rfl⟩)))).setCell _ _ (.inl (.inr (.inr ⟨g, rfl, rfl⟩)))).setCell _ _ (.inl (.inr (.inr ⟨g, rfl, rfl⟩)))).setCell _ _ (.inl (.inr (.inr ⟨g, rfl, rfl⟩)))⟩
  have R : Hid _ := r
  have HP : Hid _ := hp
  clear hr r hr1 hr2 hp ho
  go_enter Try.func66, Try.ntmps66
  go_wp2_with fail
  go_cut [1] (fun p wc => p = .int .i64 i ∧ Mid 68 76 w a m g cap n (swp h i j) D wc)
  case first =>
    by_cases hij : i = j
    · subst hij
      go_region
      all_goals (go_wp2_with fail; go_meet; exact ⟨rfl, M0.out.drew⟩)
    · have hji : ¬ j = i := fun e => hij e.symm
      go_region
      all_goals (go_wp2_with fail; go_meet; exact ⟨rfl, M0.out.drew⟩)
  case rest =>
    obtain ⟨rfl, hm⟩ := hcut
    clear c0 c1 i0 i1 i2 j0 j1 j2 fi0 fi1 fi2 fj0 fj1 fj2 sxi sxj M0
    have ham := R.out.am
    have s1 := HP.out.swap1 hj (V0 i)
    have s2 := (HP.out.swap hi hj).size
    have c0 := hm.c0
    have c1 := hm.c1
    have e0 := hm.cell hi
    rw [swp_at1] at e0
    obtain ⟨w2, hrun, hm2⟩ := hm.drew.put (Nat.lt_of_le_of_lt ht (by decide)) hgm ham (R.out.ok j hj).1 (wfN (by omega)) s1
    have d0 := hm2.c0
    have d1 := hm2.c1
    have e1 := hm2.cell hj
    rw [swp_at2] at e1
    obtain ⟨w3, hrun3, hm3⟩ := hm2.drew.put (Nat.lt_of_le_of_lt ht (by decide)) hgm ham (R.out.ok i hi).1 (wfN (by omega)) s2
    have M2 : Hid _ := hm2
    have M3 : Hid _ := hm3
    clear hm hm2 hm3
    go_wp2_with fail
    go_region
    all_goals
      go_wp2_with fail
      go_region
      all_goals
        go_wp2_with fail
        go_end0
        refine ⟨rfl, ⟨M3.out.blk, .inr (M3.out.row.elim fun c hc => ⟨g, c, rfl, hc⟩), ⟨_, M3.out.own, HP.out.swap hi hj⟩, ham, R.out.ag, ?_, ht⟩, M3.out.chg⟩
        exact swp_ok (p := fun e => wfI e.id ∧ wfI e.tm ∧ e.x.oneCell' = true) R.out.ok hi hj
end Go.Proofs.Ytjmiifgofedcnaa
