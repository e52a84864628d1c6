/-
  Package verbs: numberOf.
-/
import Derived.Test.YtokpcpmkilikaaaDoorLbA
namespace Go.Proofs.YtokpcpmkilikaaaDoor
open Go.RowKit Vb

set_option maxHeartbeats 2000000 in
theorem num_yes (p : Bs) (hl : p.length ≤ 256) (n : Nat) (h : numV p = some n) (w : World) (hT : Tab w) : Calls Tryd.prog 34 #[.string (str p)] w fun e w' => e = .returned (numA (some n)) ∧ Below w.heap.size w w' := by
  obtain ⟨h1, h2⟩ := num_some h
  have ha := atoi_ok p hl n (num_atoi h).1
  have hb := itoa_any n (by omega)
  rw [h1] at hb
  have hne : ¬ (n : Int) < 0 := by omega
  have heq := list_eq (a := p) rfl
  clear h h1 h2
  go_enter Tryd.func34, Tryd.ntmps34
  go_wp2_with fail
  refine (ha _).mono ?_
  rintro e w1 ⟨rfl, b1⟩
  go_wp2_with fail
  refine (hb _ (hT.pow.below b1)).mono ?_
  rintro e w2 ⟨rfl, b2⟩
  go_wp2
  go_ret2
  exact ⟨rfl, b1.trans (b2.mono b1.size)⟩
set_option maxHeartbeats 2000000 in
theorem num_no (p : Bs) (hl : p.length ≤ 256) (h : numV p = none) (w : World) (hT : Tab w) : Calls Tryd.prog 34 #[.string (str p)] w fun e w' => e = .returned (numA none) ∧ Below w.heap.size w w' := by
  by_cases hv : ∃ v, Lib.atoiAll p = .ok v
  · obtain ⟨v, hv⟩ := hv
    have ha := atoi_ok p hl v hv
    have hbd := Lib.atoiAll_bounds hv
    by_cases hneg : v < 0
    · clear h hv
      go_enter Tryd.func34, Tryd.ntmps34
      go_wp2_with fail
      refine (ha _).mono ?_
      rintro e w1 ⟨rfl, b1⟩
      go_wp2
      go_ret2
      exact ⟨rfl, b1⟩
    · obtain ⟨n, rfl⟩ : ∃ n : Nat, v = n := ⟨v.toNat, by omega⟩
      have hne := num_none_atoi h hv (by omega)
      rw [itoa_dig (by omega), Int.toNat_natCast] at hne
      have hb := itoa_any n hbd.2
      have hls := list_ne hne
      clear h hv hne
      go_enter Tryd.func34, Tryd.ntmps34
      go_wp2_with fail
      refine (ha _).mono ?_
      rintro e w1 ⟨rfl, b1⟩
      go_wp2_with fail
      refine (hb _ (hT.pow.below b1)).mono ?_
      rintro e w2 ⟨rfl, b2⟩
      go_wp2
      go_ret2
      exact ⟨rfl, b1.trans (b2.mono b1.size)⟩
  · have ha := atoi_no p hl (fun v e => hv ⟨v, e⟩) w hT
    clear h hv
    go_enter Tryd.func34, Tryd.ntmps34
    go_wp2_with fail
    refine ha.mono ?_
    rintro e w1 ⟨⟨n, b, rfl⟩, b1⟩
    go_wp2
    go_ret2
    exact ⟨rfl, b1⟩
theorem num_any (p : Bs) (hl : p.length ≤ 256) (w : World) (hT : Tab w) : Calls Tryd.prog 34 #[.string (str p)] w fun e w' => e = .returned (numA (numV p)) ∧ Below w.heap.size w w' := by
  cases h : numV p with
  | none => exact num_no p hl h w hT
  | some n => exact num_yes p hl n h w hT
end Go.Proofs.YtokpcpmkilikaaaDoor
