/-
  LAYER 12: New of both.
-/
import Derived.Test.YtegpamoglifojaaDoorLgF
namespace Go.Proofs.YtegpamoglifojaaDoor
open Go.RowKit Wd Ld Cg Lg

/-- The factor of a config. -/
def facZ (c : Cf) : Int := (halfN (expV c.period c.half) : Nat)
theorem fac_word (c : Cf) : Word (facZ c) := half_word _
theorem chk_rng {c : Cf} (h : chkZ c = 0) : Rng c := by
  by_cases r : Rng c
  · exact r
  · unfold chkZ at h
    rw [if_pos r] at h
    omega
theorem not_bad {c : Cf} (r : Rng c) : ¬ BadF c.period c.half := by
  obtain ⟨_, _, _, _, _, _, _, _, _, _, _, _, _, _, _, _⟩ := r
  unfold BadF
  omega
theorem new_bad {c : Cf} (h : ¬ chkZ c = 0) (ao : Option Addr) (m cp : Nat) (w : World) :
    Calls Tryd.prog 9 #[cfV c, .slice ao m cp] w fun e w' => e = .returned (.tuple #[.pointer none, .int .i64 (chkZ c)]) ∧ Below w.heap.size w w' := by
  have c1 := pcheck_any c
  have hn : (chkZ c != 0) = true := by simp [h]
  generalize chkZ c = q at *
  unfold cfV at *
  have hS := St.new w c
  go_enter Tryd.func9, Tryd.ntmps9
  go_wp2_with fail
  refine (c1 _).mono ?_
  rintro e w1 ⟨rfl, b1⟩
  replace hS := keepW hS b1
  clear b1
  go_wp2
  go_ret2
  exact ⟨rfl, hS.bel⟩
theorem rnew_bad {c : Cf} (h : ¬ chkZ c = 0) (ao : Option Addr) (m cp : Nat) (w : World) :
    Calls Tryd.prog 10 #[cfV c, .slice ao m cp] w fun e w' => e = .returned (.tuple #[.pointer none, .int .i64 (chkZ c)]) ∧ Below w.heap.size w w' := by
  have c1 := rcheck_any c
  have hn : (chkZ c != 0) = true := by simp [h]
  generalize chkZ c = q at *
  unfold cfV at *
  have hS := St.new w c
  go_enter Tryd.func10, Tryd.ntmps10
  go_wp2_with fail
  refine (c1 _).mono ?_
  rintro e w1 ⟨rfl, b1⟩
  replace hS := keepW hS b1
  clear b1
  go_wp2
  go_ret2
  exact ⟨rfl, hS.bel⟩
theorem new_many {c : Cf} (h : chkZ c = 0) {m : Nat} (hm : 64 < m) (ao : Option Addr) (cp : Nat) (w : World) :
    Calls Tryd.prog 9 #[cfV c, .slice ao m cp] w fun e w' => e = .returned (.tuple #[.pointer none, .int .i64 1]) ∧ Below w.heap.size w w' := by
  have c1 := pcheck_any c
  rw [h] at c1
  have hm' : (64 : Int) < m := by omega
  unfold cfV at *
  have hS := St.new w c
  go_enter Tryd.func9, Tryd.ntmps9
  go_wp2_with fail
  refine (c1 _).mono ?_
  rintro e w1 ⟨rfl, b1⟩
  replace hS := keepW hS b1
  clear b1
  go_wp2
  go_ret2
  exact ⟨rfl, hS.bel⟩
theorem rnew_many {c : Cf} (h : chkZ c = 0) {m : Nat} (hm : 64 < m) (ao : Option Addr) (cp : Nat) (w : World) :
    Calls Tryd.prog 10 #[cfV c, .slice ao m cp] w fun e w' => e = .returned (.tuple #[.pointer none, .int .i64 1]) ∧ Below w.heap.size w w' := by
  have c1 := rcheck_any c
  rw [h] at c1
  have hm' : (64 : Int) < m := by omega
  unfold cfV at *
  have hS := St.new w c
  go_enter Tryd.func10, Tryd.ntmps10
  go_wp2_with fail
  refine (c1 _).mono ?_
  rintro e w1 ⟨rfl, b1⟩
  replace hS := keepW hS b1
  clear b1
  go_wp2
  go_ret2
  exact ⟨rfl, hS.bel⟩
set_option maxRecDepth 20000 in
set_option maxHeartbeats 1000000 in
theorem new_led {c : Cf} (h : chkZ c = 0) {ao : Option Addr} {l : List Int} {cp : Nat} {w : World} (hT : Tab w) (hA : WdsAt w ao l) (hw : Wds l) (hn : ao = none → l.length = 0 ∧ cp = 0) (hm : l.length ≤ 64) :
    Calls Tryd.prog 9 #[cfV c, .slice ao l.length cp] w fun e w' => ∃ d v, e = .returned (.tuple #[.pointer (some ⟨d, 0, none⟩), .int .i64 0]) ∧ Led c.nodes (facZ c) w.heap.size w' d v l ∧ Below w.heap.size w w' := by
  have c1 := pcheck_any c
  rw [h] at c1
  have r := chk_rng h
  have hf := fun w hT => factor_good (not_bad r) w hT
  have hfz : ((halfN (expV c.period c.half) : Nat) : Int) = facZ c := rfl
  rw [hfz] at hf
  have HN : Hid (ao = none → l.length = 0 ∧ cp = 0) := hn
  have HW : Hid (Wds l) := hw
  have hm' : ¬ (64 : Int) < l.length := by omega
  generalize facZ c = F at *
  unfold cfV at *
  have hS := St.new w c
  clear hn hw
  go_enter Tryd.func9, Tryd.ntmps9
  go_wp2_with fail
  refine (c1 _).mono ?_
  rintro e w1 ⟨rfl, b1⟩
  replace hS := keepW hS b1
  clear b1
  obtain ⟨s0, s1, s2, s3, s4, s5, s6, s7, _, _⟩ := id hS
  go_wp2_with fail
  refine (hf _ (Tab.below hS.bel hT)).mono ?_
  rintro e w2 ⟨rfl, b2⟩
  replace hS := keepW hS b2
  clear b2 s0 s1 s2 s3 s4 s5 s6 s7
  go_wp2_with fail
  have hS2 := keepW hS (drew_below w2)
  have hc := sclone_any (c := cp) (hA.below hS2.bel) HN.out (by omega)
  have S0 : Hid _ := hS2
  clear hS hS2
  go_region_held3 (fun w' => w'.cell? ⟨w.heap.size, 0, none⟩ = some (.int .i64 c.nodes)) (first | exact (id S0.out).1 | exact (id S1).1 | exact allocC _ (id S1).1)
    (first
    | (go_at_call 31; refine hc.mono ?_; rintro e w3 ⟨v3, rfl, r3, b3⟩; obtain ⟨ao3, c3, e3⟩ := sl_shape r3; subst e3; have S1 := keepW S0.out b3))
  all_goals
    go_wp2
    go_ret2
    have hfr := Lg1.fresh (w := w) (T := 50) (hd := pH c.nodes F) HW.out (by omega) (own_base r3 (St.bel S0.out).size) (St.bel S1)
    exact ⟨_, _, rfl, hfr.1, hfr.2⟩
theorem Lg1.filled {T : TypeId} {hd : Value → Array Value} {B q : Nat} {w5 : World} {d : Nat} {v0 v' : Value} {l : List Int} (hT : T ≠ 28) (hset : (hd v0).setIfInBounds q v' = hd v') (hw : Wds l) (hf : l.length ≤ 1000000)
    (z : w5.heap[d]? = some (.cells (hd v0) T (0, 0))) (hrow : w5.ownsRow B 28 1 v' l.length (u64s l)) (hB : B ≤ d) : Lg1 T hd B (w5.setCell ⟨d, q, none⟩ v') d v' l := by
  have hdv' : ¬ v'.ownBlock = some d := fun e => by
    obtain ⟨cs, hcs⟩ := own_tag hrow d e
    rw [z] at hcs
    cases hcs
    exact hT rfl
  refine ⟨?_, row_same hrow (fun k hk => Below.heap_setCell _ _ _ _ (fun e => hdv' (by rw [hk, e]))), hB, hw, hf⟩
  have := heap_setCell_same w5 d q _ T v' z
  rw [hset] at this
  exact this
set_option maxRecDepth 20000 in
set_option maxHeartbeats 1000000 in
theorem rnew_led {c : Cf} (h : chkZ c = 0) {ao : Option Addr} {l : List Int} {cp : Nat} {w : World} (hA : WdsAt w ao l) (hw : Wds l) (hn : ao = none → l.length = 0 ∧ cp = 0) (hm : l.length ≤ 64) :
    Calls Tryd.prog 10 #[cfV c, .slice ao l.length cp] w fun e w' => ∃ d v, e = .returned (.tuple #[.pointer (some ⟨d, 0, none⟩), .int .i64 0]) ∧ RLed c (facZ c) w.heap.size w' d v l ∧ Below w.heap.size w w' := by
  have c1 := rcheck_any c
  rw [h] at c1
  have r := chk_rng h
  have hf := fun w => rfactor_good (not_bad r) w
  have hfz : ((halfN (expV c.period c.half) : Nat) : Int) = facZ c := rfl
  rw [hfz] at hf
  obtain ⟨i0, hi0, hz0, hz1, hz2⟩ := info_parts Tryd.inf28
  have HN : Hid (ao = none → l.length = 0 ∧ cp = 0) := hn
  have HW : Hid (Wds l) := hw
  obtain ⟨q, hq⟩ : ∃ q, l.length = q := ⟨_, rfl⟩
  have HFL : Hid ((u64s l).length = q * 1) := show (u64s l).length = q * 1 by rw [u64s_len]; omega
  have HQ : Hid (l.length = q) := hq
  rw [hq] at HN hm ⊢
  have hm' : ¬ (64 : Int) < q := by omega
  generalize facZ c = F at *
  unfold cfV at *
  have hS := St.new w c
  clear hn hw hq
  go_enter Tryd.func10, Tryd.ntmps10
  go_wp2_with fail
  refine (c1 _).mono ?_
  rintro e w1 ⟨rfl, b1⟩
  replace hS := keepW hS b1
  clear b1
  obtain ⟨s0, s1, s2, s3, s4, s5, s6, s7, _, _⟩ := id hS
  go_wp2_with fail
  refine (hf _).mono ?_
  rintro e w2 ⟨rfl, b2⟩
  replace hS := keepW hS b2
  clear b2 s0 s1 s2 s3 s4 s5 s6 s7
  obtain ⟨s0, s1, s2, s3, s4, s5, s6, s7, bS, _⟩ := id hS
  have b3 : Below w.heap.size w (w2.alloc (.cells (rH c F (.slice none 0 0)) 73)) := bS.alloc bS.size _
  have g3 : (w2.alloc (.cells (rH c F (.slice none 0 0)) 73)).heap[w2.heap.size]? = some (.cells (rH c F (.slice none 0 0)) 73 (0, 0)) := heap_alloc_new _ _
  have hcell := (hA.below b3).cells
  have HC : Hid _ := hcell
  have HB : Hid (Below w.heap.size w (w2.alloc (.cells (rH c F (.slice none 0 0)) 73))) := b3
  have HG : Hid _ := g3
  have hbs := bS.size
  clear hcell b3 g3 bS hS hA
  unfold rH at HC
  go_wp2_with (at_builtin; refine wpList_append_any rfl (.tmp 34) (.tmp 35) 24 rfl w.heap.size 28 i0 _ 1 8 Tryd.underlying24 hi0 hz0 hz1 hz2 rfl (by decide) (.slice none 0 0) 0 [] rfl (World.ownsRow_nil _ _ _ _) ao q cp (u64s l) rfl HN.out HFL.out HC.out (u64s_one l) ?_ ?_ ?_ ?_; exact (Nat.le_trans (m := 35184372088832) (by omega) (by decide)); omega; (simp; omega); intro v' w5 hown hgr; have z := (hgr.block _ (by simp) (by simp [Value.ownBlock])).trans HG.out; have z0 := cells_at (k := 9) z rfl; have z1 := frozen_at (k := 9) z; obtain ⟨ao5, c5, e5⟩ := sl_shape hown; subst e5)
  go_ret2
  rw [Nat.zero_add, List.nil_append, ← HQ.out] at hown
  have bf : Below w.heap.size w w5 := Below.grown HB.out hgr (by simp; omega) (fun k e => by simp [Value.ownBlock] at e)
  refine ⟨w2.heap.size, .slice ao5 q c5, rfl, ?_, bf.setCell (p := ⟨w2.heap.size, 9, none⟩) hbs _⟩
  rw [← HQ.out]
  exact Lg1.filled (hd := rH c F) (by decide) rfl HW.out (by rw [HQ.out]; omega) z hown hbs
end Go.Proofs.YtegpamoglifojaaDoor
