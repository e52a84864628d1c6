/-
  Package tree: Move.
-/
import Derived.Test.YthkahbjcncbcfaaPgD
namespace Go.Proofs.Ythkahbjcncbcfaa
open Go.RowKit Tr

namespace Tr
theorem move_deep {l : List Ac} {n p : Nat} {a : Ac} (h : Wf l) (ha : l[n]? = some a) (hn : n ≠ 0) (hp : p < l.length) (hb : ¬ Blw l n p) {dn dp : Nat} (hdn : Dep l dn n) (hdp : Dep l dp p) :
    deepB (mvV l n p) = (belowV l n).any fun i => decide ((4 : Int) < (((depthV l i).getD 0 : Nat) : Int) + ((dp : Int) + 1 - dn)) := by
  have hup : up (mvV l n p) n = p := by rw [up_of (mv_at ha p)]; simp
  have hnn : Dep (mvV l n p) (dp + 1) n := ⟨hn, by rw [hup]; exact mv_off p hdp hb⟩
  have key : ∀ i, i < l.length → (4 < (depthV (mvV l n p) i).getD 0 ↔ Blw l n i ∧ (4 : Int) < (((depthV l i).getD 0 : Nat) : Int) + ((dp : Int) + 1 - dn)) := by
    intro i hi
    obtain ⟨d, d1, d2, d3⟩ := h.depth hi
    by_cases hbi : Blw l n i
    · obtain ⟨s, hs⟩ := hbi
      obtain ⟨h1, h2⟩ := bel_dep hs d3
      have := dep_uniq hdn h2
      have h3 := mv_on p hnn hs
      have h4 := depth_dep (mv_up_lt h ha hp) (by rw [mv_len]; exact hi) h3
      rw [h4, d1]
      simp only [Option.getD_some]
      refine ⟨fun h => ⟨⟨s, hs⟩, by omega⟩, fun h => by omega⟩
    · have h3 := mv_off p d3 hbi
      have h4 := depth_dep (mv_up_lt h ha hp) (by rw [mv_len]; exact hi) h3
      rw [h4]
      simp only [Option.getD_some]
      exact ⟨fun h => by omega, fun h => absurd h.1 hbi⟩
  rw [Bool.eq_iff_iff]
  unfold deepB
  rw [List.any_eq_true, List.any_eq_true]
  refine ⟨fun ⟨i, h1, h2⟩ => ?_, fun ⟨i, h1, h2⟩ => ?_⟩
  · rw [List.mem_range, mv_len] at h1
    obtain ⟨h3, h4⟩ := (key i h1).1 (by simpa using h2)
    exact ⟨i, (mem_below h).2 ⟨h1, h3⟩, by simpa using h4⟩
  · obtain ⟨h3, h4⟩ := (mem_below h).1 h1
    exact ⟨i, by rw [List.mem_range, mv_len]; exact h3, by simpa using (key i h3).2 ⟨h4, by simpa using h2⟩⟩
theorem kidB_move {l : List Ac} {n p q : Nat} {a : Ac} (ha : l[n]? = some a) (hq : a.pa = q) : hangK (dropK (kidB l) n q) n p = kidB (mvV l n p) := by
  funext i j
  unfold hangK dropK kidB
  by_cases e : j = n
  · subst e
    rw [mv_at ha]
    simp only [ha, Option.map_some, hq, beq_self_eq_true, Bool.or_true, Bool.not_true, Bool.and_false]
    by_cases h1 : i = p
    · simp [h1]
    · by_cases h2 : i = q
      · subst h2
        simp [h1]
        omega
      · simp [h1, h2]
        omega
  · rw [mv_other _ e]
    have : (j == n) = false := by simp [e]
    simp only [this, Bool.or_false, Bool.not_false, Bool.and_true]
    by_cases h1 : i = p
    · by_cases h2 : p = q
      · simp [h1, h2]
      · simp [h1, h2]
    · by_cases h2 : i = q
      · subst h2
        simp [h1]
      · simp [h1, h2]
end Tr
/-- 'delete', at a step of a region that draws. -/
theorem step_del {P : Program} {ops : Array Oper} {o : Oper} {a : Act} {w : World} {K : Act → World → Prop} {Q : Exit → Act → World → Prop} {E : Prop} (hgd : o.guard = none) (m x : Operand) (t k : TypeId)
    (ho : o.op = .call { callee := .builtin .delete, args := #[m, x], argTypes := #[t, k] }) (vm vx : Value) (hm : a.eval m = vm) (hx : a.eval x = vx) (R : World → Prop)
    (hrun : ∃ w', (Builtin.delete_ #[t, k] o.type #[vm, vx]).run P w = .ok (.tuple #[]) w' ∧ R w') (hK : ∀ w', R w' → K (a.put o.dst (.tuple #[])) w') :
    if Region.wanted o (yielded ops a.tmps) = true then Oper.wp P o a w K Q else E := by
  have hw : Region.wanted o (yielded ops a.tmps) = true := by simp [Region.wanted, hgd]
  rw [if_pos hw]
  obtain ⟨w', hr, h2⟩ := hrun
  unfold Oper.wp
  simp [execOp, ho, resolve, invoke, builtin, hm, hx, hr, Result.andThen]
  exact hK _ h2

set_option maxHeartbeats 4000000 in
set_option maxRecDepth 20000 in
theorem pmove_any {w : World} {t : Nat} {v : Value} {m : Nat} {kv : Value} {ks : List Nat} {l : List Ac} (h : PT w t v m kv ks l (kidB l)) (hw : Wf l) {nm pn : ByteArray} (hs : nm.size ≤ maxLen) (hp : pn.size ≤ maxLen) :
    Calls Try.prog 27 #[.pointer (some ⟨t, 0, none⟩), .string nm, .string pn] w fun e w' => e = .returned (.int .i64 (moveV l nm pn).1) ∧ Mod w w' t v m kv ks (moveV l nm pn).2 := by
  have hk := change_any h hs
  have hf := pfind_any h hp
  obtain ⟨⟨n, er⟩, hkv⟩ : ∃ p, knownV l nm = p := ⟨_, rfl⟩
  rw [hkv] at hk
  simp only at hk
  by_cases he : er = 0
  · subst he
    obtain ⟨hfn, hn0⟩ := known_some hkv
    obtain ⟨⟨a, ha, _⟩, _⟩ := find_some hfn
    have hnl := (List.getElem?_eq_some_iff.1 ha).1
    cases hfp : findV l pn with
    | none =>
      have hv : moveV l nm pn = (62, l) := by unfold moveV; rw [hkv]; simp [hfp]
      rw [hfp] at hf
      simp only [Option.getD_none, Option.isSome_none] at hf
      rw [hv]
      have H : Hid _ := h
      clear h
      go_enter Try.func27, Try.ntmps27
      go_wp2_with fail
      refine hk.mono ?_
      rintro e w1 ⟨rfl, rfl⟩
      go_wp2_with fail
      refine hf.mono ?_
      rintro e w1 ⟨rfl, rfl⟩
      go_wp2
      go_ret
      exact ⟨rfl, Mod.same H.out (Below.refl _ _)⟩
    | some p =>
      rw [hfp] at hf
      simp only [Option.getD_some, Option.isSome_some] at hf
      have hpl := find_lt hfp
      have hbl := pbelow_any h hw (n : Int)
      have hbz : belowZ l (n : Int) = belowV l n := by
        unfold belowZ
        rw [show thereB l (n : Int) = true by simp [thereB, hnl]]
        simp
      rw [hbz] at hbl
      have hb64 : (belowV l n).length ≤ 64 := len64 (lt_nodup (below_sorted l n)) (fun i hi => Nat.lt_of_lt_of_le ((mem_below hw).1 hi).1 hw.len)
      have hmv : moveV l nm pn = if belN l n l.length p then (67, l) else if deepB (mvV l n p) then (64, l) else (0, mvV l n p) := by unfold moveV; rw [hkv]; simp [hfp]
      have hbe : decide (p ∈ belowV l n) = belN l n l.length p := by
        rw [Bool.eq_iff_iff, decide_eq_true_iff]
        unfold belowV
        rw [List.mem_filter, List.mem_range]
        simp [hpl]
      obtain ⟨M, hM⟩ : ∃ M, moveV l nm pn = M := ⟨_, rfl⟩
      rw [hM] at hmv ⊢
      have HMV : Hid (M = if belN l n l.length p then (67, l) else if deepB (mvV l n p) then (64, l) else (0, mvV l n p)) := hmv
      clear hmv hkv hfn hM
      have H : Hid _ := h
      clear h
      go_enter Try.func27, Try.ntmps27
      go_wp2_with fail
      refine hk.mono ?_
      rintro e w1 ⟨rfl, rfl⟩
      go_wp2_with fail
      refine hf.mono ?_
      rintro e w1 ⟨rfl, rfl⟩
      go_wp2_with fail
      refine hbl.mono ?_
      rintro e w1 ⟨vb, rfl, hrow, hB1⟩
      have h1 := H.out.below hB1
      have hct := contains_any hrow hb64 p
      rw [hbe] at hct
      obtain ⟨ao, c, rfl, hn3, hs3⟩ := ints_src hrow
      go_wp2_with fail
      refine hct.mono ?_
      rintro e w2 ⟨rfl, rfl⟩
      cases hbp : belN l n l.length p with
      | true =>
        have HE : Hid (M = (67, l)) := show M = (67, l) by rw [HMV.out, hbp]; rfl
        clear h1 HMV
        go_wp2
        go_ret
        exact ⟨by rw [HE.out]; rfl, by rw [HE.out]; exact Mod.same H.out hB1⟩
      | false =>
        have hnb : ¬ Blw l n p := fun hh => by rw [(hw.bel n hpl).2 hh] at hbp; cases hbp
        obtain ⟨dn, dn1, dn2, dn3⟩ := hw.depth hnl
        obtain ⟨dp, dp1, dp2, dp3⟩ := hw.depth hpl
        have hdeep := move_deep hw ha hn0 hpl hnb dn3 dp3
        have hdep : ∀ i, i < l.length → Calls Try.prog 24 #[.pointer (some ⟨t, 0, none⟩), .int .i64 (i : Int)] w1 fun e w' => e = .returned (.int .i64 (((depthV l i).getD 0 : Nat) : Int)) ∧ w1 = w' := fun i hi => by
          have := pdepth_any h1 hw (i : Int)
          obtain ⟨d, d1, _⟩ := hw.depth hi
          have hz : depZ l (i : Int) = (((depthV l i).getD 0 : Nat) : Int) := by
            unfold depZ
            rw [show thereB l (i : Int) = true by simp [thereB, hi]]
            simp [d1, findI]
          rw [hz] at this
          exact this
        have hd1 := hdep p hpl
        have hd2 := hdep n hnl
        rw [dp1] at hd1
        rw [dn1] at hd2
        simp only [Option.getD_some] at hd1 hd2
        have H1 : Hid _ := h1
        have HDEP : Hid _ := hdep
        have HDEEP : Hid _ := hdeep
        have HSRC : Hid _ := hs3
        clear h1 hdep hdeep hs3 hn3 hk hf hbl hct
        have HMW : Hid (M = if deepB (mvV l n p) then (64, l) else (0, mvV l n p)) := show M = if deepB (mvV l n p) then (64, l) else (0, mvV l n p) by rw [HMV.out, hbp]; rfl
        clear HMV
        go_wp2_with fail
        refine hd1.mono ?_
        rintro e w2 ⟨rfl, rfl⟩
        go_wp2_with fail
        refine hd2.mono ?_
        rintro e w2 ⟨rfl, rfl⟩
        go_wp2_with fail
        obtain ⟨q, hq⟩ : ∃ q, (belowV l n).length = q := ⟨_, rfl⟩
        obtain ⟨F, hF⟩ : ∃ F : Nat → Bool, F = fun i => decide ((4 : Int) < (((depthV l i).getD 0 : Nat) : Int) + ((dp : Int) + 1 - dn)) := ⟨_, rfl⟩
        have hsrc : ∀ k x : Nat, (belowV l n)[k]? = some x → ∃ g, ao = some ⟨g, 0, none⟩ ∧ w1.cell? ⟨g, k, none⟩ = some (.int .i64 (x : Int)) := by
          intro k x hx
          rcases hrow.2 with ⟨_, h0⟩ | ⟨g, cap, cur, hv, r⟩
          · have := (List.getElem?_eq_some_iff.1 hx).1
            omega
          · simp at hv
            obtain ⟨rfl, _⟩ := hv
            have := HSRC.out _ rfl k (.int .i64 (x : Int)) (by simp [ints, hx])
            have ha : (⟨g, 0, none⟩ : Addr).add k = ⟨g, k, none⟩ := by unfold Addr.add; split <;> simp_all
            rw [ha] at this
            exact ⟨g, rfl, this⟩
        rw [hq] at hb64
        rw [hq]
        have HQ : Hid (deepB (mvV l n p) = (belowV l n).any F) := show deepB (mvV l n p) = (belowV l n).any F by rw [hF]; exact HDEEP.out
        have HSR : Hid _ := hsrc
        have HR : Hid _ := hrow
        clear hsrc HSRC HDEEP hrow
        go_loopg [48] q (fun gk pv wr => ∃ j : Nat, j + gk = q ∧ pv = .int .i64 j ∧ w1 = wr ∧ (belowV l n).any F = ((belowV l n).drop j).any F)
        case atStart => exact ⟨0, by omega, rfl, rfl, by simp⟩
        case round =>
          obtain ⟨j, hj, rfl, rfl, hinv⟩ := hrel
          by_cases hlt : j < q
          · have hlt' : (j : Int) < q := by omega
            obtain ⟨x, hx⟩ : ∃ x, (belowV l n)[j]? = some x := ⟨_, List.getElem?_eq_getElem (by omega)⟩
            obtain ⟨g, rfl, hc⟩ := HSR.out j x hx
            have hxl := ((mem_below hw).1 (List.mem_of_getElem? hx)).1
            have hcall := HDEP.out x hxl
            obtain ⟨dx, dx1, dx2, dx3⟩ := hw.depth hxl
            have hdrop : ((belowV l n).drop j).any F = (F x || ((belowV l n).drop (j + 1)).any F) := by
              obtain ⟨hj', rfl⟩ := List.getElem?_eq_some_iff.1 hx
              rw [List.drop_eq_getElem_cons hj', List.any_cons]
            rw [hdrop] at hinv
            have hFx : F x = decide ((4 : Int) < (dx : Int) + ((dp : Int) + 1 - dn)) := by rw [hF]; simp [dx1]
            rw [dx1] at hcall
            simp only [Option.getD_some] at hcall
            rw [hFx] at hinv
            have HINV : Hid _ := hinv
            clear hinv hdrop hFx HDEP HSR hx
            go_wp2_with fail
            refine hcall.mono ?_
            rintro e w2 ⟨rfl, rfl⟩
            by_cases hbig : (4 : Int) < (dx : Int) + ((dp : Int) + 1 - dn)
            · have hdt : deepB (mvV l n p) = true := by rw [HQ.out, HINV.out]; simp [hbig]
              have HE : Hid (M = (64, l)) := show M = (64, l) by rw [HMW.out, hdt]; rfl
              clear hdt HMW HQ HINV
              go_wp2
              go_ret
              exact ⟨by rw [HE.out]; rfl, by rw [HE.out]; exact Mod.same H.out hB1⟩
            · have HJ : Hid ((belowV l n).any F = ((belowV l n).drop (j + 1)).any F) := show (belowV l n).any F = ((belowV l n).drop (j + 1)).any F by rw [HINV.out]; simp [hbig]
              go_wp2
              go_roundg (q - (j + 1))
              case measure => omega
              case rel => exact ⟨j + 1, by omega, rfl, rfl, HJ.out⟩
          · obtain rfl : j = q := by omega
            have hno : deepB (mvV l n p) = false := by rw [HQ.out, hinv, List.drop_of_length_le (by omega)]; rfl
            have HE : Hid (M = (0, mvV l n p)) := show M = (0, mvV l n p) by rw [HMW.out, hno]; rfl
            clear hno HMW HQ
            obtain ⟨p0, p1⟩ := hw.paok n a ha (by omega)
            obtain ⟨pq, hpq⟩ : ∃ pq : Nat, a.pa = pq := ⟨a.pa.toNat, by omega⟩
            rw [hpq] at p1
            obtain ⟨k, hk⟩ : ∃ k, ks[pq]? = some k := ⟨_, List.getElem?_eq_getElem (by rw [H1.out.klen]; omega)⟩
            obtain ⟨ao', c', rfl, c0, _, c2, _⟩ := H1.out.cells
            obtain ⟨g, c'', hv, ⟨d0, d1, d2, d3, d4⟩, _⟩ := H1.out.acell ha
            cases hv
            obtain ⟨kg, kc, rfl, e0, _⟩ := H1.out.kcell hk
            rw [hpq] at d1
            have hdrop := fun ty => (H1.out.kept (W' := w1.drew) (fun _ _ => rfl)).dropped (n := n) hk (by have := hw.len; omega) ty
            have hn' : (n : Int) < l.length := by omega
            have HDR : Hid _ := hdrop
            clear hinv HSR HDEP hdrop
            go_upto_region 17 with fail
            go_cut [] (fun wc => PT wc t (.slice (some ⟨g, 0, none⟩) l.length c') m (.slice (some ⟨kg, 0, none⟩) l.length kc) ks l (dropK (kidB l) n pq) ∧ Chg (PK t (.slice (some ⟨g, 0, none⟩) l.length c') m (.slice (some ⟨kg, 0, none⟩) l.length kc) ks) w1.drew wc)
            case first =>
              go_region_law (refine step_del rfl (.tmp 72) (.tmp 73) 72 3 rfl (.map (some k)) (.int .i64 (n : Int)) (by simp [Act.eval]) (by simp [Act.eval]) _ (HDR.out _) ?_; rintro wd ⟨z1, z2⟩)
              all_goals (go_wp2; go_meet)
              all_goals exact ⟨z1, z2⟩
            case rest =>
              obtain ⟨h2, ch2⟩ := hcut
              have hhang := hang_any h2 (n := n) (p := p) hw.len hnl hpl (fun i hi => by
                have := hw.len
                unfold dropK at hi
                split at hi
                · simp at hi
                  have := kidB_lt hi.1
                  omega
                · have := kidB_lt hi
                  omega)
              rw [kidB_move ha hpq] at hhang
              clear h2
              go_wp2_with fail
              refine hhang.mono ?_
              rintro e w3 ⟨rfl, h3, ch3⟩
              have c13 := ((Chg.of_below hB1 _).drew.trans ch2 (fun _ _ h => h)).trans ch3 (fun _ _ h => h)
              have HM : Hid _ := Mod.here h3 c13
              clear h3 ch3 ch2
              go_wp2
              go_ret
              exact ⟨by rw [HE.out]; rfl, by rw [HE.out]; exact HM.out⟩
  · have hv : moveV l nm pn = (er, l) := by
      unfold moveV
      rw [hkv]
      split
      · rename_i heq
        cases heq
        exact absurd rfl he
      · rename_i heq
        cases heq
        rfl
    rw [hv]
    have H : Hid _ := h
    clear h
    go_enter Try.func27, Try.ntmps27
    go_wp2_with fail
    refine hk.mono ?_
    rintro e w1 ⟨rfl, rfl⟩
    go_wp2
    go_ret
    exact ⟨rfl, Mod.same H.out (Below.refl _ _)⟩
end Go.Proofs.Ythkahbjcncbcfaa
