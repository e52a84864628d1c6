/-
  Layer 6's reference: Close, Add.
-/
import Derived.Test.YthkahbjcncbcfaaRfG
namespace Go.Proofs.Ythkahbjcncbcfaa
open Go.RowKit Tr

theorem findI_some (k : Nat) : findI (some k) = (k : Int) := rfl
theorem new_cells (w : World) (l : List Value) (t : TypeId) : ∀ j u, l[j]? = some u → (w.alloc (.cells l.toArray t)).cell? ((⟨w.heap.size, 0, none⟩ : Addr).add j) = some u := by
  intro j u hu
  have ha : (⟨w.heap.size, 0, none⟩ : Addr).add j = ⟨w.heap.size, j, none⟩ := by unfold Addr.add; split <;> simp_all
  rw [ha]
  unfold World.cell?
  rw [heap_alloc_new]
  simpa using hu
theorem row_block {W : World} {B e sz n : Nat} {v : Value} {us : List Value} (h : W.ownsRow B e sz v n us) {k : Nat} (hk : v.ownBlock = some k) : B ≤ k ∧ ∃ cs, W.heap[k]? = some (.cells cs e (0, 0)) := by
  rcases h.2 with ⟨rfl, _⟩ | ⟨g, cap, cur, rfl, hb, hg, _⟩
  · simp [Value.ownBlock] at hk
  · simp [Value.ownBlock] at hk
    subst hk
    exact ⟨hb, cur, hg⟩
theorem row_succ {W : World} {B e sz n : Nat} {v : Value} {us : List Value} (h : W.ownsRow B e sz v (n + 1) us) : ∃ g cap, v = .slice (some ⟨g, 0, none⟩) (n + 1) cap := by
  rcases h.2 with ⟨_, h0⟩ | ⟨g, cap, cur, rfl, _⟩
  · omega
  · exact ⟨g, cap, rfl⟩
theorem row_same {W W' : World} {B e sz n : Nat} {v : Value} {us : List Value} (h : W.ownsRow B e sz v n us) (hg : ∀ k, v.ownBlock = some k → W'.heap[k]? = W.heap[k]?) : W'.ownsRow B e sz v n us := by
  refine ⟨h.1, ?_⟩
  rcases h.2 with h0 | ⟨g, cap, cur, rfl, hb, hgg, r⟩
  · exact .inl h0
  · exact .inr ⟨g, cap, cur, rfl, hb, (hg g rfl).trans hgg, r⟩
/-- One more is appended. -/
theorem RefO.app {B : Nat} {W W' : World} {d : Nat} {v v' : Value} {l : List Ac} {a : Ac} {o : Obj} (h : RefO B W d v l) (hrow : W'.ownsRow B 39 5 v' (l.length + 1) (flatA l ++ flatA [a])) (hg : (W.alloc o).grownBy W' v.ownBlock) :
    RefO B (W'.setCell ⟨d, 0, none⟩ v') d v' (l ++ [a]) ∧ Chg (RefK d v) W (W'.setCell ⟨d, 0, none⟩ v') ∧ W'.cell? ⟨d, 0, none⟩ = some v ∧ W'.frozen? ⟨d, 0, none⟩ = false := by
  have hd := (Array.getElem?_eq_some_iff.1 h.blk).1
  have keep : ∀ k, k < W.heap.size → v.ownBlock ≠ some k → W'.heap[k]? = W.heap[k]? := fun k hk hne => (hg.block k (by rw [World.size_alloc]; omega) (fun e => hne e.symm)).trans (Below.heap_alloc _ _ _ hk)
  have g1 : W'.heap[d]? = some (.cells #[v] 69 (0, 0)) := (keep d hd (fun e => by
    obtain ⟨_, cs, hcs⟩ := row_block h.row e
    have := h.blk
    rw [hcs] at this; cases this)).trans h.blk
  have g2 := heap_setCell_same W' d 0 _ 69 v' g1
  refine ⟨⟨g2, ?_, h.lo⟩, ?_, cells_at g1 rfl, frozen_at g1⟩
  · rw [List.length_append, flatA_app]
    refine row_same hrow (fun k hk => Below.heap_setCell _ _ _ _ (fun e => ?_))
    obtain ⟨_, cs, hcs⟩ := row_block hrow hk
    simp at e
    subst e
    rw [hcs] at g1; cases g1
  · have hz := hg.size
    rw [World.size_alloc] at hz
    have c1 : Chg (RefK d v) W W' := ⟨hg.os, hg.tape, hg.output, by omega, fun k hk hK => keep k hk (fun e => hK (.inr e))⟩
    exact c1.setCell _ _ (.inl (.inl rfl))

set_option maxHeartbeats 2000000 in
set_option maxRecDepth 20000 in
theorem rclose_any {B : Nat} {w : World} {d : Nat} {v : Value} {l : List Ac} (hT : RefO B w d v l) (hn : l.length * 48 ≤ 140737488355328) (s : ByteArray) :
    Calls Try.prog 41 #[.pointer (some ⟨d, 0, none⟩), .string s] w fun e w' => e = .returned (.int .i64 (closeV l s).1) ∧ RefO B w' d v (closeV l s).2 ∧ Chg (RefK d v) w w' := by
  have hk := known_any hT.ref hn s
  obtain ⟨⟨n, er⟩, hkv⟩ : ∃ p, knownV l s = p := ⟨_, rfl⟩
  rw [hkv] at hk
  simp only at hk
  by_cases he : er = 0
  · subst he
    obtain ⟨hf, hn0⟩ := known_some hkv
    obtain ⟨⟨a, ha, _⟩, _⟩ := find_some hf
    have hnl := (List.getElem?_eq_some_iff.1 ha).1
    have hv : closeV l s = (0, l.set n { a with cl := true }) := by unfold closeV; rw [hkv]; simp [ha]
    rw [hv]
    go_enter Try.func41, Try.ntmps41
    go_wp2_with fail
    refine hk.mono ?_
    rintro e w1 ⟨rfl, b1⟩
    have hT1 := hT.below b1
    obtain ⟨g, c, rfl, hac, hfr⟩ := hT1.cells ha
    have c0 := hT1.cell
    obtain ⟨d0, d1, d2, d3, d4⟩ := hac
    have hS := hT1.set (g := g) rfl (flatA_cl l n a true ha) (by simp)
    have hnl' : (n : Int) < l.length := by omega
    have HS : Hid _ := hS
    clear hS hT1
    go_wp2
    go_ret
    exact ⟨rfl, HS.out.1, (Chg.of_below b1 _).trans HS.out.2 (fun _ _ h => h)⟩
  · have hv : closeV l s = (er, l) := by
      unfold closeV
      rw [hkv]
      split
      · rename_i heq
        cases heq
        exact absurd rfl he
      · rename_i heq
        cases heq
        rfl
    rw [hv]
    go_enter Try.func41, Try.ntmps41
    go_wp2_with fail
    refine hk.mono ?_
    rintro e w1 ⟨rfl, b1⟩
    go_wp2
    go_ret
    exact ⟨rfl, hT.below b1, Chg.of_below b1 _⟩

set_option maxHeartbeats 4000000 in
set_option maxRecDepth 20000 in
theorem radd_any {B : Nat} {w : World} {d : Nat} {v : Value} {l : List Ac} (hT : RefO B w d v l) (hn : l.length * 48 + 48 ≤ 140737488355328) (hp : PaOk l) (hBw : B ≤ w.heap.size) (nm pn : ByteArray) (sh : Int) :
    Calls Try.prog 36 #[.pointer (some ⟨d, 0, none⟩), .string nm, .string pn, .int .i64 sh] w fun e w' => e = .returned (.tuple #[.int .i64 (addV l nm pn sh).1, .int .i64 (addV l nm pn sh).2.1]) ∧ ∃ v', RefO B w' d v' (addV l nm pn sh).2.2 ∧ Chg (RefK d v) w w' ∧ (v'.ownBlock = v.ownBlock ∨ ∃ k, w.heap.size ≤ k ∧ v'.ownBlock = some k) := by
  obtain ⟨ao, c, rfl, hac, hnil⟩ := acs_row hT.row
  have c0 := hT.cell
  have HF : ∀ (s : ByteArray) (W : World), Below w.heap.size w W → Hid (Calls Try.prog 60 #[.slice ao l.length c, .string s] W fun e w' => e = .returned (.int .i64 (findI (findV l s))) ∧ Below W.heap.size W w') := fun s W hb => find_any (hac.below hb) (by omega) s
  have HDP : ∀ (p : Nat) (W : World), p < l.length → Below w.heap.size w W → Hid (Calls Try.prog 53 #[.slice ao l.length c, .int .i64 p] W fun e w' => e = .returned (.int .i64 (findI (depthV l p))) ∧ Below W.heap.size W w') := fun p W hpl hb => depth_any (hac.below hb) (by omega) hp hpl
  cases hnm : okName nm with
  | false =>
    have hv : addV l nm pn sh = (0, 60, l) := by unfold addV; simp [hnm]
    rw [hv]
    go_enter Try.func36, Try.ntmps36
    go_wp2_with fail
    refine (HF pn w (Below.refl _ _)).out.mono ?_
    rintro e w1 ⟨rfl, b1⟩
    have c1 := cellB b1 c0
    go_wp2_with fail
    refine (name_any nm w1).mono ?_
    rintro e w2 ⟨rfl, b2⟩
    have b02 := b1.trans (b2.mono b1.size)
    have c2 := cellB b02 c0
    rw [hnm]
    go_wp2
    go_ret2
    exact ⟨rfl, .slice ao l.length c, hT.below b02, Chg.of_below b02 _, .inl rfl⟩
  | true =>
    cases hfn : findV l nm with
    | some k =>
      have hv : addV l nm pn sh = (0, 61, l) := by unfold addV; simp [hnm, hfn]
      rw [hv]
      have k0 : (0 : Int) ≤ k := by omega
      go_enter Try.func36, Try.ntmps36
      go_wp2_with fail
      refine (HF pn w (Below.refl _ _)).out.mono ?_
      rintro e w1 ⟨rfl, b1⟩
      have c1 := cellB b1 c0
      go_wp2_with fail
      refine (name_any nm w1).mono ?_
      rintro e w2 ⟨rfl, b2⟩
      have b02 := b1.trans (b2.mono b1.size)
      have c2 := cellB b02 c0
      rw [hnm]
      go_wp2_with fail
      refine (HF nm w2 b02).out.mono ?_
      rintro e w3 ⟨rfl, b3⟩
      have b03 := b02.trans (b3.mono b02.size)
      have c3 := cellB b03 c0
      rw [hfn, findI_some]
      go_wp2
      go_ret2
      exact ⟨rfl, .slice ao l.length c, hT.below b03, Chg.of_below b03 _, .inl rfl⟩
    | none =>
      cases hfp : findV l pn with
      | none =>
        have hv : addV l nm pn sh = (0, 62, l) := by unfold addV; simp [hnm, hfn, hfp]
        rw [hv]
        go_enter Try.func36, Try.ntmps36
        go_wp2_with fail
        refine (HF pn w (Below.refl _ _)).out.mono ?_
        rw [hfp]
        rintro e w1 ⟨rfl, b1⟩
        have c1 := cellB b1 c0
        go_wp2_with fail
        refine (name_any nm w1).mono ?_
        rintro e w2 ⟨rfl, b2⟩
        have b02 := b1.trans (b2.mono b1.size)
        have c2 := cellB b02 c0
        rw [hnm]
        go_wp2_with fail
        refine (HF nm w2 b02).out.mono ?_
        rintro e w3 ⟨rfl, b3⟩
        have b03 := b02.trans (b3.mono b02.size)
        have c3 := cellB b03 c0
        rw [hfn]
        simp only [findI]
        go_wp2
        go_ret2
        exact ⟨rfl, .slice ao l.length c, hT.below b03, Chg.of_below b03 _, .inl rfl⟩
      | some p =>
        have hpl := find_lt hfp
        have p0 : ¬ (p : Int) < 0 := by omega
        cases hsh : okSh sh with
        | false =>
          have hv : addV l nm pn sh = (0, 63, l) := by unfold addV; simp [hnm, hfn, hfp, hsh]
          rw [hv]
          by_cases s1 : sh < 1
          · skip
            go_enter Try.func36, Try.ntmps36
            go_wp2_with fail
            refine (HF pn w (Below.refl _ _)).out.mono ?_
            rw [hfp]
            rintro e w1 ⟨rfl, b1⟩
            have c1 := cellB b1 c0
            go_wp2_with fail
            refine (name_any nm w1).mono ?_
            rintro e w2 ⟨rfl, b2⟩
            have b02 := b1.trans (b2.mono b1.size)
            have c2 := cellB b02 c0
            rw [hnm]
            go_wp2_with fail
            refine (HF nm w2 b02).out.mono ?_
            rintro e w3 ⟨rfl, b3⟩
            have b03 := b02.trans (b3.mono b02.size)
            have c3 := cellB b03 c0
            rw [hfn]
            simp only [findI]
            go_wp2
            go_ret2
            exact ⟨rfl, .slice ao l.length c, hT.below b03, Chg.of_below b03 _, .inl rfl⟩
          · have s2 : 4096 < sh := by
              simp [okSh] at hsh
              omega
            go_enter Try.func36, Try.ntmps36
            go_wp2_with fail
            refine (HF pn w (Below.refl _ _)).out.mono ?_
            rw [hfp]
            rintro e w1 ⟨rfl, b1⟩
            have c1 := cellB b1 c0
            go_wp2_with fail
            refine (name_any nm w1).mono ?_
            rintro e w2 ⟨rfl, b2⟩
            have b02 := b1.trans (b2.mono b1.size)
            have c2 := cellB b02 c0
            rw [hnm]
            go_wp2_with fail
            refine (HF nm w2 b02).out.mono ?_
            rintro e w3 ⟨rfl, b3⟩
            have b03 := b02.trans (b3.mono b02.size)
            have c3 := cellB b03 c0
            rw [hfn]
            simp only [findI]
            go_wp2
            go_ret2
            exact ⟨rfl, .slice ao l.length c, hT.below b03, Chg.of_below b03 _, .inl rfl⟩
        | true =>
          obtain ⟨s1, s2⟩ : 1 ≤ sh ∧ sh ≤ 4096 := by simpa [okSh] using hsh
          obtain ⟨D, hD⟩ : ∃ D, depthV l p = D := ⟨_, rfl⟩
          have HD4 := HDP p
          rw [hD] at HD4
          by_cases h4 : 4 ≤ D.getD 0
          · have hv : addV l nm pn sh = (0, 64, l) := by unfold addV; simp [hnm, hfn, hfp, hsh, hD, h4]
            rw [hv]
            obtain ⟨D', rfl⟩ : ∃ D', D = some D' := by
              cases D with
              | none => simp at h4
              | some D' => exact ⟨D', rfl⟩
            simp only [Option.getD_some] at h4
            have h4' : (4 : Int) ≤ D' := by omega
            go_enter Try.func36, Try.ntmps36
            go_wp2_with fail
            refine (HF pn w (Below.refl _ _)).out.mono ?_
            rw [hfp]
            rintro e w1 ⟨rfl, b1⟩
            have c1 := cellB b1 c0
            go_wp2_with fail
            refine (name_any nm w1).mono ?_
            rintro e w2 ⟨rfl, b2⟩
            have b02 := b1.trans (b2.mono b1.size)
            have c2 := cellB b02 c0
            rw [hnm]
            go_wp2_with fail
            refine (HF nm w2 b02).out.mono ?_
            rintro e w3 ⟨rfl, b3⟩
            have b03 := b02.trans (b3.mono b02.size)
            have c3 := cellB b03 c0
            rw [hfn]
            simp only [findI]
            go_wp2_with fail
            refine (HD4 w3 hpl b03).out.mono ?_
            rintro e w4 ⟨rfl, b4⟩
            have b04 := b03.trans (b4.mono b03.size)
            have c4 := cellB b04 c0
            simp only [findI]
            go_wp2
            go_ret2
            exact ⟨rfl, .slice ao l.length c, hT.below b04, Chg.of_below b04 _, .inl rfl⟩
          · have hd4 : ¬ (4 : Int) ≤ findI D := by
              cases D with
              | none => simp [findI]
              | some D' => simp at h4; simp only [findI]; omega
            by_cases h64 : 64 ≤ l.length
            · have hv : addV l nm pn sh = (0, 65, l) := by
                unfold addV
                simp only [hnm, hfn, hfp, hsh, hD]
                simp [h4, h64]
              rw [hv]
              have h64' : (64 : Int) ≤ l.length := by omega
              go_enter Try.func36, Try.ntmps36
              go_wp2_with fail
              refine (HF pn w (Below.refl _ _)).out.mono ?_
              rw [hfp]
              rintro e w1 ⟨rfl, b1⟩
              have c1 := cellB b1 c0
              go_wp2_with fail
              refine (name_any nm w1).mono ?_
              rintro e w2 ⟨rfl, b2⟩
              have b02 := b1.trans (b2.mono b1.size)
              have c2 := cellB b02 c0
              rw [hnm]
              go_wp2_with fail
              refine (HF nm w2 b02).out.mono ?_
              rintro e w3 ⟨rfl, b3⟩
              have b03 := b02.trans (b3.mono b02.size)
              have c3 := cellB b03 c0
              rw [hfn]
              simp only [findI]
              go_wp2_with fail
              refine (HD4 w3 hpl b03).out.mono ?_
              rintro e w4 ⟨rfl, b4⟩
              have b04 := b03.trans (b4.mono b03.size)
              have c4 := cellB b04 c0
              go_wp2
              go_ret2
              exact ⟨rfl, .slice ao l.length c, hT.below b04, Chg.of_below b04 _, .inl rfl⟩
            · have hv : addV l nm pn sh = ((l.length : Int), 0, l ++ [⟨nm, p, sh, false, 0⟩]) := by
                unfold addV
                simp only [hnm, hfn, hfp, hsh, hD]
                simp [h4, h64]
              rw [hv]
              have h64' : ¬ (64 : Int) ≤ l.length := by omega
              obtain ⟨i0, hi0, hz0, hz1, hz2⟩ := info_parts Try.inf39
              go_enter Try.func36, Try.ntmps36
              go_wp2_with fail
              refine (HF pn w (Below.refl _ _)).out.mono ?_
              rw [hfp]
              rintro e w1 ⟨rfl, b1⟩
              have c1 := cellB b1 c0
              go_wp2_with fail
              refine (name_any nm w1).mono ?_
              rintro e w2 ⟨rfl, b2⟩
              have b02 := b1.trans (b2.mono b1.size)
              have c2 := cellB b02 c0
              rw [hnm]
              go_wp2_with fail
              refine (HF nm w2 b02).out.mono ?_
              rintro e w3 ⟨rfl, b3⟩
              have b03 := b02.trans (b3.mono b02.size)
              have c3 := cellB b03 c0
              rw [hfn]
              simp only [findI]
              go_wp2_with fail
              refine (HD4 w3 hpl b03).out.mono ?_
              rintro e w4 ⟨rfl, b4⟩
              have b04 := b03.trans (b4.mono b03.size)
              have c4 := cellB b04 c0
              have hT4 := hT.below b04
              have hB4 : B ≤ w4.heap.size := Nat.le_trans hBw b04.size
              have HT4 : Hid _ := hT4
              have hr4 := hT4.row
              clear hT4
              go_upto_region 14 with fail
              go_wp2_with (at_builtin; refine wpList_append_own_at _ rfl (.tmp 58) (.tmp 63) 36 rfl B 39 i0 _ 5 48 Try.underlying36 hi0 hz0 hz1 hz2 rfl (by decide) (.slice ao l.length c) l.length (flatA l) rfl (hr4.alloc _) ⟨_, 0, none⟩ 1 1 [.string nm, .int .i64 p, .int .i64 sh, .bool false, .int .u64 0] rfl rfl (new_cells _ _ _) (fun u hu => by simp at hu; rcases hu with rfl | rfl | rfl | rfl | rfl <;> rfl) ?_ ?_ ?_ ?_; exact (Nat.le_trans (m := 35184372088832) (by omega) (by decide)); omega; (simp; omega); intro v' w5 hown hgr _ hat; obtain ⟨g', cap', rfl⟩ := row_succ hown; obtain ⟨T5, C5, x0, x1⟩ := RefO.app (a := ⟨nm, p, sh, false, 0⟩) HT4.out hown hgr)
              go_ret2
              refine ⟨by simp, _, T5, (Chg.of_below b04 _).trans C5 (fun _ _ h => h), ?_⟩
              rcases hat with h | h
              · exact .inl h
              · exact .inr ⟨_, by rw [World.size_alloc]; have := b04.size; omega, h⟩
end Go.Proofs.Ythkahbjcncbcfaa
