/-
  Layer 6's reference: Move.
-/
import Derived.Test.YthkahbjcncbcfaaRfH
namespace Go.Proofs.Ythkahbjcncbcfaa
open Go.RowKit Tr

/-- Numbers that lie in memory. -/
theorem ints_row {w : World} {B : Nat} {v : Value} {xs : List Nat} (h : w.ownsRow B 3 1 v xs.length (ints xs)) : ∃ ao c g, v = .slice ao xs.length c ∧ (0 < xs.length → ao = some ⟨g, 0, none⟩) ∧ ∀ (k x : Nat), xs[k]? = some x → w.cell? ⟨g, k, none⟩ = some (.int .i64 (x : Int)) := by
  rcases h.2 with ⟨rfl, h0⟩ | ⟨g, cap, cur, rfl, hb, hg, h1, h2, h3, h4⟩
  · exact ⟨none, 0, 0, by rw [h0], fun h => by omega, fun k x hx => by have := (List.getElem?_eq_some_iff.1 hx).1; omega⟩
  · refine ⟨_, _, g, rfl, fun _ => rfl, fun k x hx => cells_at hg ?_⟩
    have hk := (List.getElem?_eq_some_iff.1 hx).1
    have e : (ints xs)[k]? = some (.int .i64 (x : Int)) := by simp [ints, hx]
    rw [← h4, List.getElem?_take_of_lt (by omega), Array.getElem?_toList] at e
    exact e
theorem mv_set {l : List Ac} {n : Nat} {a : Ac} (ha : l[n]? = some a) (p : Int) : mvV l n p = l.set n { a with pa := p } := by unfold mvV; rw [ha]
theorem mv_pa {l : List Ac} (hp : PaOk l) {n p : Nat} {a : Ac} (ha : l[n]? = some a) (hpl : p < l.length) : PaOk (mvV l n p) := fun k b hb hk => by
  rw [mv_len]
  by_cases e : k = n
  · subst e
    rw [mv_at ha] at hb
    cases hb
    simp only
    omega
  · rw [mv_other _ e] at hb
    exact hp k b hb hk
def deepAt (l : List Ac) (i : Nat) : Bool := decide (4 < (depthV l i).getD 0)
theorem deep_some {l : List Ac} {i : Nat} : (4 : Int) < findI (depthV l i) ↔ deepAt l i = true := by
  unfold deepAt
  cases depthV l i with
  | none => simp [findI]
  | some d => simp [findI]; omega

set_option maxRecDepth 20000 in
set_option maxHeartbeats 4000000 in
set_option maxRecDepth 20000 in
theorem rmove_any {B : Nat} {w : World} {d : Nat} {v : Value} {l : List Ac} (hT : RefO B w d v l) (hn : l.length * 48 ≤ 140737488355328) (hp : PaOk l) (hds : Deps l) (nm pn : ByteArray) :
    Calls Try.prog 39 #[.pointer (some ⟨d, 0, none⟩), .string nm, .string pn] w fun e w' => e = .returned (.int .i64 (moveV l nm pn).1) ∧ RefO B w' d v (moveV l nm pn).2 ∧ Chg (RefK d v) w w' := by
  have hk := known_any hT.ref hn nm
  obtain ⟨⟨n, er⟩, hkv⟩ : ∃ p, knownV l nm = p := ⟨_, rfl⟩
  rw [hkv] at hk
  simp only at hk
  by_cases he : er = 0
  · subst he
    obtain ⟨hf, hn0⟩ := known_some hkv
    obtain ⟨⟨a, ha, _⟩, _⟩ := find_some hf
    have hnl := (List.getElem?_eq_some_iff.1 ha).1
    obtain ⟨g, c, rfl, _, _⟩ := hT.cells ha
    have c0 := hT.cell
    have HF : ∀ (s : ByteArray) (W : World), Below w.heap.size w W → Hid (Calls Try.prog 60 #[.slice (some ⟨g, 0, none⟩) l.length c, .string s] W fun e w' => e = .returned (.int .i64 (findI (findV l s))) ∧ Below W.heap.size W w') := fun s W hb => by
      obtain ⟨ao, c', hv, hac, _⟩ := acs_row (hT.below hb).row
      cases hv
      exact find_any hac hn s
    cases hfp : findV l pn with
    | none =>
      have hv : moveV l nm pn = (62, l) := by unfold moveV; rw [hkv]; simp [hfp]
      rw [hv]
      go_enter Try.func39, Try.ntmps39
      go_wp2_with fail
      refine hk.mono ?_
      rintro e w1 ⟨rfl, b1⟩
      have c1 := cellB b1 c0
      go_wp2_with fail
      refine (HF pn w1 b1).out.mono ?_
      rw [hfp]
      rintro e w2 ⟨rfl, b2⟩
      simp only [findI]
      go_wp2
      go_ret
      exact ⟨rfl, hT.below (b1.trans (b2.mono b1.size)), Chg.of_below (b1.trans (b2.mono b1.size)) _⟩
    | some p =>
      have hpl := find_lt hfp
      have p0 : ¬ (p : Int) < 0 := by omega
      have hBZ : belowZ l (n : Int) = belowV l n := by unfold belowZ; rw [if_pos (by simp [thereB]; omega)]; simp
      have hmem : ∀ x, x ∈ belowV l n ↔ x < l.length ∧ belN l n l.length x = true := fun x => by unfold belowV; rw [List.mem_filter, List.mem_range]
      obtain ⟨X, hX⟩ : ∃ X, belowV l n = X := ⟨_, rfl⟩
      have hXl : X.length ≤ l.length := by rw [← hX]; exact filter_len _ _
      rw [hX] at hBZ hmem
      have HBL : ∀ (W : World), Below w.heap.size w W → Hid (Calls Try.prog 46 #[.pointer (some ⟨d, 0, none⟩), .int .i64 n] W fun e w' => ∃ v, e = .returned v ∧ w'.ownsRow W.heap.size 3 1 v X.length (ints X) ∧ Below W.heap.size W w') := fun W hb => by
        have := rbelow_any (hT.below hb).ref hn hp hds (n : Int)
        rw [hBZ] at this
        exact this
      go_enter Try.func39, Try.ntmps39
      go_wp2_with fail
      refine hk.mono ?_
      rintro e w1 ⟨rfl, b1⟩
      have c1 := cellB b1 c0
      go_wp2_with fail
      refine (HF pn w1 b1).out.mono ?_
      rw [hfp]
      rintro e w2 ⟨rfl, b2⟩
      simp only [findI]
      have b02 := b1.trans (b2.mono b1.size)
      have c2 := cellB b02 c0
      go_wp2_with fail
      refine (HBL w2 b02).out.mono ?_
      rintro e w3 ⟨vx, rfl, hrow, b3⟩
      have b03 := b02.trans (b3.mono b02.size)
      obtain ⟨ax, cx, gx, rfl, hax, hcx⟩ := ints_row hrow
      have c3 := cellB b03 c0
      obtain ⟨q, hq⟩ : ∃ q, X.length = q := ⟨_, rfl⟩
      rw [hq] at hax hXl ⊢
      go_wp2_with fail
      go_loopg [35] q (fun gk pv wr => ∃ j : Nat, j + gk = q ∧ pv = .int .i64 j ∧ w3 = wr ∧ ∀ i x, i < j → X[i]? = some x → x ≠ p)
      case atStart => exact ⟨0, by omega, rfl, rfl, fun i x hi => by omega⟩
      case round =>
        obtain ⟨j, hj, rfl, rfl, hinv⟩ := hrel
        by_cases hlt : j < q
        · have hlt' : (j : Int) < q := by omega
          obtain ⟨x, hx⟩ : ∃ x, X[j]? = some x := ⟨_, List.getElem?_eq_getElem (by omega)⟩
          obtain rfl := hax (by omega)
          have dx := hcx j x hx
          by_cases e : x = p
          · have hv : moveV l nm pn = (67, l) := by
              have hb : belN l n l.length p = true := ((hmem p).1 (e ▸ List.mem_of_getElem? hx)).2
              unfold moveV
              rw [hkv]
              simp [hfp, hb]
            subst e
            have HV : Hid (moveV l nm pn = (67, l)) := hv
            clear hv hinv hcx
            go_wp2
            go_ret
            exact ⟨by rw [HV.out]; rfl, by rw [HV.out]; exact hT.below b03, Chg.of_below b03 _⟩
          · have e' : ¬ (x : Int) = p := by omega
            have HI : Hid (∀ i y, i < j + 1 → X[i]? = some y → y ≠ p) := fun i y hi hy => by
              by_cases hij : i = j
              · subst hij
                rw [hx] at hy
                cases hy
                exact e
              · exact hinv i y (by omega) hy
            clear hinv hcx
            go_wp2
            go_roundg (q - (j + 1))
            case measure => omega
            case rel => exact ⟨j + 1, by omega, rfl, rfl, HI.out⟩
        · obtain rfl : j = q := by omega
          have hbf : belN l n l.length p = false := by
            cases hb : belN l n l.length p with
            | false => rfl
            | true =>
              obtain ⟨i, hi⟩ := List.mem_iff_getElem?.1 ((hmem p).2 ⟨hpl, hb⟩)
              exact absurd rfl (hinv i p (by have := (List.getElem?_eq_some_iff.1 hi).1; omega) hi)
          have hT3 := hT.below b03
          obtain ⟨g', c', hv', hac, hfr⟩ := hT3.cells ha
          cases hv'
          obtain ⟨d0, d1, d2, d3, d4⟩ := hac
          obtain ⟨hS, hC⟩ := hT3.set (g := g) rfl (flatA_pa l n a p ha) (by simp)
          rw [← mv_set ha] at hS
          have hz3 := hT3.cell
          have hgd : g ≠ d := fun e => by
            have h1 := hT3.blk
            obtain ⟨_, cs, hcs⟩ := row_block hT3.row (k := g) rfl
            rw [e] at hcs
            rw [hcs] at h1
            cases h1
          have hnl' : (n : Int) < l.length := by omega
          have hpo := mv_pa hp ha hpl
          have HS : Hid (RefO B (w3.setCell ⟨g, n * 5 + 1, none⟩ (.int .i64 p)) d (.slice (some ⟨g, 0, none⟩) l.length c) (mvV l n p)) := hS
          have HC : Hid _ := hC
          have hml : (mvV l n p).length = l.length := mv_len _
          clear hS hC hT3 hcx hinv hax hrow
          go_upto_region 15 with fail
          obtain ⟨w4, hw4⟩ : ∃ w4, w3.setCell ⟨g, n * 5 + 1, none⟩ (.int .i64 p) = w4 := ⟨_, rfl⟩
          rw [hw4] at HS HC ⊢
          have c4 := HS.out.cell
          have C4 : Hid (Chg (RefK d (.slice (some ⟨g, 0, none⟩) l.length c)) w w4) := (Chg.of_below b03 _).trans HC.out (fun _ _ h => h)
          clear HC hw4 d0 d1 d2 d3 d4 c1 c2 c3 hz3
          obtain ⟨Q, hQ⟩ : ∃ Q, l.length = Q := ⟨_, rfl⟩
          have HDP : ∀ (i : Nat) (W : World), i < Q → Below w4.heap.size w4 W → Hid (Calls Try.prog 53 #[.slice (some ⟨g, 0, none⟩) Q c, .int .i64 i] W fun e w' => e = .returned (.int .i64 (findI (depthV (mvV l n p) i))) ∧ Below W.heap.size W w') := fun i W hi hb => by
            obtain ⟨ao, c', hv, hac, _⟩ := acs_row (HS.out.below hb).row
            rw [hml] at hv
            cases hv
            have := depth_any (c := c) hac (by rw [hml]; exact hn) hpo (n := i) (by rw [hml, hQ]; exact hi)
            rw [hml, hQ] at this
            exact this
          have HS' : Hid (RefO B w4 d (.slice (some ⟨g, 0, none⟩) Q c) (mvV l n p)) := by rw [← hQ]; exact HS
          rw [hQ] at c4 hn hnl' ⊢
          go_wp2_with fail
          go_loopg [64] Q (fun gk pv wr => ∃ j : Nat, j + gk = Q ∧ pv = .int .i64 j ∧ Below w4.heap.size w4 wr ∧ ∀ i, i < j → deepAt (mvV l n p) i = false)
          case atStart => exact ⟨0, by omega, rfl, Below.refl _ _, fun i hi => by omega⟩
          case round =>
            clear c4
            obtain ⟨i, hj2, rfl, hb, hdi⟩ := hrel
            have hTr := HS'.out.below hb
            have cr := hTr.cell
            by_cases hlt2 : i < Q
            · have hlt2' : (i : Int) < Q := by omega
              go_wp2_with fail
              refine (HDP i wr hlt2 hb).out.mono ?_
              rintro e w5 ⟨rfl, b5⟩
              have hT5 := hTr.below b5
              have c5 := hT5.cell
              have B5 := hb.trans (b5.mono hb.size)
              cases hda : deepAt (mvV l n p) i with
              | true =>
                have hd4 : (4 : Int) < findI (depthV (mvV l n p) i) := deep_some.2 hda
                have hv : moveV l nm pn = (64, l) := by
                  have : deepB (mvV l n p) = true := by
                    unfold deepB
                    rw [List.any_eq_true]
                    exact ⟨i, List.mem_range.2 (by rw [hml, hQ]; exact hlt2), hda⟩
                  unfold moveV
                  rw [hkv]
                  simp [hfp, hbf, this]
                obtain ⟨g', c', hv', hac, hfr⟩ := hT5.cells (mv_at ha (p : Int))
                cases hv'
                obtain ⟨d0, d1, d2, d3, d4⟩ := hac
                obtain ⟨hS5, hC5⟩ := hT5.set (g := g) (l' := l) rfl (by rw [flatA_pa _ n _ a.pa (mv_at ha (p : Int)), ← mv_set (mv_at ha (p : Int)), mv_back ha]) (by rw [hml])
                have HV : Hid (moveV l nm pn = (64, l)) := hv
                have HS5 : Hid _ := hS5
                have HC5 : Hid _ := hC5
                have HML : Hid _ := hml
                clear hv hdi hS5 hC5 hT5 hTr hml
                go_wp2
                go_ret
                have hml := HML.out
                rw [HV.out]
                refine ⟨rfl, ?_, ?_⟩
                · have := HS5.out
                  rwa [hml] at this
                · have := HC5.out
                  rw [hml] at this
                  exact (C4.out.trans (Chg.of_below B5 _) (fun _ _ h => h)).trans this (fun _ _ h => h)
              | false =>
                have hd4 : ¬ (4 : Int) < findI (depthV (mvV l n p) i) := fun h => by rw [deep_some.1 h] at hda; cases hda
                have HD : Hid (∀ i', i' < i + 1 → deepAt (mvV l n p) i' = false) := fun i' hi' => by
                  by_cases e : i' = i
                  · subst e; exact hda
                  · exact hdi i' (by omega)
                clear hdi hT5 hTr
                go_wp2
                go_roundg (Q - (i + 1))
                case measure => omega
                case rel => exact ⟨i + 1, by omega, rfl, B5, HD.out⟩
            · obtain rfl : i = Q := by omega
              have hv : moveV l nm pn = (0, mvV l n p) := by
                have : deepB (mvV l n p) = false := by
                  unfold deepB
                  rw [List.any_eq_false]
                  intro x hx
                  have := hdi x (by have := List.mem_range.1 hx; rw [hml, hQ] at this; exact this)
                  unfold deepAt at this
                  simpa using this
                unfold moveV
                rw [hkv]
                simp [hfp, hbf, this]
              have HV : Hid _ := hv
              clear hv hdi
              go_wp2
              go_ret
              rw [HV.out]
              exact ⟨rfl, by rw [hQ]; exact hTr, C4.out.trans (Chg.of_below hb _) (fun _ _ h => h)⟩
  · have hv : moveV l nm pn = (er, l) := by
      unfold moveV
      rw [hkv]
      split
      · rename_i heq
        cases heq
        exact absurd rfl he
      · rename_i heq
        cases heq
        rfl
    rw [hv]
    go_enter Try.func39, Try.ntmps39
    go_wp2_with fail
    refine hk.mono ?_
    rintro e w1 ⟨rfl, b1⟩
    go_wp2
    go_ret
    exact ⟨rfl, hT.below b1, Chg.of_below b1 _⟩
end Go.Proofs.Ythkahbjcncbcfaa
