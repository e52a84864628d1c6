/-
  Package tree: Load.
-/
import Derived.Test.YtioldijdmefljaaGreatDoorLdX
namespace Go.Proofs.YtioldijdmefljaaGreatDoor
open Go.RowKit Tr

/-- What Load answers. -/
def LoadP (w : World) (l : List Ac) (e : Ending) (w' : World) : Prop :=
  (loadE l = 0 → ∃ t, e = .returned (.tuple #[.pointer (some ⟨t, 0, none⟩), .int .i64 0]) ∧ Tree (fun j => w.heap.size ≤ j) w' t (l.map plainAc) (kidB (l.map plainAc))) ∧ (loadE l ≠ 0 → e = .returned (.tuple #[.pointer none, .int .i64 (loadE l)])) ∧ Below w.heap.size w w'
theorem LoadP.no {w w' : World} {l : List Ac} {k : Int} (h : loadE l = k) (hk : k ≠ 0) (b : Below w.heap.size w w') : LoadP w l (.returned (.tuple #[.pointer none, .int .i64 k])) w' :=
  ⟨fun e => absurd (h.symm.trans e) hk, fun _ => by rw [h], b⟩
theorem kidB_none : kidB [rootAc] = fun _ _ => false := by
  funext i j
  exact kidB_root i j

namespace Tr
theorem take_plain {l : List Ac} {i : Nat} {a : Ac} (h : l[i]? = some a) : (l.take (i + 1)).map plainAc = (l.take i).map plainAc ++ [plainAc a] := by
  rw [List.take_add_one, h]
  simp
def kidN (l : List Ac) (n : Nat) : Nat → Nat → Bool := fun i j => decide (0 < j ∧ j < n) && kidB l i j
theorem kidN_start (l : List Ac) : kidN l 1 = fun _ _ => false := by
  funext i j
  unfold kidN
  have : ¬ (0 < j ∧ j < 1) := by omega
  rw [decide_eq_false this]
  rfl
theorem kidN_step {l : List Ac} {n p : Nat} {a : Ac} (hn : 0 < n) (ha : l[n]? = some a) (hp : a.pa = p) : hangK (kidN l n) n p = kidN l (n + 1) := by
  funext i j
  unfold hangK kidN
  by_cases e : j = n
  · subst e
    have h1 : decide (0 < j ∧ j < j) = false := by simp
    have h2 : decide (0 < j ∧ j < j + 1) = true := by simp [hn]
    rw [h1, h2]
    unfold kidB
    rw [ha]
    simp only [Bool.false_and, beq_self_eq_true, Bool.or_true, Option.map_some, hp, Bool.true_and]
    by_cases h3 : i = p
    · simp [h3]
    · simp [h3]
      omega
  · have h1 : (j == n) = false := by simp [e]
    have h2 : decide (0 < j ∧ j < n + 1) = decide (0 < j ∧ j < n) := by
      congr 1
      simp only [eq_iff_iff]
      omega
    rw [h1, h2]
    split
    · rename_i h3
      rw [h3]
      simp
    · rfl
set_option maxRecDepth 20000 in
theorem kidN_end {l : List Ac} {n : Nat} (hn : l.length ≤ n) (h0 : ∀ a, l[0]? = some a → a.pa < 0) : kidN l n = kidB l := by
  funext i j
  unfold kidN
  cases hk : kidB l i j with
  | false => simp
  | true =>
    have hj := kidB_lt hk
    have : 0 < j := by
      by_cases e : j = 0
      · subst e
        obtain ⟨a, ha, hp⟩ := mem_kids.1 (kidB_iff.1 hk)
        have := h0 a ha
        omega
      · omega
    simp [this]
    omega
end Tr

set_option maxHeartbeats 8000000 in
set_option maxRecDepth 20000 in
theorem pload_any {w : World} {ao : Option Addr} {l : List Ac} {c : Nat} (hA : AcsAt w ao l) (hs : ∀ a ∈ l, a.nm.size ≤ maxLen) (hn : l.length * 48 ≤ 140737488355328) (hc : l.length ≤ c) :
    Calls Tryz.prog 37 #[.slice ao l.length c] w (LoadP w l) := by
  cases hl0 : l[0]? with
  | none =>
    have hl : l = [] := by
      cases l with
      | nil => rfl
      | cons a l => simp at hl0
    subst hl
    simp only [List.length_nil]
    have HE : Hid (loadE [] = 66) := show loadE [] = 66 from rfl
    clear hA hs hl0
    go_enter Tryz.func37, Tryz.ntmps37
    go_wp2
    go_ret2
    exact LoadP.no HE.out (by decide) (Below.refl _ _)
  | some a0 =>
    obtain ⟨g, o, hg, hcl⟩ := hA
    have hpos : 0 < l.length := (List.getElem?_eq_some_iff.1 hl0).1
    obtain rfl := hg hpos
    obtain ⟨Q, hQ⟩ : ∃ Q, l.length = Q := ⟨_, rfl⟩
    have HQ : Hid (l.length = Q) := hQ
    rw [hQ] at hpos hn hc ⊢
    have hz : ((Q : Int) == 0) = false := by simp; omega
    obtain ⟨d0, d1, d2, d3, d4⟩ := hcl 0 a0 hl0
    simp only [Nat.zero_mul, Nat.add_zero] at d0 d1 d2 d3 d4
    have hir := isRoot_any a0 w
    simp only [acV] at hir
    cases hr : isRoot a0 with
    | false =>
      rw [hr] at hir
      have HE : Hid (loadE l = 66) := show loadE l = 66 by unfold loadE; rw [hl0]; simp [hr]
      clear hcl hg hl0 hr hs hQ
      go_enter Tryz.func37, Tryz.ntmps37
      go_wp2_with fail
      refine hir.mono ?_
      rintro e w1 ⟨rfl, b1⟩
      go_wp2
      go_ret2
      exact LoadP.no HE.out (by decide) b1
    | true =>
      rw [hr] at hir
      by_cases h64 : 64 < Q
      · have h64' : (64 : Int) < Q := by omega
        have HE : Hid (loadE l = 65) := show loadE l = 65 by unfold loadE; rw [hl0]; simp [hr, HQ.out, h64]
        clear hcl hg hl0 hr hs h64 hQ
        go_enter Tryz.func37, Tryz.ntmps37
        go_wp2_with fail
        refine hir.mono ?_
        rintro e w1 ⟨rfl, b1⟩
        go_wp2
        go_ret2
        exact LoadP.no HE.out (by decide) b1
      · have h64' : ¬ (64 : Int) < Q := by omega
        have hE : loadE l = if rowsE l Q 1 ≠ 0 then rowsE l Q 1 else deepE l Q 1 := by unfold loadE; rw [hl0, HQ.out]; simp [hr, h64]
        have hra : plainAc a0 = rootAc := by
          simp [isRoot] at hr
          obtain ⟨⟨⟨r1, r2⟩, r3⟩, r4⟩ := hr
          unfold plainAc rootAc
          rw [r1, r2, r3, r4]
        have HE : Hid _ := hE
        have HCL : Hid _ := hcl
        clear hE hcl hg hQ
        go_enter Tryz.func37, Tryz.ntmps37
        go_wp2_with fail
        refine hir.mono ?_
        rintro e w1 ⟨rfl, b1⟩
        have hnw := tnew w1
        go_wp2_with fail
        refine hnw.mono ?_
        rintro e w2 ⟨t, rfl, t2, b2⟩
        have b12 := b1.trans (b2.mono b1.size)
        rw [kidB_none] at t2
        have T2 : Hid (Tree (fun j => w.heap.size ≤ j) w2 t [rootAc] (fun _ _ => false)) := t2.mono (fun j _ hj => Nat.le_trans b1.size hj)
        clear t2 hnw hir
        go_upto_region 6 with fail
        obtain ⟨q, hq⟩ : ∃ q, Q = q + 1 := ⟨Q - 1, by omega⟩
        have HQ1 : Hid (Q = q + 1) := hq
        go_cut [26, 27, 28] (fun p26 p27 p28 wc => ∃ oo cc, p26 = .slice (some ⟨g, oo, none⟩) q cc ∧ p27 = .int .i64 (q : Int) ∧ p28 = .int .i64 0 ∧ w2 = wc ∧ (0 < q → oo = o + 5))
        case first =>
          have hq1 : Q - 1 = q := by omega
          clear hq
          by_cases hc1 : c = 1
          · subst hc1
            obtain rfl : Q = 1 := by omega
            obtain rfl : q = 0 := by omega
            go_wp2
            go_meet
            exact ⟨_, _, rfl, rfl, rfl, rfl, fun h => by omega⟩
          · have hc2 : ¬ c ≤ 1 := by omega
            go_wp2
            all_goals go_meet
            all_goals exact ⟨_, _, rfl, rfl, rfl, rfl, fun _ => rfl⟩
        case rest =>
          obtain ⟨oo, cc, rfl, rfl, rfl, rfl, hoo⟩ := hcut
          have HOO : Hid _ := hoo
          have hQ64 : Q ≤ 64 := by omega
          have hq63 : q < 64 := by omega
          clear hoo hq h64
          go_wp2_with fail
          go_loopg [28] q (fun gk p wr => ∃ j : Nat, j + gk = q ∧ p = .int .i64 j ∧ Tree (fun j => w.heap.size ≤ j) wr t ((l.take (j + 1)).map plainAc) (fun _ _ => false) ∧ Below w.heap.size w wr ∧ rowsE l Q 1 = rowsE l (gk + 1) (j + 1) ∧ ∀ i a, 0 < i → i ≤ j → l[i]? = some a → rowE l i a = 0)
          case atStart =>
            refine ⟨0, by omega, rfl, ?_, b12, by rw [HQ1.out], fun i a h1 h2 => by omega⟩
            have : (l.take (0 + 1)).map plainAc = [rootAc] := by rw [take_plain hl0, hra]; rfl
            rw [this]
            exact T2.out
          case round =>
            obtain ⟨j, hj, rfl, tr, hb, hro, hok⟩ := hrel
            by_cases hlt : j < q
            · have hlt' : (j : Int) < q := by omega
              obtain ⟨a, ha⟩ : ∃ a, l[j + 1]? = some a := ⟨_, List.getElem?_eq_getElem (by rw [HQ.out, HQ1.out]; omega)⟩
              have hac := HCL.out (j + 1) a ha
              rw [show o + (j + 1) * 5 = oo + j * 5 by rw [HOO.out (by omega)]; omega] at hac
              obtain ⟨x0, x1, x2, x3, x4⟩ : AcAt wr g (oo + j * 5) a := by
                have k : ∀ {x : Addr} {u : Value}, w.cell? x = some u → wr.cell? x = some u := fun hx => (hb.cell (World.block_lt_of_cell? w _ hx)).trans hx
                exact ⟨k hac.nm, k hac.pa, k hac.sh, k hac.cl, k hac.us⟩
              rw [rows_at ha] at hro
              obtain ⟨wb, hwb⟩ : ∃ wb, wr.alloc (.cells #[.string a.nm, .int .i64 a.pa, .int .i64 a.sh, .bool a.cl, .int .u64 a.us] 32) = wb := ⟨_, rfl⟩
              have bb : Below wr.heap.size wr wb := by rw [← hwb]; exact (Below.refl _ wr).alloc (Nat.le_refl _) _
              have yb : wb.heap[wr.heap.size]? = some (.cells #[.string a.nm, .int .i64 a.pa, .int .i64 a.sh, .bool a.cl, .int .u64 a.us] 32 (0, 0)) := by rw [← hwb]; exact heap_alloc_new wr _
              have tb := tr.below bb
              have bw := hb.trans (bb.mono hb.size)
              have hnm := hs a (List.mem_of_getElem? ha)
              have hrf := trefuses tb hnm (decide (0 ≤ a.pa) && decide (a.pa < (Q : Int))) a.sh
              have hre := rowE_ref ha
              rw [HQ.out] at hre
              rw [← hre] at hrf
              have TB : Hid (Tree (fun j => w.heap.size ≤ j) wb t ((l.take (j + 1)).map plainAc) (fun _ _ => false)) := tb
              have BW : Hid _ := bw
              have HWB : Hid _ := hwb
              have HRO : Hid _ := hro
              have HOK : Hid _ := hok
              obtain ⟨⟨y0, y1, y2, y3, y4⟩, _⟩ := cells5 yb
              clear tr hb hac hro hok bb tb bw hwb hre hl0
              go_upto_region 9 with fail
              rw [HWB.out]
              go_cut [7] (fun v wc => v = .bool (decide (0 ≤ a.pa) && decide (a.pa < (Q : Int))) ∧ wb = wc)
              case first =>
                by_cases p0 : 0 ≤ a.pa
                · by_cases p1 : a.pa < (Q : Int)
                  · go_wp2
                    go_meet
                    exact ⟨by simp [p0, p1], rfl⟩
                  · go_wp2
                    go_meet
                    exact ⟨by simp; omega, rfl⟩
                · go_wp2
                  go_meet
                  exact ⟨by simp; omega, rfl⟩
              case rest =>
                obtain ⟨rfl, rfl⟩ := hcut
                by_cases he : rowE l (j + 1) a = 0
                · obtain ⟨k1, k2, k3, k4⟩ := rowE_no ha he
                  have hly := tlay TB.out a hnm k2 (by rw [List.length_map, List.length_take]; omega) (fun _ => rfl)
                  rw [← take_plain ha] at hly
                  simp only [acV] at hly
                  rw [he] at hrf
                  have HR2 : Hid (rowsE l Q 1 = rowsE l gk (j + 2)) := show rowsE l Q 1 = rowsE l gk (j + 2) by rw [HRO.out]; simp [he]
                  have HO2 : Hid (∀ i a, 0 < i → i ≤ j + 1 → l[i]? = some a → rowE l i a = 0) := fun i b h1 h2 hb => by
                    by_cases e : i = j + 1
                    · subst e
                      rw [ha] at hb
                      cases hb
                      exact he
                    · exact HOK.out i b h1 (by omega) hb
                  clear HRO HOK k1 k2 k3 k4
                  go_wp2_with fail
                  refine hrf.mono ?_
                  rintro e wx ⟨rfl, rfl⟩
                  go_wp2_with fail
                  refine hly.mono ?_
                  rintro e wy ⟨rfl, ty, cy⟩
                  have TY : Hid (Tree (fun j => w.heap.size ≤ j) wy t ((l.take (j + 1 + 1)).map plainAc) (fun _ _ => false)) := Tree.ext ty BW.out.size
                  have BY : Hid _ := BW.out.trans (cy.lo BW.out.size)
                  clear ty cy hrf hly
                  go_wp2
                  go_roundg (q - (j + 1))
                  case measure => omega
                  case rel =>
                    refine ⟨j + 1, by omega, rfl, TY.out, BY.out, ?_, HO2.out⟩
                    rw [HR2.out, show q - (j + 1) + 1 = gk by omega]
                · have HEE : Hid (loadE l = rowE l (j + 1) a) := show loadE l = rowE l (j + 1) a by
                    rw [HE.out, HRO.out]
                    simp [he]
                  obtain ⟨er, her⟩ : ∃ er, rowE l (j + 1) a = er := ⟨_, rfl⟩
                  rw [her] at hrf he HEE
                  have he' : (er == 0) = false := by simp [he]
                  clear HRO HOK her HE
                  go_wp2_with fail
                  refine hrf.mono ?_
                  rintro e wx ⟨rfl, rfl⟩
                  go_wp2
                  go_ret2
                  exact LoadP.no HEE.out he BW.out
            · obtain rfl : j = q := by omega
              rw [List.take_of_length_le (by rw [HQ.out, HQ1.out]; exact Nat.le_refl _)] at tr
              have hr0 : rowsE l Q 1 = 0 := by
                rw [hro]
                exact rows_end (by rw [HQ.out, HQ1.out]; exact Nat.le_refl _) _
              have hpao : PaOk l := fun k a ha hk => by
                have := rowE_no ha (hok k a hk (by have := (List.getElem?_eq_some_iff.1 ha).1; rw [HQ.out, HQ1.out] at this; omega) ha)
                exact ⟨this.2.2.1, this.2.2.2⟩
              have hup : ∀ k, k < l.length → up l k < l.length := fun k hk => by
                obtain ⟨a, ha⟩ : ∃ a, l[k]? = some a := ⟨_, List.getElem?_eq_getElem hk⟩
                rw [up_of ha]
                by_cases h0 : 0 < k
                · have := hpao k a ha h0
                  omega
                · obtain rfl : k = 0 := by omega
                  rw [hl0] at ha
                  cases ha
                  have : a0.pa = -1 := by
                    simp [isRoot] at hr
                    exact hr.1.1.2
                  rw [this]
                  exact hk
              have hAr : AcsAt wr (some ⟨g, o, none⟩) l := ⟨g, o, fun _ => rfl, fun k a ha => by
                have hac := HCL.out k a ha
                have kk : ∀ {x : Addr} {u : Value}, w.cell? x = some u → wr.cell? x = some u := fun hx => (hb.cell (World.block_lt_of_cell? w _ hx)).trans hx
                exact ⟨kk hac.nm, kk hac.pa, kk hac.sh, kk hac.cl, kk hac.us⟩⟩
              have hmp := misplaced_any (c := c) hAr (by rw [HQ.out]; exact hn) hpao hup
              rw [HQ.out] at hmp
              have hdd : deepE l Q 0 = deepE l Q 1 := by
                rw [HQ1.out, deep_zero (by rw [HQ.out]; exact hpos), deep_more (by rw [HQ.out, HQ1.out]; omega)]
              rw [hdd] at hmp
              have HEE : Hid (loadE l = deepE l Q 1) := show loadE l = deepE l Q 1 by rw [HE.out]; simp [hr0]
              have TR : Hid (Tree (fun j => w.heap.size ≤ j) wr t (l.map plainAc) (fun _ _ => false)) := tr
              have HPA : Hid _ := hpao
              have HB : Hid _ := hb
              clear tr hb hro hok hr0 hup hAr hdd HE hpao
              by_cases he : deepE l Q 1 = 0
              · rw [he] at hmp
                have h00 : ∀ a, (l.map plainAc)[0]? = some a → a.pa < 0 := fun a ha => by
                  have hz0 : (l.map plainAc)[0]? = some (plainAc a0) := by simp [hl0]
                  rw [hz0, hra] at ha
                  cases ha
                  decide
                have H00 : Hid _ := h00
                have HL0 : Hid (loadE l = 0) := HEE.out.trans he
                clear h00 HEE hl0
                go_wp2_with fail
                refine hmp.mono ?_
                rintro e wx ⟨rfl, rfl⟩
                go_wp2_with fail
                go_loopg [10] j (fun gk p wv => ∃ n : Nat, 0 < n ∧ n + gk = Q ∧ p = .int .i64 n ∧ Tree (fun j => w.heap.size ≤ j) wv t (l.map plainAc) (kidN (l.map plainAc) n) ∧ Below w.heap.size w wv)
                case atStart => exact ⟨1, by omega, by rw [HQ1.out]; omega, rfl, by rw [kidN_start]; exact TR.out, HB.out⟩
                case round =>
                  obtain ⟨n, hn0, hng, rfl, tv, hbv⟩ := hrel
                  by_cases hnl : n < Q
                  · have hnl' : (n : Int) < Q := by omega
                    obtain ⟨a, ha⟩ : ∃ a, l[n]? = some a := ⟨_, List.getElem?_eq_getElem (by rw [HQ.out]; exact hnl)⟩
                    obtain ⟨p0, p1⟩ := HPA.out n a ha hn0
                    rw [HQ.out] at p1
                    obtain ⟨pq, hpq⟩ : ∃ pq : Nat, a.pa = pq := ⟨a.pa.toNat, by omega⟩
                    have ha' : (l.map plainAc)[n]? = some (plainAc a) := by simp [ha]
                    have hll : (l.map plainAc).length = Q := by rw [List.length_map]; exact HQ.out
                    have hhg := thang tv (n := n) (p := pq) (by rw [hll]; exact hQ64) (by rw [hll]; exact hnl) (by rw [hll]; omega) (fun j hj => by
                      unfold kidN at hj
                      simp at hj
                      omega)
                    have hms : mvV (l.map plainAc) n (pq : Int) = l.map plainAc := by rw [← hpq]; exact mv_self (a := plainAc a) ha'
                    rw [hms, kidN_step hn0 ha' hpq] at hhg
                    have x1 : wr.cell? ⟨g, o + n * 5 + 1, none⟩ = some (.int .i64 (pq : Int)) := by
                      have hx := (HCL.out n a ha).pa
                      rw [hpq] at hx
                      exact (hbv.cell (World.block_lt_of_cell? w _ hx)).trans hx
                    have BV : Hid _ := hbv
                    clear tv hbv ha ha' hll hms hpq p0 p1
                    go_wp2_with fail
                    refine hhg.mono ?_
                    rintro e wz ⟨rfl, tz, cz⟩
                    have TZ : Hid (Tree (fun j => w.heap.size ≤ j) wz t (l.map plainAc) (kidN (l.map plainAc) (n + 1))) := tz
                    have BZ : Hid _ := BV.out.trans (cz.lo BV.out.size)
                    clear tz cz hhg
                    go_wp2
                    go_roundg (Q - (n + 1))
                    case measure => omega
                    case rel => exact ⟨n + 1, by omega, by omega, rfl, TZ.out, BZ.out⟩
                  · have hnl' : ¬ (n : Int) < Q := by omega
                    have TF : Hid (Tree (fun j => w.heap.size ≤ j) wr t (l.map plainAc) (kidB (l.map plainAc))) := show Tree (fun j => w.heap.size ≤ j) wr t (l.map plainAc) (kidB (l.map plainAc)) by
                      rw [← kidN_end (l := l.map plainAc) (n := n) (by rw [List.length_map, HQ.out]; omega) H00.out]
                      exact tv
                    clear tv
                    go_wp2
                    go_ret2
                    exact ⟨fun _ => ⟨t, rfl, TF.out⟩, fun h => absurd HL0.out h, hbv⟩
              · obtain ⟨er, her⟩ : ∃ er, deepE l Q 1 = er := ⟨_, rfl⟩
                rw [her] at hmp he HEE
                have he' : (er == 0) = false := by simp [he]
                clear her hl0
                go_wp2_with fail
                refine hmp.mono ?_
                rintro e wx ⟨rfl, rfl⟩
                go_wp2
                go_ret2
                exact LoadP.no HEE.out he HB.out
end Go.Proofs.YtioldijdmefljaaGreatDoor
