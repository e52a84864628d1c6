/-
  AgendaOrder, walked.
-/
import Derived.Test.YtjmiifgofedcnaaFil
namespace Go.Proofs.Ytjmiifgofedcnaa
open Go.RowKit Ag

namespace Ag
theorem insL_front {e : En} {L : List En} (s : Srt (e :: L)) : insL e L = e :: L := by
  cases L with
  | nil => rfl
  | cons f L =>
    have := bef_ne ((List.pairwise_cons.1 s).1 f (by simp))
    simp [insL, this]
theorem drop_cons {L : List En} {k : Nat} {e : En} (h : L[k]? = some e) : L.drop k = e :: L.drop (k + 1) := by
  obtain ⟨hk, rfl⟩ := List.getElem?_eq_some_iff.1 h
  exact List.drop_eq_getElem_cons hk
theorem srt_at {L : List En} (s : Srt L) {i : Nat} {e f : En} (he : L[i]? = some e) (hf : L[i + 1]? = some f) : bef e f = true := by
  obtain ⟨h1, rfl⟩ := List.getElem?_eq_some_iff.1 he
  obtain ⟨h2, rfl⟩ := List.getElem?_eq_some_iff.1 hf
  exact List.pairwise_iff_getElem.1 s i (i + 1) h1 h2 (by omega)
end Ag
theorem Agn.srt {ts te : Nat} {w : World} {a m : Nat} {ao : Option Addr} {L : List En} (r : Agn ts te w a m ao L) : Srt L := by
  obtain ⟨_, _, _, q⟩ := r
  exact q.isL.srt
theorem Agn.wf {ts te : Nat} {w : World} {a m : Nat} {ao : Option Addr} {L : List En} (r : Agn ts te w a m ao L) : ∀ e ∈ L, wfI e.id ∧ wfI e.tm := by
  obtain ⟨_, _, h, q⟩ := r
  intro e he
  obtain ⟨k, hk, rfl⟩ := (q.isL.mem e).1 he
  exact ⟨(q.raw.ok k hk).1, (q.raw.ok k hk).2.1⟩
/-- A row of numbers, to be read by its places. -/
theorem rd_row {w : World} {B : Nat} {v : Value} {xs : List Int} (h : w.ownsRow B 3 1 v xs.length (ints xs)) : ∃ ao cap g, v = .slice ao xs.length cap ∧ (0 < xs.length → ao = some ⟨g, 0, none⟩) ∧ (∀ j x, xs[j]? = some x → w.cell? ⟨g, j, none⟩ = some (.int .i64 x)) ∧ (∀ k, v.ownBlock = some k → B ≤ k ∧ k < w.heap.size) := by
  have hlt := h.lt
  rcases h.2 with ⟨rfl, h0⟩ | ⟨g, cap, cur, rfl, hb, hg, _, _, _, ht⟩
  · obtain rfl : xs = [] := List.length_eq_zero_iff.1 h0
    exact ⟨none, 0, 0, rfl, fun h => by simp at h, fun j x hx => by simp at hx, fun k hk => by simp [Value.ownBlock] at hk⟩
  · refine ⟨some ⟨g, 0, none⟩, cap, g, rfl, fun _ => rfl, fun j x hx => ?_, hlt⟩
    have hj : j < xs.length := (List.getElem?_eq_some_iff.1 hx).1
    refine cells_at hg ?_
    have h1 : (ints xs)[j]? = some (.int .i64 x) := by simp [ints, hx]
    rw [← ht, List.getElem?_take_of_lt (by omega), Array.getElem?_toList] at h1
    simpa using h1

set_option maxHeartbeats 4000000 in
set_option maxRecDepth 20000 in
theorem order_any {w : World} {ao : Option Addr} {n c : Nat} {f : Nat → Act5} (hA : ActsAt w ao n f) (hwf : ∀ k, k < n → wfI (f k).id ∧ wfI (f k).tm) (hn : n * 40 ≤ 140737488351232) :
    Calls Try.prog 5 #[.slice ao n c] w fun e w' => e = .returned (.bool true) ∧ Below w.heap.size w w' := by
  go_enter Try.func5, Try.ntmps5
  go_wp2_with fail
  refine (shown_any w).mono ?_
  rintro e w1 ⟨rfl, b1⟩
  go_wp2_with fail
  refine (filled_any (hA.below b1) hwf hn).mono ?_
  rintro e w2 ⟨a, m, aoa, rfl, n2⟩
  have hfl := fill_len f n
  have hfi := fill_int f n
  generalize fillL f n = L at n2 hfl hfi
  have hbb : Below w.heap.size w w2 := b1.trans (n2.bel.mono b1.size)
  go_wp2_with fail
  have hls := listed_any n2.agn ((n : Int) + 1) (by omega)
  have ht : L.take ((n : Int) + 1).toNat = L := List.take_of_length_le (by omega)
  rw [ht] at hls
  refine hls.mono ?_
  rintro e w3 ⟨v1, v2, rfl, r1, r2, b3, hap⟩
  clear hls
  have el1 : (ids L).length = L.length := by simp [ids]
  have el2 : (tms L).length = L.length := by simp [tms]
  rw [← el1] at r1
  rw [← el2] at r2
  obtain ⟨ao1, cap1, g1, rfl, ha1, hc1, hB1⟩ := rd_row r1
  obtain ⟨ao2, cap2, g2, rfl, ha2, hc2, hB2⟩ := rd_row r2
  obtain ⟨q, hq⟩ : ∃ q, L.length = q := ⟨_, rfl⟩
  rw [el1, hq] at ha1 r1 ⊢
  rw [el2, hq] at ha2 r2 ⊢
  rw [hq] at hfl
  have n3 := n2.grown b3
  have N3 : Hid _ := n3
  have hsr := n3.agn.srt
  clear n2
  go_wp2
  go_loopg [6] q (fun gk p wr => ∃ j : Nat, j + gk = q ∧ p = .int .i64 ((j + 1 : Nat) : Int) ∧ Grew w3 wr)
  case atStart => exact ⟨0, by omega, rfl, Grew.refl _⟩
  case round =>
    obtain ⟨j, hj, rfl, hg⟩ := hrel
    by_cases hlt : j + 1 < q
    · obtain ⟨e, he⟩ : ∃ e, L[j]? = some e := ⟨_, List.getElem?_eq_getElem (by omega)⟩
      obtain ⟨d, hd⟩ : ∃ d, L[j + 1]? = some d := ⟨_, List.getElem?_eq_getElem (by omega)⟩
      have hbe := (bef_iff e d).1 (srt_at hsr he hd)
      have e1 := ha1 (by omega)
      have e2 := ha2 (by omega)
      subst e1 e2
      have p1 := hg.cell (hc2 j e.tm (by simp [tms, he]))
      have p2 := hg.cell (hc2 (j + 1) d.tm (by simp [tms, hd]))
      have p3 := hg.cell (hc1 j e.id (by simp [ids, he]))
      have p4 := hg.cell (hc1 (j + 1) d.id (by simp [ids, hd]))
      have el : ((j : Int) + 1) - 1 = (j : Int) := by omega
      have hgt : decide (d.tm < e.tm) = false := by simp; omega
      have HC1 : Hid _ := hc1
      have HC2 : Hid _ := hc2
      clear hc1 hc2
      by_cases heq : e.tm = d.tm
      · have hge : decide (d.id ≤ e.id) = false := by simp; omega
        rw [heq] at p1
        have hgt' : decide (d.tm < d.tm) = false := by simp
        go_wp2_with fail
        go_quiet (fail)
        all_goals
          go_wp2
          go_roundg (q - (j + 1))
          case measure => omega
          case rel => exact ⟨j + 1, by omega, rfl, hg.drewN _⟩
      · have hne : (e.tm == d.tm) = false := by simp [heq]
        go_wp2_with fail
        go_quiet (fail)
        all_goals
          go_wp2
          go_roundg (q - (j + 1))
          case measure => omega
          case rel => exact ⟨j + 1, by omega, rfl, hg.drewN _⟩
    · obtain ⟨w4, hw4⟩ : ∃ w4, w4 = wr := ⟨_, rfl⟩
      subst hw4
      have n4 := N3.out.grown hg.below
      have h1 : RdI w4 (.slice ao1 q cap1) (ids L) := by
        refine (RdI.below ⟨ao1, cap1, g1, 0, by rw [el1, hq], by rw [el1, hq]; exact ha1, fun j x hx => ?_⟩ hg.below)
        rw [Nat.zero_add]
        exact hc1 j x hx
      have h2 : RdI w4 (.slice ao2 q cap2) (tms L) := by
        refine (RdI.below ⟨ao2, cap2, g2, 0, by rw [el2, hq], by rw [el2, hq]; exact ha2, fun j x hx => ?_⟩ hg.below)
        rw [Nat.zero_add]
        exact hc2 j x hx
      have k1 := fun j x hx => hg.cell (hc1 j x hx)
      have k2 := fun j x hx => hg.cell (hc2 j x hx)
      have HG : Hid _ := hg
      clear hc1 hc2 hg N3 n3 r1 r2
      go_wp2_with fail
      refine (new_I w4).mono ?_
      rintro e w5 ⟨rfl, r5, b5⟩
      have nb5 : Nw 68 76 w4 (w4.heap.size + 1) w4.heap.size none [] w5 := ⟨r5, b5, by rintro k (rfl | rfl | ⟨g, hg, _⟩) <;> first | omega | cases hg⟩
      clear r5 b5
      generalize w4.heap.size + 1 = bb at nb5 ⊢
      generalize hmb : w4.heap.size = mb at nb5 ⊢
      have NB : Hid _ := nb5
      have N4 : Hid _ := n4
      have H1 : Hid _ := h1
      have H2 : Hid _ := h2
      have K1 : Hid _ := k1
      have K2 : Hid _ := k2
      have HMB : Hid _ := hmb
      clear nb5 n4 h1 h2 k1 k2 hmb
      go_wp2
      go_loopg [76] q (fun gk p wx => ∃ i : Nat, i + gk = q ∧ p = .int .i64 i ∧ ∃ aob, Nw 68 76 w4 bb mb aob (L.drop (q - i)) wx)
      case atStart => exact ⟨0, by omega, rfl, none, by rw [Nat.sub_zero, ← hq, List.drop_length]; exact NB.out⟩
      case round =>
        obtain ⟨i, hi, rfl, aob, nb⟩ := hrel
        by_cases hlt2 : i < q
        · obtain ⟨k, hk⟩ : ∃ k, k + i + 1 = q := ⟨q - 1 - i, by omega⟩
          obtain ⟨e, he⟩ : ∃ e, L[k]? = some e := ⟨_, List.getElem?_eq_getElem (by omega)⟩
          have hmem : e ∈ L := List.mem_of_getElem? he
          obtain ⟨xv, hxv⟩ := hfi e hmem
          have na := N4.out.grown (w1 := wr) (by rw [HMB.out]; exact nb.bel.mono (by rw [HMB.out]; exact Nat.le_refl _))
          have hdr : L.drop (q - i) = L.drop (k + 1) := by rw [show q - i = k + 1 by omega]
          have hdk := drop_cons he
          have hsd : Srt (e :: L.drop (k + 1)) := by rw [← hdk]; exact hsr.drop
          have hne : ∀ d ∈ L.drop (k + 1), d.id ≠ e.id := fun d hd hid => by
            have := na.agn.ids d (List.mem_of_mem_drop hd) e hmem hid
            subst this
            exact bef_irrefl _ ((List.pairwise_cons.1 hsd).1 d hd)
          have hins : insL (⟨e.id, e.tm, .int .i64 xv⟩ : En) (L.drop (k + 1)) = L.drop k := by
            have he' : (⟨e.id, e.tm, .int .i64 xv⟩ : En) = e := by rw [← hxv]
            rw [he', insL_front hsd, hdk]
          obtain ⟨wi, wt⟩ := na.agn.wf e hmem
          have e1 := ha1 (by omega)
          have e2 := ha2 (by omega)
          subst e1 e2
          have cb := Chg.of_below nb.bel (fun _ => False)
          have x1 := cb.cell (K1.out k e.id (by simp [ids, he])) (fun h => h)
          have x2 := cb.cell (K2.out k e.tm (by simp [tms, he])) (fun h => h)
          have ek : (q : Int) - 1 - (i : Int) = (k : Int) := by omega
          rw [hdr] at nb
          have hget := get_yes_I na.agn e hmem
          rw [hxv] at hget
          have hdl : (L.drop (k + 1)).length ≤ q := by rw [List.length_drop]; omega
          have NBX : Hid _ := nb
          clear na nb cb hdr hdk hsd
          go_wp2_with fail
          refine hget.mono ?_
          rintro e' w6 ⟨rfl, g6⟩
          clear hget
          have nb6 := NBX.out.grown g6.below
          have y1 := g6.cell x1
          have y2 := g6.cell x2
          clear NBX g6 x1 x2
          go_wp2_with fail
          refine (add_yes_I nb6.agn e.id e.tm xv wi wt hne (by omega)).mono ?_
          rintro e' w7 ⟨rfl, ao7, r7, m7, c7⟩
          rw [hins] at r7
          have nb7 := nb6.turned r7 m7 c7
          clear nb6 r7 m7 c7
          go_wp2
          go_roundg (q - (i + 1))
          case measure => omega
          case rel => exact ⟨i + 1, by omega, rfl, ao7, by rw [show q - (i + 1) = k by omega]; exact nb7⟩
        · have e0 : q - i = 0 := by omega
          rw [e0, List.drop_zero] at nb
          have hl1 := RdI.below H1.out nb.bel
          have hl2 := RdI.below H2.out nb.bel
          have hls := listed_any nb.agn ((n : Int) + 1) (by omega)
          rw [ht] at hls
          have hbx : Below w.heap.size w wr := (hbb.trans ((b3.trans ((Grew.below HG.out).mono b3.size)).mono hbb.size)).trans (nb.bel.mono (by have := hbb.size; have := b3.size; have := (Grew.below HG.out).size; omega))
          clear nb
          go_wp2_with fail
          refine hls.mono ?_
          rintro e w8 ⟨u1, u2, rfl, s1, s2, b8, _⟩
          rw [← el1] at s1
          rw [← el2] at s2
          go_wp2_with fail
          refine (numbers_any (hl1.below b8) (rd_own s1) (by omega) (by omega)).mono ?_
          rintro e w9 ⟨rfl, g9⟩
          have hd1 : decide (ids L = ids L) = true := by simp
          rw [hd1]
          go_wp2_with fail
          refine (numbers_any ((hl2.below b8).below g9.below) ((rd_own s2).below g9.below) (by omega) (by omega)).mono ?_
          rintro e w10 ⟨rfl, g10⟩
          have hd2 : decide (tms L = tms L) = true := by simp
          rw [hd2]
          go_wp2
          go_ret
          exact ⟨rfl, ((hbx.trans (b8.mono hbx.size)).trans (g9.below.mono (by have := hbx.size; have := b8.size; omega))).trans (g10.below.mono (by have := hbx.size; have := b8.size; have := g9.below.size; omega))⟩
end Go.Proofs.Ytjmiifgofedcnaa
