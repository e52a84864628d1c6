/-
  TreeLoads, walked.
-/
import Derived.Test.YthkahbjcncbcfaaRldA
import Derived.Test.YthkahbjcncbcfaaSamB
import Derived.Test.YthkahbjcncbcfaaShB
import Derived.Deep.DeepAppendWide
namespace Go.Proofs.Ythkahbjcncbcfaa
open Go.RowKit Tr

def bhS : ByteArray := ⟨#[98, 101, 104, 105, 110, 100]⟩
def bhAc : Ac := ⟨⟨#[98, 101, 104, 105, 110, 100]⟩, 0, 0, false, 0⟩
theorem acs_left {W : World} {ao : Option Addr} {l k : List Ac} (h : AcsAt W ao (l ++ k)) : AcsAt W ao l := by
  obtain ⟨g, o, h1, h2⟩ := h
  refine ⟨g, o, fun hp => h1 (by simp; omega), fun i a ha => h2 i a ?_⟩
  rw [List.getElem?_append_left (List.getElem?_eq_some_iff.1 ha).1]
  exact ha
theorem bh_list : (⟨#[98, 101, 104, 105, 110, 100]⟩ : ByteArray).toList = [98, 101, 104, 105, 110, 100] := by rw [Lib.toList_data]
theorem RefO.kept {B : Nat} {W W' : World} {d : Nat} {v : Value} {l : List Ac} (h : RefO B W d v l) (b : ∀ j, j < W.heap.size → B ≤ j → W'.heap[j]? = W.heap[j]?) : RefO B W' d v l :=
  ⟨(b d (Array.getElem?_eq_some_iff.1 h.blk).1 h.lo).trans h.blk, row_same h.row (fun k hk => by
    obtain ⟨h1, cs, h2⟩ := row_block h.row hk
    exact b k (Array.getElem?_eq_some_iff.1 h2).1 h1), h.lo⟩
theorem fits48 {Q : Nat} (h : Q * 48 ≤ 140737488355328) : ((Q + 1) + (Q + 1) / 4 + 192) * 48 ≤ 281474976710656 := by
  have h1 : Q ≤ 2932031007402 := by omega
  have h2 : (Q + 1) + (Q + 1) / 4 + 192 ≤ 3665038759445 := by omega
  exact Nat.le_trans (Nat.mul_le_mul_right 48 h2) (by decide)

set_option maxHeartbeats 8000000 in
set_option maxRecDepth 20000 in
theorem loads_any {w : World} {ao : Option Addr} {xs : List Ac} {sc : Nat} (hA : AcsAt w ao xs) (hs : ∀ a ∈ xs, a.nm.size ≤ maxLen) (hnil : ao = none → xs = [] ∧ sc = 0) (_hlc : xs.length ≤ sc) (hn : xs.length * 48 ≤ 140737488355328) :
    Calls Try.prog 4 #[.slice ao xs.length sc] w fun e w' => e = .returned (.bool true) ∧ Below w.heap.size w w' := by
  obtain ⟨i0, hi0, hz0, hz1, hz2⟩ := info_parts Try.inf39
  obtain ⟨Q, hQ⟩ : ∃ Q, xs.length = Q := ⟨_, rfl⟩
  have HQ : Hid (xs.length = Q) := hQ
  have hfl := flatA_len xs
  have HN : Hid (ao = none → Q = 0 ∧ sc = 0) := fun h => ⟨by rw [← hQ, (hnil h).1]; rfl, (hnil h).2⟩
  have HA : Hid (AcsAt w ao xs) := hA
  have HS : Hid _ := hs
  have HNL : Hid (xs.length * 48 ≤ 140737488355328) := hn
  rw [hQ] at hn hfl ⊢
  have HFL : Hid _ := hfl
  have HF48 : Hid _ := fits48 hn
  clear hA hs hnil hQ hfl
  go_enter Try.func4, Try.ntmps4
  go_wp2_with fail
  refine (shown_any w).mono ?_
  rintro e w1 ⟨rfl, b1⟩
  have HC : Hid _ := acs_flat (HA.out.below b1)
  go_upto_region 4 with (first
    | (at_builtin; refine wpList_append_any rfl (.const (.slice none 0 0)) (.tmp 11) 36 rfl w1.heap.size 39 i0 _ 5 48 Try.underlying36 hi0 hz0 hz1 hz2 rfl (by decide) (.slice none 0 0) 0 [] rfl (World.ownsRow_nil _ _ _ _) ao Q sc (flatA xs) rfl HN.out HFL.out HC.out (flatA_one xs) ?_ ?_ (Nat.le_refl _) ?_; exact (Nat.le_trans (m := 35184372088832) (by omega) (by decide)); omega; intro v2 w2 r2 g2; rw [Nat.zero_add, List.nil_append] at r2; have s2 := g2.size)
    | (at_builtin; refine wpList_append_own_wide _ rfl (.tmp 12) (.tmp 14) 36 rfl w1.heap.size 39 i0 _ 5 48 Try.underlying36 hi0 hz0 hz1 hz2 rfl (by decide) v2 Q (flatA xs) rfl (r2.alloc _) ⟨w2.heap.size, 0, none⟩ 1 1 (flatA [bhAc]) rfl rfl (new_cells w2 _ 39) (flatA_one _) ?_ HF48.out ?_ ?_; exact (Nat.le_trans (m := 35184372088832) (by omega) (by decide)); (simp; omega); intro v3 w3 r3 g3 _))
  have b2 : Below w1.heap.size w1 w2 := (Below.refl _ w1).grown g2 (Nat.le_refl _) (fun k e => by simp [Value.ownBlock] at e)
  have b3 : Below w1.heap.size w1 w3 := (b2.alloc b2.size _).grown g3 (by simp; omega) (fun k e => (row_block r2 e).1)
  have hb3 := b1.trans (b3.mono b1.size)
  have r3' : w3.ownsRow w1.heap.size 39 5 v3 (Q + 1) (flatA (xs ++ [bhAc])) := by rw [flatA_app]; exact r3
  obtain ⟨g, cap, rfl⟩ := row_succ r3'
  have hcap : Q + 1 ≤ cap := by
    rcases r3'.2 with ⟨h, _⟩ | ⟨g', cap', cur, h, _, _, h1, _⟩
    · cases h
    · cases h
      exact h1
  have hcap' : Q ≤ cap := by omega
  have hg1 : w1.heap.size ≤ g := (row_block r3' rfl).1
  have hg3 : g < w3.heap.size := (r3'.lt g rfl).2
  have hacs : AcsAt w3 (some ⟨g, 0, none⟩) (xs ++ [bhAc]) := by
    have hl : (xs ++ [bhAc]).length = Q + 1 := by simp [HQ.out]
    have r4 := r3'
    rw [← hl] at r4
    obtain ⟨ao', c', hv, h1, _⟩ := acs_row r4
    cases hv
    exact h1
  have HRE : Hid (RowE w3 w1.heap.size 39 5 (.slice (some ⟨g, 0, none⟩) (Q + 1) cap) (Q + 1)) := ⟨_, r3'⟩
  have hbhc : w3.cell? ⟨g, Q * 5, none⟩ = some (.string ⟨#[98, 101, 104, 105, 110, 100]⟩) := by
    obtain ⟨g', o', h1, h2⟩ := hacs
    cases h1 (by simp)
    have := (h2 Q bhAc (by rw [← HQ.out]; simp)).nm
    rw [Nat.zero_add] at this
    exact this
  have HACS : Hid (AcsAt w3 (some ⟨g, 0, none⟩) xs) := acs_left hacs
  have hpl := pload_any (c := cap) HACS.out HS.out HNL.out (by rw [HQ.out]; exact hcap')
  rw [HQ.out] at hpl
  have HB3 : Hid _ := hb3
  have HB1 : Hid _ := b1
  have s13 := b3.size
  clear r2 r3 r3' g2 g3 b2 b3 hb3 hacs b1 HC
  go_wp2_with fail
  refine hpl.mono ?_
  rintro e w4 ⟨hp1, hp2, b4⟩
  have HB4 : Hid _ := HB3.out.trans (b4.mono HB3.out.size)
  have hrl := rload_any (c := sc) (HA.out.below HB4.out) HNL.out
  rw [HQ.out] at hrl
  clear hpl
  by_cases hle : loadE xs = 0
  · obtain ⟨t, rfl, tt⟩ := hp1 hle
    have TT : Hid (Tree (fun j => w3.heap.size ≤ j) w4 t (xs.map plainAc) (kidB (xs.map plainAc))) := tt
    clear hp1 hp2 tt
    go_wp2_with fail
    refine hrl.mono ?_
    rintro e w5 ⟨hq1, hq2, b5⟩
    obtain ⟨d, v, rfl, rr⟩ := hq1 hle
    have RR : Hid (RefO w4.heap.size w5 d v (xs.map plainAc)) := rr
    have HWF : Hid (Wf (xs.map plainAc)) := wf_load hle
    have b35 := b4.trans (b5.mono b4.size)
    have HB5 : Hid _ := HB3.out.trans (b35.mono HB3.out.size)
    have hac := accounts_yes (c1 := cap) (c2 := sc) (HACS.out.below b35) (HA.out.below HB5.out) HNL.out
    rw [HQ.out] at hac
    have s34 := b4.size
    have s45 := b5.size
    have B35 : Hid _ := b35
    have B5 : Hid _ := b5
    clear hrl hq1 hq2 rr b4 b5 b35 hle
    go_wp2_with fail
    refine hac.mono ?_
    rintro e w6 ⟨rfl, b6⟩
    have b36 := B35.out.trans (b6.mono B35.out.size)
    have hbh6 := cellB b36 hbhc
    have HRE6 : Hid (RowE w6 w1.heap.size 39 5 (.slice (some ⟨g, 0, none⟩) (Q + 1) cap) (Q + 1)) := HRE.out.below b36
    have TT6 : Hid (Tree (fun j => w3.heap.size ≤ j) w6 t (xs.map plainAc) (kidB (xs.map plainAc))) := (TT.out.below B5.out).below b6
    have RR6 : Hid (RefO w4.heap.size w6 d v (xs.map plainAc)) := RR.out.below b6
    have HB6 : Hid _ := HB3.out.trans (b36.mono HB3.out.size)
    clear hac b6 b36 hbhc HRE TT RR B35 B5 HACS
    obtain ⟨Q1, hQ1⟩ : ∃ Q1, Q + 1 = Q1 := ⟨_, rfl⟩
    have HQ1 : Hid (Q + 1 = Q1) := hQ1
    go_upto_region 10 with fail
    go_wp2_with fail
    go_loopg [61] Q1 (fun gk p wr => ∃ i : Nat, i + gk = Q1 ∧ p = .int .i64 i ∧ RowE wr w1.heap.size 39 5 (.slice (some ⟨g, 0, none⟩) Q1 cap) Q1 ∧ Chg (fun j => j = g) w6 wr)
    case atStart => exact ⟨0, by omega, rfl, by rw [← HQ1.out]; exact HRE6.out, Chg.refl _ _⟩
    case round =>
      obtain ⟨i, hi, rfl, hrw, hb⟩ := hrel
      by_cases hlt : i < Q1
      · have hlt' : (i : Int) < Q1 := by omega
        obtain ⟨hBg, ⟨x0, x1, x2, x3, x4, c0, c1, c2, c3, c4⟩, hfr⟩ := hrw.five hlt
        have HR5 : Hid _ := ((((hrw.set (i * 5) (.string ⟨#[122]⟩)).set (i * 5 + 1) (.int .i64 9)).set (i * 5 + 2) (.int .i64 0)).set (i * 5 + 3) (.bool false)).set (i * 5 + 4) (.int .u64 0)
        have HB5 : Hid _ := ((((hb.setCell ⟨g, i * 5, none⟩ (.string ⟨#[122]⟩) (.inl rfl)).setCell ⟨g, i * 5 + 1, none⟩ (.int .i64 9) (.inl rfl)).setCell ⟨g, i * 5 + 2, none⟩ (.int .i64 0) (.inl rfl)).setCell ⟨g, i * 5 + 3, none⟩ (.bool false) (.inl rfl)).setCell ⟨g, i * 5 + 4, none⟩ (.int .u64 0) (.inl rfl)
        clear hrw hb
        go_wp2
        go_roundg (Q1 - (i + 1))
        case measure => omega
        case rel => exact ⟨i + 1, by omega, rfl, HR5.out, HB5.out⟩
      · have hne : ¬ (i : Int) < Q1 := by omega
        have hsm := same_any (Tree.kept TT6.out (fun j hj hS => hb.block j hj (fun e => by omega))) (RefO.ref (RefO.kept RR6.out (fun j hj hS => hb.block j hj (fun e => by omega)))) HWF.out
        have HBf : Hid (Below w.heap.size w wr) := hb.below HB6.out HB6.out.size (fun j e => by have := HB1.out.size; omega)
        clear hrw hb
        go_wp2_with fail
        refine hsm.mono ?_
        rintro e w7 ⟨rfl, b7⟩
        have hfin := HBf.out.trans (b7.mono HBf.out.size)
        go_wp2
        go_ret
        exact ⟨rfl, hfin⟩
  · obtain rfl := hp2 hle
    obtain ⟨er, her⟩ : ∃ er, loadE xs = er := ⟨_, rfl⟩
    rw [her]
    clear hp1 hp2
    go_wp2_with fail
    refine hrl.mono ?_
    rintro e w5 ⟨hq1, hq2, b5⟩
    obtain rfl := hq2 hle
    rw [her]
    have b35 := b4.trans (b5.mono b4.size)
    have HB5 : Hid _ := HB3.out.trans (b35.mono HB3.out.size)
    have hac := accounts_yes (c1 := cap) (c2 := sc) (HACS.out.below b35) (HA.out.below HB5.out) HNL.out
    rw [HQ.out] at hac
    have B35 : Hid _ := b35
    clear hrl hq1 hq2 b4 b5 b35 hle her
    go_wp2_with fail
    refine hac.mono ?_
    rintro e w6 ⟨rfl, b6⟩
    have b36 := B35.out.trans (b6.mono B35.out.size)
    have hbh6 := cellB b36 hbhc
    have HB6 : Hid _ := HB3.out.trans (b36.mono HB3.out.size)
    clear hac b6 b36 hbhc
    go_wp2
    go_ret
    exact ⟨rfl, HB6.out⟩
end Go.Proofs.Ythkahbjcncbcfaa
