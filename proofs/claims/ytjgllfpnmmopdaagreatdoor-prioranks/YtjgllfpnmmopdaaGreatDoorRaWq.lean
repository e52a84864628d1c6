/-
  PrioRanks walked.
-/
import Derived.Test.YtjgllfpnmmopdaaGreatDoorRaBq
import Derived.Deep.RegionHeld3
namespace Go.Proofs.YtjgllfpnmmopdaaGreatDoor
open Go.RowKit Wd Tr Cg Ld
set_option maxHeartbeats 4000000 in
set_option maxRecDepth 20000 in
theorem ranks_walk {w : World} {cf : Cf} {now hd : Int} {ao jo : Option Addr} {la : List Ac} {jl : List Jb} {ca cj gj oj : Nat} (hin : StIn w ao jo la jl ca gj oj) (hset : ∀ j ∈ jl, SetOk w j) (hna : ao = none → la = [] ∧ ca = 0) (hnj : jo = none → jl.length = 0 ∧ cj = 0) (hal : la.length * 48 ≤ 140737488351232) (hjl : jl.length * 80 ≤ 140737488351232) :
    Calls Tryz.prog 3 #[.agg (stC cf now (.slice ao la.length ca) (.slice jo jl.length cj) hd)] w fun e w' => e = .returned (.bool true) ∧ Below w.heap.size w w' := by
  obtain ⟨w1, hw1⟩ : ∃ w1, w.alloc (.cells (stC cf now (.slice ao la.length ca) (.slice jo jl.length cj) hd) 27) = w1 := ⟨_, rfl⟩
  have b1 : Below w.heap.size w w1 := by rw [← hw1]; exact (Below.refl _ _).alloc (Nat.le_refl _) _
  have hst : StB w1 w.heap.size cf now (.slice ao la.length ca) (.slice jo jl.length cj) hd := by rw [← hw1]; exact heap_alloc_new w _
  have HIN : Hid (StIn w ao jo la jl ca gj oj) := hin
  have HSET : Hid (∀ j ∈ jl, SetOk w j) := hset
  obtain ⟨N, hN⟩ : ∃ N, jl.length = N := ⟨_, rfl⟩
  have HN : Hid (jl.length = N) := hN
  obtain ⟨L, hL⟩ : ∃ L, la.length = L := ⟨_, rfl⟩
  have HL : Hid (la.length = L) := hL
  have HS1 : Hid (StB w1 w.heap.size cf now (.slice ao la.length ca) (.slice jo jl.length cj) hd ∧ Below w.heap.size w w1) := ⟨hst, b1⟩
  rw [hN] at hnj hjl HS1 hw1 ⊢
  rw [hL] at hal HS1 hw1 ⊢
  have HNA : Hid (ao = none → L = 0 ∧ ca = 0) := fun e => ⟨by rw [← hL, (hna e).1]; rfl, (hna e).2⟩
  have HNJ : Hid (jo = none → N = 0 ∧ cj = 0) := hnj
  have HAL : Hid (L * 48 ≤ 140737488351232) := hal
  have HJL : Hid (N * 80 ≤ 140737488351232) := hjl
  have HFA : Hid ((flatA la).length = L * 5) := by rw [← hL]; exact flatA_len la
  have HFJ : Hid ((flatJ jl).length = N * 8) := by rw [← hN]; exact flatJ_len jl
  have HJC : Hid (∀ x, Below w.heap.size w x → ∀ ad, jo = some ad → ∀ i u, (flatJ jl)[i]? = some u → x.cell? (ad.add i) = some u) := fun x hx ad e i u hi => by
    have hl := (List.getElem?_eq_some_iff.1 hi).1
    have e2 := hin.jo (by rw [flatJ_len] at hl; omega)
    rw [e] at e2
    cases e2
    exact jbs_flat (hin.jb.below hx) i u hi
  have hs := shown_any w1
  unfold stC at hw1 ⊢
  clear hin hset hna hnj hal hjl b1 hst hN hL
  go_enter Tryz.func3, Tryz.ntmps3
  go_wp2_with fail
  refine hs.mono ?_
  rintro e w2 ⟨rfl, hb2⟩
  have HS2 : Hid (StB w2 w.heap.size cf now (.slice ao L ca) (.slice jo N cj) hd ∧ Below w.heap.size w w2) := ⟨HS1.out.1.below hb2, HS1.out.2.trans (hb2.mono HS1.out.2.size)⟩
  clear hs hb2 HS1 hw1
  have k9 : (w2.alloc (.cells #[] 31)).cell? ⟨w.heap.size, 9, none⟩ = some (.slice ao L ca) := allocC _ (HS2.out.1.cell rfl)
  have HM2 : Hid ((w2.alloc (.cells #[] 31)).ownsRow w2.heap.size 31 5 (.slice (some ⟨w2.heap.size, 0, none⟩) 0 0) 0 []) := made0 w2 31 5
  have HC2 : Hid (∀ ad, ao = some ad → ∀ j u, (flatA la)[j]? = some u → (w2.alloc (.cells #[] 31)).cell? (ad.add j) = some u) := acs_flat ((HIN.out.acs.below HS2.out.2).below ((Below.refl _ _).alloc (Nat.le_refl _) _))
  obtain ⟨ia, hia, hza0, hza1, hza2⟩ := info_parts Tryz.soAa
  obtain ⟨ij, hij, hzj0, hzj1, hzj2⟩ := info_parts Tryz.soJa
  go_upto_region 10 with (first
    | (at_builtin; refine wpList_append_any rfl (.tmp 19) (.tmp 21) 24 rfl w2.heap.size 31 ia _ 5 48 Tryz.underlying24 hia hza0 hza1 hza2 rfl (by decide) (.slice (some ⟨w2.heap.size, 0, none⟩) 0 0) 0 [] rfl HM2.out ao L ca (flatA la) rfl HNA.out HFA.out HC2.out (flatA_one la) ?_ ?_ ?_ ?_; (exact (Nat.le_trans (m := 140737488355328) (by have := HAL.out; omega) (by decide))); (have := HAL.out; omega); (simp); intro v3 w3 hown3 hgr3; have HOW3 : Hid (w3.ownsRow w2.heap.size 31 5 v3 (0 + L) ([] ++ flatA la)) := hown3; have HB3 : Hid (Below w2.heap.size w2 w3) := Below.grown ((Below.refl _ w2).alloc (Nat.le_refl _) (.cells #[] 31)) hgr3 (by simp) (fun k e => by simp [Value.ownBlock] at e; omega); clear hown3 hgr3)
    | (at_builtin; refine wpList_append_any rfl (.tmp 23) (.tmp 25) 24 rfl w2.heap.size 31 ia _ 5 48 Tryz.underlying24 hia hza0 hza1 hza2 rfl (by decide) v3 (0 + L) ([] ++ flatA la) rfl (HOW3.out.alloc _) (some ⟨w3.heap.size, 0, none⟩) 1 1 [.string ⟨#[109, 97, 114, 107]⟩, .int .i64 0, .int .i64 0, .bool false, .int .u64 0] rfl (fun h => by cases h) rfl (new_at w3 [.string ⟨#[109, 97, 114, 107]⟩, .int .i64 0, .int .i64 0, .bool false, .int .u64 0] 31) markA_one ?_ ?_ ?_ ?_; (exact (Nat.le_trans (m := 140737488355328) (by have := HAL.out; omega) (by decide))); (have := HAL.out; omega); (have := HB3.out.size; simp; omega); intro v4 w4 hown4 hgr4; obtain ⟨ab, capA, rfl, hab4, hcapA, hrow4⟩ := own_markA HL.out hown4; have HA4 : Hid (RwA w4 ab (la ++ [mkA]) ∧ w2.heap.size ≤ ab ∧ L + 1 ≤ capA) := ⟨hrow4, hab4, hcapA⟩; have HB4 : Hid (Below w2.heap.size w2 w4) := Below.grown (HB3.out.alloc HB3.out.size _) hgr4 (by have := HB3.out.size; simp; omega) (fun k e => (World.ownsRow.lt HOW3.out k e).1); have HS4 : Hid (StB w4 w.heap.size cf now (.slice ao L ca) (.slice jo N cj) hd ∧ Below w.heap.size w w4) := ⟨HS2.out.1.below HB4.out, HS2.out.2.trans (HB4.out.mono HS2.out.2.size)⟩; have k10 : (w4.alloc (.cells #[] 34)).cell? ⟨w.heap.size, 10, none⟩ = some (.slice jo N cj) := allocC _ (HS4.out.1.cell rfl); have HM4 : Hid ((w4.alloc (.cells #[] 34)).ownsRow w4.heap.size 34 8 (.slice (some ⟨w4.heap.size, 0, none⟩) 0 0) 0 []) := made0 w4 34 8; have HC4 : Hid (∀ ad, jo = some ad → ∀ i u, (flatJ jl)[i]? = some u → (w4.alloc (.cells #[] 34)).cell? (ad.add i) = some u) := HJC.out _ (HS4.out.2.alloc HS4.out.2.size _); clear hown4 hgr4 hab4 hcapA hrow4 k9)
    | (at_builtin; refine wpList_append_any rfl (.tmp 28) (.tmp 30) 25 rfl w4.heap.size 34 ij _ 8 80 Tryz.underlying25 hij hzj0 hzj1 hzj2 rfl (by decide) (.slice (some ⟨w4.heap.size, 0, none⟩) 0 0) 0 [] rfl HM4.out jo N cj (flatJ jl) rfl HNJ.out HFJ.out HC4.out (flatJ_one HIN.out.sl) ?_ ?_ ?_ ?_; (exact (Nat.le_trans (m := 140737488355328) (by have := HJL.out; omega) (by decide))); (have := HJL.out; omega); (simp); intro v5 w5 hown5 hgr5; have HOW5 : Hid (w5.ownsRow w4.heap.size 34 8 v5 (0 + N) ([] ++ flatJ jl)) := hown5; have HB5 : Hid (Below w4.heap.size w4 w5) := Below.grown ((Below.refl _ w4).alloc (Nat.le_refl _) (.cells #[] 34)) hgr5 (by simp) (fun k e => by simp [Value.ownBlock] at e; omega); clear hown5 hgr5)
    | (at_builtin; refine wpList_append_any rfl (.tmp 32) (.tmp 34) 25 rfl w4.heap.size 34 ij _ 8 80 Tryz.underlying25 hij hzj0 hzj1 hzj2 rfl (by decide) v5 (0 + N) ([] ++ flatJ jl) rfl (HOW5.out.alloc _) (some ⟨w5.heap.size, 0, none⟩) 1 1 [.int .i64 (-77), .int .i64 0, .int .i64 0, .int .i64 0, .int .i64 0, .int .i64 0, .int .i64 0, .slice none 0 0] rfl (fun h => by cases h) rfl (new_at w5 [.int .i64 (-77), .int .i64 0, .int .i64 0, .int .i64 0, .int .i64 0, .int .i64 0, .int .i64 0, .slice none 0 0] 34) markJ_one ?_ ?_ ?_ ?_; (exact (Nat.le_trans (m := 140737488355328) (by have := HJL.out; omega) (by decide))); (have := HJL.out; omega); (have := HB5.out.size; simp; omega); intro v6 w6 hown6 hgr6; obtain ⟨jb, capJ, rfl, hjb6, hcapJ, hrow6⟩ := own_markJ HN.out hown6; have HJ6 : Hid (RwJ w6 jb (jl ++ [mkJ]) ∧ w4.heap.size ≤ jb ∧ N + 1 ≤ capJ) := ⟨hrow6, hjb6, hcapJ⟩; have HB6 : Hid (Below w4.heap.size w4 w6) := Below.grown (HB5.out.alloc HB5.out.size _) hgr6 (by have := HB5.out.size; simp; omega) (fun k e => (World.ownsRow.lt HOW5.out k e).1); have HS6 : Hid (StB w6 w.heap.size cf now (.slice ao L ca) (.slice jo N cj) hd ∧ Below w.heap.size w w6) := ⟨HS4.out.1.below HB6.out, HS4.out.2.trans (HB6.out.mono HS4.out.2.size)⟩; clear hown6 hgr6 hjb6 hcapJ hrow6 k10; have k0 : w6.cell? ⟨w.heap.size, 0, none⟩ = some (.int .i64 cf.nodes) := HS6.out.1.cell rfl; have k1 : w6.cell? ⟨w.heap.size, 1, none⟩ = some (.int .i64 cf.queue) := HS6.out.1.cell rfl; have k2 : w6.cell? ⟨w.heap.size, 2, none⟩ = some (.int .i64 cf.limit) := HS6.out.1.cell rfl; have k3 : w6.cell? ⟨w.heap.size, 3, none⟩ = some (.int .i64 cf.age) := HS6.out.1.cell rfl; have k4 : w6.cell? ⟨w.heap.size, 4, none⟩ = some (.int .i64 cf.fair) := HS6.out.1.cell rfl; have k5 : w6.cell? ⟨w.heap.size, 5, none⟩ = some (.int .i64 cf.size) := HS6.out.1.cell rfl; have k6 : w6.cell? ⟨w.heap.size, 6, none⟩ = some (.int .i64 cf.period) := HS6.out.1.cell rfl; have k7 : w6.cell? ⟨w.heap.size, 7, none⟩ = some (.int .i64 cf.half) := HS6.out.1.cell rfl; have k8 : w6.cell? ⟨w.heap.size, 8, none⟩ = some (.int .i64 now) := HS6.out.1.cell rfl; have k9 : w6.cell? ⟨w.heap.size, 9, none⟩ = some (.slice ao L ca) := HS6.out.1.cell rfl; have k10 : w6.cell? ⟨w.heap.size, 10, none⟩ = some (.slice jo N cj) := HS6.out.1.cell rfl; have k11 : w6.cell? ⟨w.heap.size, 11, none⟩ = some (.int .i64 hd) := HS6.out.1.cell rfl; have ca1 : (L : Int) ≤ capA := (by have := HA4.out.2.2; omega); have cj1 : (N : Int) ≤ capJ := (by have := HJ6.out.2.2; omega)))
  obtain ⟨ib, hib⟩ : ∃ ib, w6.heap.size = ib := ⟨_, rfl⟩
  obtain ⟨w7, hw7⟩ : ∃ w7, w6.alloc (.cells (stC cf now (.slice ao L ca) (.slice jo N cj) hd) 27) = w7 := ⟨_, rfl⟩
  have b67 : Below w6.heap.size w6 w7 := by rw [← hw7]; exact (Below.refl _ _).alloc (Nat.le_refl _) _
  have HZ : Hid (w.heap.size < ab ∧ ab < jb ∧ jb < ib) := by
    have h1 := HS2.out.1.lt; have h2 := HA4.out.2.1; have h3 := HA4.out.1.lt; have h4 := HJ6.out.2.1; have h5 := HJ6.out.1.lt
    show _ ∧ _
    omega
  have HW7 : Hid (StB w7 w.heap.size cf now (.slice ao L ca) (.slice jo N cj) hd ∧ StB w7 ib cf now (.slice ao L ca) (.slice jo N cj) hd ∧ RwA w7 ab (la ++ [mkA]) ∧ RwJ w7 jb (jl ++ [mkJ]) ∧ Below w.heap.size w w7) := by
    refine ⟨HS6.out.1.below b67, by rw [← hw7, ← hib]; exact heap_alloc_new w6 _, ?_, HJ6.out.1.chg (Chg.of_below b67 (fun _ => False)) (fun e => e), HS6.out.2.trans (b67.mono HS6.out.2.size)⟩
    exact (HA4.out.1.chg (Chg.of_below HB6.out (fun _ => False)) (fun e => e)).chg (Chg.of_below b67 (fun _ => False)) (fun e => e)
  have HCAP : Hid (L + 1 ≤ capA ∧ N + 1 ≤ capJ) := ⟨HA4.out.2.2, HJ6.out.2.2⟩
  unfold stC at hw7
  rw [hw7, hib]
  clear hw7 hib b67 HS6 HJ6 HB6 HA4 HS4 HB4 HOW5 HB5 HM4 HC4 HOW3 HB3 HM2 HC2 HS2 hia hza0 hza1 hza2 hij hzj0 hzj1 hzj2 k0 k1 k2 k3 k4 k5 k6 k7 k8 k9 k10 k11
  have k9 : w7.cell? ⟨w.heap.size, 9, none⟩ = some (.slice ao L ca) := HW7.out.1.cell rfl
  have z1 : w7.cell? ⟨ib, 9, none⟩ = some (.slice ao L ca) := HW7.out.2.1.cell rfl
  have z2 : w7.frozen? ⟨ib, 9, none⟩ = false := frozen_at (show w7.heap[ib]? = _ from HW7.out.2.1)
  go_upto_region 11 with fail
  obtain ⟨w8, hw8⟩ : ∃ w8, w7.setCell ⟨ib, 9, none⟩ (.slice (some ⟨ab, 0, none⟩) L capA) = w8 := ⟨_, rfl⟩
  have HW8 : Hid (StB w8 w.heap.size cf now (.slice ao L ca) (.slice jo N cj) hd ∧ StB w8 ib cf now (.slice (some ⟨ab, 0, none⟩) L capA) (.slice jo N cj) hd ∧ RwA w8 ab (la ++ [mkA]) ∧ RwJ w8 jb (jl ++ [mkJ]) ∧ Below w.heap.size w w8) := by
    have hz := HZ.out
    have k8 : Chg (fun j => j = ib) w7 w8 := by rw [← hw8]; exact (Chg.refl (fun j => j = ib) w7).setCell ⟨ib, 9, none⟩ _ (.inl rfl)
    refine ⟨HW7.out.1.chg k8 (by omega), ?_, HW7.out.2.2.1.chg k8 (by omega), HW7.out.2.2.2.1.chg k8 (by omega), k8.below HW7.out.2.2.2.2 HW7.out.2.2.2.2.size (fun j e => by omega)⟩
    rw [← hw8]
    exact heap_setCell_same w7 ib 9 _ 27 _ HW7.out.2.1
  rw [hw8]
  clear hw8 HW7 k9 z1 z2
  have k10 : w8.cell? ⟨w.heap.size, 10, none⟩ = some (.slice jo N cj) := HW8.out.1.cell rfl
  have z1 : w8.cell? ⟨ib, 10, none⟩ = some (.slice jo N cj) := HW8.out.2.1.cell rfl
  have z2 : w8.frozen? ⟨ib, 10, none⟩ = false := frozen_at (show w8.heap[ib]? = _ from HW8.out.2.1)
  go_upto_region 12 with fail
  obtain ⟨w9, hw9⟩ : ∃ w9, w8.setCell ⟨ib, 10, none⟩ (.slice (some ⟨jb, 0, none⟩) N capJ) = w9 := ⟨_, rfl⟩
  have HW9 : Hid (Ra w cf now hd ao jo L ca N cj ib ab capA jb capJ la w9 ∧ RwJ w9 jb (jl ++ [mkJ])) := by
    have hz := HZ.out
    have k8 : Chg (fun j => j = ib) w8 w9 := by rw [← hw9]; exact (Chg.refl (fun j => j = ib) w8).setCell ⟨ib, 10, none⟩ _ (.inl rfl)
    refine ⟨⟨HW8.out.1.chg k8 (by omega), ?_, HW8.out.2.2.1.chg k8 (by omega), k8.below HW8.out.2.2.2.2 HW8.out.2.2.2.2.size (fun j e => by omega)⟩, HW8.out.2.2.2.1.chg k8 (by omega)⟩
    rw [← hw9]
    exact heap_setCell_same w8 ib 10 _ 27 _ HW8.out.2.1
  rw [hw9]
  clear hw9 HW8 k10 z1 z2
  obtain ⟨RK, hRK⟩ : ∃ RK, rankL (lenE cf la) (facV la (wV la (flZ cf))) cf now jl = RK := ⟨_, rfl⟩
  have HRKS : Hid (∀ x, Ra w cf now hd ao jo L ca N cj ib ab capA jb capJ la x → RwJ x jb (jl ++ [mkJ]) → Calls Tryz.prog 6 #[.agg (stC cf now (.slice (some ⟨ab, 0, none⟩) L capA) (.slice (some ⟨jb, 0, none⟩) N capJ) hd)] x fun e w' => ∃ g n, e = .returned (.slice (some ⟨g, 0, none⟩) n n) ∧ n = RK.length ∧ x.heap.size ≤ g ∧ RwR w' g RK ∧ Below x.heap.size x w') := fun x hx hj => by
    have h := HIN.out.below hx.bel
    have hh := ranks_any (cf := cf) (now := now) (hd := hd) (cj := capJ) (gj := jb) (oj := 0) (jo := some ⟨jb, 0, none⟩) (ca := capA) h.tab hx.acc.acs h.nms h.us h.an (by rw [HL.out]; have := HCAP.out.1; omega) (fun _ => rfl) hj.jbs h.jn h.sl
    rw [hRK, HL.out, HN.out] at hh
    exact hh
  have HREF : Hid (∀ x, Below w.heap.size w x → Calls Tryz.prog 7 #[.agg (stC cf now (.slice ao L ca) (.slice jo N cj) hd)] x fun e w' => ∃ v, e = .returned v ∧ w'.ownsRow x.heap.size 40 2 v RK.length (flatP RK) ∧ Below x.heap.size x w') := fun x hx => by
    have hh := rranks_any (cf := cf) (now := now) (hd := hd) (cj := cj) (HIN.out.below hx)
    rw [hRK, HL.out, HN.out] at hh
    exact hh
  have HRL : Hid (RK.length ≤ N) := by
    rw [← hRK, (rank_perm _ _ _ _ _).length_eq, ← HN.out]; exact rkF_len jl 0
  clear hRK
  unfold stC at HRKS HREF
  have m0 : w9.cell? ⟨ib, 0, none⟩ = some (.int .i64 cf.nodes) := HW9.out.1.inb.cell rfl
  have m1 : w9.cell? ⟨ib, 1, none⟩ = some (.int .i64 cf.queue) := HW9.out.1.inb.cell rfl
  have m2 : w9.cell? ⟨ib, 2, none⟩ = some (.int .i64 cf.limit) := HW9.out.1.inb.cell rfl
  have m3 : w9.cell? ⟨ib, 3, none⟩ = some (.int .i64 cf.age) := HW9.out.1.inb.cell rfl
  have m4 : w9.cell? ⟨ib, 4, none⟩ = some (.int .i64 cf.fair) := HW9.out.1.inb.cell rfl
  have m5 : w9.cell? ⟨ib, 5, none⟩ = some (.int .i64 cf.size) := HW9.out.1.inb.cell rfl
  have m6 : w9.cell? ⟨ib, 6, none⟩ = some (.int .i64 cf.period) := HW9.out.1.inb.cell rfl
  have m7 : w9.cell? ⟨ib, 7, none⟩ = some (.int .i64 cf.half) := HW9.out.1.inb.cell rfl
  have m8 : w9.cell? ⟨ib, 8, none⟩ = some (.int .i64 now) := HW9.out.1.inb.cell rfl
  have m9 : w9.cell? ⟨ib, 9, none⟩ = some (.slice (some ⟨ab, 0, none⟩) L capA) := HW9.out.1.inb.cell rfl
  have m10 : w9.cell? ⟨ib, 10, none⟩ = some (.slice (some ⟨jb, 0, none⟩) N capJ) := HW9.out.1.inb.cell rfl
  have m11 : w9.cell? ⟨ib, 11, none⟩ = some (.int .i64 hd) := HW9.out.1.inb.cell rfl
  have c1 := HRKS.out w9 HW9.out.1 HW9.out.2
  go_wp2_with fail
  refine c1.mono ?_
  rintro e x1 ⟨g1, n, rfl, hn, hg1, hr1, hb1⟩
  have HX1 : Hid (Ra w cf now hd ao jo L ca N cj ib ab capA jb capJ la x1 ∧ RwJ x1 jb (jl ++ [mkJ]) ∧ RwR x1 g1 RK) := ⟨HW9.out.1.below hb1, HW9.out.2.chg (Chg.of_below hb1 (fun _ => False)) (fun e => e), hr1⟩
  have HZ1 : Hid (w.heap.size < ab ∧ ab < jb ∧ jb < ib ∧ ib < g1 ∧ g1 < x1.heap.size) := by have h1 := HZ.out; have h2 := HW9.out.1.inb.lt; have h3 := hr1.lt; show _ ∧ _; omega
  have HNR : Hid (n = RK.length) := hn
  clear c1 hn hg1 hr1 hb1 HW9 HZ m0 m1 m2 m3 m4 m5 m6 m7 m8 m9 m10 m11
  have m0 : x1.cell? ⟨ib, 0, none⟩ = some (.int .i64 cf.nodes) := HX1.out.1.inb.cell rfl
  have m1 : x1.cell? ⟨ib, 1, none⟩ = some (.int .i64 cf.queue) := HX1.out.1.inb.cell rfl
  have m2 : x1.cell? ⟨ib, 2, none⟩ = some (.int .i64 cf.limit) := HX1.out.1.inb.cell rfl
  have m3 : x1.cell? ⟨ib, 3, none⟩ = some (.int .i64 cf.age) := HX1.out.1.inb.cell rfl
  have m4 : x1.cell? ⟨ib, 4, none⟩ = some (.int .i64 cf.fair) := HX1.out.1.inb.cell rfl
  have m5 : x1.cell? ⟨ib, 5, none⟩ = some (.int .i64 cf.size) := HX1.out.1.inb.cell rfl
  have m6 : x1.cell? ⟨ib, 6, none⟩ = some (.int .i64 cf.period) := HX1.out.1.inb.cell rfl
  have m7 : x1.cell? ⟨ib, 7, none⟩ = some (.int .i64 cf.half) := HX1.out.1.inb.cell rfl
  have m8 : x1.cell? ⟨ib, 8, none⟩ = some (.int .i64 now) := HX1.out.1.inb.cell rfl
  have m9 : x1.cell? ⟨ib, 9, none⟩ = some (.slice (some ⟨ab, 0, none⟩) L capA) := HX1.out.1.inb.cell rfl
  have m10 : x1.cell? ⟨ib, 10, none⟩ = some (.slice (some ⟨jb, 0, none⟩) N capJ) := HX1.out.1.inb.cell rfl
  have m11 : x1.cell? ⟨ib, 11, none⟩ = some (.int .i64 hd) := HX1.out.1.inb.cell rfl
  have c2 := HRKS.out x1 HX1.out.1 HX1.out.2.1
  go_wp2_with fail
  refine c2.mono ?_
  rintro e x2 ⟨g2, n2, rfl, hn, hg2, hr2, hb2⟩
  obtain rfl : n2 = n := by rw [hn, HNR.out]
  have HX2 : Hid (Ra w cf now hd ao jo L ca N cj ib ab capA jb capJ la x2 ∧ RwJ x2 jb (jl ++ [mkJ]) ∧ RwR x2 g1 RK ∧ RwR x2 g2 RK) := ⟨HX1.out.1.below hb2, HX1.out.2.1.chg (Chg.of_below hb2 (fun _ => False)) (fun e => e), HX1.out.2.2.below hb2, hr2⟩
  have HZ2 : Hid (w.heap.size < ab ∧ ab < jb ∧ jb < ib ∧ ib < g1 ∧ g1 < g2 ∧ g2 < x2.heap.size) := by have h1 := HZ1.out; have h3 := hr2.lt; show _ ∧ _; omega
  clear c2 hn hg2 hr2 hb2 HX1 HZ1 m0 m1 m2 m3 m4 m5 m6 m7 m8 m9 m10 m11 HRKS
  have k0 : x2.cell? ⟨w.heap.size, 0, none⟩ = some (.int .i64 cf.nodes) := HX2.out.1.st.cell rfl
  have k1 : x2.cell? ⟨w.heap.size, 1, none⟩ = some (.int .i64 cf.queue) := HX2.out.1.st.cell rfl
  have k2 : x2.cell? ⟨w.heap.size, 2, none⟩ = some (.int .i64 cf.limit) := HX2.out.1.st.cell rfl
  have k3 : x2.cell? ⟨w.heap.size, 3, none⟩ = some (.int .i64 cf.age) := HX2.out.1.st.cell rfl
  have k4 : x2.cell? ⟨w.heap.size, 4, none⟩ = some (.int .i64 cf.fair) := HX2.out.1.st.cell rfl
  have k5 : x2.cell? ⟨w.heap.size, 5, none⟩ = some (.int .i64 cf.size) := HX2.out.1.st.cell rfl
  have k6 : x2.cell? ⟨w.heap.size, 6, none⟩ = some (.int .i64 cf.period) := HX2.out.1.st.cell rfl
  have k7 : x2.cell? ⟨w.heap.size, 7, none⟩ = some (.int .i64 cf.half) := HX2.out.1.st.cell rfl
  have k8 : x2.cell? ⟨w.heap.size, 8, none⟩ = some (.int .i64 now) := HX2.out.1.st.cell rfl
  have k9 : x2.cell? ⟨w.heap.size, 9, none⟩ = some (.slice ao L ca) := HX2.out.1.st.cell rfl
  have k10 : x2.cell? ⟨w.heap.size, 10, none⟩ = some (.slice jo N cj) := HX2.out.1.st.cell rfl
  have k11 : x2.cell? ⟨w.heap.size, 11, none⟩ = some (.int .i64 hd) := HX2.out.1.st.cell rfl
  have c3 := HREF.out x2 HX2.out.1.bel
  go_wp2_with fail
  refine c3.mono ?_
  rintro e x3 ⟨vw, rfl, hw3, hb3⟩
  have HX3 : Hid (Rc w cf now hd ao jo L ca N cj ib ab capA jb capJ la g2 vw RK x3.heap.size x3 ∧ RwJ x3 jb (jl ++ [mkJ]) ∧ RwR x3 g1 RK) := ⟨⟨HX2.out.1.below hb3, HX2.out.2.2.2.below hb3, ⟨hw3.1, by rcases hw3.2 with h0 | ⟨g, cap, cur, e1, h2, h3⟩; exact .inl h0; exact .inr ⟨g, cap, cur, e1, Nat.zero_le _, h3⟩⟩, Nat.le_refl _⟩, HX2.out.2.1.chg (Chg.of_below hb3 (fun _ => False)) (fun e => e), HX2.out.2.2.1.below hb3⟩
  have HVW : Hid (∀ j, vw.ownBlock = some j → x2.heap.size ≤ j ∧ j < x3.heap.size) := fun j e => hw3.lt j e
  obtain ⟨wo, cw, rfl, hwr⟩ := RkAt.of_own HX3.out.1.wn
  have HZ3 : Hid (w.heap.size < ab ∧ ab < jb ∧ jb < ib ∧ ib < g1 ∧ g1 < g2 ∧ g2 < x2.heap.size ∧ x2.heap.size ≤ x3.heap.size) := by have h1 := HZ2.out; have h2 := hb3.size; show _ ∧ _; omega
  have HSR : Hid (∀ x g, RwR x g RK → x.ownsRow 0 40 2 (.slice wo n2 cw) RK.length (flatP RK) → Calls Tryz.prog 8 #[.slice (some ⟨g, 0, none⟩) n2 n2, .slice wo n2 cw] x fun e w' => e = .returned (.bool true) ∧ Below x.heap.size x w') := fun x g hr ho => by
    obtain ⟨wo', cw', e1, hat⟩ := RkAt.of_own ho
    have e2 := Value.slice.inj e1
    rw [← e2.1] at hat
    exact ranks_yes HNR.out (RkAt.of_row hr) hat (by rw [HNR.out]; have := HRL.out; have := HJL.out; omega)
  have c4 := HSR.out x3 g1 HX3.out.2.2 (by rw [HNR.out]; exact HX3.out.1.wn)
  rw [← HNR.out]
  clear hwr HX2 HZ2 hw3 hb3 c3 HREF k0 k1 k2 k3 k4 k5 k6 k7 k8 k9 k10 k11
  go_wp2_with fail
  refine c4.mono ?_
  rintro e x4 ⟨rfl, hb4⟩
  have HX4 : Hid (Rc w cf now hd ao jo L ca N cj ib ab capA jb capJ la g2 (.slice wo RK.length cw) RK x3.heap.size x4 ∧ RwJ x4 jb (jl ++ [mkJ]) ∧ RwR x4 g1 RK) := ⟨HX3.out.1.below hb4, HX3.out.2.1.chg (Chg.of_below hb4 (fun _ => False)) (fun e => e), HX3.out.2.2.below hb4⟩
  have c5 := HSR.out x4 g2 HX4.out.1.rb (by rw [HNR.out]; exact HX4.out.1.wn)
  clear c4 hb4 HX3
  go_wp2_with fail
  refine c5.mono ?_
  rintro e x5 ⟨rfl, hb5⟩
  have HX5 : Hid (Rc w cf now hd ao jo L ca N cj ib ab capA jb capJ la g2 (.slice wo RK.length cw) RK x3.heap.size x5 ∧ RwJ x5 jb (jl ++ [mkJ]) ∧ RwR x5 g1 RK) := ⟨HX4.out.1.below hb5, HX4.out.2.1.chg (Chg.of_below hb5 (fun _ => False)) (fun e => e), HX4.out.2.2.below hb5⟩
  have k9 : x5.cell? ⟨w.heap.size, 9, none⟩ = some (.slice ao L ca) := HX5.out.1.ra.st.cell rfl
  have k10 : x5.cell? ⟨w.heap.size, 10, none⟩ = some (.slice jo N cj) := HX5.out.1.ra.st.cell rfl
  have q1 : x5.cell? ⟨ab, L * 5, none⟩ = some (.string ⟨#[109, 97, 114, 107]⟩) := (HX5.out.1.ra.acc.at (mark_at la mkA L HL.out)).nm
  have q2 : x5.cell? ⟨jb, N * 8, none⟩ = some (.int .i64 (-77)) := (HX5.out.2.1.at (mark_at jl mkJ N HN.out)).j0
  clear c5 hb5 HX4
  go_wp2
  clear k9 k10 q1 q2
  go_loopg [9] L (fun gk x wq => ∃ k : Nat, k + gk = L ∧ x = .int .i64 k ∧ Rc w cf now hd ao jo L ca N cj ib ab capA jb capJ la g2 (.slice wo RK.length cw) RK x3.heap.size wq ∧ RwJ wq jb (jl ++ [mkJ]) ∧ RwR wq g1 RK)
  case atStart => exact ⟨0, by omega, rfl, HX5.out⟩
  case round =>
    obtain ⟨k, hk, rfl, hrc, hrj, hrr⟩ := hrel
    have HX : Hid (Rc w cf now hd ao jo L ca N cj ib ab capA jb capJ la g2 (.slice wo RK.length cw) RK x3.heap.size wr ∧ RwJ wr jb (jl ++ [mkJ]) ∧ RwR wr g1 RK) := ⟨hrc, hrj, hrr⟩
    have k9 : wr.cell? ⟨w.heap.size, 9, none⟩ = some (.slice ao L ca) := hrc.ra.st.cell rfl
    have m9 : wr.cell? ⟨ib, 9, none⟩ = some (.slice (some ⟨ab, 0, none⟩) L capA) := hrc.ra.inb.cell rfl
    clear hrc hrj hrr HX5
    by_cases hlt : k < L
    · obtain ⟨a, ha⟩ : ∃ a, la[k]? = some a := ⟨_, List.getElem?_eq_getElem (by have := HL.out; omega)⟩
      obtain ⟨gs, os, h1, h2⟩ := HIN.out.acs.below HX.out.1.ra.bel
      obtain rfl := h1 (by have := HL.out; omega)
      obtain ⟨y0, y1, y2, y3, y4⟩ := h2 k a ha
      obtain ⟨z0, z1, z2, z3, z4⟩ := HX.out.1.ra.acc.at (k := k) (a := a) (by rw [List.getElem?_append_left (by have := HL.out; omega)]; exact ha)
      have HW : Hid (wrap64 ((k : Int) + 1) = ((k + 1 : Nat) : Int)) := wrap64_nat (h := k + 1) (by have := HAL.out; omega)
      have hlt' : (k : Int) < L := by omega
      clear h1 h2 ha
      generalize a.nm = nm at *
      generalize a.pa = pa at *
      generalize a.sh = sh at *
      generalize a.cl = cl at *
      generalize a.us = us at *
      go_upto_region 20 with fail
      go_quiet (fail)
      have HX2' : Hid (Rc w cf now hd (some ⟨gs, os, none⟩) jo L ca N cj ib ab capA jb capJ la g2 (.slice wo RK.length cw) RK x3.heap.size (wr.drewN nq) ∧ RwJ (wr.drewN nq) jb (jl ++ [mkJ]) ∧ RwR (wr.drewN nq) g1 RK) := ⟨HX.out.1.below (dNr wr nq), HX.out.2.1.chg (Chg.of_below (dNr wr nq) (fun _ => False)) (fun e => e), HX.out.2.2.below (dNr wr nq)⟩
      clear y0 y1 y2 y3 y4 z0 z1 z2 z3 z4
      go_wp2
      go_roundg (L - (k + 1))
      case measure => omega
      case rel => exact ⟨k + 1, by omega, by first | rfl | (rw [HW.out]), HX2'.out⟩
    · have hge : ¬ (k : Int) < L := by omega
      have HX6 : Hid (Rc w cf now hd ao jo L ca N cj ib ab capA jb capJ la g2 (.slice wo RK.length cw) RK x3.heap.size wr ∧ RwJ wr jb (jK jl 0) ∧ RwR wr g1 RK) := by rw [jK_0]; exact HX.out
      clear HX hlt
      go_wp2
      clear k9 m9
      go_loopg [10] N (fun gk x wq => ∃ i : Nat, i + gk = N ∧ x = .int .i64 i ∧ Rc w cf now hd ao jo L ca N cj ib ab capA jb capJ la g2 (.slice wo RK.length cw) RK x3.heap.size wq ∧ RwJ wq jb (jK jl i) ∧ RwR wq g1 RK)
      case atStart => exact ⟨0, by omega, rfl, HX6.out⟩
      case round =>
        obtain ⟨i, hi, rfl, hrc, hrj, hrr⟩ := hrel
        have HX : Hid (Rc w cf now hd ao jo L ca N cj ib ab capA jb capJ la g2 (.slice wo RK.length cw) RK x3.heap.size wr ∧ RwJ wr jb (jK jl i) ∧ RwR wr g1 RK) := ⟨hrc, hrj, hrr⟩
        have k10 : wr.cell? ⟨w.heap.size, 10, none⟩ = some (.slice jo N cj) := hrc.ra.st.cell rfl
        have m10 : wr.cell? ⟨ib, 10, none⟩ = some (.slice (some ⟨jb, 0, none⟩) N capJ) := hrc.ra.inb.cell rfl
        clear hrc hrj hrr HX6
        by_cases hlt : i < N
        · obtain ⟨j, hj⟩ : ∃ j, jl[i]? = some j := ⟨_, List.getElem?_eq_getElem (by have := HN.out; omega)⟩
          obtain ⟨sa, sl, sc, gg, oo, vv, hse, hsl, hsa, hsv⟩ := HSET.out j (List.mem_of_getElem? hj)
          obtain ⟨y0, y1, y2, y3, y4, y5, y6, y7⟩ := HX.out.2.1.at (jK_at hj)
          rw [hse] at y7
          have HSI : Hid (∀ x, Below w.heap.size w x → Calls Tryz.prog 9 #[.slice sa sl sc, .slice sa sl sc] x fun e w' => e = .returned (.bool true) ∧ ∃ q, w' = x.drewN q) := fun x hx => ints_yes gg oo sl sc gg oo sc sa sa vv x hsa hsa hsl (fun t ht => cellB hx (hsv t ht)) (fun t ht => cellB hx (hsv t ht))
          have HJI : Hid (jl[i]? = some j ∧ j.set = .slice sa sl sc) := ⟨hj, hse⟩
          obtain rfl := HIN.out.jo (by have := HN.out; omega)
          have HW : Hid (wrap64 ((i : Int) + 1) = ((i + 1 : Nat) : Int)) := wrap64_nat (h := i + 1) (by have := HJL.out; omega)
          have hlt' : (i : Int) < N := by omega
          clear hse hsl hsa hsv hj
          go_upto_region 26 with fail
          obtain ⟨p1, hp1⟩ : ∃ p1, wr.heap.size = p1 := ⟨_, rfl⟩
          obtain ⟨u1, hu1⟩ : ∃ u1, wr.alloc (.cells #[.int .i64 j.ac, .int .i64 j.nd, .int .i64 j.lm, .int .i64 j.sb, .int .i64 j.st, .int .i64 j.sr, .int .i64 j.en, .slice sa sl sc] 34) = u1 := ⟨_, rfl⟩
          have b1 : Below wr.heap.size wr u1 := by rw [← hu1]; exact (Below.refl _ _).alloc (Nat.le_refl _) _
          have HU1 : Hid (Rc w cf now hd ao (some ⟨gj, oj, none⟩) L ca N cj ib ab capA jb capJ la g2 (.slice wo RK.length cw) RK x3.heap.size u1 ∧ RwJ u1 jb (jK jl i) ∧ RwR u1 g1 RK) := ⟨HX.out.1.below b1, HX.out.2.1.chg (Chg.of_below b1 (fun _ => False)) (fun e => e), HX.out.2.2.below b1⟩
          have HP1 : Hid (u1.heap[p1]? = some (.cells #[.int .i64 j.ac, .int .i64 j.nd, .int .i64 j.lm, .int .i64 j.sb, .int .i64 j.st, .int .i64 j.sr, .int .i64 j.en, .slice sa sl sc] 34 (0, 0))) := by rw [← hu1, ← hp1]; exact heap_alloc_new wr _
          rw [hu1, hp1]
          clear hu1 hp1 b1 HX k10 m10 y0 y1 y2 y3 y4 y5 y6 y7
          have k10 : u1.cell? ⟨w.heap.size, 10, none⟩ = some (.slice (some ⟨gj, oj, none⟩) N cj) := HU1.out.1.ra.st.cell rfl
          obtain ⟨y0, y1, y2, y3, y4, y5, y6, y7⟩ := HIN.out.jb.below HU1.out.1.ra.bel i j HJI.out.1
          rw [HJI.out.2] at y7
          go_upto_region 27 with fail
          obtain ⟨p2, hp2⟩ : ∃ p2, u1.heap.size = p2 := ⟨_, rfl⟩
          obtain ⟨u2, hu2⟩ : ∃ u2, u1.alloc (.cells #[.int .i64 j.ac, .int .i64 j.nd, .int .i64 j.lm, .int .i64 j.sb, .int .i64 j.st, .int .i64 j.sr, .int .i64 j.en, .slice sa sl sc] 34) = u2 := ⟨_, rfl⟩
          have b2 : Below u1.heap.size u1 u2 := by rw [← hu2]; exact (Below.refl _ _).alloc (Nat.le_refl _) _
          have HU2 : Hid (Rc w cf now hd ao (some ⟨gj, oj, none⟩) L ca N cj ib ab capA jb capJ la g2 (.slice wo RK.length cw) RK x3.heap.size u2 ∧ RwJ u2 jb (jK jl i) ∧ RwR u2 g1 RK) := ⟨HU1.out.1.below b2, HU1.out.2.1.chg (Chg.of_below b2 (fun _ => False)) (fun e => e), HU1.out.2.2.below b2⟩
          have HP2 : Hid (u2.heap[p1]? = some (.cells #[.int .i64 j.ac, .int .i64 j.nd, .int .i64 j.lm, .int .i64 j.sb, .int .i64 j.st, .int .i64 j.sr, .int .i64 j.en, .slice sa sl sc] 34 (0, 0)) ∧ u2.heap[p2]? = some (.cells #[.int .i64 j.ac, .int .i64 j.nd, .int .i64 j.lm, .int .i64 j.sb, .int .i64 j.st, .int .i64 j.sr, .int .i64 j.en, .slice sa sl sc] 34 (0, 0))) := ⟨(b2.block p1 (Array.getElem?_eq_some_iff.1 HP1.out).1).trans HP1.out, by rw [← hu2, ← hp2]; exact heap_alloc_new u1 _⟩
          rw [hu2, hp2]
          clear hu2 hp2 b2 HU1 HP1 k10 y0 y1 y2 y3 y4 y5 y6 y7
          have e0 : u2.cell? ⟨p1, 0, none⟩ = some (.int .i64 j.ac) := cells_at HP2.out.1 rfl
          have f0 : u2.cell? ⟨p2, 0, none⟩ = some (.int .i64 j.ac) := cells_at HP2.out.2 rfl
          have n0 : (j.ac != j.ac) = false := by simp
          have e1 : u2.cell? ⟨p1, 1, none⟩ = some (.int .i64 j.nd) := cells_at HP2.out.1 rfl
          have f1 : u2.cell? ⟨p2, 1, none⟩ = some (.int .i64 j.nd) := cells_at HP2.out.2 rfl
          have n1 : (j.nd != j.nd) = false := by simp
          have e2 : u2.cell? ⟨p1, 2, none⟩ = some (.int .i64 j.lm) := cells_at HP2.out.1 rfl
          have f2 : u2.cell? ⟨p2, 2, none⟩ = some (.int .i64 j.lm) := cells_at HP2.out.2 rfl
          have n2 : (j.lm != j.lm) = false := by simp
          have e3 : u2.cell? ⟨p1, 3, none⟩ = some (.int .i64 j.sb) := cells_at HP2.out.1 rfl
          have f3 : u2.cell? ⟨p2, 3, none⟩ = some (.int .i64 j.sb) := cells_at HP2.out.2 rfl
          have n3 : (j.sb != j.sb) = false := by simp
          have e4 : u2.cell? ⟨p1, 4, none⟩ = some (.int .i64 j.st) := cells_at HP2.out.1 rfl
          have f4 : u2.cell? ⟨p2, 4, none⟩ = some (.int .i64 j.st) := cells_at HP2.out.2 rfl
          have n4 : (j.st != j.st) = false := by simp
          have e5 : u2.cell? ⟨p1, 5, none⟩ = some (.int .i64 j.sr) := cells_at HP2.out.1 rfl
          have f5 : u2.cell? ⟨p2, 5, none⟩ = some (.int .i64 j.sr) := cells_at HP2.out.2 rfl
          have n5 : (j.sr != j.sr) = false := by simp
          have e6 : u2.cell? ⟨p1, 6, none⟩ = some (.int .i64 j.en) := cells_at HP2.out.1 rfl
          have f6 : u2.cell? ⟨p2, 6, none⟩ = some (.int .i64 j.en) := cells_at HP2.out.2 rfl
          have n6 : (j.en != j.en) = false := by simp
          have e7 : u2.cell? ⟨p1, 7, none⟩ = some (.slice sa sl sc) := cells_at HP2.out.1 rfl
          have f7 : u2.cell? ⟨p2, 7, none⟩ = some (.slice sa sl sc) := cells_at HP2.out.2 rfl
          have cS := HSI.out u2 HU2.out.1.ra.bel
          go_wp2_with fail
          refine cS.mono ?_
          rintro e u3 ⟨rfl, qq, hqq⟩
          have b3 : Below u2.heap.size u2 u3 := by rw [hqq]; exact dNr u2 qq
          have HU3 : Hid (Rc w cf now hd ao (some ⟨gj, oj, none⟩) L ca N cj ib ab capA jb capJ la g2 (.slice wo RK.length cw) RK x3.heap.size u3 ∧ RwJ u3 jb (jK jl i) ∧ RwR u3 g1 RK) := ⟨HU2.out.1.below b3, HU2.out.2.1.chg (Chg.of_below b3 (fun _ => False)) (fun e => e), HU2.out.2.2.below b3⟩
          clear cS hqq b3 HU2 HP2 e0 f0 e1 f1 e2 f2 e3 f3 e4 f4 e5 f5 e6 f6 e7 f7 n0 n1 n2 n3 n4 n5 n6
          have m10 : u3.cell? ⟨ib, 10, none⟩ = some (.slice (some ⟨jb, 0, none⟩) N capJ) := HU3.out.1.ra.inb.cell rfl
          obtain ⟨y0, y1, y2, y3, y4, y5, y6, y7⟩ := HU3.out.2.1.at (jK_at HJI.out.1)
          have fz0 := HU3.out.2.1.free (i * 8)
          have fz1 := HU3.out.2.1.free (i * 8 + 1)
          have fz2 := HU3.out.2.1.free (i * 8 + 2)
          have fz3 := HU3.out.2.1.free (i * 8 + 3)
          have fz4 := HU3.out.2.1.free (i * 8 + 4)
          have fz5 := HU3.out.2.1.free (i * 8 + 5)
          have fz6 := HU3.out.2.1.free (i * 8 + 6)
          have fz7 := HU3.out.2.1.free (i * 8 + 7)
          have HLJ : Hid (i < (jK jl i).length) := by rw [jK_len (by have := HN.out; omega)]; have := HN.out; show i < _; omega
          have HNX : Hid (Rc w cf now hd ao (some ⟨gj, oj, none⟩) L ca N cj ib ab capA jb capJ la g2 (.slice wo RK.length cw) RK x3.heap.size ((((((((u3.setCell ⟨jb, i * 8, none⟩ (.int .i64 0)).setCell ⟨jb, i * 8 + 1, none⟩ (.int .i64 0)).setCell ⟨jb, i * 8 + 2, none⟩ (.int .i64 0)).setCell ⟨jb, i * 8 + 3, none⟩ (.int .i64 0)).setCell ⟨jb, i * 8 + 4, none⟩ (.int .i64 1)).setCell ⟨jb, i * 8 + 5, none⟩ (.int .i64 0)).setCell ⟨jb, i * 8 + 6, none⟩ (.int .i64 0)).setCell ⟨jb, i * 8 + 7, none⟩ (.slice none 0 0)) ∧ RwJ ((((((((u3.setCell ⟨jb, i * 8, none⟩ (.int .i64 0)).setCell ⟨jb, i * 8 + 1, none⟩ (.int .i64 0)).setCell ⟨jb, i * 8 + 2, none⟩ (.int .i64 0)).setCell ⟨jb, i * 8 + 3, none⟩ (.int .i64 0)).setCell ⟨jb, i * 8 + 4, none⟩ (.int .i64 1)).setCell ⟨jb, i * 8 + 5, none⟩ (.int .i64 0)).setCell ⟨jb, i * 8 + 6, none⟩ (.int .i64 0)).setCell ⟨jb, i * 8 + 7, none⟩ (.slice none 0 0)) jb (jK jl (i + 1)) ∧ RwR ((((((((u3.setCell ⟨jb, i * 8, none⟩ (.int .i64 0)).setCell ⟨jb, i * 8 + 1, none⟩ (.int .i64 0)).setCell ⟨jb, i * 8 + 2, none⟩ (.int .i64 0)).setCell ⟨jb, i * 8 + 3, none⟩ (.int .i64 0)).setCell ⟨jb, i * 8 + 4, none⟩ (.int .i64 1)).setCell ⟨jb, i * 8 + 5, none⟩ (.int .i64 0)).setCell ⟨jb, i * 8 + 6, none⟩ (.int .i64 0)).setCell ⟨jb, i * 8 + 7, none⟩ (.slice none 0 0)) g1 RK) := by
            have hz := HZ3.out
            have kc : Chg (fun q => q = jb) u3 ((((((((u3.setCell ⟨jb, i * 8, none⟩ (.int .i64 0)).setCell ⟨jb, i * 8 + 1, none⟩ (.int .i64 0)).setCell ⟨jb, i * 8 + 2, none⟩ (.int .i64 0)).setCell ⟨jb, i * 8 + 3, none⟩ (.int .i64 0)).setCell ⟨jb, i * 8 + 4, none⟩ (.int .i64 1)).setCell ⟨jb, i * 8 + 5, none⟩ (.int .i64 0)).setCell ⟨jb, i * 8 + 6, none⟩ (.int .i64 0)).setCell ⟨jb, i * 8 + 7, none⟩ (.slice none 0 0)) := (((((((((Chg.refl (fun q => q = jb) u3).setCell ⟨jb, _, none⟩ _ (.inl rfl)).setCell ⟨jb, _, none⟩ _ (.inl rfl)).setCell ⟨jb, _, none⟩ _ (.inl rfl)).setCell ⟨jb, _, none⟩ _ (.inl rfl)).setCell ⟨jb, _, none⟩ _ (.inl rfl)).setCell ⟨jb, _, none⟩ _ (.inl rfl)).setCell ⟨jb, _, none⟩ _ (.inl rfl)).setCell ⟨jb, _, none⟩ _ (.inl rfl))
            refine ⟨HU3.out.1.chg kc (by omega) (by omega) (by omega) (fun q e => by omega) (by omega) (fun q e => by have := HVW.out q e; omega), ?_, HU3.out.2.2.chg kc (by omega)⟩
            rw [← jK_set HJI.out.1]
            exact HU3.out.2.1.set HLJ.out pnJ
          clear HU3 HLJ
          go_wp2
          go_roundg (N - (i + 1))
          case measure => omega
          case rel => exact ⟨i + 1, by omega, by first | rfl | (rw [HW.out]), HNX.out⟩
        · have hge2 : ¬ (i : Int) < N := by omega
          have HX7 : Hid (RK.length = n2 ∧ RwR wr g1 RK ∧ Rc w cf now hd ao jo L ca N cj ib ab capA jb capJ la g2 (.slice wo RK.length cw) RK x3.heap.size wr ∧ x3.heap.size ≤ wr.heap.size) := ⟨HNR.out.symm, HX.out.2.2, HX.out.1, HX.out.1.wl⟩
          clear HX hlt
          go_wp2
          clear k10 m10
          go_loopg [13] n2 (fun gk x wq => ∃ (t : Nat) (A' : List Pr), t + gk = n2 ∧ x = .int .i64 t ∧ A'.length = n2 ∧ RwR wq g1 A' ∧ Rc w cf now hd ao jo L ca N cj ib ab capA jb capJ la g2 (.slice wo RK.length cw) RK x3.heap.size wq ∧ x3.heap.size ≤ wq.heap.size)
          case atStart => exact ⟨0, RK, by omega, rfl, HX7.out⟩
          case round =>
            obtain ⟨t, A', ht, rfl, hl', hra, hrc, hsz⟩ := hrel
            have HX : Hid (A'.length = n2 ∧ RwR wr g1 A' ∧ Rc w cf now hd ao jo L ca N cj ib ab capA jb capJ la g2 (.slice wo RK.length cw) RK x3.heap.size wr ∧ x3.heap.size ≤ wr.heap.size) := ⟨hl', hra, hrc, hsz⟩
            clear hl' hra hrc hsz HX7
            by_cases hlt : t < n2
            · obtain ⟨p, hp⟩ : ∃ p, A'[t]? = some p := ⟨_, List.getElem?_eq_getElem (by have := HX.out.1; omega)⟩
              obtain ⟨a1, a2⟩ := HX.out.2.1.at hp
              have f1 := HX.out.2.1.free (t * 2)
              have f2 := HX.out.2.1.free (t * 2 + 1)
              have HX8 : Hid ((A'.set t ⟨-9, 0⟩).length = n2 ∧ RwR ((wr.setCell ⟨g1, t * 2, none⟩ (.int .i64 (-9))).setCell ⟨g1, t * 2 + 1, none⟩ (.int .i64 0)) g1 (A'.set t ⟨-9, 0⟩) ∧ Rc w cf now hd ao jo L ca N cj ib ab capA jb capJ la g2 (.slice wo RK.length cw) RK x3.heap.size ((wr.setCell ⟨g1, t * 2, none⟩ (.int .i64 (-9))).setCell ⟨g1, t * 2 + 1, none⟩ (.int .i64 0)) ∧ x3.heap.size ≤ ((wr.setCell ⟨g1, t * 2, none⟩ (.int .i64 (-9))).setCell ⟨g1, t * 2 + 1, none⟩ (.int .i64 0)).heap.size) := by
                have hz := HZ3.out
                refine ⟨by rw [List.length_set]; exact HX.out.1, HX.out.2.1.set t ⟨-9, 0⟩, HX.out.2.2.1.chg (K := fun q => q = g1) (((Chg.refl (fun q => q = g1) wr).setCell ⟨g1, _, none⟩ _ (.inl rfl)).setCell ⟨g1, _, none⟩ _ (.inl rfl)) (by omega) (by omega) (by omega) (fun q e => by omega) (by omega) (fun q e => by have := HVW.out q e; omega), by simpa using HX.out.2.2.2⟩
              have HW : Hid (wrap64 ((t : Int) + 1) = ((t + 1 : Nat) : Int)) := wrap64_nat (h := t + 1) (by have := HJL.out; have := HRL.out; have := HNR.out; omega)
              have hlt' : (t : Int) < n2 := by omega
              clear hp HX
              go_wp2
              go_roundg (n2 - (t + 1))
              case measure => omega
              case rel => exact ⟨t + 1, _, by omega, by first | rfl | (rw [HW.out]), HX8.out⟩
            · have hge3 : ¬ (t : Int) < n2 := by omega
              have HOW : Hid (wr.ownsRow 0 40 2 (.slice (some ⟨g1, 0, none⟩) n2 n2) n2 (flatP A')) := by
                have h := RwR.own A' HX.out.2.1 (by rw [HX.out.1]; exact Nat.le_trans (m := 140737488355328) (by have := HJL.out; have := HRL.out; have := HNR.out; omega) (by decide))
                rw [HX.out.1] at h
                exact h
              have HX9 : Hid (Rc w cf now hd ao jo L ca N cj ib ab capA jb capJ la g2 (.slice wo RK.length cw) RK x3.heap.size wr ∧ x3.heap.size ≤ wr.heap.size) := HX.out.2.2
              clear HX hlt
              go_wp2
              go_loopg [14, 15] 9 (fun gk v x wq => ∃ (t : Nat) (xs : List Value), t + gk = 9 ∧ x = .int .i64 t ∧ wq.ownsRow 0 40 2 v (n2 + t) xs ∧ (∀ q, v.ownBlock = some q → q = g1 ∨ x3.heap.size ≤ q) ∧ Rc w cf now hd ao jo L ca N cj ib ab capA jb capJ la g2 (.slice wo RK.length cw) RK x3.heap.size wq ∧ x3.heap.size ≤ wq.heap.size)
              case atStart => exact ⟨0, flatP A', by omega, rfl, HOW.out, (fun q e => by simp [Value.ownBlock] at e; exact .inl e.symm), HX9.out⟩
              case round =>
                obtain ⟨t', xs, ht', rfl, hown, hne, hrc, hsz⟩ := hrel
                have HX : Hid (wr.ownsRow 0 40 2 u14 (n2 + t') xs) := hown
                have HY : Hid ((∀ q, u14.ownBlock = some q → q = g1 ∨ x3.heap.size ≤ q) ∧ Rc w cf now hd ao jo L ca N cj ib ab capA jb capJ la g2 (.slice wo RK.length cw) RK x3.heap.size wr ∧ x3.heap.size ≤ wr.heap.size) := ⟨hne, hrc, hsz⟩
                clear hown hne hrc hsz HOW HX9
                by_cases hlt : t' < 9
                · have HW : Hid (wrap64 ((t' : Int) + 1) = ((t' + 1 : Nat) : Int)) := wrap64_nat (h := t' + 1) (by omega)
                  have hlt' : (t' : Int) < 9 := by omega
                  have HQ : Hid (n2 * 80 ≤ 140737488351232) := by have h1 := HJL.out; have h2 := HRL.out; have h3 := HNR.out; show n2 * 80 ≤ _; omega
                  obtain ⟨ii, hii, hz0, hz1, hz2⟩ := info_parts Tryz.soRa
                  go_wp2_with (at_builtin; refine wpList_append_own_at _ rfl (.tmp 195) (.tmp 197) 35 rfl 0 40 ii _ 2 16 Tryz.underlying35 hii hz0 hz1 hz2 rfl (by decide) u14 (n2 + t') xs rfl (HX.out.alloc _) ⟨wr.heap.size, 0, none⟩ 1 1 [.int .i64 (-8), .int .i64 0] rfl rfl (two_newR wr _ _) two_oneR ?_ ?_ ?_ ?_; (exact (Nat.le_trans (m := 140737488355328) (by have := HQ.out; omega) (by decide))); (have := HQ.out; omega); (exact Nat.zero_le _); intro v6 w6' hown6 hgr6 _ hor6; have HX6 : Hid (w6'.ownsRow 0 40 2 v6 (n2 + t' + 1) (xs ++ [.int .i64 (-8), .int .i64 0])) := hown6; have HY6 : Hid ((∀ q, v6.ownBlock = some q → q = g1 ∨ x3.heap.size ≤ q) ∧ Rc w cf now hd ao jo L ca N cj ib ab capA jb capJ la g2 (.slice wo RK.length cw) RK x3.heap.size w6' ∧ x3.heap.size ≤ w6'.heap.size) := nine_rc HY.out.1 HY.out.2.1 HY.out.2.2 HZ3.out HVW.out hgr6 hor6; clear hown6 hgr6 hor6)
                  go_roundg (9 - (t' + 1))
                  case measure => omega
                  case rel => exact ⟨t' + 1, _, by omega, by first | rfl | (rw [HW.out]), HX6.out, HY6.out⟩
                · have hge4 : ¬ (t' : Int) < 9 := by omega
                  have c9 := HSR.out wr g2 HY.out.2.1.rb (by rw [HNR.out]; exact HY.out.2.1.wn)
                  have HBF : Hid (Below w.heap.size w wr) := HY.out.2.1.ra.bel
                  clear HX HY hlt
                  go_wp2_with fail
                  refine c9.mono ?_
                  rintro e x9 ⟨rfl, hb9⟩
                  have HBZ : Hid (Below w.heap.size w x9) := HBF.out.trans (hb9.mono HBF.out.size)
                  clear c9 hb9
                  go_wp2
                  go_ret
                  exact ⟨rfl, HBZ.out⟩
end Go.Proofs.YtjgllfpnmmopdaaGreatDoor
