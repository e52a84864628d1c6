/-
  TEXTS: SpT, SpR.
-/
import Derived.Test.YtceoibfliggalaaGreatDoorKv43
import Derived.Test.YtceoibfliggalaaGreatDoorKv44
import Derived.Test.YtceoibfliggalaaGreatDoorKv46
import Derived.Test.YtceoibfliggalaaGreatDoorKv47
import Derived.Test.YtceoibfliggalaaGreatDoorKv39
import Derived.Test.YtceoibfliggalaaGreatDoorKv42
namespace Go.Proofs.YtceoibfliggalaaGreatDoor
open Go.RowKit Wd Tr Cg Ld Lg
set_option maxRecDepth 20000 in
set_option maxHeartbeats 4000000 in
theorem turned_walk {w : World} (hT : Tab w) (c : Cf) (now : Int) {ao : Option Addr} {la : List Ac} {ca : Nat} {jo : Option Addr} {ps : List Pj} {cj : Nat} (hd : Int) (h : StIn w ao la ca jo ps cj) (at_ bt : Int) :
  Calls Tryz.prog 6 #[.agg (stL c now ao la.length ca jo ps.length cj hd), .int .i64 at_, .int .i64 bt] w fun e w' => e = .returned (.bool true) ∧ Below w.heap.size w w' := by
 obtain ⟨W, hW⟩ : ∃ W, w.alloc (.cells (stL c now ao la.length ca jo ps.length cj hd) 27) = W := ⟨_, rfl⟩
 have bW : Below w.heap.size w W := by rw [← hW]; exact (Below.refl _ w).alloc (Nat.le_refl _) _
 have HBW : Hid (Below w.heap.size w W) := bW
 have HT : Hid (Tab w) := hT
 have HST : Hid (∀ {x : World}, Below w.heap.size w x → StIn x ao la ca jo ps cj) := fun b => h.below b
 have hbox : W.heap[w.heap.size]? = some (.cells (stL c now ao la.length ca jo ps.length cj hd) 27 (0, 0)) := by rw [← hW]; exact heap_alloc_new w _
 unfold stL at hbox hW
 have HCL : Hid (∀ x : World, Below W.heap.size W x → x.cell? ⟨w.heap.size, 0, none⟩ = some (.int .i64 c.nodes) ∧ x.cell? ⟨w.heap.size, 1, none⟩ = some (.int .i64 c.queue) ∧ x.cell? ⟨w.heap.size, 2, none⟩ = some (.int .i64 c.limit) ∧ x.cell? ⟨w.heap.size, 3, none⟩ = some (.int .i64 c.age) ∧ x.cell? ⟨w.heap.size, 4, none⟩ = some (.int .i64 c.fair) ∧ x.cell? ⟨w.heap.size, 5, none⟩ = some (.int .i64 c.size) ∧ x.cell? ⟨w.heap.size, 6, none⟩ = some (.int .i64 c.period) ∧ x.cell? ⟨w.heap.size, 7, none⟩ = some (.int .i64 c.half) ∧ x.cell? ⟨w.heap.size, 8, none⟩ = some (.int .i64 now) ∧ x.cell? ⟨w.heap.size, 9, none⟩ = some (.slice ao la.length ca) ∧ x.cell? ⟨w.heap.size, 10, none⟩ = some (.slice jo ps.length cj) ∧ x.cell? ⟨w.heap.size, 11, none⟩ = some (.int .i64 hd)) := fun x b => ⟨cellB b (cells_at hbox rfl), cellB b (cells_at hbox rfl), cellB b (cells_at hbox rfl), cellB b (cells_at hbox rfl), cellB b (cells_at hbox rfl), cellB b (cells_at hbox rfl), cellB b (cells_at hbox rfl), cellB b (cells_at hbox rfl), cellB b (cells_at hbox rfl), cellB b (cells_at hbox rfl), cellB b (cells_at hbox rfl), cellB b (cells_at hbox rfl)⟩
 have hbe := beyond_any c now hd (h.below bW)
 unfold stL at hbe ⊢
 have HBE : Hid _ := hbe
 clear hbe hT h hbox
 obtain ⟨c0, c1, c2, c3, c4, c5, c6, c7, c8, c9, c10, c11⟩ := HCL.out W (Below.refl _ _)
 go_enter Tryz.func6, Tryz.ntmps6
 by_cases hbig : 2147483647 < byN la ps
 ·have HD : Hid (decide (2147483647 < byN la ps) = true) := decide_eq_true hbig
  clear hbig
  go_wp2_with (go_at_call 8; refine (show Calls _ _ _ _ _ from HBE.out).mono ?_; rintro e w1 ⟨rfl, b1⟩; rw [HD.out]; have HB1 : Hid (Below W.heap.size W w1) := b1; clear b1)
  go_ret
  exact ⟨rfl, HBW.out.trans (HB1.out.mono HBW.out.size)⟩
 have HD : Hid (decide (2147483647 < byN la ps) = false) := decide_eq_false hbig
 have HFIT : Hid _ := st_fits (c := c) (now := now) (hd := hd) hbig
 clear hbig
 go_upto_region 3 with (go_at_call 8; refine (show Calls _ _ _ _ _ from HBE.out).mono ?_; rintro e w1 ⟨rfl, b1⟩; rw [HD.out]; have HB1 : Hid (Below W.heap.size W w1) := b1; clear b1)
 clear HBE HD hW bW c0 c1 c2 c3 c4 c5 c6 c7 c8 c9 c10 c11
 have HX1 : Hid (Below w.heap.size w w1) := HBW.out.trans (HB1.out.mono HBW.out.size)
 go_upto_region 5 with (go_at_call 9; refine (sshown_any (Tab.below HX1.out HT.out)).mono ?_; rintro e w2 ⟨rfl, b2⟩; have HB2 : Hid (Below W.heap.size W w2) := HB1.out.trans (b2.mono HB1.out.size); have HX2 : Hid (Below w.heap.size w w2) := HX1.out.trans (b2.mono HX1.out.size); clear b2)
 obtain ⟨c0, c1, c2, c3, c4, c5, c6, c7, c8, c9, c10, c11⟩ := HCL.out w2 HB2.out
 have hpu := put_any c now hd (HST.out HX2.out) (Nat.le_trans HFIT.out.2 (by decide)) (Nat.le_trans HFIT.out.1 (by decide))
 unfold stL at hpu
 have HPU : Hid (Calls Tryz.prog 11 #[.agg #[.int .i64 c.nodes, .int .i64 c.queue, .int .i64 c.limit, .int .i64 c.age, .int .i64 c.fair, .int .i64 c.size, .int .i64 c.period, .int .i64 c.half, .int .i64 now, .slice ao la.length ca, .slice jo ps.length cj, .int .i64 hd]] w2 (PutP w2 ⟨c, now, la, ps.map Pj.v, hd⟩)) := hpu
 clear hpu
 by_cases hau : auditV (chkZ c) ⟨c, now, la, ps.map Pj.v, hd⟩ = 0
 case neg =>
  have HAU : Hid _ := hau
  clear hau
  go_wp2_with (go_at_call 11; refine HPU.out.mono ?_; rintro e w3 ⟨hp, b3⟩; rw [if_neg HAU.out] at hp; obtain rfl := hp; have HX3 : Hid (Below w.heap.size w w3) := HX2.out.trans (b3.mono HX2.out.size); clear b3)
  go_ret
  exact ⟨rfl, HX3.out⟩
 have HAU : Hid _ := hau
 clear hau
 go_upto_region 6 with (go_at_call 11; refine HPU.out.mono ?_; rintro e w3 ⟨hp, b3⟩; rw [if_pos HAU.out] at hp; obtain ⟨B, rfl, hB1, hB2⟩ := hp; have HX3 : Hid (Below w.heap.size w w3) := HX2.out.trans (b3.mono HX2.out.size); have HB3 : Hid (Below W.heap.size W w3) := HB2.out.trans (b3.mono HB2.out.size); have HBB : Hid (w3.heap[B]? = some (.cells (Lib.byteCells (stB ⟨c, now, la, ps.map Pj.v, hd⟩)).toArray 5 (0, 0))) := hB2; clear b3 hB1 hB2)
 clear HPU c0 c1 c2 c3 c4 c5 c6 c7 c8 c9 c10 c11
 obtain ⟨R, hR⟩ : ∃ R, stB ⟨c, now, la, ps.map Pj.v, hd⟩ = R := ⟨_, rfl⟩
 rw [hR] at HBB HFIT ⊢
 have HR : Hid (stB ⟨c, now, la, ps.map Pj.v, hd⟩ = R) := hR
 clear hR
 by_cases h1 : at_ < 0
 ·go_wp2
  go_ret
  exact ⟨rfl, HX3.out⟩
 by_cases h2 : (R.length : Int) ≤ at_
 ·have h1' : 0 ≤ at_ := by omega
  clear h1
  go_wp2
  go_ret
  exact ⟨rfl, HX3.out⟩
 by_cases h3 : bt < 0
 ·have h1' : 0 ≤ at_ := by omega
  have h2' : at_ < (R.length : Int) := by omega
  clear h1 h2
  go_wp2
  go_ret
  exact ⟨rfl, HX3.out⟩
 by_cases h4 : 7 < bt
 ·have h1' : 0 ≤ at_ := by omega
  have h2' : at_ < (R.length : Int) := by omega
  have h3' : 0 ≤ bt := by omega
  clear h1 h2 h3
  go_wp2
  go_ret
  exact ⟨rfl, HX3.out⟩
 obtain ⟨k, rfl⟩ : ∃ k : Nat, at_ = k := ⟨at_.toNat, by omega⟩
 obtain ⟨m, rfl⟩ : ∃ m : Nat, bt = m := ⟨bt.toNat, by omega⟩
 have h1' : decide ((k : Int) < 0) = false := decide_eq_false (by omega)
 have h2' : decide ((R.length : Int) ≤ (k : Int)) = false := decide_eq_false (by omega)
 have h3' : decide ((m : Int) < 0) = false := decide_eq_false (by omega)
 have h4' : decide ((7 : Int) < (m : Int)) = false := decide_eq_false (by omega)
 have hk : k < R.length := by omega
 have hm : m < 8 := by omega
 clear h1 h2 h3 h4
 obtain ⟨b, hb⟩ : ∃ b, R[k]? = some b := ⟨_, List.getElem?_eq_getElem hk⟩
 have HKB : Hid (R[k]? = some b) := hb
 have HM : Hid (m < 8) := hm
 have HK : Hid (k < R.length) := hk
 clear hb hm hk
 have HBY : Hid (BytAt w3 (some ⟨B, 0, none⟩) R) := ⟨B, 0, fun _ => rfl, fun j u hu => by rw [Nat.zero_add]; exact cells_at HBB.out (by simp [Lib.byteCells, hu])⟩
 go_upto_region 9 with (go_at_call 16; go_loud (refine (lendBytes_any (cap := R.length) HBY.out nofun (Nat.le_trans HFIT.out.1 (by decide))).mono ?_; rintro e w4 ⟨v, rfl, hown, b4⟩; obtain ⟨g, cap, cur, rfl, hg, hheap, hle, hmx, hsz, htake⟩ := lent_own hown; have HX4 : Hid (Below w.heap.size w w4) := HX3.out.trans (b4.mono HX3.out.size); have HB4 : Hid (Below W.heap.size W w4) := HB3.out.trans (b4.mono HB3.out.size); have HG4 : Hid (w4.heap[g]? = some (.cells cur 5 (0, 0))) := hheap; have HGL : Hid (w3.heap.size ≤ g) := hg; have HTK : Hid (∀ (j : Nat) (u : UInt8), R[j]? = some u → cur[j]? = some (Value.int .u8 (u.toNat : Int))) := htake; have HCAP : Hid (R.length ≤ cap) := (show R.length ≤ cap by omega); have hcp : (R.length : Int) ≤ (cap : Int) := (by omega); clear b4 hown hheap hg htake hle hmx hsz))
 have HG5 : Hid (w4.drew.heap[g]? = some (.cells cur 5 (0, 0))) := HG4.out
 have HF : Hid (∀ x : World, x = w4.drew → x.cell? ⟨g, k, none⟩ = some (.int .u8 (b.toNat : Int)) ∧ x.frozen? ⟨g, k, none⟩ = false ∧ True) := fun x e => by rw [e]; exact ⟨cells_at HG5.out (HTK.out k b HKB.out), frozen_at HG5.out, trivial⟩
 refine wp_region_last (S := fun x => x = w4.drew) (L := 10) (by kernel_rfl) ?_
 have HS0 : (fun x => x = w4.drew) w4.drew := rfl
 refine tc [0, 9, 10] 0 HS0 (h := ?_)
 refine tc [1, 9, 10] 1 HS0 (h := ?_)
 refine tc [2, 4, 5, 8, 10] 2 HS0 (h := ?_)
 refine tc [3, 4, 5, 8, 10] 3 HS0 (h := ?_)
 refine tc [4, 5, 8, 10] 4 HS0 (h := ?_)
 refine tc [5, 8, 10] 5 HS0 (h := ?_)
 refine tc [6, 7, 8, 10] 6 HS0 (h := ?_)
 refine tc [7, 8, 10] 7 HS0 (h := ?_)
 refine tc [8, 10] 8 HS0 (h := ?_)
 refine tc [9, 10] 9 HS0 (h := ?_)
 obtain ⟨q1, q2, _⟩ := HF.out _ rfl
 refine last_one (i := 10) (by kernel_rfl) rfl ?_
 intro K hK
 go_simp
 refine hK.out _ _ (fun h => absurd rfl h) (fun _ => ?_)
 clear hK K HS0 HF q1 q2
 refine last_done (by kernel_rfl) ?_ _
 rw [xor_val HM.out]
 obtain ⟨w5, hw5⟩ : ∃ w5, (w4.setCell ⟨g, k, none⟩ (.int .u8 ((bitU b m).toNat : Int))).drew = w5 := ⟨_, rfl⟩
 rw [hw5]
 have HX5 : Hid (Below w.heap.size w w5) := by
  show Below _ _ _
  rw [← hw5]
  have b5 := HX4.out.setCell (p := ⟨g, k, none⟩) (Nat.le_trans HX3.out.size HGL.out) (.int .u8 ((bitU b m).toNat : Int))
  exact b5.trans ((bel_drawU _ 1).mono b5.size)
 have HB5 : Hid (Below W.heap.size W w5) := by
  show Below _ _ _
  rw [← hw5]
  have b5 := HB4.out.setCell (p := ⟨g, k, none⟩) (Nat.le_trans HB3.out.size HGL.out) (.int .u8 ((bitU b m).toNat : Int))
  exact b5.trans ((bel_drawU _ 1).mono b5.size)
 have HBY5 : Hid (BytAt w5 (some ⟨g, 0, none⟩) (R.set k (bitU b m))) := by
  refine ⟨g, 0, fun _ => rfl, fun j u hu => ?_⟩
  rw [Nat.zero_add, ← hw5]
  refine cells_at (heap_setCell_same w4 g k _ _ (.int .u8 ((bitU b m).toNat : Int)) HG4.out) ?_
  by_cases hjk : k = j
  ·subst hjk
   rw [List.getElem?_set_self HK.out] at hu
   cases hu
   have := (Array.getElem?_eq_some_iff.1 (HTK.out k b HKB.out)).1
   simp [this]
  ·rw [List.getElem?_set_ne hjk] at hu
   rw [Array.getElem?_setIfInBounds_ne hjk]
   exact HTK.out j u hu
 have hge := get_any (c0 := cap) HBY5.out (by rw [List.length_set]; exact HCAP.out) nofun (by rw [List.length_set]; exact Nat.le_trans HFIT.out.1 (by decide))
 rw [List.length_set] at hge
 have HGE : Hid (Calls Tryz.prog 17 #[.slice (some ⟨g, 0, none⟩) R.length cap] w5 (GetP w5 (R.set k (bitU b m)))) := hge
 have HNE : Hid (R.set k (bitU b m) ≠ R) := set_ne HKB.out HM.out
 have HLN : Hid ((R.set k (bitU b m)).length ≤ 2147483647) := (show _ from by rw [List.length_set]; exact HFIT.out.1)
 clear hge hw5 HBY5 HG4 HG5 HTK HCAP HKB HBB HBY
 generalize R.set k (bitU b m) = R' at *
 obtain ⟨c', now', hd', hr2⟩ := rd2_ten R'
 have HR2 : Hid _ := hr2
 clear hr2
 by_cases h7 : rd7 R' = none
 case pos =>
  have H7 : Hid (rd7 R' = none) := h7
  clear h7
  go_wp2_with (go_at_call 17; refine HGE.out.mono ?_; intro e w6 hgf; obtain ⟨b6, hif⟩ := get_form HR2.out hgf; rw [if_pos H7.out] at hif; obtain rfl := hif; have HX6 : Hid (Below w.heap.size w w6) := HX5.out.trans (b6.mono HX5.out.size); clear b6 hgf)
  go_ret
  exact ⟨rfl, HX6.out.trans (((Below.refl _ w6).alloc (Nat.le_refl _) _).mono HX6.out.size)⟩
 have H7 : Hid (¬ rd7 R' = none) := h7
 clear h7
 by_cases hau : auditV (chkZ c') ⟨c', now', (rd4 R').1, (rd6 R').1, hd'⟩ = 0
 case neg =>
  have HA2 : Hid _ := hau
  clear hau
  go_wp2_with (go_at_call 17; refine HGE.out.mono ?_; intro e w6 hgf; obtain ⟨b6, hif⟩ := get_form HR2.out hgf; rw [if_neg H7.out, if_neg HA2.out] at hif; obtain rfl := hif; have HX6 : Hid (Below w.heap.size w w6) := HX5.out.trans (b6.mono HX5.out.size); clear b6 hgf)
  go_ret
  exact ⟨rfl, HX6.out.trans (((Below.refl _ w6).alloc (Nat.le_refl _) _).mono HX6.out.size)⟩
 have HA2 : Hid _ := hau
 clear hau
 go_upto_region 11 with (go_at_call 17; refine HGE.out.mono ?_; intro e w6 hgf; obtain ⟨b6, hif⟩ := get_form HR2.out hgf; rw [if_neg H7.out, if_pos HA2.out] at hif; obtain ⟨gA, gJ, qs, hqs, rfl, hrd⟩ := hif; have HX6 : Hid (Below w.heap.size w w6) := HX5.out.trans (b6.mono HX5.out.size); have HB6 : Hid (Below W.heap.size W w6) := HB5.out.trans (b6.mono HB5.out.size); have HQS : Hid (qs.map Pj.v = (rd6 R').1) := hqs; have HRD : Hid (RdS w6 w5.heap.size gA gJ (rd4 R').1 qs) := hrd; clear b6 hgf hqs hrd; unfold stC)
 have hbk := read_back H7.out HR2.out
 rw [← HQS.out] at hbk
 have hsi := (st_read HRD.out (c := c') (now := now') (hd := hd') (by rw [hbk]; exact Nat.le_trans HLN.out (by decide)) (acs_us _ _)).1
 have hss := HST.out HX6.out
 have HNO : Hid (¬ (c' = c ∧ now' = now ∧ hd' = hd ∧ (rd4 R').1 = la ∧ qs.map Pj.v = ps.map Pj.v)) := fun hh => by
  obtain ⟨q1, q2, q3, q4, q5⟩ := hh
  rw [q1, q2, q3, q4, q5, HR.out] at hbk
  exact HNE.out hbk.symm
 obtain ⟨W7, hW7⟩ : ∃ W7, w6.alloc (.cells #[.int .i64 c'.nodes, .int .i64 c'.queue, .int .i64 c'.limit, .int .i64 c'.age, .int .i64 c'.fair, .int .i64 c'.size, .int .i64 c'.period, .int .i64 c'.half, .int .i64 now', .slice (some ⟨gA, 0, none⟩) (rd4 R').1.length (rd4 R').1.length, .slice (some ⟨gJ, 0, none⟩) qs.length qs.length, .int .i64 hd'] 27) = W7 := ⟨_, rfl⟩
 have b7 : Below w6.heap.size w6 W7 := by rw [← hW7]; exact (Below.refl _ w6).alloc (Nat.le_refl _) _
 have hg7 : W7.heap[w6.heap.size]? = some (.cells #[.int .i64 c'.nodes, .int .i64 c'.queue, .int .i64 c'.limit, .int .i64 c'.age, .int .i64 c'.fair, .int .i64 c'.size, .int .i64 c'.period, .int .i64 c'.half, .int .i64 now', .slice (some ⟨gA, 0, none⟩) (rd4 R').1.length (rd4 R').1.length, .slice (some ⟨gJ, 0, none⟩) qs.length qs.length, .int .i64 hd'] 27 (0, 0)) := by rw [← hW7]; exact heap_alloc_new w6 _
 have h8 := sameState_b (c := c') (c' := c) (now := now') (now' := now) (hd := hd') (hd' := hd) (rd4 R').1.length qs.length ca cj (hsi.acs.below b7) (hss.acs.below b7) (hsi.jobs.below b7) (hss.jobs.below b7) (by have := hsi.l48; omega) hsi.l80 hsi.sl
 unfold stL at h8
 have HSS : Hid (Calls Tryz.prog 19 #[.agg #[.int .i64 c'.nodes, .int .i64 c'.queue, .int .i64 c'.limit, .int .i64 c'.age, .int .i64 c'.fair, .int .i64 c'.size, .int .i64 c'.period, .int .i64 c'.half, .int .i64 now', .slice (some ⟨gA, 0, none⟩) (rd4 R').1.length (rd4 R').1.length, .slice (some ⟨gJ, 0, none⟩) qs.length qs.length, .int .i64 hd'], .agg #[.int .i64 c.nodes, .int .i64 c.queue, .int .i64 c.limit, .int .i64 c.age, .int .i64 c.fair, .int .i64 c.size, .int .i64 c.period, .int .i64 c.half, .int .i64 now, .slice ao la.length ca, .slice jo ps.length cj, .int .i64 hd]] W7 (Tells W7 (c' = c ∧ now' = now ∧ hd' = hd ∧ (rd4 R').1 = la ∧ qs.map Pj.v = ps.map Pj.v))) := h8
 have HX7 : Hid (Below w.heap.size w W7) := HX6.out.trans (b7.mono HX6.out.size)
 obtain ⟨c0, c1, c2, c3, c4, c5, c6, c7, c8, c9, c10, c11⟩ := HCL.out W7 (HB6.out.trans (b7.mono HB6.out.size))
 have e0 : W7.cell? ⟨w6.heap.size, 0, none⟩ = some (.int .i64 c'.nodes) := cells_at hg7 rfl
 have e1 : W7.cell? ⟨w6.heap.size, 1, none⟩ = some (.int .i64 c'.queue) := cells_at hg7 rfl
 have e2 : W7.cell? ⟨w6.heap.size, 2, none⟩ = some (.int .i64 c'.limit) := cells_at hg7 rfl
 have e3 : W7.cell? ⟨w6.heap.size, 3, none⟩ = some (.int .i64 c'.age) := cells_at hg7 rfl
 have e4 : W7.cell? ⟨w6.heap.size, 4, none⟩ = some (.int .i64 c'.fair) := cells_at hg7 rfl
 have e5 : W7.cell? ⟨w6.heap.size, 5, none⟩ = some (.int .i64 c'.size) := cells_at hg7 rfl
 have e6 : W7.cell? ⟨w6.heap.size, 6, none⟩ = some (.int .i64 c'.period) := cells_at hg7 rfl
 have e7 : W7.cell? ⟨w6.heap.size, 7, none⟩ = some (.int .i64 c'.half) := cells_at hg7 rfl
 have e8 : W7.cell? ⟨w6.heap.size, 8, none⟩ = some (.int .i64 now') := cells_at hg7 rfl
 have e9 : W7.cell? ⟨w6.heap.size, 9, none⟩ = some (.slice (some ⟨gA, 0, none⟩) (rd4 R').1.length (rd4 R').1.length) := cells_at hg7 rfl
 have e10 : W7.cell? ⟨w6.heap.size, 10, none⟩ = some (.slice (some ⟨gJ, 0, none⟩) qs.length qs.length) := cells_at hg7 rfl
 have e11 : W7.cell? ⟨w6.heap.size, 11, none⟩ = some (.int .i64 hd') := cells_at hg7 rfl
 rw [hW7]
 clear hW7 hg7 h8 b7 hsi hss hbk
 go_wp2_with (go_at_call 19; refine HSS.out.mono ?_; intro e w8 hx; obtain ⟨rfl, b8⟩ := Tells.not HNO.out hx; have HX8 : Hid (Below w.heap.size w w8) := HX7.out.trans (b8.mono HX7.out.size); clear b8 hx)
 go_ret
 exact ⟨rfl, HX8.out⟩
end Go.Proofs.YtceoibfliggalaaGreatDoor
namespace Go.Proofs.YtceoibfliggalaaGreatDoor
open Go.ChangeShapes Go.WideShapes Go.ChangeAt Go.RowKit Go.Joins Wd Ld Cg Tr Lg
set_option maxRecDepth 100000 in
theorem turned_lifted (os : Os) (started : os.Started) (H : Type) (enc : TypeId × Value → H) :
  ReturnsInHanded {} Tryz.checked os 6 .any (fun w args => (Rows.snapTurnedSpec.pre enc Tryz.prog Tryz.f6 [] false w args ∧ laidMetH Tryz.prog LaidL w) ∧ sizedMet enc Tryz.prog Tryz.f6 (OpenSpec.ofChange Rows.snapTurnedSpec) false w args)
   (Rows.snapTurnedSpec.post enc Tryz.prog Tryz.f6 false true false false) := by
 refine returnsInHanded_of_change_and (C := Tryz.checked) (X := fun w _ => laidMetH Tryz.prog LaidL w) (fun _ _ _ hh h => h.of_heap hh) Tryz.own started (by kernel_rfl) Tryz.func6
  (ChangeSpec.witness_at (enc := enc) (C := Tryz.checked) (os := os) (X := fun w _ => laidMetH Tryz.prog LaidL w) false { World.holding Tryz.prog os ⟨#[], #[], []⟩ with heap := (World.holding Tryz.prog os ⟨#[], #[], []⟩).heap.modify 0 laidObj } #[.agg #[.int .i64 0, .int .i64 0, .int .i64 0, .int .i64 0, .int .i64 0, .int .i64 0, .int .i64 0, .int .i64 0, .int .i64 0, .slice none 0 0, .slice none 0 0, .int .i64 0], .int .i64 0, .int .i64 0] 8 rfl (by kernel_rfl) (by kernel_rfl) (by kernel_rfl) (by kernel_rfl) (by kernel_rfl) (laid_met os _)) ?_
 intro W base args ds gs before hval0 hW _ hsz0 hL _
 have hsz : (DataW.weightsEach Tryz.prog (Tryz.f6.params.toList ++ Rows.snapTurnedSpec.plain.varTypes Tryz.prog) (ds ++ gs)).all (· ≤ reachBytes) = true := hsz0
 have hval : ∀ (j : Nat) t v, Tryz.f6.params[j]? = some t → args[j]? = some v → Value.okWide Tryz.prog W .any base t v := hval0
 have hW' := hW
 obtain ⟨p, q, hA0, hV, rfl, hfz, hnd⟩ := hW
 have hA : DataW.TrodAll enc Tryz.prog W 0 (fun _ => true) true Tryz.f6.params.toList args.toList ds p := hA0
 rw [Tryz.params6] at hA hval hsz
 obtain ⟨v0, v1, v2, d0, d1, d2, p0, p1, p2, rfl, rfl, rfl, h0, h1, h2⟩ := trodAll_three hA
 obtain ⟨rfl, rfl⟩ := trodVars_none hV
 have hk0 := h0
 obtain ⟨cf0, now0, hd0, ao0, jo0, la0, ps0, ca0, cj0, rfl, hin0⟩ := state_in (hval 0 27 v0 rfl rfl) h0 (fun k hk => of_decide_eq_true (List.all_eq_true.1 hsz k (DataW.weights_mem_each (j := 0) (t := 27) rfl rfl k hk)))
 have hk1 := h1
 obtain ⟨x1, rfl⟩ := okWide_int Tryz.underlying3 (hval 1 3 v1 rfl rfl)
 have hk2 := h2
 obtain ⟨x2, rfl⟩ := okWide_int Tryz.underlying3 (hval 2 3 v2 rfl rfl)
 clear hA0 hval0
 simp only [List.append_nil] at hW'
 have hT := tab_of_laid hL
 have hlt0 : ∀ x ∈ p0, x.block < W.heap.size := fun x hx => hW'.lt x (by simp [hx])
 have a0 : ∀ (W' : World), Below W.heap.size W W' → DataW.Trod enc Tryz.prog W' 0 (fun b => decide (b < W.heap.size)) true 27 _ d0 p0 :=
  fun W' hn => Below.trod Tryz.laidOut (by kernel_rfl) (of_decide_eq_true (by kernel_rfl)) hk0 hn hlt0
 have hlt1 : ∀ x ∈ p1, x.block < W.heap.size := fun x hx => hW'.lt x (by simp [hx])
 have a1 : ∀ (W' : World), Below W.heap.size W W' → DataW.Trod enc Tryz.prog W' 0 (fun b => decide (b < W.heap.size)) true 3 _ d1 p1 :=
  fun W' hn => Below.trod Tryz.laidOut (by kernel_rfl) (of_decide_eq_true (by kernel_rfl)) hk1 hn hlt1
 have hlt2 : ∀ x ∈ p2, x.block < W.heap.size := fun x hx => hW'.lt x (by simp [hx])
 have a2 : ∀ (W' : World), Below W.heap.size W W' → DataW.Trod enc Tryz.prog W' 0 (fun b => decide (b < W.heap.size)) true 3 _ d2 p2 :=
  fun W' hn => Below.trod Tryz.laidOut (by kernel_rfl) (of_decide_eq_true (by kernel_rfl)) hk2 hn hlt2
 refine (turned_walk hT cf0 now0 hd0 hin0 x1 x2).mono fun e W' ⟨he, hg⟩ => ?_
 subst he
 exact ⟨_, rfl, _, _, _, [], _, [], hW', trodAll_mk1 (shut_bool Tryz.underlying4 _), trodAll_mk3 (a0 W' hg) (a1 W' hg) (a2 W' hg), rfl, hg.frame _, fun h => by cases h⟩
theorem turned_row : Rows.SnapTurnedSaid :=
 OpenClaim.holds_of_wide 6 Tryz.f6 rfl rfl rfl rfl rfl rfl rfl ⟨rfl, rfl, rfl, rfl, rfl⟩ rfl rfl rfl rfl rfl (by kernel_rfl) Tryz.func6 (by kernel_rfl)
  (of_decide_eq_true (by kernel_rfl)) (by unfold Func.isWrapper; first | (rw [if_pos (by decide +kernel)]; kernel_rfl) | (rw [if_neg (by decide +kernel)]; exact ⟨rfl, rfl⟩))
  (fun os started H enc _ => turned_lifted os started H enc)
theorem turned_holds : Rows.SnapTurnedCardSaid :=
 Claim7.holds_tied_plain_at .later [] [.data] true (true, "93019a37b43cc40eb6d377bad41c526b5da69ceac612c8bded333125ab71b752") true
  turned_row (fun _ h => by cases h) (by kernel_rfl) (fun _ h => by cases h) snapTurned_row_tie rfl ⟨rfl, rfl⟩ (by kernel_rfl) rfl
  (fun f fn hf hfn => by
   obtain rfl : f = 6 := Option.some.inj ((show Tryz.prog.funcNamed "backfill/backfilllaw19.SnapTurned" = some 6 by kernel_rfl).symm.trans hf) |>.symm
   obtain rfl : fn = Tryz.f6 := (Option.some.inj (Tryz.func6.symm.trans hfn)).symm
   exact ⟨by kernel_rfl, fun j t ht => by
    rw [Tryz.params6] at ht
    have h3 : t = 27 ∨ t = 3 ∨ t = 3 := by
     rcases j with _ | _ | _ | j
     ·exact (.inl (by simpa using ht.symm))
     ·exact (.inr (.inl (by simpa using ht.symm)))
     ·exact (.inr (.inr (by simpa using ht.symm)))
     ·simp at ht
    rcases h3 with rfl | rfl | rfl
    ·exact (show Tryz.prog.wantsStandIn 27 = false by kernel_rfl)
    ·exact (show Tryz.prog.wantsStandIn 3 = false by kernel_rfl)
    ·exact (show Tryz.prog.wantsStandIn 3 = false by kernel_rfl)⟩)
  (by kernel_rfl)
end Go.Proofs.YtceoibfliggalaaGreatDoor
namespace Go.Proofs.YtceoibfliggalaaGreatDoor
#print axioms turned_holds
end Go.Proofs.YtceoibfliggalaaGreatDoor
