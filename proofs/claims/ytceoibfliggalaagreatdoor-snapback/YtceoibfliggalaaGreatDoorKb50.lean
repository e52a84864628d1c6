/-
  TEXTS: SqT, SqR.
-/
import Derived.Test.YtceoibfliggalaaGreatDoorKb31
import Derived.Test.YtceoibfliggalaaGreatDoorKb34
import Derived.Test.YtceoibfliggalaaGreatDoorKb43
import Derived.Test.YtceoibfliggalaaGreatDoorKb46
import Derived.Test.YtceoibfliggalaaGreatDoorKb44
import Derived.Test.YtceoibfliggalaaGreatDoorKb47
import Derived.Test.YtceoibfliggalaaGreatDoorKb49
import Derived.Test.YtceoibfliggalaaGreatDoorKb32
namespace Go.Proofs.YtceoibfliggalaaGreatDoor
open Go.RowKit Wd Tr Cg Ld Lg
theorem byt_box {W : World} {B : Nat} {l : List UInt8} (h : W.heap[B]? = some (.cells (Lib.byteCells l).toArray 5 (0, 0))) : BytAt W (some ⟨B, 0, none⟩) l := ⟨B, 0, fun _ => rfl, fun j u hu => by rw [Nat.zero_add]; exact cells_at h (by simp [Lib.byteCells, hu])⟩
theorem byt_take {W : World} {ao : Option Addr} {l : List UInt8} (h : BytAt W ao l) (k : Nat) : BytAt W ao (l.take k) := by
 obtain ⟨g, o, h1, h2⟩ := h
 refine ⟨g, o, fun hp => h1 (by rw [List.length_take] at hp; omega), fun j u hu => h2 j u ?_⟩
 rw [List.getElem?_take] at hu
 split at hu
 ·exact hu
 ·cases hu
set_option maxRecDepth 20000 in
set_option maxHeartbeats 4000000 in
theorem back_walk {w : World} (hT : Tab w) (c : Cf) (now : Int) {ao : Option Addr} {la : List Ac} {ca : Nat} {jo : Option Addr} {ps : List Pj} {cj : Nat} (hd : Int) (h : StIn w ao la ca jo ps cj) {bo : Option Addr} {rb : List UInt8} {cb : Nat} (hb : BytAt w bo rb) (hcb : rb.length ≤ cb) (hbn : bo = none → cb = 0) (hbl : rb.length ≤ 140737488355328) :
  Calls Tryz.prog 5 #[.agg (stL c now ao la.length ca jo ps.length cj hd), .slice bo rb.length cb] w fun e w' => e = .returned (.bool true) ∧ Below w.heap.size w w' := by
 obtain ⟨W, hW⟩ : ∃ W, w.alloc (.cells (stL c now ao la.length ca jo ps.length cj hd) 27) = W := ⟨_, rfl⟩
 have bW : Below w.heap.size w W := by rw [← hW]; exact (Below.refl _ w).alloc (Nat.le_refl _) _
 have HBW : Hid (Below w.heap.size w W) := bW
 have HT : Hid (Tab w) := hT
 have HBT : Hid (∀ {x : World}, Below w.heap.size w x → BytAt x bo rb) := fun b => hb.below b
 have HGB : Hid (∀ {x : World}, Below w.heap.size w x → Calls Tryz.prog 17 #[.slice bo rb.length cb] x (GetP x rb)) := fun b => get_any (c0 := cb) (hb.below b) hcb hbn hbl
 have HBL : Hid (rb.length ≤ 140737488355328) := hbl
 have HST : Hid (∀ {x : World}, Below w.heap.size w x → StIn x ao la ca jo ps cj) := fun b => h.below b
 have hbox : W.heap[w.heap.size]? = some (.cells (stL c now ao la.length ca jo ps.length cj hd) 27 (0, 0)) := by rw [← hW]; exact heap_alloc_new w _
 unfold stL at hbox hW
 have HCL : Hid (∀ x : World, Below W.heap.size W x → x.cell? ⟨w.heap.size, 0, none⟩ = some (.int .i64 c.nodes) ∧ x.cell? ⟨w.heap.size, 1, none⟩ = some (.int .i64 c.queue) ∧ x.cell? ⟨w.heap.size, 2, none⟩ = some (.int .i64 c.limit) ∧ x.cell? ⟨w.heap.size, 3, none⟩ = some (.int .i64 c.age) ∧ x.cell? ⟨w.heap.size, 4, none⟩ = some (.int .i64 c.fair) ∧ x.cell? ⟨w.heap.size, 5, none⟩ = some (.int .i64 c.size) ∧ x.cell? ⟨w.heap.size, 6, none⟩ = some (.int .i64 c.period) ∧ x.cell? ⟨w.heap.size, 7, none⟩ = some (.int .i64 c.half) ∧ x.cell? ⟨w.heap.size, 8, none⟩ = some (.int .i64 now) ∧ x.cell? ⟨w.heap.size, 9, none⟩ = some (.slice ao la.length ca) ∧ x.cell? ⟨w.heap.size, 10, none⟩ = some (.slice jo ps.length cj) ∧ x.cell? ⟨w.heap.size, 11, none⟩ = some (.int .i64 hd)) := fun x b => ⟨cellB b (cells_at hbox rfl), cellB b (cells_at hbox rfl), cellB b (cells_at hbox rfl), cellB b (cells_at hbox rfl), cellB b (cells_at hbox rfl), cellB b (cells_at hbox rfl), cellB b (cells_at hbox rfl), cellB b (cells_at hbox rfl), cellB b (cells_at hbox rfl), cellB b (cells_at hbox rfl), cellB b (cells_at hbox rfl), cellB b (cells_at hbox rfl)⟩
 have hbe := beyond_any c now hd (h.below bW)
 have husw : ∀ a ∈ la, Word a.us := fun a ha => by obtain ⟨i, hi⟩ := List.mem_iff_getElem?.1 ha; exact h.us i a hi
 have HUS : Hid (∀ a ∈ la, Word a.us) := husw
 have HL2 : Hid (ps.length * 80 ≤ 281474976710656 ∧ ps.length ≤ cj ∧ (∀ p ∈ ps, p.v.set.length * 8 ≤ 140737488355328)) := ⟨h.l80, h.jcap, h.sl⟩
 unfold stL at hbe ⊢
 have HBE : Hid _ := hbe
 clear hbe hT h hbox hb hcb hbn hbl husw
 obtain ⟨nb, hnb⟩ : ∃ nb, rb.length = nb := ⟨_, rfl⟩
 rw [hnb] at HGB ⊢
 have HNB : Hid (rb.length = nb) := hnb
 clear hnb
 obtain ⟨c0, c1, c2, c3, c4, c5, c6, c7, c8, c9, c10, c11⟩ := HCL.out W (Below.refl _ _)
 go_enter Tryz.func5, Tryz.ntmps5
 by_cases hbig : 2147483647 < byN la ps
 ·have HD : Hid (decide (2147483647 < byN la ps) = true) := decide_eq_true hbig
  clear hbig
  go_wp2_with (go_at_call 8; refine (show Calls _ _ _ _ _ from HBE.out).mono ?_; rintro e w1 ⟨rfl, b1⟩; rw [HD.out]; have HB1 : Hid (Below W.heap.size W w1) := b1; clear b1)
  go_ret
  exact ⟨rfl, HBW.out.trans (HB1.out.mono HBW.out.size)⟩
 have HD : Hid (decide (2147483647 < byN la ps) = false) := decide_eq_false hbig
 have HFIT : Hid _ := st_fits (c := c) (now := now) (hd := hd) hbig
 have HFA : Hid (la.length * 48 ≤ 140737488355328) := (show la.length * 48 ≤ 140737488355328 from by have h4 := accs_by la; unfold byN at hbig; omega)
 clear hbig
 go_upto_region 3 with (go_at_call 8; refine (show Calls _ _ _ _ _ from HBE.out).mono ?_; rintro e w1 ⟨rfl, b1⟩; rw [HD.out]; have HB1 : Hid (Below W.heap.size W w1) := b1; clear b1)
 clear HBE HD hW bW c0 c1 c2 c3 c4 c5 c6 c7 c8 c9 c10 c11
 have HX1 : Hid (Below w.heap.size w w1) := HBW.out.trans (HB1.out.mono HBW.out.size)
 go_upto_region 5 with (go_at_call 9; refine (sshown_any (Tab.below HX1.out HT.out)).mono ?_; rintro e w2 ⟨rfl, b2⟩; have HB2 : Hid (Below W.heap.size W w2) := HB1.out.trans (b2.mono HB1.out.size); have HX2 : Hid (Below w.heap.size w w2) := HX1.out.trans (b2.mono HX1.out.size); clear b2)
 obtain ⟨c0, c1, c2, c3, c4, c5, c6, c7, c8, c9, c10, c11⟩ := HCL.out w2 HB2.out
 have hpu := put_any c now hd (HST.out HX2.out) (Nat.le_trans HFIT.out.2 (by decide)) (Nat.le_trans HFIT.out.1 (by decide))
 unfold stL at hpu
 have HPU : Hid (Calls Tryz.prog 11 #[.agg #[.int .i64 c.nodes, .int .i64 c.queue, .int .i64 c.limit, .int .i64 c.age, .int .i64 c.fair, .int .i64 c.size, .int .i64 c.period, .int .i64 c.half, .int .i64 now, .slice ao la.length ca, .slice jo ps.length cj, .int .i64 hd]] w2 (PutP w2 ⟨c, now, la, ps.map Pj.v, hd⟩)) := hpu
 have HUC : Hid (∀ x, Below w.heap.size w x → Calls Tryz.prog 21 #[.agg #[.int .i64 c.nodes, .int .i64 c.queue, .int .i64 c.limit, .int .i64 c.age, .int .i64 c.fair, .int .i64 c.size, .int .i64 c.period, .int .i64 c.half, .int .i64 now, .slice ao la.length ca, .slice jo ps.length cj, .int .i64 hd]] x fun e w' => e = .returned (.int .i64 (auditV (chkZ c) ⟨c, now, la, ps.map Pj.v, hd⟩)) ∧ Below x.heap.size x w') := fun x b => by
  have := ucheck_any c now ca cj hd ((HST.out b).acs) ((HST.out b).us) HFA.out (HST.out b).jobs (by have := HL2.out.1; omega) HL2.out.2.1 (fun p hp => by have := HL2.out.2.2 p hp; omega)
  unfold stL at this
  exact this
 clear hpu
 by_cases hau : auditV (chkZ c) ⟨c, now, la, ps.map Pj.v, hd⟩ = 0
 case neg =>
  have HAU : Hid _ := hau
  have hne : (auditV (chkZ c) ⟨c, now, la, ps.map Pj.v, hd⟩ == 0) = false := by simpa using hau
  clear hau
  go_upto_region 6 with (go_at_call 11; refine HPU.out.mono ?_; rintro e w3 ⟨hp, b3⟩; rw [if_neg HAU.out] at hp; obtain rfl := hp; have HB3 : Hid (Below W.heap.size W w3) := HB2.out.trans (b3.mono HB2.out.size); have HX3 : Hid (Below w.heap.size w w3) := HX2.out.trans (b3.mono HX2.out.size); clear b3)
  clear HPU c0 c1 c2 c3 c4 c5 c6 c7 c8 c9 c10 c11
  obtain ⟨c0, c1, c2, c3, c4, c5, c6, c7, c8, c9, c10, c11⟩ := HCL.out w3 HB3.out
  generalize auditV (chkZ c) ⟨c, now, la, ps.map Pj.v, hd⟩ = AV at *
  go_upto_region 16 with (go_at_call 21; refine (HUC.out w3 HX3.out).mono ?_; rintro e w4 ⟨rfl, b4⟩; have HX4 : Hid (Below w.heap.size w w4) := HX3.out.trans (b4.mono HX3.out.size); have HXw4 : Hid (Below w.heap.size w w4) := HX4.out; clear b4)
  clear c0 c1 c2 c3 c4 c5 c6 c7 c8 c9 c10 c11
  obtain ⟨c', now', hd', hr2⟩ := rd2_ten rb
  have HR2 : Hid _ := hr2
  clear hr2
  by_cases h7 : rd7 rb = none
  case pos =>
   have H7 : Hid (rd7 rb = none) := h7
   clear h7
   go_upto_region 17 with (go_at_call 17; refine (HGB.out HXw4.out).mono ?_; intro e w6 hgf; obtain ⟨b6, hif⟩ := get_form HR2.out hgf; rw [if_pos H7.out] at hif; obtain rfl := hif; have HX6 : Hid (Below w.heap.size w w6) := HXw4.out.trans (b6.mono HXw4.out.size); clear b6 hgf)
   obtain ⟨W7, hW7⟩ : ∃ W7, w6.alloc (.cells #[.int .i64 0, .int .i64 0, .int .i64 0, .int .i64 0, .int .i64 0, .int .i64 0, .int .i64 0, .int .i64 0, .int .i64 0, .slice none 0 0, .slice none 0 0, .int .i64 0] 27) = W7 := ⟨_, rfl⟩
   have b7 : Below w6.heap.size w6 W7 := by rw [← hW7]; exact (Below.refl _ w6).alloc (Nat.le_refl _) _
   have hg7 : W7.heap[w6.heap.size]? = some (.cells #[.int .i64 0, .int .i64 0, .int .i64 0, .int .i64 0, .int .i64 0, .int .i64 0, .int .i64 0, .int .i64 0, .int .i64 0, .slice none 0 0, .slice none 0 0, .int .i64 0] 27 (0, 0)) := by rw [← hW7]; exact heap_alloc_new w6 _
   have e9 : W7.cell? ⟨w6.heap.size, 9, none⟩ = some (.slice none 0 0) := cells_at hg7 rfl
   have e10 : W7.cell? ⟨w6.heap.size, 10, none⟩ = some (.slice none 0 0) := cells_at hg7 rfl
   have HX7 : Hid (Below w.heap.size w W7) := HX6.out.trans (b7.mono HX6.out.size)
   rw [hW7]
   clear hW7 b7 hg7
   go_wp2
   go_ret
   exact ⟨rfl, HX7.out⟩
  have H7 : Hid (¬ rd7 rb = none) := h7
  clear h7
  by_cases hau2 : auditV (chkZ c') ⟨c', now', (rd4 rb).1, (rd6 rb).1, hd'⟩ = 0
  case neg =>
   have HA2 : Hid _ := hau2
   clear hau2
   go_upto_region 17 with (go_at_call 17; refine (HGB.out HXw4.out).mono ?_; intro e w6 hgf; obtain ⟨b6, hif⟩ := get_form HR2.out hgf; rw [if_neg H7.out, if_neg HA2.out] at hif; obtain rfl := hif; have HX6 : Hid (Below w.heap.size w w6) := HXw4.out.trans (b6.mono HXw4.out.size); clear b6 hgf)
   obtain ⟨W7, hW7⟩ : ∃ W7, w6.alloc (.cells #[.int .i64 0, .int .i64 0, .int .i64 0, .int .i64 0, .int .i64 0, .int .i64 0, .int .i64 0, .int .i64 0, .int .i64 0, .slice none 0 0, .slice none 0 0, .int .i64 0] 27) = W7 := ⟨_, rfl⟩
   have b7 : Below w6.heap.size w6 W7 := by rw [← hW7]; exact (Below.refl _ w6).alloc (Nat.le_refl _) _
   have hg7 : W7.heap[w6.heap.size]? = some (.cells #[.int .i64 0, .int .i64 0, .int .i64 0, .int .i64 0, .int .i64 0, .int .i64 0, .int .i64 0, .int .i64 0, .int .i64 0, .slice none 0 0, .slice none 0 0, .int .i64 0] 27 (0, 0)) := by rw [← hW7]; exact heap_alloc_new w6 _
   have e9 : W7.cell? ⟨w6.heap.size, 9, none⟩ = some (.slice none 0 0) := cells_at hg7 rfl
   have e10 : W7.cell? ⟨w6.heap.size, 10, none⟩ = some (.slice none 0 0) := cells_at hg7 rfl
   have HX7 : Hid (Below w.heap.size w W7) := HX6.out.trans (b7.mono HX6.out.size)
   rw [hW7]
   clear hW7 b7 hg7
   go_wp2
   go_ret
   exact ⟨rfl, HX7.out⟩
  have HA2 : Hid _ := hau2
  clear hau2
  go_upto_region 17 with (go_at_call 17; refine (HGB.out HXw4.out).mono ?_; intro e w6 hgf; obtain ⟨b6, hif⟩ := get_form HR2.out hgf; rw [if_neg H7.out, if_pos HA2.out] at hif; obtain ⟨gA, gJ, qs, hqs, rfl, hrd⟩ := hif; have HX6 : Hid (Below w.heap.size w w6) := HXw4.out.trans (b6.mono HXw4.out.size); have HQS : Hid (qs.map Pj.v = (rd6 rb).1) := hqs; have HRD : Hid (RdS w6 w4.heap.size gA gJ (rd4 rb).1 qs) := hrd; clear b6 hgf hqs hrd; unfold stC)
  have hbk := read_back H7.out HR2.out
  rw [← HQS.out] at hbk
  have hsi := (st_read HRD.out (c := c') (now := now') (hd := hd') (by rw [hbk]; exact HBL.out) (acs_us _ _)).1
  have ha3 : auditV (chkZ c') ⟨c', now', (rd4 rb).1, qs.map Pj.v, hd'⟩ = 0 := by rw [HQS.out]; exact HA2.out
  obtain ⟨hk0, hok⟩ := aud_ok.1 ha3
  have hsm := st_small (s := ⟨c', now', (rd4 rb).1, qs.map Pj.v, hd'⟩) hk0 hok
  have hwf := (wf_load hok.load).len
  rw [List.length_map] at hwf
  have hmj := hok.many
  rw [List.length_map] at hmj
  simp only at hwf hmj
  obtain ⟨W7, hW7⟩ : ∃ W7, w6.alloc (.cells #[.int .i64 c'.nodes, .int .i64 c'.queue, .int .i64 c'.limit, .int .i64 c'.age, .int .i64 c'.fair, .int .i64 c'.size, .int .i64 c'.period, .int .i64 c'.half, .int .i64 now', .slice (some ⟨gA, 0, none⟩) (rd4 rb).1.length (rd4 rb).1.length, .slice (some ⟨gJ, 0, none⟩) qs.length qs.length, .int .i64 hd'] 27) = W7 := ⟨_, rfl⟩
  have b7 : Below w6.heap.size w6 W7 := by rw [← hW7]; exact (Below.refl _ w6).alloc (Nat.le_refl _) _
  have hg7 : W7.heap[w6.heap.size]? = some (.cells #[.int .i64 c'.nodes, .int .i64 c'.queue, .int .i64 c'.limit, .int .i64 c'.age, .int .i64 c'.fair, .int .i64 c'.size, .int .i64 c'.period, .int .i64 c'.half, .int .i64 now', .slice (some ⟨gA, 0, none⟩) (rd4 rb).1.length (rd4 rb).1.length, .slice (some ⟨gJ, 0, none⟩) qs.length qs.length, .int .i64 hd'] 27 (0, 0)) := by rw [← hW7]; exact heap_alloc_new w6 _
  have e0 : W7.cell? ⟨w6.heap.size, 0, none⟩ = some (.int .i64 c'.nodes) := cells_at hg7 rfl
  have e1 : W7.cell? ⟨w6.heap.size, 1, none⟩ = some (.int .i64 c'.queue) := cells_at hg7 rfl
  have e2 : W7.cell? ⟨w6.heap.size, 2, none⟩ = some (.int .i64 c'.limit) := cells_at hg7 rfl
  have e3 : W7.cell? ⟨w6.heap.size, 3, none⟩ = some (.int .i64 c'.age) := cells_at hg7 rfl
  have e4 : W7.cell? ⟨w6.heap.size, 4, none⟩ = some (.int .i64 c'.fair) := cells_at hg7 rfl
  have e5 : W7.cell? ⟨w6.heap.size, 5, none⟩ = some (.int .i64 c'.size) := cells_at hg7 rfl
  have e6 : W7.cell? ⟨w6.heap.size, 6, none⟩ = some (.int .i64 c'.period) := cells_at hg7 rfl
  have e7 : W7.cell? ⟨w6.heap.size, 7, none⟩ = some (.int .i64 c'.half) := cells_at hg7 rfl
  have e8 : W7.cell? ⟨w6.heap.size, 8, none⟩ = some (.int .i64 now') := cells_at hg7 rfl
  have e9 : W7.cell? ⟨w6.heap.size, 9, none⟩ = some (.slice (some ⟨gA, 0, none⟩) (rd4 rb).1.length (rd4 rb).1.length) := cells_at hg7 rfl
  have e10 : W7.cell? ⟨w6.heap.size, 10, none⟩ = some (.slice (some ⟨gJ, 0, none⟩) qs.length qs.length) := cells_at hg7 rfl
  have e11 : W7.cell? ⟨w6.heap.size, 11, none⟩ = some (.int .i64 hd') := cells_at hg7 rfl
  have HX7 : Hid (Below w.heap.size w W7) := HX6.out.trans (b7.mono HX6.out.size)
  have hin7 := hsi.below b7
  have hwt7 : wtN (rd4 rb).1 qs ≤ 281474976710656 := (st_read HRD.out (c := c') (now := now') (hd := hd') (by rw [hbk]; exact HBL.out) (acs_us _ _)).2
  have hp7 := put_any c' now' hd' hin7 hwt7 (Nat.le_trans hsm (by decide))
  unfold stL at hp7
  have HP7 : Hid (Calls Tryz.prog 11 #[.agg #[.int .i64 c'.nodes, .int .i64 c'.queue, .int .i64 c'.limit, .int .i64 c'.age, .int .i64 c'.fair, .int .i64 c'.size, .int .i64 c'.period, .int .i64 c'.half, .int .i64 now', .slice (some ⟨gA, 0, none⟩) (rd4 rb).1.length (rd4 rb).1.length, .slice (some ⟨gJ, 0, none⟩) qs.length qs.length, .int .i64 hd']] W7 (PutP W7 ⟨c', now', (rd4 rb).1, qs.map Pj.v, hd'⟩)) := hp7
  have HC7 : Hid (∀ x, Below W7.heap.size W7 x → Calls Tryz.prog 21 #[.agg #[.int .i64 c'.nodes, .int .i64 c'.queue, .int .i64 c'.limit, .int .i64 c'.age, .int .i64 c'.fair, .int .i64 c'.size, .int .i64 c'.period, .int .i64 c'.half, .int .i64 now', .slice (some ⟨gA, 0, none⟩) (rd4 rb).1.length (rd4 rb).1.length, .slice (some ⟨gJ, 0, none⟩) qs.length qs.length, .int .i64 hd']] x fun e w' => e = .returned (.int .i64 0) ∧ Below x.heap.size x w') := fun x b => by
   have := ucheck_any c' now' (rd4 rb).1.length qs.length hd' ((hin7.below b).acs) ((hin7.below b).us) (by omega) (hin7.below b).jobs (by omega) (Nat.le_refl _) (fun p hp => by have := hin7.sl p hp; omega)
   unfold stL at this
   rw [ha3] at this
   exact this
  have HCE : Hid (∀ x, Below W7.heap.size W7 x → x.cell? ⟨w6.heap.size, 0, none⟩ = some (.int .i64 c'.nodes) ∧ x.cell? ⟨w6.heap.size, 1, none⟩ = some (.int .i64 c'.queue) ∧ x.cell? ⟨w6.heap.size, 2, none⟩ = some (.int .i64 c'.limit) ∧ x.cell? ⟨w6.heap.size, 3, none⟩ = some (.int .i64 c'.age) ∧ x.cell? ⟨w6.heap.size, 4, none⟩ = some (.int .i64 c'.fair) ∧ x.cell? ⟨w6.heap.size, 5, none⟩ = some (.int .i64 c'.size) ∧ x.cell? ⟨w6.heap.size, 6, none⟩ = some (.int .i64 c'.period) ∧ x.cell? ⟨w6.heap.size, 7, none⟩ = some (.int .i64 c'.half) ∧ x.cell? ⟨w6.heap.size, 8, none⟩ = some (.int .i64 now') ∧ x.cell? ⟨w6.heap.size, 9, none⟩ = some (.slice (some ⟨gA, 0, none⟩) (rd4 rb).1.length (rd4 rb).1.length) ∧ x.cell? ⟨w6.heap.size, 10, none⟩ = some (.slice (some ⟨gJ, 0, none⟩) qs.length qs.length) ∧ x.cell? ⟨w6.heap.size, 11, none⟩ = some (.int .i64 hd')) := fun x b => ⟨cellB b (cells_at hg7 rfl), cellB b (cells_at hg7 rfl), cellB b (cells_at hg7 rfl), cellB b (cells_at hg7 rfl), cellB b (cells_at hg7 rfl), cellB b (cells_at hg7 rfl), cellB b (cells_at hg7 rfl), cellB b (cells_at hg7 rfl), cellB b (cells_at hg7 rfl), cellB b (cells_at hg7 rfl), cellB b (cells_at hg7 rfl), cellB b (cells_at hg7 rfl)⟩
  have HA3 : Hid _ := ha3
  have HBK : Hid (stB ⟨c', now', (rd4 rb).1, qs.map Pj.v, hd'⟩ = rb) := hbk
  rw [hW7]
  clear hW7 hg7 hp7 hin7 hwt7 b7 hsi hbk ha3 hok hk0 hsm hwf hmj
  go_upto_region 20 with (go_at_call 11; refine HP7.out.mono ?_; rintro e w8 ⟨hp, b8⟩; rw [if_pos HA3.out, HBK.out, HNB.out] at hp; obtain ⟨B8, rfl, _, hB8⟩ := hp; have HB8 : Hid (Below W7.heap.size W7 w8) := b8; have HX8 : Hid (Below w.heap.size w w8) := HX7.out.trans (b8.mono HX7.out.size); have HBY8 : Hid (BytAt w8 (some ⟨B8, 0, none⟩) rb) := byt_box hB8; clear b8 hB8)
  clear HP7 e0 e1 e2 e3 e4 e5 e6 e7 e8 e9 e10 e11
  obtain ⟨e0, e1, e2, e3, e4, e5, e6, e7, e8, e9, e10, e11⟩ := HCE.out w8 HB8.out
  go_wp2_with (first
   | (go_at_call 21; refine (HC7.out w8 HB8.out).mono ?_; rintro e w9 ⟨rfl, b9⟩; have HB9 : Hid (Below w8.heap.size w8 w9) := b9; have HX9 : Hid (Below w.heap.size w w9) := HX8.out.trans (b9.mono HX8.out.size); have hsb := sameBytes_b (w := w9) nb cb (HBY8.out.below b9) (HBT.out HX9.out) HBL.out; rw [HNB.out] at hsb; have HSB : Hid _ := hsb; clear b9 hsb)
   | (go_at_call 13; refine (show Calls _ _ _ _ _ from HSB.out).mono ?_; intro e w10 hx; obtain ⟨rfl, b10⟩ := Tells.is trivial hx; have HX10 : Hid (Below w.heap.size w w10) := HX9.out.trans (b10.mono HX9.out.size); clear b10 hx))
  go_ret
  exact ⟨rfl, HX10.out⟩
 have HAU : Hid (auditV (chkZ c) ⟨c, now, la, ps.map Pj.v, hd⟩ = 0) := hau
 clear hau
 go_upto_region 6 with (go_at_call 11; refine HPU.out.mono ?_; rintro e w3 ⟨hp, b3⟩; rw [if_pos HAU.out] at hp; obtain ⟨B, rfl, hB1, hB2⟩ := hp; have HX3 : Hid (Below w.heap.size w w3) := HX2.out.trans (b3.mono HX2.out.size); have HB3 : Hid (Below W.heap.size W w3) := HB2.out.trans (b3.mono HB2.out.size); have HBB : Hid (BytAt w3 (some ⟨B, 0, none⟩) (stB ⟨c, now, la, ps.map Pj.v, hd⟩)) := byt_box hB2; clear b3 hB1 hB2)
 clear HPU c0 c1 c2 c3 c4 c5 c6 c7 c8 c9 c10 c11
 obtain ⟨c0, c1, c2, c3, c4, c5, c6, c7, c8, c9, c10, c11⟩ := HCL.out w3 HB3.out
 obtain ⟨hk0, hok⟩ := aud_ok.1 HAU.out
 obtain ⟨f2, f4, f6, f7⟩ := read_forth (st_ok (s := ⟨c, now, la, ps.map Pj.v, hd⟩) hk0 hok HUS.out)
 simp only at f2 f4 f6
 obtain ⟨R, hR⟩ : ∃ R, stB ⟨c, now, la, ps.map Pj.v, hd⟩ = R := ⟨_, rfl⟩
 rw [hR] at HBB HFIT f2 f4 f6 f7 ⊢
 have hlen : 105 ≤ R.length := by rw [← hR, st_parts]; omega
 have HF2 : Hid _ := f2
 have HF4 : Hid ((rd4 R).1 = la) := f4
 have HF6 : Hid ((rd6 R).1 = ps.map Pj.v) := f6
 have HF7 : Hid (¬ rd7 R = none) := (show ¬ rd7 R = none from by rw [f7]; exact nofun)
 have HRS : Hid (stB ⟨c, now, la, ps.map Pj.v, hd⟩ = R) := hR
 have H1 : Hid (rd7 (R.take (R.length - 1)) = none) := Classical.byContradiction fun hn => HF7.out (by
  have := rd7_more (z := R.drop (R.length - 1)) hn (fun e => by have := congrArg List.length e; rw [List.length_drop, List.length_nil] at this; omega)
  rwa [List.take_append_drop] at this)
 have H2 : Hid (rd7 (R ++ [0]) = none) := rd7_more HF7.out (by simp)
 have HMJ : Hid (ps.length ≤ 4096) := (show ps.length ≤ 4096 from by have := hok.many; simpa using this)
 have HUC0 : Hid (∀ x, Below w.heap.size w x → Calls Tryz.prog 21 #[.agg #[.int .i64 c.nodes, .int .i64 c.queue, .int .i64 c.limit, .int .i64 c.age, .int .i64 c.fair, .int .i64 c.size, .int .i64 c.period, .int .i64 c.half, .int .i64 now, .slice ao la.length ca, .slice jo ps.length cj, .int .i64 hd]] x fun e w' => e = .returned (.int .i64 0) ∧ Below x.heap.size x w') := fun x b => by have := HUC.out x b; rw [HAU.out] at this; exact this
 clear HUC hk0 hok f2 f4 f6 f7 hR
 obtain ⟨n, hn⟩ : ∃ n, R.length = n := ⟨_, rfl⟩
 have HN : Hid (R.length = n) := hn
 have HRL : Hid (R.length ≤ 2147483647) := HFIT.out.1
 rw [hn] at hlen ⊢
 clear hn HFIT
 go_upto_region 8 with (go_at_call 21; refine (HUC0.out w3 HX3.out).mono ?_; rintro e w4 ⟨rfl, b4⟩; have HX4 : Hid (Below w.heap.size w w4) := HX3.out.trans (b4.mono HX3.out.size); have HB4 : Hid (Below W.heap.size W w4) := HB3.out.trans (b4.mono HB3.out.size); have HBB4 : Hid (BytAt w4 (some ⟨B, 0, none⟩) R) := HBB.out.below b4; clear b4)
 clear HUC0 HBB c0 c1 c2 c3 c4 c5 c6 c7 c8 c9 c10 c11
 have hg1 := get_any (c0 := n) HBB4.out (by rw [HN.out]; exact Nat.le_refl _) nofun (Nat.le_trans HRL.out (by decide))
 rw [HN.out] at hg1
 have HG1 : Hid (Calls Tryz.prog 17 #[.slice (some ⟨B, 0, none⟩) n n] w4 (GetP w4 R)) := hg1
 clear hg1
 go_upto_region 10 with (go_at_call 17; refine HG1.out.mono ?_; intro e w5 hgf; obtain ⟨b5, hif⟩ := get_form HF2.out hgf; rw [if_neg HF7.out, HF4.out, HF6.out, if_pos HAU.out] at hif; obtain ⟨gA, gJ, qs, hqs, rfl, hrd⟩ := hif; have HX5 : Hid (Below w.heap.size w w5) := HX4.out.trans (b5.mono HX4.out.size); have HB5 : Hid (Below W.heap.size W w5) := HB4.out.trans (b5.mono HB4.out.size); have HQS : Hid (qs.map Pj.v = ps.map Pj.v) := hqs; have HRD : Hid (RdS w5 w4.heap.size gA gJ la qs) := hrd; have HBB5 : Hid (BytAt w5 (some ⟨B, 0, none⟩) R) := HBB4.out.below b5; clear b5 hgf hqs hrd; unfold stC)
 clear HG1
 have hsi := (st_read HRD.out (c := c) (now := now) (hd := hd) (by rw [HQS.out, HRS.out]; exact Nat.le_trans HRL.out (by decide)) HUS.out).1
 have hss := HST.out HX5.out
 obtain ⟨W6, hW6⟩ : ∃ W6, w5.alloc (.cells #[.int .i64 c.nodes, .int .i64 c.queue, .int .i64 c.limit, .int .i64 c.age, .int .i64 c.fair, .int .i64 c.size, .int .i64 c.period, .int .i64 c.half, .int .i64 now, .slice (some ⟨gA, 0, none⟩) la.length la.length, .slice (some ⟨gJ, 0, none⟩) qs.length qs.length, .int .i64 hd] 27) = W6 := ⟨_, rfl⟩
 have b6 : Below w5.heap.size w5 W6 := by rw [← hW6]; exact (Below.refl _ w5).alloc (Nat.le_refl _) _
 have hg6 : W6.heap[w5.heap.size]? = some (.cells #[.int .i64 c.nodes, .int .i64 c.queue, .int .i64 c.limit, .int .i64 c.age, .int .i64 c.fair, .int .i64 c.size, .int .i64 c.period, .int .i64 c.half, .int .i64 now, .slice (some ⟨gA, 0, none⟩) la.length la.length, .slice (some ⟨gJ, 0, none⟩) qs.length qs.length, .int .i64 hd] 27 (0, 0)) := by rw [← hW6]; exact heap_alloc_new w5 _
 have h8 := sameState_b (c := c) (c' := c) (now := now) (now' := now) (hd := hd) (hd' := hd) la.length qs.length ca cj (hsi.acs.below b6) (hss.acs.below b6) (hsi.jobs.below b6) (hss.jobs.below b6) (by have := HFA.out; omega) (by have := map_len HQS.out; have := HMJ.out; omega) hsi.sl
 unfold stL at h8
 have HSS : Hid (Calls Tryz.prog 19 #[.agg #[.int .i64 c.nodes, .int .i64 c.queue, .int .i64 c.limit, .int .i64 c.age, .int .i64 c.fair, .int .i64 c.size, .int .i64 c.period, .int .i64 c.half, .int .i64 now, .slice (some ⟨gA, 0, none⟩) la.length la.length, .slice (some ⟨gJ, 0, none⟩) qs.length qs.length, .int .i64 hd], .agg #[.int .i64 c.nodes, .int .i64 c.queue, .int .i64 c.limit, .int .i64 c.age, .int .i64 c.fair, .int .i64 c.size, .int .i64 c.period, .int .i64 c.half, .int .i64 now, .slice ao la.length ca, .slice jo ps.length cj, .int .i64 hd]] W6 (Tells W6 (c = c ∧ now = now ∧ hd = hd ∧ la = la ∧ qs.map Pj.v = ps.map Pj.v))) := h8
 have HX6 : Hid (Below w.heap.size w W6) := HX5.out.trans (b6.mono HX5.out.size)
 have HBB6 : Hid (BytAt W6 (some ⟨B, 0, none⟩) R) := HBB5.out.below b6
 obtain ⟨c0, c1, c2, c3, c4, c5, c6, c7, c8, c9, c10, c11⟩ := HCL.out W6 (HB5.out.trans (b6.mono HB5.out.size))
 have e0 : W6.cell? ⟨w5.heap.size, 0, none⟩ = some (.int .i64 c.nodes) := cells_at hg6 rfl
 have e1 : W6.cell? ⟨w5.heap.size, 1, none⟩ = some (.int .i64 c.queue) := cells_at hg6 rfl
 have e2 : W6.cell? ⟨w5.heap.size, 2, none⟩ = some (.int .i64 c.limit) := cells_at hg6 rfl
 have e3 : W6.cell? ⟨w5.heap.size, 3, none⟩ = some (.int .i64 c.age) := cells_at hg6 rfl
 have e4 : W6.cell? ⟨w5.heap.size, 4, none⟩ = some (.int .i64 c.fair) := cells_at hg6 rfl
 have e5 : W6.cell? ⟨w5.heap.size, 5, none⟩ = some (.int .i64 c.size) := cells_at hg6 rfl
 have e6 : W6.cell? ⟨w5.heap.size, 6, none⟩ = some (.int .i64 c.period) := cells_at hg6 rfl
 have e7 : W6.cell? ⟨w5.heap.size, 7, none⟩ = some (.int .i64 c.half) := cells_at hg6 rfl
 have e8 : W6.cell? ⟨w5.heap.size, 8, none⟩ = some (.int .i64 now) := cells_at hg6 rfl
 have e9 : W6.cell? ⟨w5.heap.size, 9, none⟩ = some (.slice (some ⟨gA, 0, none⟩) la.length la.length) := cells_at hg6 rfl
 have e10 : W6.cell? ⟨w5.heap.size, 10, none⟩ = some (.slice (some ⟨gJ, 0, none⟩) qs.length qs.length) := cells_at hg6 rfl
 have e11 : W6.cell? ⟨w5.heap.size, 11, none⟩ = some (.int .i64 hd) := cells_at hg6 rfl
 rw [hW6]
 clear hW6 hg6 h8 b6 hsi hss
 go_upto_region 12 with (go_at_call 19; refine (show Calls _ _ _ _ _ from HSS.out).mono ?_; intro e w7 hx; obtain ⟨rfl, b7⟩ := Tells.is (by exact ⟨rfl, rfl, rfl, rfl, HQS.out⟩) hx; have HX7 : Hid (Below w.heap.size w w7) := HX6.out.trans (b7.mono HX6.out.size); have HBB7 : Hid (BytAt w7 (some ⟨B, 0, none⟩) R) := HBB6.out.below b7; clear b7 hx)
 clear c0 c1 c2 c3 c4 c5 c6 c7 c8 c9 c10 c11 e0 e1 e2 e3 e4 e5 e6 e7 e8 e9 e10 e11
 have hw12 : IntKind.i64.wrap ((n : Int) - 1) = ((n - 1 : Nat) : Int) := by rw [IntKind.wrap_i64]; have h9 := HRL.out; rw [HN.out] at h9; omega
 have hcp12 : ((n - 1 : Nat) : Int) ≤ (n : Int) := by omega
 have hg2 := get_any (c0 := n) (byt_take HBB7.out (R.length - 1)) (by rw [List.length_take, HN.out]; omega) nofun (by rw [List.length_take]; have := HRL.out; omega)
 rw [List.length_take, show min (R.length - 1) R.length = n - 1 by rw [HN.out]; omega] at hg2
 obtain ⟨c2, now2, hd2, hr2⟩ := rd2_ten (R.take (R.length - 1))
 have HR2a : Hid _ := hr2
 have HG2 : Hid (Calls Tryz.prog 17 #[.slice (some ⟨B, 0, none⟩) (n - 1) n] w7 (GetP w7 (R.take (R.length - 1)))) := hg2
 clear hg2 hr2
 go_upto_region 13 with (go_at_call 17; refine HG2.out.mono ?_; intro e w8 hgf; obtain ⟨b8, hif⟩ := get_form HR2a.out hgf; rw [if_pos H1.out] at hif; obtain rfl := hif; have HX8 : Hid (Below w.heap.size w w8) := HX7.out.trans (b8.mono HX7.out.size); have HBB8 : Hid (BytAt w8 (some ⟨B, 0, none⟩) R) := HBB7.out.below b8; clear b8 hgf)
 clear HG2 HR2a hw12 hcp12 H1
 have hlb := lendBytes_any (cap := n) HBB8.out nofun (Nat.le_trans HRL.out (by decide))
 rw [HN.out] at hlb
 have HLB : Hid _ := hlb
 obtain ⟨c3, now3, hd3, hr3⟩ := rd2_ten (R ++ [0])
 have HR3 : Hid _ := hr3
 obtain ⟨i0, hi0, hz00, hz01, hz02⟩ := info_parts Tryz.infBz
 clear hlb hr3
 go_upto_region 14 with (first
  | (go_at_call 16; refine (show Calls _ _ _ _ _ from HLB.out).mono ?_; rintro e w9 ⟨v, rfl, hown, b9⟩; obtain ⟨g, cap, rfl, hle, hcut⟩ := lent_cut (r := R) (by rw [HN.out]; exact hown); rw [HN.out] at hle hcut ⊢; obtain ⟨W10, hW10⟩ : ∃ W10, w9.alloc (.cells #[.int .u8 0] 5) = W10 := ⟨_, rfl⟩; have b10 : Below w9.heap.size w9 W10 := (by rw [← hW10]; exact (Below.refl _ w9).alloc (Nat.le_refl _) _); have HX9 : Hid (Below w.heap.size w w9) := HX8.out.trans (b9.mono HX8.out.size); have HX10 : Hid (Below w.heap.size w W10) := HX9.out.trans (b10.mono HX9.out.size); have HR10 : Hid (W10.ownsRow w8.heap.size 5 1 (.slice (some ⟨g, 0, none⟩) n cap) n (u8s R)) := row_stand hcut (fun k hk => b10.block k (hcut.lt k hk).2); have HGL : Hid (w8.heap.size ≤ g) := (hcut.lt g rfl).1; have HCE0 : Hid (∀ ad, some (⟨w9.heap.size, 0, none⟩ : Addr) = some ad → ∀ j u, (u8s [0])[j]? = some u → W10.cell? (ad.add j) = some u) := (by intro ad had j u hu; cases had; rw [Addr.add_lit, Nat.zero_add, ← hW10]; exact cells_at (heap_alloc_new w9 _) (by rw [show u8s [0] = [Value.int .u8 0] from rfl] at hu; simpa using hu)); have hcp : (n : Int) ≤ (cap : Int) := (by omega); have HB89 : Hid (w8.heap.size ≤ W10.heap.size) := Nat.le_trans b9.size b10.size; clear b9 b10 hown hcut hle)
  | (at_builtin; refine wpList_append_mv rfl (.tmp 59) (.tmp 60) 35 rfl w8.heap.size 5 i0 _ 1 1 Tryz.underlying35 hi0 hz00 hz01 hz02 rfl (by decide) (.slice (some ⟨g, 0, none⟩) n cap) n (u8s R) rfl HR10.out (some ⟨w9.heap.size, 0, none⟩) 1 1 (u8s [0]) rfl (fun e => by cases e) rfl HCE0.out (u8s_one _) ?_ ?_ ?_ ?_; (have h9 := HRL.out; rw [HN.out] at h9; exact (Nat.le_trans (m := 2147483648) (by omega) (by decide))); (have h9 := HRL.out; rw [HN.out] at h9; omega); exact HB89.out; intro v2 w11 o2 g2 m2; rw [← u8s_app, ← HN.out, show R.length + 1 = (R ++ [0]).length by simp] at o2; obtain ⟨gg, cap2, rfl, hle2, hby⟩ := byt_own o2 (by simp); have HX11 : Hid (Below w.heap.size w w11) := ⟨g2.os.trans HX10.out.os, g2.tape.trans HX10.out.tape, g2.output.trans HX10.out.output, Nat.le_trans HX10.out.size g2.size, fun k hk => (g2.block k (Nat.lt_of_lt_of_le hk HX10.out.size) (fun e => by have h1 : g = k := (by injection e with e; exact e.symm); have := HGL.out; have := HX8.out.size; omega)).trans (HX10.out.block k hk)⟩; have hg3 := get_any (c0 := cap2) hby hle2 nofun (by rw [List.length_append]; have := HRL.out; simp; omega); rw [show (R ++ [(0 : UInt8)]).length = R.length + 1 by simp] at hg3; have HG3 : Hid (Calls Tryz.prog 17 #[.slice (some ⟨gg, 0, none⟩) (R.length + 1) cap2] w11 (GetP w11 (R ++ [0]))) := hg3; clear o2 g2 m2 hby hg3 hle2)
  | (go_at_call 17; refine HG3.out.mono ?_; intro e w12 hgf; obtain ⟨b12, hif⟩ := get_form HR3.out hgf; rw [if_pos H2.out] at hif; obtain rfl := hif; have HX12 : Hid (Below w.heap.size w w12) := HX11.out.trans (b12.mono HX11.out.size); clear b12 hgf))
 clear HLB H2 HR3 HRL
 have HXW13 : Hid (Below w.heap.size w (w12.alloc (.cells #[.int .i64 0, .int .i64 0, .int .i64 0, .int .i64 0, .int .i64 0, .int .i64 0, .int .i64 0, .int .i64 0, .int .i64 0, .slice none 0 0, .slice none 0 0, .int .i64 0] 27))) := HX12.out.trans (((Below.refl _ w12).alloc (Nat.le_refl _) _).mono HX12.out.size)
 generalize w12.alloc (.cells #[.int .i64 0, .int .i64 0, .int .i64 0, .int .i64 0, .int .i64 0, .int .i64 0, .int .i64 0, .int .i64 0, .int .i64 0, .slice none 0 0, .slice none 0 0, .int .i64 0] 27) = W13 at HXW13 ⊢
 go_upto_region 16 with fail
 obtain ⟨c', now', hd', hr2⟩ := rd2_ten rb
 have HR2 : Hid _ := hr2
 clear hr2
 by_cases h7 : rd7 rb = none
 case pos =>
  have H7 : Hid (rd7 rb = none) := h7
  clear h7
  go_upto_region 17 with (go_at_call 17; refine (HGB.out HXW13.out).mono ?_; intro e w6 hgf; obtain ⟨b6, hif⟩ := get_form HR2.out hgf; rw [if_pos H7.out] at hif; obtain rfl := hif; have HX6 : Hid (Below w.heap.size w w6) := HXW13.out.trans (b6.mono HXW13.out.size); clear b6 hgf)
  obtain ⟨W7, hW7⟩ : ∃ W7, w6.alloc (.cells #[.int .i64 0, .int .i64 0, .int .i64 0, .int .i64 0, .int .i64 0, .int .i64 0, .int .i64 0, .int .i64 0, .int .i64 0, .slice none 0 0, .slice none 0 0, .int .i64 0] 27) = W7 := ⟨_, rfl⟩
  have b7 : Below w6.heap.size w6 W7 := by rw [← hW7]; exact (Below.refl _ w6).alloc (Nat.le_refl _) _
  have hg7 : W7.heap[w6.heap.size]? = some (.cells #[.int .i64 0, .int .i64 0, .int .i64 0, .int .i64 0, .int .i64 0, .int .i64 0, .int .i64 0, .int .i64 0, .int .i64 0, .slice none 0 0, .slice none 0 0, .int .i64 0] 27 (0, 0)) := by rw [← hW7]; exact heap_alloc_new w6 _
  have e9 : W7.cell? ⟨w6.heap.size, 9, none⟩ = some (.slice none 0 0) := cells_at hg7 rfl
  have e10 : W7.cell? ⟨w6.heap.size, 10, none⟩ = some (.slice none 0 0) := cells_at hg7 rfl
  have HX7 : Hid (Below w.heap.size w W7) := HX6.out.trans (b7.mono HX6.out.size)
  rw [hW7]
  clear hW7 b7 hg7
  go_wp2
  go_ret
  exact ⟨rfl, HX7.out⟩
 have H7 : Hid (¬ rd7 rb = none) := h7
 clear h7
 by_cases hau2 : auditV (chkZ c') ⟨c', now', (rd4 rb).1, (rd6 rb).1, hd'⟩ = 0
 case neg =>
  have HA2 : Hid _ := hau2
  clear hau2
  go_upto_region 17 with (go_at_call 17; refine (HGB.out HXW13.out).mono ?_; intro e w6 hgf; obtain ⟨b6, hif⟩ := get_form HR2.out hgf; rw [if_neg H7.out, if_neg HA2.out] at hif; obtain rfl := hif; have HX6 : Hid (Below w.heap.size w w6) := HXW13.out.trans (b6.mono HXW13.out.size); clear b6 hgf)
  obtain ⟨W7, hW7⟩ : ∃ W7, w6.alloc (.cells #[.int .i64 0, .int .i64 0, .int .i64 0, .int .i64 0, .int .i64 0, .int .i64 0, .int .i64 0, .int .i64 0, .int .i64 0, .slice none 0 0, .slice none 0 0, .int .i64 0] 27) = W7 := ⟨_, rfl⟩
  have b7 : Below w6.heap.size w6 W7 := by rw [← hW7]; exact (Below.refl _ w6).alloc (Nat.le_refl _) _
  have hg7 : W7.heap[w6.heap.size]? = some (.cells #[.int .i64 0, .int .i64 0, .int .i64 0, .int .i64 0, .int .i64 0, .int .i64 0, .int .i64 0, .int .i64 0, .int .i64 0, .slice none 0 0, .slice none 0 0, .int .i64 0] 27 (0, 0)) := by rw [← hW7]; exact heap_alloc_new w6 _
  have e9 : W7.cell? ⟨w6.heap.size, 9, none⟩ = some (.slice none 0 0) := cells_at hg7 rfl
  have e10 : W7.cell? ⟨w6.heap.size, 10, none⟩ = some (.slice none 0 0) := cells_at hg7 rfl
  have HX7 : Hid (Below w.heap.size w W7) := HX6.out.trans (b7.mono HX6.out.size)
  rw [hW7]
  clear hW7 b7 hg7
  go_wp2
  go_ret
  exact ⟨rfl, HX7.out⟩
 have HA2 : Hid _ := hau2
 clear hau2
 go_upto_region 17 with (go_at_call 17; refine (HGB.out HXW13.out).mono ?_; intro e w6 hgf; obtain ⟨b6, hif⟩ := get_form HR2.out hgf; rw [if_neg H7.out, if_pos HA2.out] at hif; obtain ⟨gA, gJ, qs, hqs, rfl, hrd⟩ := hif; have HX6 : Hid (Below w.heap.size w w6) := HXW13.out.trans (b6.mono HXW13.out.size); have HQS : Hid (qs.map Pj.v = (rd6 rb).1) := hqs; have HRD : Hid (RdS w6 W13.heap.size gA gJ (rd4 rb).1 qs) := hrd; clear b6 hgf hqs hrd; unfold stC)
 have hbk := read_back H7.out HR2.out
 rw [← HQS.out] at hbk
 have hsi := (st_read HRD.out (c := c') (now := now') (hd := hd') (by rw [hbk]; exact HBL.out) (acs_us _ _)).1
 have ha3 : auditV (chkZ c') ⟨c', now', (rd4 rb).1, qs.map Pj.v, hd'⟩ = 0 := by rw [HQS.out]; exact HA2.out
 obtain ⟨hk0, hok⟩ := aud_ok.1 ha3
 have hsm := st_small (s := ⟨c', now', (rd4 rb).1, qs.map Pj.v, hd'⟩) hk0 hok
 have hwf := (wf_load hok.load).len
 rw [List.length_map] at hwf
 have hmj := hok.many
 rw [List.length_map] at hmj
 simp only at hwf hmj
 obtain ⟨W7, hW7⟩ : ∃ W7, w6.alloc (.cells #[.int .i64 c'.nodes, .int .i64 c'.queue, .int .i64 c'.limit, .int .i64 c'.age, .int .i64 c'.fair, .int .i64 c'.size, .int .i64 c'.period, .int .i64 c'.half, .int .i64 now', .slice (some ⟨gA, 0, none⟩) (rd4 rb).1.length (rd4 rb).1.length, .slice (some ⟨gJ, 0, none⟩) qs.length qs.length, .int .i64 hd'] 27) = W7 := ⟨_, rfl⟩
 have b7 : Below w6.heap.size w6 W7 := by rw [← hW7]; exact (Below.refl _ w6).alloc (Nat.le_refl _) _
 have hg7 : W7.heap[w6.heap.size]? = some (.cells #[.int .i64 c'.nodes, .int .i64 c'.queue, .int .i64 c'.limit, .int .i64 c'.age, .int .i64 c'.fair, .int .i64 c'.size, .int .i64 c'.period, .int .i64 c'.half, .int .i64 now', .slice (some ⟨gA, 0, none⟩) (rd4 rb).1.length (rd4 rb).1.length, .slice (some ⟨gJ, 0, none⟩) qs.length qs.length, .int .i64 hd'] 27 (0, 0)) := by rw [← hW7]; exact heap_alloc_new w6 _
 have e0 : W7.cell? ⟨w6.heap.size, 0, none⟩ = some (.int .i64 c'.nodes) := cells_at hg7 rfl
 have e1 : W7.cell? ⟨w6.heap.size, 1, none⟩ = some (.int .i64 c'.queue) := cells_at hg7 rfl
 have e2 : W7.cell? ⟨w6.heap.size, 2, none⟩ = some (.int .i64 c'.limit) := cells_at hg7 rfl
 have e3 : W7.cell? ⟨w6.heap.size, 3, none⟩ = some (.int .i64 c'.age) := cells_at hg7 rfl
 have e4 : W7.cell? ⟨w6.heap.size, 4, none⟩ = some (.int .i64 c'.fair) := cells_at hg7 rfl
 have e5 : W7.cell? ⟨w6.heap.size, 5, none⟩ = some (.int .i64 c'.size) := cells_at hg7 rfl
 have e6 : W7.cell? ⟨w6.heap.size, 6, none⟩ = some (.int .i64 c'.period) := cells_at hg7 rfl
 have e7 : W7.cell? ⟨w6.heap.size, 7, none⟩ = some (.int .i64 c'.half) := cells_at hg7 rfl
 have e8 : W7.cell? ⟨w6.heap.size, 8, none⟩ = some (.int .i64 now') := cells_at hg7 rfl
 have e9 : W7.cell? ⟨w6.heap.size, 9, none⟩ = some (.slice (some ⟨gA, 0, none⟩) (rd4 rb).1.length (rd4 rb).1.length) := cells_at hg7 rfl
 have e10 : W7.cell? ⟨w6.heap.size, 10, none⟩ = some (.slice (some ⟨gJ, 0, none⟩) qs.length qs.length) := cells_at hg7 rfl
 have e11 : W7.cell? ⟨w6.heap.size, 11, none⟩ = some (.int .i64 hd') := cells_at hg7 rfl
 have HX7 : Hid (Below w.heap.size w W7) := HX6.out.trans (b7.mono HX6.out.size)
 have hin7 := hsi.below b7
 have hwt7 : wtN (rd4 rb).1 qs ≤ 281474976710656 := (st_read HRD.out (c := c') (now := now') (hd := hd') (by rw [hbk]; exact HBL.out) (acs_us _ _)).2
 have hp7 := put_any c' now' hd' hin7 hwt7 (Nat.le_trans hsm (by decide))
 unfold stL at hp7
 have HP7 : Hid (Calls Tryz.prog 11 #[.agg #[.int .i64 c'.nodes, .int .i64 c'.queue, .int .i64 c'.limit, .int .i64 c'.age, .int .i64 c'.fair, .int .i64 c'.size, .int .i64 c'.period, .int .i64 c'.half, .int .i64 now', .slice (some ⟨gA, 0, none⟩) (rd4 rb).1.length (rd4 rb).1.length, .slice (some ⟨gJ, 0, none⟩) qs.length qs.length, .int .i64 hd']] W7 (PutP W7 ⟨c', now', (rd4 rb).1, qs.map Pj.v, hd'⟩)) := hp7
 have HC7 : Hid (∀ x, Below W7.heap.size W7 x → Calls Tryz.prog 21 #[.agg #[.int .i64 c'.nodes, .int .i64 c'.queue, .int .i64 c'.limit, .int .i64 c'.age, .int .i64 c'.fair, .int .i64 c'.size, .int .i64 c'.period, .int .i64 c'.half, .int .i64 now', .slice (some ⟨gA, 0, none⟩) (rd4 rb).1.length (rd4 rb).1.length, .slice (some ⟨gJ, 0, none⟩) qs.length qs.length, .int .i64 hd']] x fun e w' => e = .returned (.int .i64 0) ∧ Below x.heap.size x w') := fun x b => by
  have := ucheck_any c' now' (rd4 rb).1.length qs.length hd' ((hin7.below b).acs) ((hin7.below b).us) (by omega) (hin7.below b).jobs (by omega) (Nat.le_refl _) (fun p hp => by have := hin7.sl p hp; omega)
  unfold stL at this
  rw [ha3] at this
  exact this
 have HCE : Hid (∀ x, Below W7.heap.size W7 x → x.cell? ⟨w6.heap.size, 0, none⟩ = some (.int .i64 c'.nodes) ∧ x.cell? ⟨w6.heap.size, 1, none⟩ = some (.int .i64 c'.queue) ∧ x.cell? ⟨w6.heap.size, 2, none⟩ = some (.int .i64 c'.limit) ∧ x.cell? ⟨w6.heap.size, 3, none⟩ = some (.int .i64 c'.age) ∧ x.cell? ⟨w6.heap.size, 4, none⟩ = some (.int .i64 c'.fair) ∧ x.cell? ⟨w6.heap.size, 5, none⟩ = some (.int .i64 c'.size) ∧ x.cell? ⟨w6.heap.size, 6, none⟩ = some (.int .i64 c'.period) ∧ x.cell? ⟨w6.heap.size, 7, none⟩ = some (.int .i64 c'.half) ∧ x.cell? ⟨w6.heap.size, 8, none⟩ = some (.int .i64 now') ∧ x.cell? ⟨w6.heap.size, 9, none⟩ = some (.slice (some ⟨gA, 0, none⟩) (rd4 rb).1.length (rd4 rb).1.length) ∧ x.cell? ⟨w6.heap.size, 10, none⟩ = some (.slice (some ⟨gJ, 0, none⟩) qs.length qs.length) ∧ x.cell? ⟨w6.heap.size, 11, none⟩ = some (.int .i64 hd')) := fun x b => ⟨cellB b (cells_at hg7 rfl), cellB b (cells_at hg7 rfl), cellB b (cells_at hg7 rfl), cellB b (cells_at hg7 rfl), cellB b (cells_at hg7 rfl), cellB b (cells_at hg7 rfl), cellB b (cells_at hg7 rfl), cellB b (cells_at hg7 rfl), cellB b (cells_at hg7 rfl), cellB b (cells_at hg7 rfl), cellB b (cells_at hg7 rfl), cellB b (cells_at hg7 rfl)⟩
 have HA3 : Hid _ := ha3
 have HBK : Hid (stB ⟨c', now', (rd4 rb).1, qs.map Pj.v, hd'⟩ = rb) := hbk
 rw [hW7]
 clear hW7 hg7 hp7 hin7 hwt7 b7 hsi hbk ha3 hok hk0 hsm hwf hmj
 go_upto_region 20 with (go_at_call 11; refine HP7.out.mono ?_; rintro e w8 ⟨hp, b8⟩; rw [if_pos HA3.out, HBK.out, HNB.out] at hp; obtain ⟨B8, rfl, _, hB8⟩ := hp; have HB8 : Hid (Below W7.heap.size W7 w8) := b8; have HX8 : Hid (Below w.heap.size w w8) := HX7.out.trans (b8.mono HX7.out.size); have HBY8 : Hid (BytAt w8 (some ⟨B8, 0, none⟩) rb) := byt_box hB8; clear b8 hB8)
 clear HP7 e0 e1 e2 e3 e4 e5 e6 e7 e8 e9 e10 e11
 obtain ⟨e0, e1, e2, e3, e4, e5, e6, e7, e8, e9, e10, e11⟩ := HCE.out w8 HB8.out
 go_wp2_with (first
  | (go_at_call 21; refine (HC7.out w8 HB8.out).mono ?_; rintro e w9 ⟨rfl, b9⟩; have HB9 : Hid (Below w8.heap.size w8 w9) := b9; have HX9 : Hid (Below w.heap.size w w9) := HX8.out.trans (b9.mono HX8.out.size); have hsb := sameBytes_b (w := w9) nb cb (HBY8.out.below b9) (HBT.out HX9.out) HBL.out; rw [HNB.out] at hsb; have HSB : Hid _ := hsb; clear b9 hsb)
  | (go_at_call 13; refine (show Calls _ _ _ _ _ from HSB.out).mono ?_; intro e w10 hx; obtain ⟨rfl, b10⟩ := Tells.is trivial hx; have HX10 : Hid (Below w.heap.size w w10) := HX9.out.trans (b10.mono HX9.out.size); clear b10 hx))
 go_ret
 exact ⟨rfl, HX10.out⟩
end Go.Proofs.YtceoibfliggalaaGreatDoor
namespace Go.Proofs.YtceoibfliggalaaGreatDoor
open Go.ChangeShapes Go.WideShapes Go.ChangeAt Go.RowKit Go.Joins Wd Ld Cg Tr Lg
set_option maxRecDepth 100000 in
theorem back_lifted (os : Os) (started : os.Started) (H : Type) (enc : TypeId × Value → H) :
  ReturnsInHanded {} Tryz.checked os 5 .any (fun w args => (Rows.snapBackSpec.pre enc Tryz.prog Tryz.f5 [] false w args ∧ laidMetH Tryz.prog LaidL w) ∧ sizedMet enc Tryz.prog Tryz.f5 (OpenSpec.ofChange Rows.snapBackSpec) false w args)
   (Rows.snapBackSpec.post enc Tryz.prog Tryz.f5 false true false false) := by
 refine returnsInHanded_of_change_and (C := Tryz.checked) (X := fun w _ => laidMetH Tryz.prog LaidL w) (fun _ _ _ hh h => h.of_heap hh) Tryz.own started (by kernel_rfl) Tryz.func5
  (ChangeSpec.witness_at (enc := enc) (C := Tryz.checked) (os := os) (X := fun w _ => laidMetH Tryz.prog LaidL w) false { World.holding Tryz.prog os ⟨#[], #[], []⟩ with heap := (World.holding Tryz.prog os ⟨#[], #[], []⟩).heap.modify 0 laidObj } #[.agg #[.int .i64 0, .int .i64 0, .int .i64 0, .int .i64 0, .int .i64 0, .int .i64 0, .int .i64 0, .int .i64 0, .int .i64 0, .slice none 0 0, .slice none 0 0, .int .i64 0], .slice none 0 0] 8 rfl (by kernel_rfl) (by kernel_rfl) (by kernel_rfl) (by kernel_rfl) (by kernel_rfl) (laid_met os _)) ?_
 intro W base args ds gs before hval0 hW _ hsz0 hL _
 have hsz : (DataW.weightsEach Tryz.prog (Tryz.f5.params.toList ++ Rows.snapBackSpec.plain.varTypes Tryz.prog) (ds ++ gs)).all (· ≤ reachBytes) = true := hsz0
 have hval : ∀ (j : Nat) t v, Tryz.f5.params[j]? = some t → args[j]? = some v → Value.okWide Tryz.prog W .any base t v := hval0
 have hW' := hW
 obtain ⟨p, q, hA0, hV, rfl, hfz, hnd⟩ := hW
 have hA : DataW.TrodAll enc Tryz.prog W 0 (fun _ => true) true Tryz.f5.params.toList args.toList ds p := hA0
 rw [Tryz.params5] at hA hval hsz
 obtain ⟨v0, v1, d0, d1, p0, p1, rfl, rfl, rfl, h0, h1⟩ := trodAll_two hA
 obtain ⟨rfl, rfl⟩ := trodVars_none hV
 have hk0 := h0
 obtain ⟨cf0, now0, hd0, ao0, jo0, la0, ps0, ca0, cj0, rfl, hin0⟩ := state_in (hval 0 27 v0 rfl rfl) h0 (fun k hk => of_decide_eq_true (List.all_eq_true.1 hsz k (DataW.weights_mem_each (j := 0) (t := 27) rfl rfl k hk)))
 have hk1 := h1
 obtain ⟨ao1, n1, sc1, rfl⟩ := okWide_slice Tryz.underlying35 (hval 1 35 v1 rfl rfl)
 obtain ⟨fuel1, hf1⟩ := h1
 obtain ⟨hb1, r1, rfl, ha1, hnl1, hcp1⟩ := bytes_in hf1 (fun k hk => of_decide_eq_true (List.all_eq_true.1 hsz k (DataW.weights_mem_each (j := 1) (t := 35) rfl rfl k hk)))
 clear hA0 hval0
 simp only [List.append_nil] at hW'
 have hT := tab_of_laid hL
 have hlt0 : ∀ x ∈ p0, x.block < W.heap.size := fun x hx => hW'.lt x (by simp [hx])
 have a0 : ∀ (W' : World), Below W.heap.size W W' → DataW.Trod enc Tryz.prog W' 0 (fun b => decide (b < W.heap.size)) true 27 _ d0 p0 :=
  fun W' hn => Below.trod Tryz.laidOut (by kernel_rfl) (of_decide_eq_true (by kernel_rfl)) hk0 hn hlt0
 have hlt1 : ∀ x ∈ p1, x.block < W.heap.size := fun x hx => hW'.lt x (by simp [hx])
 have a1 : ∀ (W' : World), Below W.heap.size W W' → DataW.Trod enc Tryz.prog W' 0 (fun b => decide (b < W.heap.size)) true 35 _ d1 p1 :=
  fun W' hn => Below.trod Tryz.laidOut (by kernel_rfl) (of_decide_eq_true (by kernel_rfl)) hk1 hn hlt1
 refine (back_walk hT cf0 now0 hd0 hin0 ha1 hcp1 hnl1 (by omega)).mono fun e W' ⟨he, hg⟩ => ?_
 subst he
 exact ⟨_, rfl, _, _, _, [], _, [], hW', trodAll_mk1 (shut_bool Tryz.underlying4 _), trodAll_mk2 (a0 W' hg) (a1 W' hg), rfl, hg.frame _, fun h => by cases h⟩
theorem back_row : Rows.SnapBackSaid :=
 OpenClaim.holds_of_wide 5 Tryz.f5 rfl rfl rfl rfl rfl rfl rfl ⟨rfl, rfl, rfl, rfl, rfl⟩ rfl rfl rfl rfl rfl (by kernel_rfl) Tryz.func5 (by kernel_rfl)
  (of_decide_eq_true (by kernel_rfl)) (by unfold Func.isWrapper; first | (rw [if_pos (by decide +kernel)]; kernel_rfl) | (rw [if_neg (by decide +kernel)]; exact ⟨rfl, rfl⟩))
  (fun os started H enc _ => back_lifted os started H enc)
theorem back_holds : Rows.SnapBackCardSaid :=
 Claim7.holds_tied_plain_at .later [] [.data] true (true, "93019a37b43cc40eb6d377bad41c526b5da69ceac612c8bded333125ab71b752") true
  back_row (fun _ h => by cases h) (by kernel_rfl) (fun _ h => by cases h) snapBack_row_tie rfl ⟨rfl, rfl⟩ (by kernel_rfl) rfl
  (fun f fn hf hfn => by
   obtain rfl : f = 5 := Option.some.inj ((show Tryz.prog.funcNamed "backfill/backfilllaw19.SnapBack" = some 5 by kernel_rfl).symm.trans hf) |>.symm
   obtain rfl : fn = Tryz.f5 := (Option.some.inj (Tryz.func5.symm.trans hfn)).symm
   exact ⟨by kernel_rfl, fun j t ht => by
    rw [Tryz.params5] at ht
    have h3 : t = 27 ∨ t = 35 := by
     rcases j with _ | _ | j
     ·exact (.inl (by simpa using ht.symm))
     ·exact (.inr (by simpa using ht.symm))
     ·simp at ht
    rcases h3 with rfl | rfl
    ·exact (show Tryz.prog.wantsStandIn 27 = false by kernel_rfl)
    ·exact (show Tryz.prog.wantsStandIn 35 = false by kernel_rfl)⟩)
  (by kernel_rfl)
end Go.Proofs.YtceoibfliggalaaGreatDoor
namespace Go.Proofs.YtceoibfliggalaaGreatDoor
#print axioms back_holds
end Go.Proofs.YtceoibfliggalaaGreatDoor
