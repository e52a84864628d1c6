/-
  PrioSorts walked.
-/
import Derived.Test.YtjgllfpnmmopdaaSrA
import Derived.Deep.CutBlock
import Derived.Deep.DeepCutAuto
namespace Go.Proofs.Ytjgllfpnmmopdaa
open Go.RowKit Tr
set_option maxHeartbeats 4000000 in
set_option maxRecDepth 20000 in
theorem sorts_walk {w : World} {n cl gl ol : Nat} {ao : Option Addr} {l : List Pr} {odd : Int} (hL : l.length = n) (hn : n * 16 ≤ 140737488351232) (hnil : ao = none → n = 0 ∧ cl = 0) (hao : 0 < n → ao = some ⟨gl, ol, none⟩)
    (hat : ∀ k q, l[k]? = some q → w.cell? ⟨gl, ol + k * 2, none⟩ = some (.int .i64 q.a) ∧ w.cell? ⟨gl, ol + k * 2 + 1, none⟩ = some (.int .i64 q.b)) :
    Calls Try.prog 3 #[.slice ao n cl, .int .i64 odd] w fun e w' => e = .returned (.bool true) ∧ Below w.heap.size w w' := by
  have HSRC : Hid (∀ x, Below w.heap.size w x → ∀ ad, ao = some ad → ∀ j u, (flatP l)[j]? = some u → x.cell? (ad.add j) = some u) := fun x hx ad e j u hj => by
    have hj1 := (List.getElem?_eq_some_iff.1 hj).1
    rw [flatP_len] at hj1
    have e1 := hao (by omega)
    rw [e] at e1
    obtain rfl := Option.some.inj e1
    rw [Addr.add_lit]
    obtain ⟨q, hq⟩ : ∃ q, l[j / 2]? = some q := ⟨_, List.getElem?_eq_getElem (by omega)⟩
    obtain ⟨f0, f1⟩ := flatP_at l (j / 2) q hq
    obtain ⟨g0, g1⟩ := hat (j / 2) q hq
    rcases (by omega : j % 2 = 0 ∨ j % 2 = 1) with h | h
    · rw [show j = j / 2 * 2 by omega] at hj ⊢
      rw [f0] at hj
      obtain rfl := Option.some.inj hj
      exact cellB hx g0
    · rw [show j = j / 2 * 2 + 1 by omega] at hj ⊢
      rw [f1] at hj
      obtain rfl := Option.some.inj hj
      rw [← Nat.add_assoc]
      exact cellB hx g1
  have HKEY : Hid (∀ x, Below w.heap.size w x → ∀ k q, l[k]? = some q → x.cell? ⟨gl, ol + k * 2, none⟩ = some (.int .i64 q.a)) := fun x hx k q h => cellB hx (hat k q h).1
  have HAO : Hid (0 < n → ao = some ⟨gl, ol, none⟩) := hao
  have HNIL : Hid (ao = none → n = 0 ∧ cl = 0) := hnil
  have HL : Hid (l.length = n) := hL
  have HN : Hid (n * 16 ≤ 140737488351232) := hn
  obtain ⟨w1, hw1⟩ : ∃ w1, w.alloc (.cells #[.int .i64 odd] 3) = w1 := ⟨_, rfl⟩
  have HO1 : Hid (One1 w1 w.heap.size odd) := by rw [← hw1]; exact heap_alloc_new w _
  have HB1 : Hid (Below w.heap.size w w1) := by rw [← hw1]; exact (Below.refl _ _).alloc (Nat.le_refl _) _
  have hs := shown_any w1
  clear hat hao hnil hL hn
  go_enter Try.func3, Try.ntmps3
  go_wp2_with fail
  refine hs.mono ?_
  rintro e w2 ⟨rfl, hb2⟩
  have HO2 : Hid (One1 w2 w.heap.size odd) := HO1.out.chg (Chg.of_below hb2 (fun _ => False)) (fun e => e)
  have HB2 : Hid (Below w.heap.size w w2) := HB1.out.trans (hb2.mono HB1.out.size)
  clear hs hb2 HO1 HB1 hw1
  have HM2 : Hid ((w2.alloc (.cells #[] 25)).ownsRow w2.heap.size 25 2 (.slice (some ⟨w2.heap.size, 0, none⟩) 0 0) 0 []) := made0q w2
  have HC2 : Hid (∀ ad, ao = some ad → ∀ j u, (flatP l)[j]? = some u → (w2.alloc (.cells #[] 25)).cell? (ad.add j) = some u) := HSRC.out _ (HB2.out.alloc HB2.out.size _)
  have HF2 : Hid ((flatP l).length = n * 2) := by rw [← HL.out]; exact flatP_len l
  obtain ⟨ii, hii, hz0, hz1, hz2⟩ := info_parts Try.soIa
  go_wp2_with (first
    | (at_builtin; refine wpList_append_any rfl (.tmp 20) (.tmp 21) 22 rfl w2.heap.size 25 ii _ 2 16 Try.underlying22 hii hz0 hz1 hz2 rfl (by decide) (.slice (some ⟨w2.heap.size, 0, none⟩) 0 0) 0 [] rfl HM2.out ao n cl (flatP l) rfl HNIL.out HF2.out HC2.out (flatP_one l) ?_ ?_ ?_ ?_; (exact (Nat.le_trans (m := 140737488355328) (by have := HN.out; omega) (by decide))); (have := HN.out; omega); (simp); intro v3 w3 hown3 hgr3; have HOW3 : Hid (w3.ownsRow w2.heap.size 25 2 v3 (0 + n) ([] ++ flatP l)) := hown3; have HB3 : Hid (Below w2.heap.size w2 w3) := Below.grown ((Below.refl _ w2).alloc (Nat.le_refl _) (.cells #[] 25)) hgr3 (by simp) (fun k e => by simp [Value.ownBlock] at e; omega); clear hown3 hgr3)
    | (at_builtin; refine wpList_append_any rfl (.tmp 23) (.tmp 25) 22 rfl w2.heap.size 25 ii _ 2 16 Try.underlying22 hii hz0 hz1 hz2 rfl (by decide) v3 (0 + n) ([] ++ flatP l) rfl (HOW3.out.alloc _) (some ⟨w3.heap.size, 0, none⟩) 1 1 [.int .i64 (-77), .int .i64 0] rfl (fun h => by cases h) rfl (two_new w3 _ _) two_one ?_ ?_ ?_ ?_; (exact (Nat.le_trans (m := 140737488355328) (by have := HN.out; omega) (by decide))); (have := HN.out; omega); (have := HB3.out.size; simp; omega); intro v4 w4 hown4 hgr4; obtain ⟨b, cap, rfl, hb4, hcap, hrow4⟩ := own_mark HOW3.out HL.out hown4; have HR4 : Hid (RwS w4 b (numK l 0) ∧ w2.heap.size ≤ b ∧ n + 1 ≤ cap) := ⟨hrow4, hb4, hcap⟩; have HB4 : Hid (Below w2.heap.size w2 w4) := Below.grown (HB3.out.alloc HB3.out.size _) hgr4 (by have := HB3.out.size; simp; omega) (fun k e => (World.ownsRow.lt HOW3.out k e).1); have hc1 : (n : Int) ≤ cap := (by omega); have hc2 : n ≤ cap := (by omega); clear hown4 hgr4 hb4 hcap hrow4))
  have HBW : Hid (Below w.heap.size w w4) := HB2.out.trans (HB4.out.mono HB2.out.size)
  have HO4 : Hid (One1 w4 w.heap.size odd) := HO2.out.chg (Chg.of_below HB4.out (fun _ => False)) (fun e => e)
  have HBB : Hid (w.heap.size < b) := by show w.heap.size < b; have := HO2.out.lt; have := HR4.out.2.1; omega
  have HR5 : Hid (RwS w4 b (numK l 0)) := HR4.out.1
  clear HB4 HR4 HB3 HOW3 HC2 HM2 HO2 HB2 hii hz0 hz1 hz2 HNIL HF2
  go_loopg [7] n (fun gk x wr => ∃ i : Nat, i + gk = n ∧ x = .int .i64 i ∧ RwS wr b (numK l i) ∧ Chg (fun j => j = b) w4 wr)
  case atStart => exact ⟨0, by omega, rfl, HR5.out, Chg.refl _ _⟩
  case round =>
    obtain ⟨i, hi, rfl, hrow, hchg⟩ := hrel
    have HR : Hid (RwS wr b (numK l i) ∧ Chg (fun j => j = b) w4 wr) := ⟨hrow, hchg⟩
    clear hrow hchg HR5
    by_cases hlt : i < n
    · obtain ⟨p, hpi⟩ : ∃ p, l[i]? = some p := ⟨_, List.getElem?_eq_getElem (by have := HL.out; omega)⟩
      have a1 := (HR.out.1.at (numK_at hpi)).2
      have a2 := HR.out.1.free (i * 2 + 1)
      have HN1 : Hid (RwS (wr.setCell ⟨b, i * 2 + 1, none⟩ (.int .i64 i)) b (numK l (i + 1)) ∧ Chg (fun j => j = b) w4 (wr.setCell ⟨b, i * 2 + 1, none⟩ (.int .i64 i))) := ⟨by rw [← numK_set hpi]; exact HR.out.1.setb (numK_at hpi) _, HR.out.2.setCell ⟨b, _, none⟩ _ (.inl rfl)⟩
      have HW : Hid (wrap64 ((i : Int) + 1) = ((i + 1 : Nat) : Int)) := wrap64_nat (h := i + 1) (by have := HN.out; omega)
      have hlt' : (i : Int) < n := by omega
      clear hpi HR
      go_wp2
      go_roundg (n - (i + 1))
      case measure => omega
      case rel => exact ⟨i + 1, by omega, by first | rfl | (rw [HW.out]), HN1.out⟩
    · have e : i = n := by omega
      subst e
      have HR6 : Hid (RwS wr b (numF l 0 ++ [mkP])) := by have h := HR.out.1; rw [← HL.out, numK_all] at h; exact h
      have HO6 : Hid (One1 wr w.heap.size odd) := HO4.out.chg HR.out.2 (by have := HBB.out; show ¬ w.heap.size = b; omega)
      have HB6 : Hid (Below w.heap.size w wr) := HR.out.2.below HBW.out HBW.out.size (fun j e => by have := HBB.out; omega)
      clear HR HO4 HBW hlt
      generalize wr = w5 at *
      go_upto_region 12 with fail
      obtain ⟨w6, hw6⟩ : ∃ w6, w5.alloc (.cells #[.int .i64 0] 3) = w6 := ⟨_, rfl⟩
      have HZ6 : Hid (w6.heap.size = w5.heap.size + 1 ∧ b < w5.heap.size ∧ w.heap.size < b) := ⟨by rw [← hw6]; simp, HR6.out.lt, HBB.out⟩
      have b56 : Below w5.heap.size w5 w6 := by rw [← hw6]; exact (Below.refl _ _).alloc (Nat.le_refl _) _
      have HR7 : Hid (RwS w6 b (numF l 0 ++ [mkP])) := HR6.out.below b56
      have HO7 : Hid (One1 w6 w.heap.size odd) := HO6.out.chg (Chg.of_below b56 (fun _ => False)) (fun e => e)
      have HB7 : Hid (Below w.heap.size w w6) := HB6.out.trans (b56.mono HB6.out.size)
      have HNB : Hid (One1 w6 w5.heap.size 0) := by rw [← hw6]; exact heap_alloc_new w5 _
      have HLN : Hid ((numF l 0).length = i) := by rw [← HL.out]; exact numF_len l 0
      have c1 := Sort_Ia (clo_Ia w5.heap.size) (w := w6) (n := i) (c := cap) (ao := some ⟨b, 0, none⟩) (l := numF l 0) (by have := HN.out; omega) HLN.out (fun e => by cases e) (fun ad e => by cases e; exact HR7.out.src rfl) ⟨0, HNB.out⟩
      clear HR6 HO6 HB6 b56 HBB
      rw [hw6]
      clear hw6
      go_wp2_with fail
      refine c1.mono ?_
      rintro e w7 ⟨rfl, r7, k7, _⟩
      have HK7 : Hid (RwI w7 w6.heap.size (sortV (fun a b => decide (a.a < b.a)) (numF l 0)) ∧ RwS w7 b (numF l 0 ++ [mkP]) ∧ One1 w7 w.heap.size odd ∧ Below w.heap.size w w7 ∧ w6.heap.size < w7.heap.size) := ⟨r7, HR7.out.chg k7 (by have := HZ6.out; omega), HO7.out.chg k7 (by have := HZ6.out; omega), k7.below HB7.out HB7.out.size (fun j e => by have := HZ6.out; omega), r7.lt⟩
      obtain ⟨ltb, hclb⟩ := clo_Ib w.heap.size odd
      have c2 := Sort_Ib hclb (w := w7) (n := i) (c := cap) (ao := some ⟨b, 0, none⟩) (l := numF l 0) (by have := HN.out; omega) HLN.out (fun e => by cases e) (fun ad e => by cases e; exact HK7.out.2.1.src rfl) HK7.out.2.2.1
      clear c1 r7 k7 HR7 HO7 HB7 HNB hclb
      go_wp2_with fail
      refine c2.mono ?_
      rintro e w8 ⟨rfl, r8, k8, o8⟩
      have HK8 : Hid (RwI w8 w6.heap.size (sortV (fun a b => decide (a.a < b.a)) (numF l 0)) ∧ RwS w8 b (numF l 0 ++ [mkP]) ∧ RwI w8 w7.heap.size (sortV ltb (numF l 0)) ∧ Below w.heap.size w w8 ∧ w7.heap.size < w8.heap.size ∧ w6.heap.size < w7.heap.size) := ⟨HK7.out.1.chg k8 (by have := HZ6.out; omega), HK7.out.2.1.chg k8 (by have := HZ6.out; omega), r8, k8.below HK7.out.2.2.2.1 HK7.out.2.2.2.1.size (fun j e => by omega), r8.lt, HK7.out.2.2.2.2⟩
      have c3 := Sort_Ic clo_Ic (w := w8) (n := i) (c := cap) (ao := some ⟨b, 0, none⟩) (l := numF l 0) (by have := HN.out; omega) HLN.out (fun e => by cases e) (fun ad e => by cases e; exact HK8.out.2.1.src rfl) trivial
      clear c2 r8 k8 o8 HK7
      go_wp2_with fail
      refine c3.mono ?_
      rintro e w9 ⟨rfl, r9, k9, _⟩
      have HK9 : Hid (RwI w9 w6.heap.size (sortV (fun a b => decide (a.a < b.a)) (numF l 0)) ∧ RwS w9 b (numF l 0 ++ [mkP]) ∧ RwI w9 w7.heap.size (sortV ltb (numF l 0)) ∧ RwI w9 w8.heap.size (sortV (fun _ _ => true) (numF l 0)) ∧ Below w.heap.size w w9) := ⟨HK8.out.1.chg k9 (fun e => e), HK8.out.2.1.chg k9 (fun e => e), HK8.out.2.2.1.chg k9 (fun e => e), r9, k9.below HK8.out.2.2.2.1 HK8.out.2.2.2.1.size (fun j e => e.elim)⟩
      have HZ9 : Hid (w.heap.size < b ∧ b < w6.heap.size ∧ w6.heap.size < w7.heap.size ∧ w7.heap.size < w8.heap.size) := by show _ ∧ _; have := HZ6.out; have := HK8.out.2.2.2.2; omega
      clear c3 r9 k9 HK8 HZ6
      generalize w6.heap.size = ga at *
      generalize w7.heap.size = gb at *
      generalize w8.heap.size = gc at *
      obtain ⟨A, hA⟩ : ∃ A, sortV (fun a b => decide (a.a < b.a)) (numF l 0) = A := ⟨_, rfl⟩
      have HSO : Hid (A.Pairwise (Ahd Pr.a Pr.b)) := by rw [← hA]; exact sort_sorted Pr.a Pr.b (numF_up l 0)
      have HPA : Hid (A.Perm (numF l 0)) := by rw [← hA]; exact sort_perm _ _
      obtain ⟨B, hB⟩ : ∃ B, sortV ltb (numF l 0) = B := ⟨_, rfl⟩
      have HPB : Hid (B.Perm (numF l 0)) := by rw [← hB]; exact sort_perm _ _
      obtain ⟨C, hC⟩ : ∃ C, sortV (fun _ _ => true) (numF l 0) = C := ⟨_, rfl⟩
      have HPC : Hid (C.Perm (numF l 0)) := by rw [← hC]; exact sort_perm _ _
      rw [hA, hB, hC] at HK9
      have HAL : Hid (A.length = i) := by rw [HPA.out.length_eq]; exact HLN.out
      have HS9 : Hid (Sx w b gb gc l B C w9) := ⟨HK9.out.2.1, HK9.out.2.2.1, HK9.out.2.2.2.1, HK9.out.2.2.2.2⟩
      have HA9 : Hid (RwI w9 ga A) := HK9.out.1
      have HALL : Hid (∀ x g (D : List Pr), RwI x g D → D.Perm (numF l 0) → Below w.heap.size w x → Calls Try.prog 11 #[.slice (some ⟨g, 0, none⟩) i i, .slice ao i cl] x fun e w' => e = .returned (.bool true) ∧ Below x.heap.size x w') := fun x g D hr hp hb => all_yes hr hp HL.out (by have := HN.out; omega) HAO.out (fun k q hq => HKEY.out x hb k q hq)
      clear hA hB hC HK9 HSRC
      go_wp2
      go_loopg [12] i (fun gk x wq => ∃ k : Nat, k + gk = i ∧ x = .int .i64 k ∧ Sx w b gb gc l B C wq ∧ RwI wq ga A)
      case atStart => exact ⟨0, by omega, rfl, HS9.out, HA9.out⟩
      case round =>
        obtain ⟨k, hk, rfl, hsx, hra⟩ := hrel
        have HX : Hid (Sx w b gb gc l B C wr) := hsx
        have HA10 : Hid (RwI wr ga A) := hra
        clear HS9 HA9 hsx hra
        by_cases hlt : k < i
        · obtain ⟨p, hpi⟩ : ∃ p, l[k]? = some p := ⟨_, List.getElem?_eq_getElem (by have := HL.out; omega)⟩
          obtain ⟨a1, a2⟩ := HX.out.row.at (num_in hpi)
          have a3 := HKEY.out wr HX.out.bel k p hpi
          obtain rfl := HAO.out (by omega)
          have n1 : (p.a != p.a) = false := by simp
          have n2 : ((k : Int) != (k : Int)) = false := by simp
          have HW : Hid (wrap64 ((k : Int) + 1) = ((k + 1 : Nat) : Int)) := wrap64_nat (h := k + 1) (by have := HN.out; omega)
          have hlt' : (k : Int) < i := by omega
          clear hpi
          go_upto_region 18 with fail
          go_quiet (fail)
          have HX2 : Hid (Sx w b gb gc l B C (wr.drewN nq) ∧ RwI (wr.drewN nq) ga A) := ⟨HX.out.below (dN_b wr nq), HA10.out.below (dN_b wr nq)⟩
          go_wp2
          go_roundg (i - (k + 1))
          case measure => omega
          case rel => exact ⟨k + 1, by omega, by first | rfl | (rw [HW.out]), HX2.out⟩
        · have a1 := (HX.out.row.at (k := i) (p := mkP) (by have h := num_mk l; rw [HL.out] at h; exact h)).1
          have c1 := HALL.out wr ga A HA10.out HPA.out HX.out.bel
          have hge : ¬ (k : Int) < i := by omega
          clear hlt hk
          simp only [mkP] at a1
          go_wp2_with fail
          refine c1.mono ?_
          rintro e x1 ⟨rfl, hb1⟩
          have HX1 : Hid (Sx w b gb gc l B C x1 ∧ RwI x1 ga A) := ⟨HX.out.below hb1, HA10.out.below hb1⟩
          have c2 := HALL.out x1 gb B HX1.out.1.rb HPB.out HX1.out.1.bel
          clear c1 hb1 HX HA10 a1
          go_wp2_with fail
          refine c2.mono ?_
          rintro e x2 ⟨rfl, hb2⟩
          have HX2 : Hid (Sx w b gb gc l B C x2 ∧ RwI x2 ga A) := ⟨HX1.out.1.below hb2, HX1.out.2.below hb2⟩
          have c3 := HALL.out x2 gc C HX2.out.1.rc HPC.out HX2.out.1.bel
          clear c2 hb2 HX1
          go_wp2_with fail
          refine c3.mono ?_
          rintro e x3 ⟨rfl, hb3⟩
          have HX3 : Hid (Sx w b gb gc l B C x3 ∧ RwI x3 ga A) := ⟨HX2.out.1.below hb3, HX2.out.2.below hb3⟩
          clear c3 hb3 HX2
          go_wp2
          go_loopg [13] i (fun gk x wq => ∃ m : Nat, m + gk = i ∧ x = .int .i64 ((m : Int) + 1) ∧ Sx w b gb gc l B C wq ∧ RwI wq ga A)
          case atStart => exact ⟨0, by omega, rfl, HX3.out⟩
          case round =>
            obtain ⟨m, hm, rfl, hsx, hra⟩ := hrel
            have HX : Hid (Sx w b gb gc l B C wr) := hsx
            have HA10 : Hid (RwI wr ga A) := hra
            clear hsx hra HX3
            by_cases hlt : m + 1 < i
            · obtain ⟨p, hp⟩ : ∃ p, A[m]? = some p := ⟨_, List.getElem?_eq_getElem (by have := HAL.out; omega)⟩
              obtain ⟨q, hq⟩ : ∃ q, A[m + 1]? = some q := ⟨_, List.getElem?_eq_getElem (by have := HAL.out; omega)⟩
              have HAH : Hid (Ahd Pr.a Pr.b p q) := by
                have hh := (List.pairwise_iff_getElem.1 HSO.out) m (m + 1) (by have := HAL.out; omega) (by have := HAL.out; omega) (by omega)
                rw [(List.getElem?_eq_some_iff.1 hp).2, (List.getElem?_eq_some_iff.1 hq).2] at hh
                exact hh
              obtain ⟨a1, a2⟩ := HA10.out.at hp
              obtain ⟨a3, a4⟩ := HA10.out.at hq
              have HW : Hid (wrap64 ((m : Int) + 1 + 1) = ((m + 1 + 1 : Nat) : Int)) := wrap64_nat (h := m + 1 + 1) (by have := HN.out; omega)
              have HW2 : Hid (wrap64 (m : Int) = (m : Int)) := wrap64_nat (h := m) (by have := HN.out; omega)
              have hlt' : (m : Int) + 1 < i := by omega
              have hlm : (m : Int) < i := by omega
              have hm0 : (0 : Int) ≤ (m : Int) + 1 := by omega
              have hwm := HW2.out
              clear hp hq
              have HX2 : Hid (∀ nq, Sx w b gb gc l B C (wr.drewN nq) ∧ RwI (wr.drewN nq) ga A) := fun nq => ⟨HX.out.below (dN_b wr nq), HA10.out.below (dN_b wr nq)⟩
              rcases HAH.out with h | ⟨h, h'⟩
              · have n1 : ¬ q.a < p.a := by omega
                have n2 : (p.a == q.a) = false := by simp; omega
                generalize p.a = pa at *
                generalize q.a = qa at *
                generalize p.b = pb at *
                generalize q.b = qb at *
                clear h HAH
                go_upto_region 25 with fail
                go_quiet (fail)
                go_wp2
                go_roundg (i - (m + 1))
                case measure => omega
                case rel => exact ⟨m + 1, by omega, by first | rfl | (rw [HW.out]; rfl), HX2.out nq⟩
              · have n1 : ¬ q.a < p.a := by omega
                have n2 : (p.a == q.a) = true := by simp; omega
                have n3 : ¬ q.b < p.b := by omega
                generalize p.a = pa at *
                generalize q.a = qa at *
                generalize p.b = pb at *
                generalize q.b = qb at *
                clear h h' HAH
                go_upto_region 25 with fail
                go_quiet (fail)
                go_wp2
                go_roundg (i - (m + 1))
                case measure => omega
                case rel => exact ⟨m + 1, by omega, by first | rfl | (rw [HW.out]; rfl), HX2.out nq⟩
            · have hge : ¬ (m : Int) + 1 < i := by omega
              have HS4 : Hid (Sx w b gb gc l B C wr ∧ RwI wr ga A) := ⟨HX.out, HA10.out⟩
              clear HX HA10 hlt hm
              go_wp2
              go_loopg [14] i (fun gk x wq => ∃ (k : Nat) (A' : List Pr), k + gk = i ∧ x = .int .i64 k ∧ A'.length = i ∧ RwI wq ga A' ∧ Sx w b gb gc l B C wq)
              case atStart => exact ⟨0, A, by omega, rfl, HAL.out, HS4.out.2, HS4.out.1⟩
              case round =>
                obtain ⟨k, A', hk, rfl, hl', hra, hsx⟩ := hrel
                have HX : Hid (Sx w b gb gc l B C wr ∧ RwI wr ga A' ∧ A'.length = i) := ⟨hsx, hra, hl'⟩
                clear hsx hra hl' HS4
                by_cases hlt : k < i
                · obtain ⟨p, hp⟩ : ∃ p, A'[k]? = some p := ⟨_, List.getElem?_eq_getElem (by have := HX.out.2.2; omega)⟩
                  obtain ⟨a1, a2⟩ := HX.out.2.1.at hp
                  have f1 := HX.out.2.1.free (k * 2)
                  have f2 := HX.out.2.1.free (k * 2 + 1)
                  have HX2 : Hid (RwI ((wr.setCell ⟨ga, k * 2, none⟩ (.int .i64 (-5))).setCell ⟨ga, k * 2 + 1, none⟩ (.int .i64 0)) ga (A'.set k ⟨-5, 0⟩) ∧ Sx w b gb gc l B C ((wr.setCell ⟨ga, k * 2, none⟩ (.int .i64 (-5))).setCell ⟨ga, k * 2 + 1, none⟩ (.int .i64 0))) := ⟨HX.out.2.1.set k ⟨-5, 0⟩, HX.out.1.chg (K := fun j => j = ga) (((Chg.refl (fun j => j = ga) wr).setCell ⟨ga, _, none⟩ _ (.inl rfl)).setCell ⟨ga, _, none⟩ _ (.inl rfl)) (by have := HZ9.out; omega) (by have := HZ9.out; omega) (by have := HZ9.out; omega) (fun j e => by have := HZ9.out; omega)⟩
                  have HLK : Hid ((A'.set k ⟨-5, 0⟩).length = i) := by rw [List.length_set]; exact HX.out.2.2
                  have HW : Hid (wrap64 ((k : Int) + 1) = ((k + 1 : Nat) : Int)) := wrap64_nat (h := k + 1) (by have := HN.out; omega)
                  have hlt' : (k : Int) < i := by omega
                  clear hp
                  go_wp2
                  go_roundg (i - (k + 1))
                  case measure => omega
                  case rel => exact ⟨k + 1, _, by omega, by first | rfl | (rw [HW.out]), HLK.out, HX2.out⟩
                · have hge : ¬ (k : Int) < i := by omega
                  have HOW : Hid (wr.ownsRow 0 25 2 (.slice (some ⟨ga, 0, none⟩) i i) i (flatP A')) := by
                    have h := HX.out.2.1.own (by rw [HX.out.2.2]; exact Nat.le_trans (m := 140737488355328) (by have := HN.out; omega) (by decide))
                    rw [HX.out.2.2] at h
                    exact h
                  have HS5 : Hid (Sx w b gb gc l B C wr) := HX.out.1
                  clear HX hlt hk
                  go_wp2
                  go_loopg [15, 16] 9 (fun gk v x wq => ∃ (k : Nat) (xs : List Value), k + gk = 9 ∧ x = .int .i64 k ∧ wq.ownsRow 0 25 2 v (i + k) xs ∧ (∀ j, v.ownBlock = some j → ¬ j = b ∧ ¬ j = gb ∧ ¬ j = gc ∧ w.heap.size ≤ j) ∧ Sx w b gb gc l B C wq)
                  case atStart => exact ⟨0, flatP A', by omega, rfl, HOW.out, (fun j e => by simp [Value.ownBlock] at e; have := HZ9.out; omega), HS5.out⟩
                  case round =>
                    obtain ⟨k, xs, hk, rfl, hown, hne, hsx⟩ := hrel
                    have HX : Hid (wr.ownsRow 0 25 2 u15 (i + k) xs) := hown
                    have HY : Hid ((∀ j, u15.ownBlock = some j → ¬ j = b ∧ ¬ j = gb ∧ ¬ j = gc ∧ w.heap.size ≤ j) ∧ Sx w b gb gc l B C wr) := ⟨hne, hsx⟩
                    clear hown hne hsx HOW HS5
                    by_cases hlt : k < 9
                    · have HW : Hid (wrap64 ((k : Int) + 1) = ((k + 1 : Nat) : Int)) := wrap64_nat (h := k + 1) (by omega)
                      have hlt' : (k : Int) < 9 := by omega
                      obtain ⟨ii, hii, hz0, hz1, hz2⟩ := info_parts Try.soIa
                      go_wp2_with (at_builtin; refine wpList_append_own_at _ rfl (.tmp 162) (.tmp 164) 22 rfl 0 25 ii _ 2 16 Try.underlying22 hii hz0 hz1 hz2 rfl (by decide) u15 (i + k) xs rfl (HX.out.alloc _) ⟨wr.heap.size, 0, none⟩ 1 1 [.int .i64 (-6), .int .i64 0] rfl rfl (two_new wr _ _ _ rfl) two_one ?_ ?_ ?_ ?_; (exact (Nat.le_trans (m := 140737488355328) (by have := HN.out; omega) (by decide))); (have := HN.out; omega); (exact Nat.zero_le _); intro v6 w6' hown6 hgr6 _ hor6; have HX6 : Hid (w6'.ownsRow 0 25 2 v6 (i + k + 1) (xs ++ [.int .i64 (-6), .int .i64 0])) := hown6; have HY6 : Hid ((∀ j, v6.ownBlock = some j → ¬ j = b ∧ ¬ j = gb ∧ ¬ j = gc ∧ w.heap.size ≤ j) ∧ Sx w b gb gc l B C w6') := nine_step HY.out.1 HY.out.2 hgr6 hor6; clear hown6 hgr6 hor6)
                      go_roundg (9 - (k + 1))
                      case measure => omega
                      case rel => exact ⟨k + 1, _, by omega, by first | rfl | (rw [HW.out]), HX6.out, HY6.out⟩
                    · have hge : ¬ (k : Int) < 9 := by omega
                      have HS6 : Hid (Sx w b gb gc l B C wr) := HY.out.2
                      have c1 := HALL.out wr gb B HS6.out.rb HPB.out HS6.out.bel
                      clear HX HY hlt hk
                      go_wp2_with fail
                      refine c1.mono ?_
                      rintro e x1 ⟨rfl, hb1⟩
                      have HX1 : Hid (Sx w b gb gc l B C x1) := HS6.out.below hb1
                      have c2 := HALL.out x1 gc C HX1.out.rc HPC.out HX1.out.bel
                      clear c1 hb1 HS6
                      go_wp2_with fail
                      refine c2.mono ?_
                      rintro e x2 ⟨rfl, hb2⟩
                      have HX2 : Hid (Sx w b gb gc l B C x2) := HX1.out.below hb2
                      have a1 := (HX2.out.row.at (k := i) (p := mkP) (by have h := num_mk l; rw [HL.out] at h; exact h)).1
                      simp only [mkP] at a1
                      have HE : Hid (Below w.heap.size w x2) := HX2.out.bel
                      clear c2 hb2 HX1
                      by_cases hi0 : i = 0
                      · subst hi0
                        clear HX2
                        go_wp2
                        go_ret
                        exact ⟨rfl, HE.out⟩
                      · obtain ⟨p, hp⟩ : ∃ p, l[0]? = some p := ⟨_, List.getElem?_eq_getElem (by have := HL.out; omega)⟩
                        have a2 := (HX2.out.row.at (num_in hp)).2
                        have hi1 : ((i : Int) == 0) = false := by simp; omega
                        have hi2 : (0 : Int) < i := by omega
                        simp only [Nat.zero_mul, Nat.zero_add] at a2
                        clear HX2 hp
                        go_wp2
                        go_ret
                        exact ⟨rfl, HE.out⟩
end Go.Proofs.Ytjgllfpnmmopdaa
