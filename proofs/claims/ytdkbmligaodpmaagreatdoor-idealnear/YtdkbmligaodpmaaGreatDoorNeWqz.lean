/-
 IDEALNEAR walked (made by gen16ne.py).
-/
import Derived.Test.YtdkbmligaodpmaaGreatDoorNeBqz
import Derived.Test.YtdkbmligaodpmaaGreatDoorStCqz
namespace Go.Proofs.YtdkbmligaodpmaaGreatDoor
open Go.RowKit Wd Tr Cg Ld Bk

theorem last_firstF {P : Program} {ops : Array Oper} {Q : Exit → Act → World → Prop} {md : Region.Mode} {S : World → Prop} {L : Nat} {i : Nat} {oi : Oper} {v : Value} (hi : ops[i]? = some oi) (hsel : ∀ (j : Nat) (o : Oper) cs b, ops[j]? = some o → o.op ≠ .select cs b) (hQ : ∀ c a w, Q (.panic c) (a.put oi.dst v) w → Q (.panic c) a w)
  (hL : ops.size ≤ L) :
  ∀ (fuel : Nat) (listed : Array Bool) (a : Act) (w : World),
   (∀ j oj, ops[j]? = some oj → j ≠ i → listed.getD j true = false → (∀ e ∈ oj.after, Region.binds md e = true → e.on ≠ i) → oi.apart ops oj = true) →
   i ∈ Region.ready md ops listed → YieldsIf P ops S oi v a → S w →
   wpLast P md ops Q S L fuel (listed.setIfInBounds i true) (a.put oi.dst v) w → wpLast P md ops Q S L (fuel + 1) listed a w := by
 intro fuel
 induction fuel with
 | zero =>
  intro listed a w _ hr hy hS H
  refine ⟨fun h => (by rw [h] at hr; cases hr), fun j hj => ?_⟩
  by_cases hji : j = i
  ·subst hji
   exact hy.wpOp hi hS ⟨fun _ => hS, H⟩
  ·have := ready_mono hj hji
   rw [H.1] at this
   cases this
 | succ fuel ih =>
  intro listed a w hfree hr hy hS H
  refine ⟨fun h => (by rw [h] at hr; cases hr), fun j hj => ?_⟩
  by_cases hji : j = i
  ·subst hji
   exact hy.wpOp hi hS ⟨fun _ => hS, H⟩
  ·obtain ⟨hjun, oj, hoj, hall⟩ := mem_ready.1 hj
   have hnot : ∀ e ∈ oj.after, Region.binds md e = true → e.on ≠ i := fun e he hb heq => by
    have h1 := hall e he hb
    have h0 := (mem_ready.1 hr).1
    rw [heq] at h1
    rcases Nat.lt_or_ge i listed.size with h' | h'
    ·simp [h'] at h0 h1; rw [h0] at h1; cases h1
    ·simp [Array.getElem?_eq_none h'] at h1
   have hjL : j ≠ L := fun e => by
    have := (Array.getElem?_eq_some_iff.1 hoj).1
    omega
   have h1 := H.2 j (ready_mono hj hji)
   have h2 := wpOp_putIf hoj (hfree j oj hoj hji hjun hnot) (fun cs b => hsel i oi cs b hi) (fun cs b => hsel j oj cs b hoj) hQ hy h1
   have hfree' : ∀ k ok, ops[k]? = some ok → k ≠ i → (listed.setIfInBounds j true).getD k true = false → (∀ e ∈ ok.after, Region.binds md e = true → e.on ≠ i) → oi.apart ops ok = true := fun k ok hk hki hun hno => by
    refine hfree k ok hk hki ?_ hno
    by_cases hjk : j = k
    ·subst hjk; exact hjun
    ·rw [getD_set_ne true hjk] at hun; exact hun
   refine wpOp_mono (fun a' w' h3 => ⟨fun _ => h3.2.1 hjL, ih (listed.setIfInBounds j true) a' w' hfree' (ready_mono hr (Ne.symm hji)) h3.1 (h3.2.1 hjL) ?_⟩) h2
   rw [Array.setIfInBounds_comm _ _ hji]
   exact h3.2.2
theorem last_takeF {P : Program} {ops : Array Oper} {Q : Exit → Act → World → Prop} {md : Region.Mode} {S : World → Prop} {L : Nat} {i d : Nat} {oi : Oper} {v : Value} {fuel : Nat} {listed : Array Bool} {a : Act} {w : World} (hi : ops[i]? = some oi) (hs : Region.noSelect ops = true) (hf : Region.free md ops listed i = true) (hr : (Region.ready md ops listed).contains i = true)
  (hL : Nat.ble ops.size L = true) (hd : oi.dst = some d) (hQ : ∀ c a w, Q (.panic c) (a.put (some d) v) w → Q (.panic c) a w) (hw : Region.wanted oi (yielded ops a.tmps) = true) (hS : S w) (hy : ∀ w, S w → (execOp a.eval oi).run P w = .ok (.value v) w)
  (h : wpLast P md ops Q S L fuel (listed.setIfInBounds i true) (a.put (some d) v) w) : wpLast P md ops Q S L (fuel + 1) listed a w :=
 last_firstF hi (Region.noSelect_spec hs) (by rw [hd]; exact hQ) (Nat.le_of_ble_eq_true hL) fuel listed a w (Region.free_spec hi hf) (by simpa using hr) (.inl ⟨hw, hy⟩) hS (by rw [hd]; exact h)
theorem cmp_up {a b : Int} (h : b ≤ a) : decide (0 ≤ cmpV a b) = true := by
 unfold cmpV
 apply decide_eq_true
 split
 ·omega
 ·split <;> omega
theorem cmp_dn {a b : Int} (h : a ≤ b) : decide (cmpV a b ≤ 0) = true := by
 unfold cmpV
 apply decide_eq_true
 split
 ·omega
 ·split <;> omega
theorem idHi_num {c : Cf} (r : Rng c) {L : List Bd} {now : Int} {j : Jb} (h : wtB c L now j = true) (l : List Ac) : Num (idHi c l L now j) := by
 have hr := (rest_box r h).2.2.2.2.2.1.1
 have hp : 0 ≤ c.fair * ((fHi (mL l L) (mH l L) (flo c) j.ac.toNat : Nat) : Int) := Int.mul_nonneg r.f0 (by omega)
 unfold idHi Wd.addV Num
 split
 ·exact ⟨by omega, by assumption⟩
 ·exact ⟨by unfold top; omega, Int.le_refl _⟩

set_option maxRecDepth 20000 in
set_option maxHeartbeats 30000000 in
theorem near_yes {w : World} (hT : Tab w) {ao so : Option Addr} {l : List Ac} {ts : List Tc} {ca ct : Nat} (hA : AcsAt w ao l) (hs : ∀ a ∈ l, a.nm.size ≤ maxLen) (hn : l.length * 48 ≤ 140737488355328) (hcp : l.length ≤ ca) (hH : TcsAt w so ts) (htl : ts.length ≤ 140737488355328) (c : Cf) (j : Jb) (hj : JbOk j) (age : Int) (hag : I64 age) (hl : loadE l = 0) (hck : chkZ c = 0) :
  Calls Tryz.prog 4 #[cfV c, .slice ao l.length ca, .slice so ts.length ct, jbV j, .int .i64 age] w fun e w' => e = .returned (.bool true) ∧ Below w.heap.size w w' := by
 obtain ⟨r, hm⟩ := chk_yes hck
 have hwu : Wu l := wf_load hl
 have hpos := hwu.pos
 have h64 := hwu.len
 obtain ⟨i0, hi0, hz0, hz1, hz2⟩ := info_parts Tryz.infAc
 obtain ⟨ga, oa, rfl⟩ : ∃ ga oa, ao = some ⟨ga, oa, none⟩ := by
  obtain ⟨ga, oa, hao, _⟩ := hA
  exact ⟨ga, oa, hao hpos⟩
 have hSt0 := St.new w c
 have hN0 : Ne c w ((w.alloc (.cells #[.int .i64 c.nodes, .int .i64 c.queue, .int .i64 c.limit, .int .i64 c.age, .int .i64 c.fair, .int .i64 c.size, .int .i64 c.period, .int .i64 c.half] 23)).alloc (.cells (jbL j) 39)) j := by
  refine ⟨keepW hSt0 (Bk.below1 _ _), ?_⟩
  have := heap_alloc_new (w.alloc (.cells #[.int .i64 c.nodes, .int .i64 c.queue, .int .i64 c.limit, .int .i64 c.age, .int .i64 c.fair, .int .i64 c.size, .int .i64 c.period, .int .i64 c.half] 23)) (.cells (jbL j) 39)
  rw [World.size_alloc] at this
  exact this
 have c1 := ishown_any (Tab.below hN0.bel hT)
 have HLD : Hid (∀ x, Below w.heap.size w x → Calls Tryz.prog 20 #[.slice (some ⟨ga, oa, none⟩) l.length ca] x (RLoadP x l)) := fun x hx => rload_any (hA.below hx) hn
 have cC := rcheck_any c
 rw [hck] at cC
 have HNW : Hid (∀ x, Below w.heap.size w x → Calls Tryz.prog 8 #[cfV c] x fun e w' => ∃ d v, e = .returned (.tuple #[.pointer (some ⟨d, 0, none⟩), .int .i64 0]) ∧ Idl c x.heap.size w' d v [zeB] ∧ Below x.heap.size x w') := fun x hx => inew_yes hck x (Tab.below hx hT)
 have hAll := All.at r hm l.length (hisV ts) (min ts.length 2000)
 have hbd := bd_box r hm (min ts.length 2000)
 have HTK : Hid (∀ (x : World) (t : Nat) (tv : Value), Idl c w.heap.size x t tv (List.replicate l.length zeB) → Below w.heap.size w x → Calls Tryz.prog 22 #[cfV c, .int .i64 (l.length : Int), .slice so ts.length ct, .pointer (some ⟨t, 0, none⟩)] x fun e w' => ∃ gu, e = .returned (.tuple #[.slice (some ⟨gu, 0, none⟩) l.length l.length, .bool true]) ∧ UsC w' gu (tkA c l.length (hisV ts) (min ts.length 2000)).us ∧ Idl c w.heap.size w' t tv (tkA c l.length (hisV ts) (min ts.length 2000)).bs ∧ Below w.heap.size w w' ∧ x.heap.size ≤ gu ∧ Chg (IK t tv) x w') := fun x t tv hI hb => ticks_any (many := l.length) hck (by omega) (by omega) hI hb (Nat.le_refl _) (fun y hy => hH.below hy) htl
 generalize htk : tkA c l.length (hisV ts) (min ts.length 2000) = S at *
 obtain ⟨B9, hB9⟩ : ∃ B9, bdT c (min ts.length 2000) = B9 := ⟨_, rfl⟩
 rw [hB9] at hAll hbd
 have hll := hAll.lb
 have hlu := hAll.lu
 have hwt := nJ_wt r hpos (L := S.bs) hll j age
 have hpr : prOk c l S.bs (nC j age) (nJ c l.length j) = true := by
  unfold prOk
  rw [hwt, hl, hll]
  simp
 obtain ⟨pe1, pe2, pe3⟩ := pr_yes hpr
 have HPRI : Hid (∀ (x : World) (t : Nat) (tv : Value), Idl c w.heap.size x t tv S.bs → Below w.heap.size w x → Calls Tryz.prog 23 #[.pointer (some ⟨t, 0, none⟩), .slice (some ⟨ga, oa, none⟩) l.length ca, .int .i64 (nC j age), jbV (nJ c l.length j)] x fun e w' => e = .returned (.tuple #[nuV (idLo c l S.bs (nC j age) (nJ c l.length j)), nuV (idHi c l S.bs (nC j age) (nJ c l.length j)), nuV 9223372036854775808]) ∧ Below x.heap.size x w') := fun x t tv hI hb => by
  have := iprio_any hck hI (Tab.below hb hT) (hA.below hb) hs hn hcp (nC j age) (nJ c l.length j)
  rw [pe1, pe2, pe3] at this
  exact this
 obtain ⟨htri, hok, huw⟩ := tri_of r hwu hAll hbd
 have hal := withU_alike (l := l) hlu
 have hl' : loadE (withU l S.us) = 0 := by rw [← loadE_alike hal]; exact hl
 have hlen' : (withU l S.us).length = l.length := withU_len hlu
 have HFAC : Hid (∀ (x : World) (B g cap : Nat), AcO B x g cap (withU l S.us) → Calls Tryz.prog 24 #[cfV c, .slice (some ⟨g, 0, none⟩) l.length cap] x (REf x l.length (firstN (facV (withU l S.us) (wV (withU l S.us) (flZ c))) l.length))) := fun x B g cap ha => by
  have := rfacs_any (w := x) (ao := some ⟨g, 0, none⟩) (l := withU l S.us) (c := cap) (cf := c) ⟨g, 0, fun _ => rfl, ha.acs⟩ htri.low.ul (by rw [hlen']; exact hn) hl' hck
  rw [hlen'] at this
  exact this
 have HSRC : Hid (∀ x, Below w.heap.size w x → ∀ ad, (some ⟨ga, oa, none⟩ : Option Addr) = some ad → ∀ j u, (flatA l)[j]? = some u → x.cell? (ad.add j) = some u) := fun x hx => acs_flat (hA.below hx)
 have HFL : Hid ((flatA l).length = l.length * 5) := flatA_len l
 have HLOAD : Hid (loadE l = 0) := hl
 have HUS : Hid (S.us.length = l.length) := hlu
 obtain ⟨ja, jn, js⟩ := hj
 have cP1 := fun x => pick_any (x := j.ac) (n := (l.length : Int)) ja (by omega) x
 have cP2 := fun x => pick_any (x := j.no) (n := c.nodes) jn (by have := r.n0; omega) x
 have cP3 := fun x => pick_any (x := j.su) (n := 549755813888) js (by omega) x
 have cP4 := fun x => pick_any (x := age) (n := 549755813888) hag (by omega) x
 have p1 := pk_box (c := j.ac) (n := (l.length : Int)) (by omega)
 have p2 := pk_box (c := j.no) (n := c.nodes) (by have := r.n0; omega)
 have p3 := pk_box (c := j.su) (n := 549755813888) (by omega)
 have p4 := pk_box (c := age) (n := 549755813888) (by omega)
 have rn1 := r.n1
 have HMATH : Hid (∀ F mine, facV (withU l S.us) (wV (withU l S.us) (flZ c)) (pkV j.ac (l.length : Int)).toNat = F → 0 ≤ F → mine = (restV c (nC j age) (nJ c l.length j) + c.fair * F / 9223372036854775808) * 9223372036854775808 → mine ≤ top → idLo c l S.bs (nC j age) (nJ c l.length j) ≤ Wd.addV (Wd.addV mine (ofV c)) 1 ∧ mine ≤ Wd.addV (Wd.addV (idHi c l S.bs (nC j age) (nJ c l.length j)) (ofV c)) 1) := fun F mine h1 h2 h3 h4 => near_math hck hwu hAll hbd hwt h1 h2 h3 h4
 have HREST : Hid _ := rest_box r hwt
 have HHN : Hid (Num (idHi c l S.bs (nC j age) (nJ c l.length j))) := idHi_num r hwt l
 have HOF : Hid (OfB c) := of_box hck
 have HOFA : Hid (shlV (ofQ c) 63 = ofQ c * 9223372036854775808 ∧ Wd.addV (ofQ c * 9223372036854775808) (ofL c) = ofV c ∧ Num (ofV c) ∧ Num (ofQ c * 9223372036854775808) ∧ Num (ofL c) ∧ Num (ofQ c)) := ⟨of_shl hck, of_add hck⟩
 have HOFF : Hid (∀ x, Calls Tryz.prog 26 #[cfV c] x fun e w' => e = .returned (.tuple #[nu (offN c), nu (offD c)]) ∧ Below x.heap.size x w') := rOff_yes hck
 have HFR : Hid (0 ≤ c.fair ∧ c.fair ≤ 1048576) := ⟨r.f0, r.f1⟩
 generalize hq : l.length = q at *
 generalize hN : ts.length = N at *
 have HL : Hid (l.length = q) := hq
 have HN0 : Hid _ := hN0
 unfold cfV at *
 clear hA hT hs hcp hH htl hck hm hwu htri hok huw hal hl' hlen' hSt0 hl hlu hq hN htk hB9 ja jn js hN0 hAll hbd hll hpr pe1 pe2 pe3 hwt
 go_enter Tryz.func4, Tryz.ntmps4
 go_wp2_with fail
 refine c1.mono ?_
 rintro e w1 ⟨rfl, b1⟩
 have hN1 := HN0.out.below b1
 clear b1 c1 HN0
 have cL := HLD.out w1 hN1.bel
 have HN1 : Hid _ := hN1
 clear hN1
 go_wp2_with fail
 refine cL.mono ?_
 rintro e w2 ⟨h1, _, b2⟩
 obtain ⟨dt, vt, rfl, _⟩ := h1 HLOAD.out
 have HN2 : Hid _ := HN1.out.below b2
 clear b2 cL h1 HN1 HLD HLOAD
 obtain ⟨s0, s1, s2, s3, s4, s5, s6, s7, hB, hz⟩ := HN2.out.st
 go_wp2_with fail
 refine (cC _).mono ?_
 rintro e w3 ⟨rfl, b3⟩
 have HN3 : Hid _ := HN2.out.below b3
 clear s0 s1 s2 s3 s4 s5 s6 s7 hB hz b3 cC HN2
 obtain ⟨s0, s1, s2, s3, s4, s5, s6, s7, hB, hz⟩ := HN3.out.st
 have cN := HNW.out w3 hB
 go_wp2_with fail
 refine cN.mono ?_
 rintro e w4 ⟨t, tv, rfl, hI4, b4⟩
 have HA0 : Hid (Na c w w4 j t tv (List.replicate 1 zeB)) := ⟨HN3.out.below b4, hI4.base hB.size, fun k hk => by have := hI4.low k hk; have := HN3.out.big; omega⟩
 clear s0 s1 s2 s3 s4 s5 s6 s7 hB hz b4 cN hI4 HN3 HNW
 go_wp2
 go_loopg [16] (q - 1) (fun gk x wr => ∃ i : Nat, i + gk = q ∧ 1 ≤ i ∧ x = .int .i64 i ∧ ∃ tv, Na c w wr j t tv (List.replicate i zeB))
 case atStart => exact ⟨1, by omega, Nat.le_refl _, rfl, _, HA0.out⟩
 case round =>
  clear HA0
  obtain ⟨i, hi, hi1, rfl, tv', hA⟩ := hrel
  by_cases hlt : i < q
  ·have hlt' : (i : Int) < q := by omega
   have cO := iopen_any hA.i hA.ne.bel.size (by simp; omega)
   have HA : Hid _ := hA
   clear hA
   go_wp2_with fail
   refine cO.mono ?_
   rintro e x ⟨rfl, vc, hI2, hC2, hat2⟩
   have HA2 : Hid (Na c w x j t vc (List.replicate (i + 1) zeB)) := by
    rw [← List.replicate_succ'] at hI2
    exact HA.out.opened hI2 hC2 hat2
   clear hI2 hC2 hat2 cO HA
   go_wp2
   go_roundg (q - (i + 1))
   case measure => omega
   case rel => exact ⟨i + 1, by omega, by omega, rfl, _, HA2.out⟩
  ·have hge : ¬ (i : Int) < q := by omega
   obtain rfl : i = q := by omega
   have HA : Hid (Na c w wr j t tv' (List.replicate i zeB)) := hA
   clear hA
   obtain ⟨V0, hV0⟩ : ∃ V0, wr = V0 := ⟨_, rfl⟩
   rw [hV0] at HA
   rw [hV0]
   clear hV0
   obtain ⟨s0, s1, s2, s3, s4, s5, s6, s7, hB, hz⟩ := HA.out.ne.st
   have cT := HTK.out V0 t tv' HA.out.i hB
   go_wp2_with fail
   refine cT.mono ?_
   rintro e V1 ⟨gu, rfl, hU1, hI1, hB1, hgu, hC1⟩
   have HN1 : Hid (Ne c w V1 j) := HA.out.ne.chg hC1 HA.out.ht
   have HU1 : Hid (UsC V1 gu S.us) := hU1
   have HI1 : Hid (Idl c w.heap.size V1 t tv' S.bs) := hI1
   have HTT : Hid (∀ k, IK t tv' k → w.heap.size + 2 ≤ k) := HA.out.ht
   have HM : Hid ((V1.alloc (.cells #[] 62)).ownsRow V1.heap.size 62 5 (.slice (some ⟨V1.heap.size, 0, none⟩) 0 0) 0 []) := made0 V1 62 5
   have HB0 : Hid (Below V1.heap.size V1 (V1.alloc (.cells #[] 62))) := Bk.below1 _ _
   have HC1 : Hid (∀ ad, (some ⟨ga, oa, none⟩ : Option Addr) = some ad → ∀ j u, (flatA l)[j]? = some u → (V1.alloc (.cells #[] 62)).cell? (ad.add j) = some u) := HSRC.out (V1.alloc (.cells #[] 62)) (HN1.out.bel.alloc HN1.out.bel.size _)
   clear cT hU1 hI1 hB1 hgu hC1 s0 s1 s2 s3 s4 s5 s6 s7 hB hz HA HTK HSRC
   go_upto_region 14 with (at_builtin; refine wpList_append_any rfl (.tmp 86) (.tmp 87) 24 rfl V1.heap.size 62 i0 _ 5 48 Tryz.underlying24 hi0 hz0 hz1 hz2 rfl (by decide) (.slice (some ⟨V1.heap.size, 0, none⟩) 0 0) 0 [] rfl HM.out (some ⟨ga, oa, none⟩) i ca (flatA l) rfl (fun e => by cases e) HFL.out HC1.out (flatA_one l) ?_ ?_ ?_ ?_; exact (Nat.le_trans (m := 35184372088832) (by omega) (by decide)); omega; (simp); intro va V2 o1 g1; rw [Nat.zero_add, List.nil_append] at o1; have b1 : Below V1.heap.size V1 V2 := HB0.out.grown g1 (by simp) (fun k e => by simp [Value.ownBlock] at e; omega); obtain ⟨gn, cn, en, hgn⟩ := own_form o1 hpos; subst en)
   have HO : Hid (AcO V1.heap.size V2 gn cn l) := by
    show V2.ownsRow V1.heap.size 62 5 (.slice (some ⟨gn, 0, none⟩) l.length cn) l.length (flatA l)
    rw [HL.out]
    exact o1
   have HN2 : Hid (Ne c w V2 j) := HN1.out.below b1
   have HU2 : Hid (UsC V2 gu S.us) := UsC.below b1 HU1.out
   have HI2 : Hid (Idl c w.heap.size V2 t tv' S.bs) := HI1.out.below b1
   have HGN : Hid (V1.heap.size ≤ gn ∧ gu < V1.heap.size ∧ w.heap.size + 2 ≤ V1.heap.size ∧ ∀ k, IK t tv' k → k < V1.heap.size ∧ w.heap.size + 2 ≤ k) := ⟨hgn, UsC.lt HU1.out, HN1.out.big, fun k hk => ⟨HI1.out.lt k hk, HTT.out k hk⟩⟩
   clear o1 g1 b1 hgn HN1 HU1 HI1 HB0 HC1 HM HTT HFL
   go_wp2
   go_loopg [20] i (fun gk x wr => ∃ k : Nat, k + gk = i ∧ x = .int .i64 k ∧ AcO V1.heap.size wr gn cn (mkU l S.us k) ∧ Chg (fun m => m = gn) V2 wr)
   case atStart => exact ⟨0, by omega, rfl, by rw [mkU_zero]; exact HO.out, Chg.refl _ _⟩
   case round =>
    clear HO
    obtain ⟨k, hk, rfl, hO, hC⟩ := hrel
    by_cases hltk : k < i
    ·have hltk' : (k : Int) < i := by omega
     obtain ⟨u, hu⟩ : ∃ u, S.us[k]? = some u := ⟨_, List.getElem?_eq_getElem (by rw [HUS.out]; exact hltk)⟩
     obtain ⟨a, ha⟩ : ∃ a, l[k]? = some a := ⟨_, List.getElem?_eq_getElem (by rw [HL.out]; exact hltk)⟩
     have y1 := ((UsC.chg hC HU2.out (fun e => by have e' : gu = gn := e; have := HGN.out; omega)).at hu).1
     have y2 := (hO.acs k a (mkU_at ha)).us
     rw [Nat.zero_add] at y2
     have y3 := hO.free (k * 5 + 4)
     have HO2 : Hid (AcO V1.heap.size (wr.setCell ⟨gn, k * 5 + 4, none⟩ (.int .u64 u)) gn cn (mkU l S.us (k + 1))) := by
      have := hO.set (mkU_at ha) u
      rw [mkU_succ ha hu] at this
      exact this
     have HC2 : Hid (Chg (fun m => m = gn) V2 (wr.setCell ⟨gn, k * 5 + 4, none⟩ (.int .u64 u))) := hC.setCell _ _ (.inl rfl)
     clear hO hC hu ha
     go_wp2
     go_roundg (i - (k + 1))
     case measure => omega
     case rel => exact ⟨k + 1, by omega, rfl, HO2.out, HC2.out⟩
    ·have hgek : ¬ (k : Int) < i := by omega
     obtain rfl : k = i := by omega
     have HO3 : Hid (AcO V1.heap.size wr gn cn (withU l S.us)) := by
      have e9 : mkU l S.us l.length = withU l S.us := mkU_all (by rw [HUS.out, HL.out])
      rw [HL.out] at e9
      rw [e9] at hO
      exact hO
     have HN3 : Hid (Ne c w wr j) := HN2.out.chg hC (fun m e => by have e' : m = gn := e; have := HGN.out; omega)
     have HI3 : Hid (Idl c w.heap.size wr t tv' S.bs) := HI2.out.chg hC (fun m h1 e => by have e' : m = gn := e; have := HGN.out.2.2.2 m h1; have := HGN.out.1; omega)
     obtain ⟨X, hX⟩ : ∃ X, wr = X := ⟨_, rfl⟩
     rw [hX] at HO3 HN3 HI3
     rw [hX]
     have HNX : Hid (Ne c w X j) := HN3.out
     have HOX : Hid (AcO V1.heap.size X gn cn (withU l S.us)) := HO3.out
     have HIX : Hid (Idl c w.heap.size X t tv' S.bs) := HI3.out
     clear HN3 HO3 HI3 hX hO hC HN2 HU2 HI2
     have jc : X.cell? ⟨w.heap.size + 1, 0, none⟩ = some (.int .i64 j.ac) := (Jb.cells HNX.out.jb).1
     have jf := frozen_at (k := 0) HNX.out.jb
     go_wp2_with fail
     refine (cP1 _).mono ?_
     rintro e x ⟨rfl, hxx⟩
     obtain rfl := hxx.symm
     clear hxx cP1
     go_upto_region 19 with fail
     have hN9 : Ne c w (X.setCell ⟨w.heap.size + 1, 0, none⟩ (.int .i64 (pkV j.ac k))) ({ j with ac := pkV j.ac k }) := HNX.out.put0 _
     have hO9 : AcO V1.heap.size (X.setCell ⟨w.heap.size + 1, 0, none⟩ (.int .i64 (pkV j.ac k))) gn cn (withU l S.us) := ownsRow_setCell_below HOX.out (show w.heap.size + 1 < V1.heap.size by have := HGN.out; omega) _
     have hI9 : Idl c w.heap.size (X.setCell ⟨w.heap.size + 1, 0, none⟩ (.int .i64 (pkV j.ac k))) t tv' S.bs := HIX.out.chg (K := fun m => m = w.heap.size + 1) ((Chg.refl _ X).setCell _ _ (.inl rfl)) (fun m h1 e => by have e' : m = w.heap.size + 1 := e; have := HGN.out.2.2.2 m h1; omega)
     obtain ⟨Y1, hY1⟩ : ∃ Y1, (X.setCell ⟨w.heap.size + 1, 0, none⟩ (.int .i64 (pkV j.ac k))) = Y1 := ⟨_, rfl⟩
     rw [hY1] at hN9 hO9 hI9
     rw [hY1]
     have HNY1 : Hid (Ne c w Y1 ({ j with ac := pkV j.ac k })) := hN9
     have HOY1 : Hid (AcO V1.heap.size Y1 gn cn (withU l S.us)) := hO9
     have HIY1 : Hid (Idl c w.heap.size Y1 t tv' S.bs) := hI9
     clear hY1 hN9 hO9 hI9 jc jf HNX HOX HIX
     have jc : Y1.cell? ⟨w.heap.size + 1, 1, none⟩ = some (.int .i64 j.no) := (Jb.cells HNY1.out.jb).2.1
     have jf := frozen_at (k := 1) HNY1.out.jb
     have s0 := HNY1.out.st.1
     have wn : IntKind.i64.wrap (1 + pkV j.no c.nodes) = 1 + pkV j.no c.nodes := by rw [IntKind.wrap_i64]; omega
     go_wp2_with fail
     refine (cP2 _).mono ?_
     rintro e x ⟨rfl, hxx⟩
     obtain rfl := hxx.symm
     clear hxx cP2
     go_upto_region 20 with fail
     have hN9 : Ne c w (Y1.setCell ⟨w.heap.size + 1, 1, none⟩ (.int .i64 (1 + pkV j.no c.nodes))) ({ ({ j with ac := pkV j.ac k }) with no := 1 + pkV j.no c.nodes }) := HNY1.out.put1 _
     have hO9 : AcO V1.heap.size (Y1.setCell ⟨w.heap.size + 1, 1, none⟩ (.int .i64 (1 + pkV j.no c.nodes))) gn cn (withU l S.us) := ownsRow_setCell_below HOY1.out (show w.heap.size + 1 < V1.heap.size by have := HGN.out; omega) _
     have hI9 : Idl c w.heap.size (Y1.setCell ⟨w.heap.size + 1, 1, none⟩ (.int .i64 (1 + pkV j.no c.nodes))) t tv' S.bs := HIY1.out.chg (K := fun m => m = w.heap.size + 1) ((Chg.refl _ Y1).setCell _ _ (.inl rfl)) (fun m h1 e => by have e' : m = w.heap.size + 1 := e; have := HGN.out.2.2.2 m h1; omega)
     obtain ⟨Y2, hY2⟩ : ∃ Y2, (Y1.setCell ⟨w.heap.size + 1, 1, none⟩ (.int .i64 (1 + pkV j.no c.nodes))) = Y2 := ⟨_, rfl⟩
     rw [hY2] at hN9 hO9 hI9
     rw [hY2]
     have HNY2 : Hid (Ne c w Y2 ({ ({ j with ac := pkV j.ac k }) with no := 1 + pkV j.no c.nodes })) := hN9
     have HOY2 : Hid (AcO V1.heap.size Y2 gn cn (withU l S.us)) := hO9
     have HIY2 : Hid (Idl c w.heap.size Y2 t tv' S.bs) := hI9
     clear hY2 hN9 hO9 hI9 jc jf HNY1 HOY1 HIY1 s0 wn
     have jc : Y2.cell? ⟨w.heap.size + 1, 3, none⟩ = some (.int .i64 j.su) := (Jb.cells HNY2.out.jb).2.2.2.1
     have jf := frozen_at (k := 3) HNY2.out.jb
     go_wp2_with fail
     refine (cP3 _).mono ?_
     rintro e x ⟨rfl, hxx⟩
     obtain rfl := hxx.symm
     clear hxx cP3
     go_upto_region 21 with fail
     have hN9 : Ne c w (Y2.setCell ⟨w.heap.size + 1, 3, none⟩ (.int .i64 (pkV j.su 549755813888))) ({ ({ ({ j with ac := pkV j.ac k }) with no := 1 + pkV j.no c.nodes }) with su := pkV j.su 549755813888 }) := HNY2.out.put3 _
     have hO9 : AcO V1.heap.size (Y2.setCell ⟨w.heap.size + 1, 3, none⟩ (.int .i64 (pkV j.su 549755813888))) gn cn (withU l S.us) := ownsRow_setCell_below HOY2.out (show w.heap.size + 1 < V1.heap.size by have := HGN.out; omega) _
     have hI9 : Idl c w.heap.size (Y2.setCell ⟨w.heap.size + 1, 3, none⟩ (.int .i64 (pkV j.su 549755813888))) t tv' S.bs := HIY2.out.chg (K := fun m => m = w.heap.size + 1) ((Chg.refl _ Y2).setCell _ _ (.inl rfl)) (fun m h1 e => by have e' : m = w.heap.size + 1 := e; have := HGN.out.2.2.2 m h1; omega)
     obtain ⟨Y3, hY3⟩ : ∃ Y3, (Y2.setCell ⟨w.heap.size + 1, 3, none⟩ (.int .i64 (pkV j.su 549755813888))) = Y3 := ⟨_, rfl⟩
     rw [hY3] at hN9 hO9 hI9
     rw [hY3]
     have HNY3 : Hid (Ne c w Y3 ({ ({ ({ j with ac := pkV j.ac k }) with no := 1 + pkV j.no c.nodes }) with su := pkV j.su 549755813888 })) := hN9
     have HOY3 : Hid (AcO V1.heap.size Y3 gn cn (withU l S.us)) := hO9
     have HIY3 : Hid (Idl c w.heap.size Y3 t tv' S.bs) := hI9
     clear hY3 hN9 hO9 hI9 jc jf HNY2 HOY2 HIY2
     have HN4 : Hid (Ne c w Y3 (nJ c k j)) := HNY3.out
     clear HNY3
     have j3 : Y3.cell? ⟨w.heap.size + 1, 3, none⟩ = some (.int .i64 (pkV j.su 549755813888)) := (Jb.cells HN4.out.jb).2.2.2.1
     have wc4 : IntKind.i64.wrap (pkV j.su 549755813888 + pkV age 549755813888) = pkV j.su 549755813888 + pkV age 549755813888 := by rw [IntKind.wrap_i64]; omega
     go_quiet ((go_at_call 10; exact Calls.quiet_of_same (cP4 _)))
     as_aux_lemma =>
      have HN5 : Hid (Ne c w (Y3.drewN nq) (nJ c k j)) := HN4.out.below (bel_draw Y3 nq)
      have HO5 : Hid (AcO V1.heap.size (Y3.drewN nq) gn cn (withU l S.us)) := AcO.below HOY3.out (bel_draw Y3 nq)
      have HI5 : Hid (Idl c w.heap.size (Y3.drewN nq) t tv' S.bs) := HIY3.out.below (bel_draw Y3 nq)
      obtain ⟨X5, hX5⟩ : ∃ X5, Y3.drewN nq = X5 := ⟨_, rfl⟩
      rw [hX5] at HN5 HO5 HI5
      rw [hX5]
      clear hX5 HN4 HOY3 HIY3 j3 wc4 cP4
      obtain ⟨j0, j1, j2, j3, j4, j5, j6, j7⟩ := Jb.cells HN5.out.jb
      have cPr := HPRI.out X5 t tv' HI5.out HN5.out.bel
      obtain ⟨LO, hLO⟩ : ∃ LO, idLo c l S.bs (nC j age) (nJ c k j) = LO := ⟨_, rfl⟩
      obtain ⟨HH, hHH⟩ : ∃ HH, idHi c l S.bs (nC j age) (nJ c k j) = HH := ⟨_, rfl⟩
      have HLH : Hid (idLo c l S.bs (nC j age) (nJ c k j) = LO ∧ idHi c l S.bs (nC j age) (nJ c k j) = HH) := ⟨hLO, hHH⟩
      rw [hLO, hHH] at cPr
      have NHH : Hid (Num HH) := (show Num HH by rw [← hHH]; exact HHN.out)
      clear hLO hHH HPRI HI5 HHN
      go_wp2_with fail
      refine cPr.mono ?_
      rintro e X6 ⟨rfl, b6⟩
      have HN6 : Hid (Ne c w X6 (nJ c k j)) := HN5.out.below b6
      have HO6 : Hid (AcO V1.heap.size X6 gn cn (withU l S.us)) := AcO.below HO5.out b6
      clear b6 cPr HN5 HO5 j0 j1 j2 j3 j4 j5 j6 j7
      have y1 := Bx.new X6 (.int .u64 (hiW LO)) (.int .u64 (loW LO)) 64
      have y2 := Bx.new (X6.alloc (.cells #[.int .u64 (hiW LO), .int .u64 (loW LO)] 64)) (.int .u64 (hiW HH)) (.int .u64 (loW HH)) 64
      have y3 := Bx.new ((X6.alloc (.cells #[.int .u64 (hiW LO), .int .u64 (loW LO)] 64)).alloc (.cells #[.int .u64 (hiW HH), .int .u64 (loW HH)] 64)) (.int .u64 (hiW 9223372036854775808)) (.int .u64 (loW 9223372036854775808)) 64
      have y1' := (y1.alloc #[.int .u64 (hiW HH), .int .u64 (loW HH)] 64).alloc #[.int .u64 (hiW 9223372036854775808), .int .u64 (loW 9223372036854775808)] 64
      have y2' := y2.alloc #[.int .u64 (hiW 9223372036854775808), .int .u64 (loW 9223372036854775808)] 64
      have bb : Below X6.heap.size X6 (((X6.alloc (.cells #[.int .u64 (hiW LO), .int .u64 (loW LO)] 64)).alloc (.cells #[.int .u64 (hiW HH), .int .u64 (loW HH)] 64)).alloc (.cells #[.int .u64 (hiW 9223372036854775808), .int .u64 (loW 9223372036854775808)] 64)) := (((Below.refl _ X6).alloc (Nat.le_refl _) _).alloc (by simp) _).alloc (by simp; omega) _
      simp only [World.size_alloc] at y2' y3
      go_upto_region 23 with fail
      obtain ⟨W8, hW8⟩ : ∃ W8, ((X6.alloc (.cells #[.int .u64 (hiW LO), .int .u64 (loW LO)] 64)).alloc (.cells #[.int .u64 (hiW HH), .int .u64 (loW HH)] 64)).alloc (.cells #[.int .u64 (hiW 9223372036854775808), .int .u64 (loW 9223372036854775808)] 64) = W8 := ⟨_, rfl⟩
      rw [hW8] at y1' y2' y3 bb
      try rw [hW8]
      obtain ⟨KK, hKK⟩ : ∃ KK, X6.heap.size = KK := ⟨_, rfl⟩
      rw [hKK] at y1' y2' y3
      try rw [hKK]
      have HN8 : Hid (Ne c w W8 (nJ c k j)) := HN6.out.below bb
      have HO8 : Hid (AcO V1.heap.size W8 gn cn (withU l S.us)) := AcO.below HO6.out bb
      have HB1 : Hid (Bx W8 KK (.int .u64 (hiW LO)) (.int .u64 (loW LO))) := y1'
      have HB2 : Hid (Bx W8 (KK + 1) (.int .u64 (hiW HH)) (.int .u64 (loW HH))) := y2'
      have HB3 : Hid (Bx W8 (KK + 1 + 1) (.int .u64 (hiW 9223372036854775808)) (.int .u64 (loW 9223372036854775808))) := y3
      clear hW8 hKK y1 y2 y3 y1' y2' bb HN6 HO6
      obtain ⟨pa, hpa⟩ : ∃ pa : Nat, pkV j.ac k = pa := ⟨(pkV j.ac k).toNat, by omega⟩
      have HPA : Hid (pkV j.ac (k : Int) = (pa : Int) ∧ pa < k) := ⟨hpa, by omega⟩
      have hpk : (pa : Int) < k := by omega
      have cF := HFAC.out W8.drew V1.heap.size gn cn (AcO.below HO8.out (drew_belowI W8))
      clear hpa HFAC HO8
      refine wp_region_last (S := (fun x' : World => Ne c w x' (nJ c k j))) (L := 7) (by kernel_rfl) ?_
      have HSW0 : (fun x' : World => Ne c w x' (nJ c k j)) (W8.drew) := HN8.out.below (drew_belowI W8)
      refine last_take (i := 0) (v := ?v0k1) rfl (by kernel_rfl) (by kernel_rfl) (by kernel_rfl) (by kernel_rfl) rfl (fun _ _ _ h => h) (by rfl) HSW0 ?hy0k1 ?rest0k1
      case hy0k1 =>
       intro xx hSx
       obtain ⟨s0, s1, s2, s3, s4, s5, s6, s7, _, _⟩ := hSx.st
       go_simp
       try (with_reducible rfl)
      simp only [Act.put, List.setIfInBounds_toArray, List.set_cons_zero, List.set_cons_succ]
      refine last_take (i := 1) (v := ?v1k2) rfl (by kernel_rfl) (by kernel_rfl) (by kernel_rfl) (by kernel_rfl) rfl (fun _ _ _ h => h) (by rfl) HSW0 ?hy1k2 ?rest1k2
      case hy1k2 =>
       intro xx hSx
       go_simp
       try (with_reducible rfl)
      simp only [Act.put, List.setIfInBounds_toArray, List.set_cons_zero, List.set_cons_succ]
      refine last_take (i := 3) (v := ?v3k3) rfl (by kernel_rfl) (by kernel_rfl) (by kernel_rfl) (by kernel_rfl) rfl (fun _ _ _ h => h) (by rfl) HSW0 ?hy3k3 ?rest3k3
      case hy3k3 =>
       intro xx hSx
       go_simp
       try (with_reducible rfl)
      simp only [Act.put, List.setIfInBounds_toArray, List.set_cons_zero, List.set_cons_succ]
      refine last_take (i := 4) (v := ?v4k4) rfl (by kernel_rfl) (by kernel_rfl) (by kernel_rfl) (by kernel_rfl) rfl (fun _ _ _ h => h) (by rfl) HSW0 ?hy4k4 ?rest4k4
      case hy4k4 =>
       intro xx hSx
       have jc : xx.cell? ⟨w.heap.size + 1, 0, none⟩ = some (.int .i64 (pa : Int)) := by rw [← HPA.out.1]; exact (Jb.cells hSx.jb).1
       go_simp
       try (with_reducible rfl)
      simp only [Act.put, List.setIfInBounds_toArray, List.set_cons_zero, List.set_cons_succ]
      refine last_one (i := 2) (by kernel_rfl) rfl ?_
      intro K hK
      go_simp
      go_at_call 24
      refine (cF).mono ?_
      rintro e Z1 ⟨gf, cf, rfl, hrow, hgf, bz⟩
      have HSZ1 : (fun x' : World => Ne c w x' (nJ c k j)) Z1 := Ne.below HSW0 bz
      have hfc := wds_own hrow pa HPA.out.2
      go_simp
      refine hK.out _ _ (fun _ => HSZ1) (fun _ => ?_)
      clear hK K HSW0
      refine last_take (i := 5) (v := ?v5k5) rfl (by kernel_rfl) (by kernel_rfl) (by kernel_rfl) (by kernel_rfl) rfl (fun _ _ _ h => h) (by rfl) HSZ1 ?hy5k5 ?rest5k5
      case hy5k5 =>
       intro xx hSx
       go_simp
       try (with_reducible rfl)
      simp only [Act.put, List.setIfInBounds_toArray, List.set_cons_zero, List.set_cons_succ]
      refine last_one (i := 6) (by kernel_rfl) rfl ?_
      intro K hK
      go_simp
      refine hK.out _ _ (fun _ => HSZ1) (fun _ => ?_)
      clear hK K
      refine last_one (i := 7) (by kernel_rfl) rfl ?_
      intro K hK
      go_simp
      refine hK.out _ _ (fun h => absurd rfl h) (fun _ => ?_)
      clear hK K HSZ1
      refine last_done (by kernel_rfl) ?_ _
      as_aux_lemma =>
       have bw9 : Below W8.heap.size W8 Z1 := (drew_belowI W8).trans bz
       have HN9 : Hid (Ne c w Z1 (nJ c k j)) := HN8.out.below bw9
       have HB1a : Hid (Bx Z1 KK (.int .u64 (hiW LO)) (.int .u64 (loW LO))) := Bx.below HB1.out bw9
       have HB2a : Hid (Bx Z1 (KK + 1) (.int .u64 (hiW HH)) (.int .u64 (loW HH))) := Bx.below HB2.out bw9
       have HB3a : Hid (Bx Z1 (KK + 1 + 1) (.int .u64 0) (.int .u64 9223372036854775808)) := Bx.below HB3.out bw9
       have hF0 : 0 ≤ facV (withU l S.us) (wV (withU l S.us) (flZ c)) pa ∧ facV (withU l S.us) (wV (withU l S.us) (flZ c)) pa ≤ 9223372036854775808 := by
        rw [fac_x]
        have := half_top (xU (withU l S.us) (flZ c) pa)
        omega
       obtain ⟨F, hF⟩ : ∃ F, facV (withU l S.us) (wV (withU l S.us) (flZ c)) pa = F := ⟨_, rfl⟩
       have HF : Hid (facV (withU l S.us) (wV (withU l S.us) (flZ c)) pa = F) := hF
       rw [hF] at hF0
       rw [hF]
       clear hF hfc hrow hgf bz bw9 HN8 HB1 HB2 HB3 cF
       obtain ⟨CL, hCL⟩ : ∃ CL, pkV j.su 549755813888 + pkV age 549755813888 = CL := ⟨_, rfl⟩
       obtain ⟨JJ, hJJ⟩ : ∃ JJ, nJ c k j = JJ := ⟨_, rfl⟩
       have hR := HREST.out
       rw [hJJ] at HN9 hR HMATH HLH
       rw [show nC j age = CL from hCL] at hR HMATH HLH
       rw [hCL]
       clear hCL hJJ HREST
       obtain ⟨fr0, fr1⟩ := HFR.out
       have wfa : IntKind.u64.wrap c.fair = c.fair := by rw [IntKind.wrap_u64]; omega
       have cM := rmuln c.fair F ⟨by omega, by omega⟩ ⟨by omega, by omega⟩
       have hPb := mul_box (a := c.fair) (b := F) (A := 1048576) (B := 9223372036854775808) (by omega) (by omega) (by omega) (by omega)
       obtain ⟨P, hP⟩ : ∃ P, c.fair * F = P := ⟨_, rfl⟩
       have HP : Hid (c.fair * F = P) := hP
       rw [hP] at cM hPb
       clear hP
       have s4 := HN9.out.st.2.2.2.2.1
       go_wp2_with fail
       refine (cM _).mono ?_
       rintro e Z2 ⟨rfl, b2⟩
       have HN10 : Hid (Ne c w Z2 JJ) := HN9.out.below b2
       have y1 := Bx.new Z2 (.int .u64 (hiW P)) (.int .u64 (loW P)) 68
       have b3 := b2.trans ((Bk.below1 Z2 (.cells #[.int .u64 (hiW P), .int .u64 (loW P)] 68)).mono b2.size)
       go_upto_region 25 with fail
       obtain ⟨Z3, hZ3⟩ : ∃ Z3, Z2.alloc (.cells #[.int .u64 (hiW P), .int .u64 (loW P)] 68) = Z3 := ⟨_, rfl⟩
       rw [hZ3] at y1 b3
       rw [hZ3]
       obtain ⟨KP, hKP⟩ : ∃ KP, Z2.heap.size = KP := ⟨_, rfl⟩
       rw [hKP] at y1
       try rw [hKP]
       have HN11 : Hid (Ne c w Z3 JJ) := HN9.out.below b3
       have HB1b : Hid (Bx Z3 KK (.int .u64 (hiW LO)) (.int .u64 (loW LO))) := Bx.below HB1a.out b3
       have HB2b : Hid (Bx Z3 (KK + 1) (.int .u64 (hiW HH)) (.int .u64 (loW HH))) := Bx.below HB2a.out b3
       have HB3b : Hid (Bx Z3 (KK + 1 + 1) (.int .u64 0) (.int .u64 9223372036854775808)) := Bx.below HB3a.out b3
       clear hZ3 hKP b2 b3 cM s4 HN9 HN10 HB1a HB2a HB3a wfa
       have u0 := y1.1
       have u1 := y1.2.1
       have hP0 := hPb.1
       have hP1 := hPb.2
       have hPh : hiW P = P / 18446744073709551616 := rfl
       have hPl : loW P = P % 18446744073709551616 := rfl
       have hw1 : IntKind.u64.wrap (hiW P * 2) = hiW P * 2 := by rw [IntKind.wrap_u64]; omega
       have hor : bits .or .u64 (hiW P * 2) (loW P / 9223372036854775808) = P / 9223372036854775808 := by
        have := (or_plus 1 (u := hiW P) (v := loW P / 9223372036854775808) (by omega) (by omega) (by omega) (by omega)).1
        have e9 : (2 : Int) ^ 1 * hiW P = hiW P * 2 := by omega
        rw [e9] at this
        rw [this]
        omega
       have hw2 : IntKind.i64.wrap (P / 9223372036854775808) = P / 9223372036854775808 := by rw [IntKind.wrap_i64]; omega
       obtain ⟨r1, r2, r3, r4, r5, r6, r7⟩ := hR
       obtain ⟨_, j1, _, j3, _⟩ := Jb.cells HN11.out.jb
       have s3 := HN11.out.st.2.2.2.1
       have s5 := HN11.out.st.2.2.2.2.2.1
       have d0 := HB3b.out.1
       have d1 := HB3b.out.2.1
       have hw3 : IntKind.i64.wrap (restV c CL JJ + P / 9223372036854775808) = restV c CL JJ + P / 9223372036854775808 := by rw [IntKind.wrap_i64]; have := r6.1; omega
       have hw4 : IntKind.u64.wrap (restV c CL JJ + P / 9223372036854775808) = restV c CL JJ + P / 9223372036854775808 := by rw [IntKind.wrap_u64]; have := r6.1; omega
       clear hPh hPl
       go_upto_region 29 with fail
       obtain ⟨p, hp⟩ : ∃ p, restV c CL JJ + P / 9223372036854775808 = p := ⟨_, rfl⟩
       have hpw : Word p := by rw [← hp]; have := r6.1; exact ⟨by omega, by omega⟩
       have HPE : Hid (restV c CL JJ + P / 9223372036854775808 = p) := hp
       rw [hp]
       clear u0 u1 y1 hw1 hw2 hw3 hw4 hor r1 r2 r3 r4 r5 r6 r7 j1 j3 s3 s5 d0 d1 HB3b hp hPb
       obtain ⟨s0, s1, s2, s3, s4, s5, s6, s7, _, _⟩ := HN11.out.st
       as_aux_lemma =>
        have cOf := HOFF.out
        unfold nu at cOf
        go_wp2_with fail
        refine (cOf _).mono ?_
        rintro e A1 ⟨rfl, b1⟩
        clear s0 s1 s2 s3 s4 s5 s6 s7 cOf
        obtain ⟨ON, hON⟩ : ∃ ON, offN c = ON := ⟨_, rfl⟩
        obtain ⟨OD, hOD⟩ : ∃ OD, offD c = OD := ⟨_, rfl⟩
        have hob := HOF.out
        have hNn := hob.n
        have hDw := hob.d
        have hD1 := hob.d1
        have hlD : loW (offD c) = offD c := by show offD c % 18446744073709551616 = offD c; have := hDw.2; omega
        have hdv : divV (offN c) (offD c) = ofQ c := by unfold divV ofQ; rw [if_neg (by omega)]
        have hrm : remV (offN c) (offD c) = ofR c := by unfold remV ofR; rw [if_neg (by omega)]
        have hRw : Word (ofR c) := ⟨hob.r0, by have := hob.r1; have := hDw.2; omega⟩
        have hdl : divV (ofR c * 9223372036854775808) (offD c) = ofL c := by unfold divV ofL; rw [if_neg (by omega)]
        have cD1 := rdivn (offN c) (offD c) hNn hDw
        rw [hdv, hrm] at cD1
        have cM2 := rmuln (ofR c) 9223372036854775808 hRw ⟨by omega, by omega⟩
        have cD2 := rdivn (ofR c * 9223372036854775808) (offD c) (mul_num hRw ⟨by omega, by omega⟩) hDw
        rw [hdl] at cD2
        obtain ⟨hsh, had, nV, nQ6, nL, nQ⟩ := HOFA.out
        have cSh := rshl_num (ofQ c) 63 nQ (by omega)
        rw [hsh] at cSh
        have cAd := raddn (ofQ c * 9223372036854775808) (ofL c) nQ6 nL
        rw [had] at cAd
        rw [hON, hOD] at cD1
        rw [hOD] at cD2 hlD
        rw [hON, hOD]
        have HlD : Hid (loW OD = OD) := hlD
        clear hlD hob hNn hDw hD1 hdv hrm hRw hdl hsh had nQ6 nL nQ hON hOD HOFF HOF HOFA
        generalize ofQ c * 9223372036854775808 = Q6 at *
        generalize ofR c * 9223372036854775808 = R6 at *
        generalize hOV : ofV c = OV at *
        generalize ofQ c = OQ at *
        generalize ofR c = OR at *
        generalize ofL c = OL at *
        generalize divB OD = DB at *
        generalize remV R6 OD = R7 at *
        generalize addB Q6 OL = AB at *
        clear hOV
        have y1 := Bx.new A1 (.int .u64 (hiW ON)) (.int .u64 (loW ON)) 68
        have y2 := Bx.new (A1.alloc (.cells #[.int .u64 (hiW ON), .int .u64 (loW ON)] 68)) (.int .u64 (hiW OD)) (.int .u64 (loW OD)) 68
        have y1' := y1.alloc #[.int .u64 (hiW OD), .int .u64 (loW OD)] 68
        have bb : Below A1.heap.size A1 ((A1.alloc (.cells #[.int .u64 (hiW ON), .int .u64 (loW ON)] 68)).alloc (.cells #[.int .u64 (hiW OD), .int .u64 (loW OD)] 68)) := ((Below.refl _ A1).alloc (Nat.le_refl _) _).alloc (by simp) _
        simp only [World.size_alloc] at y2
        go_upto_region 30 with fail
        obtain ⟨A2, hA2⟩ : ∃ A2, (A1.alloc (.cells #[.int .u64 (hiW ON), .int .u64 (loW ON)] 68)).alloc (.cells #[.int .u64 (hiW OD), .int .u64 (loW OD)] 68) = A2 := ⟨_, rfl⟩
        rw [hA2] at y1' y2 bb
        rw [hA2]
        obtain ⟨KA, hKA⟩ : ∃ KA, A1.heap.size = KA := ⟨_, rfl⟩
        rw [hKA] at y1' y2
        try rw [hKA]
        have b9 : Below Z3.heap.size Z3 A2 := b1.trans (bb.mono b1.size)
        have HBa1 : Hid (Bx A2 KK (.int .u64 (hiW LO)) (.int .u64 (loW LO))) := Bx.below HB1b.out b9
        have HBa2 : Hid (Bx A2 (KK + 1) (.int .u64 (hiW HH)) (.int .u64 (loW HH))) := Bx.below HB2b.out b9
        have HBa3 : Hid (Bx A2 (KA + 1) (.int .u64 (hiW OD)) (.int .u64 OD)) := by have := y2; rw [HlD.out] at this; exact this
        have HWB : Hid (Below w.heap.size w A2) := HN11.out.bel.trans (b9.mono HN11.out.bel.size)
        as_aux_lemma =>
         have v0 := y1'.1
         have v1 := y1'.2.1
         have v3 := HBa3.out.2.1
         clear hA2 hKA y1 y2 y1' bb b1 b9 HlD HN11 HB1b HB2b
         go_wp2_with fail
         refine (cD1 _).mono ?_
         rintro e A3 ⟨rfl, b3⟩
         have y1 := Bx.new A3 (.int .u64 (hiW OQ)) (.int .u64 (loW OQ)) 68
         have b4 := b3.trans ((Bk.below1 A3 (.cells #[.int .u64 (hiW OQ), .int .u64 (loW OQ)] 68)).mono b3.size)
         go_upto_region 31 with fail
         obtain ⟨A4, hA4⟩ : ∃ A4, A3.alloc (.cells #[.int .u64 (hiW OQ), .int .u64 (loW OQ)] 68) = A4 := ⟨_, rfl⟩
         rw [hA4] at y1 b4
         rw [hA4]
         obtain ⟨KQ, hKQ⟩ : ∃ KQ, A3.heap.size = KQ := ⟨_, rfl⟩
         rw [hKQ] at y1
         try rw [hKQ]
         have HBb1 : Hid (Bx A4 KK (.int .u64 (hiW LO)) (.int .u64 (loW LO))) := Bx.below HBa1.out b4
         have HBb2 : Hid (Bx A4 (KK + 1) (.int .u64 (hiW HH)) (.int .u64 (loW HH))) := Bx.below HBa2.out b4
         have HBb3 : Hid (Bx A4 (KA + 1) (.int .u64 (hiW OD)) (.int .u64 OD)) := Bx.below HBa3.out b4
         have HBb4 : Hid (Bx A4 KQ (.int .u64 (hiW OQ)) (.int .u64 (loW OQ))) := y1
         have HWB2 : Hid (Below w.heap.size w A4) := HWB.out.trans (b4.mono HWB.out.size)
         clear hA4 hKQ y1 b3 b4 v0 v1 v3 cD1 HBa1 HBa2 HBa3 HWB
         go_cut [34] (fun b wq => ∃ gg : Nat, b = .pointer (some ⟨gg, 0, none⟩) ∧ Bx wq gg (.int .u64 (hiW OL)) (.int .u64 (loW OL)) ∧ Below A4.heap.size A4 wq)
         case first =>
          as_aux_lemma =>
           refine wp_region_last (S := (fun x' : World => x'.cell? ⟨KA + 1, 1, none⟩ = some (.int .u64 OD))) (L := 12) (by kernel_rfl) ?_
           obtain ⟨W0, hW0⟩ : ∃ W0, A4.drew = W0 := ⟨_, rfl⟩
           have BW0 : Below A4.heap.size A4 W0 := by rw [← hW0]; exact drew_belowI A4
           rw [hW0]
           clear hW0
           have HSB : Hid (∀ x, Below A4.heap.size A4 x → (fun x' : World => x'.cell? ⟨KA + 1, 1, none⟩ = some (.int .u64 OD)) x) := fun x hx => (Bx.below HBb3.out hx).2.1
           have HSW0 := HSB.out _ BW0
           clear HBb1 HBb2 HBb3 HBb4
           refine last_take (i := 0) (v := ?v0k6) rfl (by kernel_rfl) (by kernel_rfl) (by kernel_rfl) (by kernel_rfl) rfl (fun _ _ _ h => h) (by rfl) HSW0 ?hy0k6 ?rest0k6
           case hy0k6 =>
            intro xx hSx
            go_simp
            try (with_reducible rfl)
           simp only [Act.put, List.setIfInBounds_toArray, List.set_cons_zero, List.set_cons_succ]
           refine last_take (i := 2) (v := ?v2k7) rfl (by kernel_rfl) (by kernel_rfl) (by kernel_rfl) (by kernel_rfl) rfl (fun _ _ _ h => h) (by rfl) HSW0 ?hy2k7 ?rest2k7
           case hy2k7 =>
            intro xx hSx
            go_simp
            try (with_reducible rfl)
           simp only [Act.put, List.setIfInBounds_toArray, List.set_cons_zero, List.set_cons_succ]
           refine last_take (i := 3) (v := ?v3k8) rfl (by kernel_rfl) (by kernel_rfl) (by kernel_rfl) (by kernel_rfl) rfl (fun _ _ _ h => h) (by rfl) HSW0 ?hy3k8 ?rest3k8
           case hy3k8 =>
            intro xx hSx
            have s0 := hSx
            go_simp
            try (with_reducible rfl)
           simp only [Act.put, List.setIfInBounds_toArray, List.set_cons_zero, List.set_cons_succ]
           refine last_few (i := 1) (l := [9]) (by kernel_rfl) (List.forall_mem_cons.2 ⟨⟨_, rfl, ?h1n9⟩, List.forall_mem_cons.2 ⟨⟨_, rfl, ?h9n9⟩, List.forall_mem_nil _⟩⟩)
           case h1n9 =>
            intro K hK
            go_simp
            go_at_call 25
            refine (cM2 _).mono ?_
            rintro e W1 ⟨rfl, bW1⟩
            have BW1 : Below A4.heap.size A4 W1 := BW0.trans (bW1.mono BW0.size)
            have HSW1 := HSB.out _ BW1
            go_simp
            refine hK.out _ _ (fun _ => HSW1) (fun _ => ?_)
            clear hK K HSW0 bW1
            refine last_few (i := 4) (l := [9]) (by kernel_rfl) (List.forall_mem_cons.2 ⟨⟨_, rfl, ?h4n10⟩, List.forall_mem_cons.2 ⟨⟨_, rfl, ?h9n10⟩, List.forall_mem_nil _⟩⟩)
            case h4n10 =>
             intro K hK
             go_simp
             go_at_call 27
             refine (cD2 _).mono ?_
             rintro e W2 ⟨rfl, bW2⟩
             have BW2 : Below A4.heap.size A4 W2 := BW1.trans (bW2.mono BW1.size)
             have HSW2 := HSB.out _ BW2
             go_simp
             refine hK.out _ _ (fun _ => HSW2) (fun _ => ?_)
             clear hK K HSW1 bW2
             refine last_take (i := 5) (v := ?v5k11) rfl (by kernel_rfl) (by kernel_rfl) (by kernel_rfl) (by kernel_rfl) rfl (fun _ _ _ h => h) (by rfl) HSW2 ?hy5k11 ?rest5k11
             case hy5k11 =>
              intro xx hSx
              go_simp
              try (with_reducible rfl)
             simp only [Act.put, List.setIfInBounds_toArray, List.set_cons_zero, List.set_cons_succ]
             refine last_take (i := 6) (v := ?v6k12) rfl (by kernel_rfl) (by kernel_rfl) (by kernel_rfl) (by kernel_rfl) rfl (fun _ _ _ h => h) (by rfl) HSW2 ?hy6k12 ?rest6k12
             case hy6k12 =>
              intro xx hSx
              go_simp
              try (with_reducible rfl)
             simp only [Act.put, List.setIfInBounds_toArray, List.set_cons_zero, List.set_cons_succ]
             refine last_take (i := 7) (v := ?v7k13) rfl (by kernel_rfl) (by kernel_rfl) (by kernel_rfl) (by kernel_rfl) rfl (fun _ _ _ h => h) (by rfl) HSW2 ?hy7k13 ?rest7k13
             case hy7k13 =>
              intro xx hSx
              go_simp
              try (with_reducible rfl)
             simp only [Act.put, List.setIfInBounds_toArray, List.set_cons_zero, List.set_cons_succ]
             refine last_take (i := 8) (v := ?v8k14) rfl (by kernel_rfl) (by kernel_rfl) (by kernel_rfl) (by kernel_rfl) rfl (fun _ _ _ h => h) (by rfl) HSW2 ?hy8k14 ?rest8k14
             case hy8k14 =>
              intro xx hSx
              go_simp
              try (with_reducible rfl)
             simp only [Act.put, List.setIfInBounds_toArray, List.set_cons_zero, List.set_cons_succ]
             refine last_one (i := 9) (by kernel_rfl) rfl ?_
             intro K hK
             go_simp
             obtain ⟨b1, hb1⟩ : ∃ b1, W2.heap.size = b1 := ⟨_, rfl⟩
             obtain ⟨W3, hW3⟩ : ∃ W3, W2.alloc (.cells #[.int .u64 0, .int .u64 0] 68) = W3 := ⟨_, rfl⟩
             have nb1 : Bx W3 b1 (.int .u64 0) (.int .u64 0) := by rw [← hW3, ← hb1]; exact Bx.new W2 _ _ _
             have bW3 : Below W2.heap.size W2 W3 := by rw [← hW3]; exact (Below.refl _ _).alloc (Nat.le_refl _) _
             try rw [hb1]
             try rw [hW3]
             have BW3 : Below A4.heap.size A4 W3 := BW2.trans (bW3.mono BW2.size)
             have gb1 : A4.heap.size ≤ b1 := by rw [← hb1]; exact BW2.size
             have HSW3 := HSB.out _ BW3
             refine hK.out _ _ (fun _ => HSW3) (fun _ => ?_)
             clear hK K hW3 hb1 HSW2 bW3
             refine last_one (i := 10) (by kernel_rfl) rfl ?_
             intro K hK
             have x0 := nb1.1
             have x1 := nb1.2.1
             have x2 := nb1.2.2.1
             have x3 := nb1.2.2.2
             go_simp
             obtain ⟨W4, hW4⟩ : ∃ W4, (W3.setCell ⟨b1, 0, none⟩ (.int .u64 (hiW OL))).setCell ⟨b1, 1, none⟩ (.int .u64 (loW OL)) = W4 := ⟨_, rfl⟩
             have nb1 := set_two nb1 (.int .u64 (hiW OL)) (.int .u64 (loW OL))
             have BW4 : Below A4.heap.size A4 ((W3.setCell ⟨b1, 0, none⟩ (.int .u64 (hiW OL))).setCell ⟨b1, 1, none⟩ (.int .u64 (loW OL))) := (BW3.setCell gb1 (.int .u64 (hiW OL))).setCell gb1 (.int .u64 (loW OL))
             rw [hW4] at BW4 nb1
             try rw [hW4]
             have HSW4 := HSB.out _ BW4
             refine hK.out _ _ (fun _ => HSW4) (fun _ => ?_)
             clear hK K x0 x1 x2 x3 hW4 HSW3
             refine last_take (i := 11) (v := ?v11k15) rfl (by kernel_rfl) (by kernel_rfl) (by kernel_rfl) (by kernel_rfl) rfl (fun _ _ _ h => h) (by rfl) HSW4 ?hy11k15 ?rest11k15
             case hy11k15 =>
              intro xx hSx
              go_simp
              try (with_reducible rfl)
             simp only [Act.put, List.setIfInBounds_toArray, List.set_cons_zero, List.set_cons_succ]
             refine last_one (i := 12) (by kernel_rfl) rfl ?_
             intro K hK
             go_simp
             refine hK.out _ _ (fun h => absurd rfl h) (fun _ => ?_)
             clear hK K
             refine last_done (by kernel_rfl) ?_ _
             have HF1 : Hid (Bx W4 b1 (.int .u64 (hiW OL)) (.int .u64 (loW OL))) := nb1
             have HF3 : Hid (Below A4.heap.size A4 W4) := BW4
             clear nb1 gb1 BW4 HSB
             go_wp2
             go_meet
             exact ⟨b1, rfl, HF1.out, HF3.out⟩
            case h9n10 =>
             intro K hK
             go_simp
             obtain ⟨b1, hb1⟩ : ∃ b1, W1.heap.size = b1 := ⟨_, rfl⟩
             obtain ⟨W2, hW2⟩ : ∃ W2, W1.alloc (.cells #[.int .u64 0, .int .u64 0] 68) = W2 := ⟨_, rfl⟩
             have nb1 : Bx W2 b1 (.int .u64 0) (.int .u64 0) := by rw [← hW2, ← hb1]; exact Bx.new W1 _ _ _
             have bW2 : Below W1.heap.size W1 W2 := by rw [← hW2]; exact (Below.refl _ _).alloc (Nat.le_refl _) _
             try rw [hb1]
             try rw [hW2]
             have BW2 : Below A4.heap.size A4 W2 := BW1.trans (bW2.mono BW1.size)
             have gb1 : A4.heap.size ≤ b1 := by rw [← hb1]; exact BW1.size
             have HSW2 := HSB.out _ BW2
             refine hK.out _ _ (fun _ => HSW2) (fun _ => ?_)
             clear hK K hW2 hb1 HSW1 bW2
             refine last_one (i := 4) (by kernel_rfl) rfl ?_
             intro K hK
             go_simp
             go_at_call 27
             refine (cD2 _).mono ?_
             rintro e W3 ⟨rfl, bW3⟩
             have BW3 : Below A4.heap.size A4 W3 := BW2.trans (bW3.mono BW2.size)
             have nb1 := nb1.below bW3
             have HSW3 := HSB.out _ BW3
             go_simp
             refine hK.out _ _ (fun _ => HSW3) (fun _ => ?_)
             clear hK K HSW2 bW3
             refine last_take (i := 5) (v := ?v5k16) rfl (by kernel_rfl) (by kernel_rfl) (by kernel_rfl) (by kernel_rfl) rfl (fun _ _ _ h => h) (by rfl) HSW3 ?hy5k16 ?rest5k16
             case hy5k16 =>
              intro xx hSx
              go_simp
              try (with_reducible rfl)
             simp only [Act.put, List.setIfInBounds_toArray, List.set_cons_zero, List.set_cons_succ]
             refine last_take (i := 6) (v := ?v6k17) rfl (by kernel_rfl) (by kernel_rfl) (by kernel_rfl) (by kernel_rfl) rfl (fun _ _ _ h => h) (by rfl) HSW3 ?hy6k17 ?rest6k17
             case hy6k17 =>
              intro xx hSx
              go_simp
              try (with_reducible rfl)
             simp only [Act.put, List.setIfInBounds_toArray, List.set_cons_zero, List.set_cons_succ]
             refine last_take (i := 7) (v := ?v7k18) rfl (by kernel_rfl) (by kernel_rfl) (by kernel_rfl) (by kernel_rfl) rfl (fun _ _ _ h => h) (by rfl) HSW3 ?hy7k18 ?rest7k18
             case hy7k18 =>
              intro xx hSx
              go_simp
              try (with_reducible rfl)
             simp only [Act.put, List.setIfInBounds_toArray, List.set_cons_zero, List.set_cons_succ]
             refine last_take (i := 8) (v := ?v8k19) rfl (by kernel_rfl) (by kernel_rfl) (by kernel_rfl) (by kernel_rfl) rfl (fun _ _ _ h => h) (by rfl) HSW3 ?hy8k19 ?rest8k19
             case hy8k19 =>
              intro xx hSx
              go_simp
              try (with_reducible rfl)
             simp only [Act.put, List.setIfInBounds_toArray, List.set_cons_zero, List.set_cons_succ]
             refine last_one (i := 10) (by kernel_rfl) rfl ?_
             intro K hK
             have x0 := nb1.1
             have x1 := nb1.2.1
             have x2 := nb1.2.2.1
             have x3 := nb1.2.2.2
             go_simp
             obtain ⟨W4, hW4⟩ : ∃ W4, (W3.setCell ⟨b1, 0, none⟩ (.int .u64 (hiW OL))).setCell ⟨b1, 1, none⟩ (.int .u64 (loW OL)) = W4 := ⟨_, rfl⟩
             have nb1 := set_two nb1 (.int .u64 (hiW OL)) (.int .u64 (loW OL))
             have BW4 : Below A4.heap.size A4 ((W3.setCell ⟨b1, 0, none⟩ (.int .u64 (hiW OL))).setCell ⟨b1, 1, none⟩ (.int .u64 (loW OL))) := (BW3.setCell gb1 (.int .u64 (hiW OL))).setCell gb1 (.int .u64 (loW OL))
             rw [hW4] at BW4 nb1
             try rw [hW4]
             have HSW4 := HSB.out _ BW4
             refine hK.out _ _ (fun _ => HSW4) (fun _ => ?_)
             clear hK K x0 x1 x2 x3 hW4 HSW3
             refine last_take (i := 11) (v := ?v11k20) rfl (by kernel_rfl) (by kernel_rfl) (by kernel_rfl) (by kernel_rfl) rfl (fun _ _ _ h => h) (by rfl) HSW4 ?hy11k20 ?rest11k20
             case hy11k20 =>
              intro xx hSx
              go_simp
              try (with_reducible rfl)
             simp only [Act.put, List.setIfInBounds_toArray, List.set_cons_zero, List.set_cons_succ]
             refine last_one (i := 12) (by kernel_rfl) rfl ?_
             intro K hK
             go_simp
             refine hK.out _ _ (fun h => absurd rfl h) (fun _ => ?_)
             clear hK K
             refine last_done (by kernel_rfl) ?_ _
             have HF1 : Hid (Bx W4 b1 (.int .u64 (hiW OL)) (.int .u64 (loW OL))) := nb1
             have HF3 : Hid (Below A4.heap.size A4 W4) := BW4
             clear nb1 gb1 BW4 HSB
             go_wp2
             go_meet
             exact ⟨b1, rfl, HF1.out, HF3.out⟩
           case h9n9 =>
            intro K hK
            go_simp
            obtain ⟨b1, hb1⟩ : ∃ b1, W0.heap.size = b1 := ⟨_, rfl⟩
            obtain ⟨W1, hW1⟩ : ∃ W1, W0.alloc (.cells #[.int .u64 0, .int .u64 0] 68) = W1 := ⟨_, rfl⟩
            have nb1 : Bx W1 b1 (.int .u64 0) (.int .u64 0) := by rw [← hW1, ← hb1]; exact Bx.new W0 _ _ _
            have bW1 : Below W0.heap.size W0 W1 := by rw [← hW1]; exact (Below.refl _ _).alloc (Nat.le_refl _) _
            try rw [hb1]
            try rw [hW1]
            have BW1 : Below A4.heap.size A4 W1 := BW0.trans (bW1.mono BW0.size)
            have gb1 : A4.heap.size ≤ b1 := by rw [← hb1]; exact BW0.size
            have HSW1 := HSB.out _ BW1
            refine hK.out _ _ (fun _ => HSW1) (fun _ => ?_)
            clear hK K hW1 hb1 HSW0 bW1
            refine last_one (i := 1) (by kernel_rfl) rfl ?_
            intro K hK
            go_simp
            go_at_call 25
            refine (cM2 _).mono ?_
            rintro e W2 ⟨rfl, bW2⟩
            have BW2 : Below A4.heap.size A4 W2 := BW1.trans (bW2.mono BW1.size)
            have nb1 := nb1.below bW2
            have HSW2 := HSB.out _ BW2
            go_simp
            refine hK.out _ _ (fun _ => HSW2) (fun _ => ?_)
            clear hK K HSW1 bW2
            refine last_one (i := 4) (by kernel_rfl) rfl ?_
            intro K hK
            go_simp
            go_at_call 27
            refine (cD2 _).mono ?_
            rintro e W3 ⟨rfl, bW3⟩
            have BW3 : Below A4.heap.size A4 W3 := BW2.trans (bW3.mono BW2.size)
            have nb1 := nb1.below bW3
            have HSW3 := HSB.out _ BW3
            go_simp
            refine hK.out _ _ (fun _ => HSW3) (fun _ => ?_)
            clear hK K HSW2 bW3
            refine last_take (i := 5) (v := ?v5k21) rfl (by kernel_rfl) (by kernel_rfl) (by kernel_rfl) (by kernel_rfl) rfl (fun _ _ _ h => h) (by rfl) HSW3 ?hy5k21 ?rest5k21
            case hy5k21 =>
             intro xx hSx
             go_simp
             try (with_reducible rfl)
            simp only [Act.put, List.setIfInBounds_toArray, List.set_cons_zero, List.set_cons_succ]
            refine last_take (i := 6) (v := ?v6k22) rfl (by kernel_rfl) (by kernel_rfl) (by kernel_rfl) (by kernel_rfl) rfl (fun _ _ _ h => h) (by rfl) HSW3 ?hy6k22 ?rest6k22
            case hy6k22 =>
             intro xx hSx
             go_simp
             try (with_reducible rfl)
            simp only [Act.put, List.setIfInBounds_toArray, List.set_cons_zero, List.set_cons_succ]
            refine last_take (i := 7) (v := ?v7k23) rfl (by kernel_rfl) (by kernel_rfl) (by kernel_rfl) (by kernel_rfl) rfl (fun _ _ _ h => h) (by rfl) HSW3 ?hy7k23 ?rest7k23
            case hy7k23 =>
             intro xx hSx
             go_simp
             try (with_reducible rfl)
            simp only [Act.put, List.setIfInBounds_toArray, List.set_cons_zero, List.set_cons_succ]
            refine last_take (i := 8) (v := ?v8k24) rfl (by kernel_rfl) (by kernel_rfl) (by kernel_rfl) (by kernel_rfl) rfl (fun _ _ _ h => h) (by rfl) HSW3 ?hy8k24 ?rest8k24
            case hy8k24 =>
             intro xx hSx
             go_simp
             try (with_reducible rfl)
            simp only [Act.put, List.setIfInBounds_toArray, List.set_cons_zero, List.set_cons_succ]
            refine last_one (i := 10) (by kernel_rfl) rfl ?_
            intro K hK
            have x0 := nb1.1
            have x1 := nb1.2.1
            have x2 := nb1.2.2.1
            have x3 := nb1.2.2.2
            go_simp
            obtain ⟨W4, hW4⟩ : ∃ W4, (W3.setCell ⟨b1, 0, none⟩ (.int .u64 (hiW OL))).setCell ⟨b1, 1, none⟩ (.int .u64 (loW OL)) = W4 := ⟨_, rfl⟩
            have nb1 := set_two nb1 (.int .u64 (hiW OL)) (.int .u64 (loW OL))
            have BW4 : Below A4.heap.size A4 ((W3.setCell ⟨b1, 0, none⟩ (.int .u64 (hiW OL))).setCell ⟨b1, 1, none⟩ (.int .u64 (loW OL))) := (BW3.setCell gb1 (.int .u64 (hiW OL))).setCell gb1 (.int .u64 (loW OL))
            rw [hW4] at BW4 nb1
            try rw [hW4]
            have HSW4 := HSB.out _ BW4
            refine hK.out _ _ (fun _ => HSW4) (fun _ => ?_)
            clear hK K x0 x1 x2 x3 hW4 HSW3
            refine last_take (i := 11) (v := ?v11k25) rfl (by kernel_rfl) (by kernel_rfl) (by kernel_rfl) (by kernel_rfl) rfl (fun _ _ _ h => h) (by rfl) HSW4 ?hy11k25 ?rest11k25
            case hy11k25 =>
             intro xx hSx
             go_simp
             try (with_reducible rfl)
            simp only [Act.put, List.setIfInBounds_toArray, List.set_cons_zero, List.set_cons_succ]
            refine last_one (i := 12) (by kernel_rfl) rfl ?_
            intro K hK
            go_simp
            refine hK.out _ _ (fun h => absurd rfl h) (fun _ => ?_)
            clear hK K
            refine last_done (by kernel_rfl) ?_ _
            have HF1 : Hid (Bx W4 b1 (.int .u64 (hiW OL)) (.int .u64 (loW OL))) := nb1
            have HF3 : Hid (Below A4.heap.size A4 W4) := BW4
            clear nb1 gb1 BW4 HSB
            go_wp2
            go_meet
            exact ⟨b1, rfl, HF1.out, HF3.out⟩
         case rest =>
         as_aux_lemma =>
          obtain ⟨KL, rfl, hbx, hb⟩ := hcut
          have HBc1 : Hid (Bx wc KK (.int .u64 (hiW LO)) (.int .u64 (loW LO))) := Bx.below HBb1.out hb
          have HBc2 : Hid (Bx wc (KK + 1) (.int .u64 (hiW HH)) (.int .u64 (loW HH))) := Bx.below HBb2.out hb
          have HBc4 : Hid (Bx wc KQ (.int .u64 (hiW OQ)) (.int .u64 (loW OQ))) := Bx.below HBb4.out hb
          have HWn : Hid (Below w.heap.size w wc) := HWB2.out.trans (hb.mono HWB2.out.size)
          have HBc5 : Hid (Bx wc KL (.int .u64 (hiW OL)) (.int .u64 (loW OL))) := hbx
          obtain ⟨A5, hA5⟩ : ∃ A5, wc = A5 := ⟨_, rfl⟩
          rw [hA5] at HBc1 HBc2 HBc4 HWn HBc5
          rw [hA5]
          have HWB3 : Hid (Below w.heap.size w A5) := HWn.out
          clear hA5 hb hbx HWn HWB2 HBb1 HBb2 HBb4
          clear HBb3 cM2 cD2
          go_upto_region 32 with fail
          go_cut [37] (fun b wq => ∃ gg : Nat, b = .pointer (some ⟨gg, 0, none⟩) ∧ Bx wq gg (.int .u64 (hiW OV)) (.int .u64 (loW OV)) ∧ Below A5.heap.size A5 wq)
          case first =>
           as_aux_lemma =>
            refine wp_region_last (S := (fun x' : World => x'.cell? ⟨KQ, 0, none⟩ = some (.int .u64 (hiW OQ)) ∧ x'.cell? ⟨KQ, 1, none⟩ = some (.int .u64 (loW OQ)) ∧ x'.cell? ⟨KL, 0, none⟩ = some (.int .u64 (hiW OL)) ∧ x'.cell? ⟨KL, 1, none⟩ = some (.int .u64 (loW OL)))) (L := 9) (by kernel_rfl) ?_
            obtain ⟨W0, hW0⟩ : ∃ W0, A5.drew = W0 := ⟨_, rfl⟩
            have BW0 : Below A5.heap.size A5 W0 := by rw [← hW0]; exact drew_belowI A5
            rw [hW0]
            clear hW0
            have HSB : Hid (∀ x, Below A5.heap.size A5 x → (fun x' : World => x'.cell? ⟨KQ, 0, none⟩ = some (.int .u64 (hiW OQ)) ∧ x'.cell? ⟨KQ, 1, none⟩ = some (.int .u64 (loW OQ)) ∧ x'.cell? ⟨KL, 0, none⟩ = some (.int .u64 (hiW OL)) ∧ x'.cell? ⟨KL, 1, none⟩ = some (.int .u64 (loW OL))) x) := fun x hx => ⟨(Bx.below HBc4.out hx).1, (Bx.below HBc4.out hx).2.1, (Bx.below HBc5.out hx).1, (Bx.below HBc5.out hx).2.1⟩
            have HSW0 := HSB.out _ BW0
            clear HBc1 HBc2 HBc4 HBc5
            refine last_take (i := 0) (v := ?v0k26) rfl (by kernel_rfl) (by kernel_rfl) (by kernel_rfl) (by kernel_rfl) rfl (fun _ _ _ h => h) (by rfl) HSW0 ?hy0k26 ?rest0k26
            case hy0k26 =>
             intro xx hSx
             obtain ⟨s0, s1, s2, s3⟩ := hSx
             go_simp
             try (with_reducible rfl)
            simp only [Act.put, List.setIfInBounds_toArray, List.set_cons_zero, List.set_cons_succ]
            refine last_take (i := 2) (v := ?v2k27) rfl (by kernel_rfl) (by kernel_rfl) (by kernel_rfl) (by kernel_rfl) rfl (fun _ _ _ h => h) (by rfl) HSW0 ?hy2k27 ?rest2k27
            case hy2k27 =>
             intro xx hSx
             obtain ⟨s0, s1, s2, s3⟩ := hSx
             go_simp
             try (with_reducible rfl)
            simp only [Act.put, List.setIfInBounds_toArray, List.set_cons_zero, List.set_cons_succ]
            refine last_few (i := 1) (l := [7]) (by kernel_rfl) (List.forall_mem_cons.2 ⟨⟨_, rfl, ?h1n28⟩, List.forall_mem_cons.2 ⟨⟨_, rfl, ?h7n28⟩, List.forall_mem_nil _⟩⟩)
            case h1n28 =>
             intro K hK
             go_simp
             go_at_call 29
             refine (cSh _).mono ?_
             rintro e W1 ⟨rfl, bW1⟩
             have BW1 : Below A5.heap.size A5 W1 := BW0.trans (bW1.mono BW0.size)
             have HSW1 := HSB.out _ BW1
             go_simp
             refine hK.out _ _ (fun _ => HSW1) (fun _ => ?_)
             clear hK K HSW0 bW1
             refine last_few (i := 3) (l := [7]) (by kernel_rfl) (List.forall_mem_cons.2 ⟨⟨_, rfl, ?h3n29⟩, List.forall_mem_cons.2 ⟨⟨_, rfl, ?h7n29⟩, List.forall_mem_nil _⟩⟩)
             case h3n29 =>
              intro K hK
              go_simp
              go_at_call 28
              refine (cAd _).mono ?_
              rintro e W2 ⟨rfl, bW2⟩
              have BW2 : Below A5.heap.size A5 W2 := BW1.trans (bW2.mono BW1.size)
              have HSW2 := HSB.out _ BW2
              go_simp
              refine hK.out _ _ (fun _ => HSW2) (fun _ => ?_)
              clear hK K HSW1 bW2
              refine last_take (i := 4) (v := ?v4k30) rfl (by kernel_rfl) (by kernel_rfl) (by kernel_rfl) (by kernel_rfl) rfl (fun _ _ _ h => h) (by rfl) HSW2 ?hy4k30 ?rest4k30
              case hy4k30 =>
               intro xx hSx
               go_simp
               try (with_reducible rfl)
              simp only [Act.put, List.setIfInBounds_toArray, List.set_cons_zero, List.set_cons_succ]
              refine last_take (i := 5) (v := ?v5k31) rfl (by kernel_rfl) (by kernel_rfl) (by kernel_rfl) (by kernel_rfl) rfl (fun _ _ _ h => h) (by rfl) HSW2 ?hy5k31 ?rest5k31
              case hy5k31 =>
               intro xx hSx
               go_simp
               try (with_reducible rfl)
              simp only [Act.put, List.setIfInBounds_toArray, List.set_cons_zero, List.set_cons_succ]
              refine last_take (i := 6) (v := ?v6k32) rfl (by kernel_rfl) (by kernel_rfl) (by kernel_rfl) (by kernel_rfl) rfl (fun _ _ _ h => h) (by rfl) HSW2 ?hy6k32 ?rest6k32
              case hy6k32 =>
               intro xx hSx
               go_simp
               try (with_reducible rfl)
              simp only [Act.put, List.setIfInBounds_toArray, List.set_cons_zero, List.set_cons_succ]
              refine last_one (i := 7) (by kernel_rfl) rfl ?_
              intro K hK
              go_simp
              obtain ⟨b1, hb1⟩ : ∃ b1, W2.heap.size = b1 := ⟨_, rfl⟩
              obtain ⟨W3, hW3⟩ : ∃ W3, W2.alloc (.cells #[.int .u64 0, .int .u64 0] 68) = W3 := ⟨_, rfl⟩
              have nb1 : Bx W3 b1 (.int .u64 0) (.int .u64 0) := by rw [← hW3, ← hb1]; exact Bx.new W2 _ _ _
              have bW3 : Below W2.heap.size W2 W3 := by rw [← hW3]; exact (Below.refl _ _).alloc (Nat.le_refl _) _
              try rw [hb1]
              try rw [hW3]
              have BW3 : Below A5.heap.size A5 W3 := BW2.trans (bW3.mono BW2.size)
              have gb1 : A5.heap.size ≤ b1 := by rw [← hb1]; exact BW2.size
              have HSW3 := HSB.out _ BW3
              refine hK.out _ _ (fun _ => HSW3) (fun _ => ?_)
              clear hK K hW3 hb1 HSW2 bW3
              refine last_one (i := 8) (by kernel_rfl) rfl ?_
              intro K hK
              have x0 := nb1.1
              have x1 := nb1.2.1
              have x2 := nb1.2.2.1
              have x3 := nb1.2.2.2
              go_simp
              obtain ⟨W4, hW4⟩ : ∃ W4, (W3.setCell ⟨b1, 0, none⟩ (.int .u64 (hiW OV))).setCell ⟨b1, 1, none⟩ (.int .u64 (loW OV)) = W4 := ⟨_, rfl⟩
              have nb1 := set_two nb1 (.int .u64 (hiW OV)) (.int .u64 (loW OV))
              have BW4 : Below A5.heap.size A5 ((W3.setCell ⟨b1, 0, none⟩ (.int .u64 (hiW OV))).setCell ⟨b1, 1, none⟩ (.int .u64 (loW OV))) := (BW3.setCell gb1 (.int .u64 (hiW OV))).setCell gb1 (.int .u64 (loW OV))
              rw [hW4] at BW4 nb1
              try rw [hW4]
              have HSW4 := HSB.out _ BW4
              refine hK.out _ _ (fun _ => HSW4) (fun _ => ?_)
              clear hK K x0 x1 x2 x3 hW4 HSW3
              refine last_one (i := 9) (by kernel_rfl) rfl ?_
              intro K hK
              go_simp
              refine hK.out _ _ (fun h => absurd rfl h) (fun _ => ?_)
              clear hK K
              refine last_done (by kernel_rfl) ?_ _
              have HF1 : Hid (Bx W4 b1 (.int .u64 (hiW OV)) (.int .u64 (loW OV))) := nb1
              have HF3 : Hid (Below A5.heap.size A5 W4) := BW4
              clear nb1 gb1 BW4 HSB
              go_wp2
              go_meet
              exact ⟨b1, rfl, HF1.out, HF3.out⟩
             case h7n29 =>
              intro K hK
              go_simp
              obtain ⟨b1, hb1⟩ : ∃ b1, W1.heap.size = b1 := ⟨_, rfl⟩
              obtain ⟨W2, hW2⟩ : ∃ W2, W1.alloc (.cells #[.int .u64 0, .int .u64 0] 68) = W2 := ⟨_, rfl⟩
              have nb1 : Bx W2 b1 (.int .u64 0) (.int .u64 0) := by rw [← hW2, ← hb1]; exact Bx.new W1 _ _ _
              have bW2 : Below W1.heap.size W1 W2 := by rw [← hW2]; exact (Below.refl _ _).alloc (Nat.le_refl _) _
              try rw [hb1]
              try rw [hW2]
              have BW2 : Below A5.heap.size A5 W2 := BW1.trans (bW2.mono BW1.size)
              have gb1 : A5.heap.size ≤ b1 := by rw [← hb1]; exact BW1.size
              have HSW2 := HSB.out _ BW2
              refine hK.out _ _ (fun _ => HSW2) (fun _ => ?_)
              clear hK K hW2 hb1 HSW1 bW2
              refine last_one (i := 3) (by kernel_rfl) rfl ?_
              intro K hK
              go_simp
              go_at_call 28
              refine (cAd _).mono ?_
              rintro e W3 ⟨rfl, bW3⟩
              have BW3 : Below A5.heap.size A5 W3 := BW2.trans (bW3.mono BW2.size)
              have nb1 := nb1.below bW3
              have HSW3 := HSB.out _ BW3
              go_simp
              refine hK.out _ _ (fun _ => HSW3) (fun _ => ?_)
              clear hK K HSW2 bW3
              refine last_take (i := 4) (v := ?v4k33) rfl (by kernel_rfl) (by kernel_rfl) (by kernel_rfl) (by kernel_rfl) rfl (fun _ _ _ h => h) (by rfl) HSW3 ?hy4k33 ?rest4k33
              case hy4k33 =>
               intro xx hSx
               go_simp
               try (with_reducible rfl)
              simp only [Act.put, List.setIfInBounds_toArray, List.set_cons_zero, List.set_cons_succ]
              refine last_take (i := 5) (v := ?v5k34) rfl (by kernel_rfl) (by kernel_rfl) (by kernel_rfl) (by kernel_rfl) rfl (fun _ _ _ h => h) (by rfl) HSW3 ?hy5k34 ?rest5k34
              case hy5k34 =>
               intro xx hSx
               go_simp
               try (with_reducible rfl)
              simp only [Act.put, List.setIfInBounds_toArray, List.set_cons_zero, List.set_cons_succ]
              refine last_take (i := 6) (v := ?v6k35) rfl (by kernel_rfl) (by kernel_rfl) (by kernel_rfl) (by kernel_rfl) rfl (fun _ _ _ h => h) (by rfl) HSW3 ?hy6k35 ?rest6k35
              case hy6k35 =>
               intro xx hSx
               go_simp
               try (with_reducible rfl)
              simp only [Act.put, List.setIfInBounds_toArray, List.set_cons_zero, List.set_cons_succ]
              refine last_one (i := 8) (by kernel_rfl) rfl ?_
              intro K hK
              have x0 := nb1.1
              have x1 := nb1.2.1
              have x2 := nb1.2.2.1
              have x3 := nb1.2.2.2
              go_simp
              obtain ⟨W4, hW4⟩ : ∃ W4, (W3.setCell ⟨b1, 0, none⟩ (.int .u64 (hiW OV))).setCell ⟨b1, 1, none⟩ (.int .u64 (loW OV)) = W4 := ⟨_, rfl⟩
              have nb1 := set_two nb1 (.int .u64 (hiW OV)) (.int .u64 (loW OV))
              have BW4 : Below A5.heap.size A5 ((W3.setCell ⟨b1, 0, none⟩ (.int .u64 (hiW OV))).setCell ⟨b1, 1, none⟩ (.int .u64 (loW OV))) := (BW3.setCell gb1 (.int .u64 (hiW OV))).setCell gb1 (.int .u64 (loW OV))
              rw [hW4] at BW4 nb1
              try rw [hW4]
              have HSW4 := HSB.out _ BW4
              refine hK.out _ _ (fun _ => HSW4) (fun _ => ?_)
              clear hK K x0 x1 x2 x3 hW4 HSW3
              refine last_one (i := 9) (by kernel_rfl) rfl ?_
              intro K hK
              go_simp
              refine hK.out _ _ (fun h => absurd rfl h) (fun _ => ?_)
              clear hK K
              refine last_done (by kernel_rfl) ?_ _
              have HF1 : Hid (Bx W4 b1 (.int .u64 (hiW OV)) (.int .u64 (loW OV))) := nb1
              have HF3 : Hid (Below A5.heap.size A5 W4) := BW4
              clear nb1 gb1 BW4 HSB
              go_wp2
              go_meet
              exact ⟨b1, rfl, HF1.out, HF3.out⟩
            case h7n28 =>
             intro K hK
             go_simp
             obtain ⟨b1, hb1⟩ : ∃ b1, W0.heap.size = b1 := ⟨_, rfl⟩
             obtain ⟨W1, hW1⟩ : ∃ W1, W0.alloc (.cells #[.int .u64 0, .int .u64 0] 68) = W1 := ⟨_, rfl⟩
             have nb1 : Bx W1 b1 (.int .u64 0) (.int .u64 0) := by rw [← hW1, ← hb1]; exact Bx.new W0 _ _ _
             have bW1 : Below W0.heap.size W0 W1 := by rw [← hW1]; exact (Below.refl _ _).alloc (Nat.le_refl _) _
             try rw [hb1]
             try rw [hW1]
             have BW1 : Below A5.heap.size A5 W1 := BW0.trans (bW1.mono BW0.size)
             have gb1 : A5.heap.size ≤ b1 := by rw [← hb1]; exact BW0.size
             have HSW1 := HSB.out _ BW1
             refine hK.out _ _ (fun _ => HSW1) (fun _ => ?_)
             clear hK K hW1 hb1 HSW0 bW1
             refine last_one (i := 1) (by kernel_rfl) rfl ?_
             intro K hK
             go_simp
             go_at_call 29
             refine (cSh _).mono ?_
             rintro e W2 ⟨rfl, bW2⟩
             have BW2 : Below A5.heap.size A5 W2 := BW1.trans (bW2.mono BW1.size)
             have nb1 := nb1.below bW2
             have HSW2 := HSB.out _ BW2
             go_simp
             refine hK.out _ _ (fun _ => HSW2) (fun _ => ?_)
             clear hK K HSW1 bW2
             refine last_one (i := 3) (by kernel_rfl) rfl ?_
             intro K hK
             go_simp
             go_at_call 28
             refine (cAd _).mono ?_
             rintro e W3 ⟨rfl, bW3⟩
             have BW3 : Below A5.heap.size A5 W3 := BW2.trans (bW3.mono BW2.size)
             have nb1 := nb1.below bW3
             have HSW3 := HSB.out _ BW3
             go_simp
             refine hK.out _ _ (fun _ => HSW3) (fun _ => ?_)
             clear hK K HSW2 bW3
             refine last_take (i := 4) (v := ?v4k36) rfl (by kernel_rfl) (by kernel_rfl) (by kernel_rfl) (by kernel_rfl) rfl (fun _ _ _ h => h) (by rfl) HSW3 ?hy4k36 ?rest4k36
             case hy4k36 =>
              intro xx hSx
              go_simp
              try (with_reducible rfl)
             simp only [Act.put, List.setIfInBounds_toArray, List.set_cons_zero, List.set_cons_succ]
             refine last_take (i := 5) (v := ?v5k37) rfl (by kernel_rfl) (by kernel_rfl) (by kernel_rfl) (by kernel_rfl) rfl (fun _ _ _ h => h) (by rfl) HSW3 ?hy5k37 ?rest5k37
             case hy5k37 =>
              intro xx hSx
              go_simp
              try (with_reducible rfl)
             simp only [Act.put, List.setIfInBounds_toArray, List.set_cons_zero, List.set_cons_succ]
             refine last_take (i := 6) (v := ?v6k38) rfl (by kernel_rfl) (by kernel_rfl) (by kernel_rfl) (by kernel_rfl) rfl (fun _ _ _ h => h) (by rfl) HSW3 ?hy6k38 ?rest6k38
             case hy6k38 =>
              intro xx hSx
              go_simp
              try (with_reducible rfl)
             simp only [Act.put, List.setIfInBounds_toArray, List.set_cons_zero, List.set_cons_succ]
             refine last_one (i := 8) (by kernel_rfl) rfl ?_
             intro K hK
             have x0 := nb1.1
             have x1 := nb1.2.1
             have x2 := nb1.2.2.1
             have x3 := nb1.2.2.2
             go_simp
             obtain ⟨W4, hW4⟩ : ∃ W4, (W3.setCell ⟨b1, 0, none⟩ (.int .u64 (hiW OV))).setCell ⟨b1, 1, none⟩ (.int .u64 (loW OV)) = W4 := ⟨_, rfl⟩
             have nb1 := set_two nb1 (.int .u64 (hiW OV)) (.int .u64 (loW OV))
             have BW4 : Below A5.heap.size A5 ((W3.setCell ⟨b1, 0, none⟩ (.int .u64 (hiW OV))).setCell ⟨b1, 1, none⟩ (.int .u64 (loW OV))) := (BW3.setCell gb1 (.int .u64 (hiW OV))).setCell gb1 (.int .u64 (loW OV))
             rw [hW4] at BW4 nb1
             try rw [hW4]
             have HSW4 := HSB.out _ BW4
             refine hK.out _ _ (fun _ => HSW4) (fun _ => ?_)
             clear hK K x0 x1 x2 x3 hW4 HSW3
             refine last_one (i := 9) (by kernel_rfl) rfl ?_
             intro K hK
             go_simp
             refine hK.out _ _ (fun h => absurd rfl h) (fun _ => ?_)
             clear hK K
             refine last_done (by kernel_rfl) ?_ _
             have HF1 : Hid (Bx W4 b1 (.int .u64 (hiW OV)) (.int .u64 (loW OV))) := nb1
             have HF3 : Hid (Below A5.heap.size A5 W4) := BW4
             clear nb1 gb1 BW4 HSB
             go_wp2
             go_meet
             exact ⟨b1, rfl, HF1.out, HF3.out⟩
          case rest =>
          as_aux_lemma =>
           obtain ⟨KO, rfl, hbx, hb⟩ := hcut
           have HBd1 : Hid (Bx wc KK (.int .u64 (hiW LO)) (.int .u64 (loW LO))) := Bx.below HBc1.out hb
           have HBd2 : Hid (Bx wc (KK + 1) (.int .u64 (hiW HH)) (.int .u64 (loW HH))) := Bx.below HBc2.out hb
           have HWn : Hid (Below w.heap.size w wc) := HWB3.out.trans (hb.mono HWB3.out.size)
           have HBd6 : Hid (Bx wc KO (.int .u64 (hiW OV)) (.int .u64 (loW OV))) := hbx
           obtain ⟨A6, hA6⟩ : ∃ A6, wc = A6 := ⟨_, rfl⟩
           rw [hA6] at HBd1 HBd2 HWn HBd6
           rw [hA6]
           have HWB4 : Hid (Below w.heap.size w A6) := HWn.out
           clear hA6 hb hbx HWn HWB3 HBc1 HBc2
           clear HBc4 HBc5 cSh cAd
           have hOne : Word (9223372036854775808 : Int) := ⟨by omega, by omega⟩
           have cMm := rmuln p 9223372036854775808 hpw hOne
           have hMn := mul_num hpw hOne
           obtain ⟨MI, hMI⟩ : ∃ MI, p * 9223372036854775808 = MI := ⟨_, rfl⟩
           have HMI : Hid (p * 9223372036854775808 = MI ∧ Num MI) := ⟨hMI, by rw [← hMI]; exact hMn⟩
           rw [hMI] at cMm hMn
           clear hMI hOne
           have cA1 := raddn MI OV hMn nV
           obtain ⟨A9, hA9⟩ : ∃ A9, Wd.addV MI OV = A9 := ⟨_, rfl⟩
           have nA9 : Num A9 := by rw [← hA9]; exact addV_num hMn nV
           rw [hA9] at cA1
           generalize addB MI OV = AB1 at *
           go_wp2_with fail
           refine (cMm _).mono ?_
           rintro e C1 ⟨rfl, b1⟩
           have y1 := Bx.new C1 (.int .u64 (hiW MI)) (.int .u64 (loW MI)) 68
           have b2 := b1.trans ((Bk.below1 C1 (.cells #[.int .u64 (hiW MI), .int .u64 (loW MI)] 68)).mono b1.size)
           go_upto_region 34 with fail
           obtain ⟨C2, hC2⟩ : ∃ C2, C1.alloc (.cells #[.int .u64 (hiW MI), .int .u64 (loW MI)] 68) = C2 := ⟨_, rfl⟩
           rw [hC2] at y1 b2
           rw [hC2]
           obtain ⟨KM, hKM⟩ : ∃ KM, C1.heap.size = KM := ⟨_, rfl⟩
           rw [hKM] at y1
           try rw [hKM]
           have HBe1 : Hid (Bx C2 KK (.int .u64 (hiW LO)) (.int .u64 (loW LO))) := Bx.below HBd1.out b2
           have HBe2 : Hid (Bx C2 (KK + 1) (.int .u64 (hiW HH)) (.int .u64 (loW HH))) := Bx.below HBd2.out b2
           have HBe6 : Hid (Bx C2 KO (.int .u64 (hiW OV)) (.int .u64 (loW OV))) := Bx.below HBd6.out b2
           have HBe7 : Hid (Bx C2 KM (.int .u64 (hiW MI)) (.int .u64 (loW MI))) := y1
           have HWB5 : Hid (Below w.heap.size w C2) := HWB4.out.trans (b2.mono HWB4.out.size)
           have v0 := y1.1
           have v1 := y1.2.1
           have v2 := HBe6.out.1
           have v3 := HBe6.out.2.1
           clear hC2 hKM y1 b1 b2 cMm HBd1 HBd2 HBd6 HWB4
           go_wp2_with fail
           refine (cA1 _).mono ?_
           rintro e C3 ⟨rfl, b1⟩
           have y1 := Bx.new C3 (.int .u64 (hiW A9)) (.int .u64 (loW A9)) 68
           have b2 := b1.trans ((Bk.below1 C3 (.cells #[.int .u64 (hiW A9), .int .u64 (loW A9)] 68)).mono b1.size)
           go_upto_region 35 with fail
           obtain ⟨C4, hC4⟩ : ∃ C4, C3.alloc (.cells #[.int .u64 (hiW A9), .int .u64 (loW A9)] 68) = C4 := ⟨_, rfl⟩
           rw [hC4] at y1 b2
           rw [hC4]
           obtain ⟨KB, hKB⟩ : ∃ KB, C3.heap.size = KB := ⟨_, rfl⟩
           rw [hKB] at y1
           try rw [hKB]
           have HBf1 : Hid (Bx C4 KK (.int .u64 (hiW LO)) (.int .u64 (loW LO))) := Bx.below HBe1.out b2
           have HBf2 : Hid (Bx C4 (KK + 1) (.int .u64 (hiW HH)) (.int .u64 (loW HH))) := Bx.below HBe2.out b2
           have HBf6 : Hid (Bx C4 KO (.int .u64 (hiW OV)) (.int .u64 (loW OV))) := Bx.below HBe6.out b2
           have HBf7 : Hid (Bx C4 KM (.int .u64 (hiW MI)) (.int .u64 (loW MI))) := Bx.below HBe7.out b2
           have HBO : Hid (Bx C4 KB (.int .u64 (hiW A9)) (.int .u64 (loW A9))) := y1
           have HWB6 : Hid (Below w.heap.size w C4) := HWB5.out.trans (b2.mono HWB5.out.size)
           have HAP : Hid (KK ≠ KB ∧ KK + 1 ≠ KB ∧ KO ≠ KB ∧ KM ≠ KB ∧ w.heap.size ≤ KB) := by
            have h1 := Bx.lt HBe1.out; have h2 := Bx.lt HBe2.out; have h3 := Bx.lt HBe6.out; have h4 := Bx.lt HBe7.out; have h5 := b1.size; have h6 := HWB5.out.size
            exact ⟨by omega, by omega, by omega, by omega, by omega⟩
           clear hC4 hKB y1 b1 b2 cA1 v0 v1 v2 v3 HBe1 HBe2 HBe6 HBe7 HWB5
           as_aux_lemma =>
            have oneW : Word (1 : Int) := ⟨by omega, by omega⟩
            have oneN : Num (1 : Int) := num_small oneW
            have cO1 := rof_num 1 oneW
            have cA2 := raddn A9 1 nA9 oneN
            obtain ⟨UP, hUP⟩ : ∃ UP, Wd.addV A9 1 = UP := ⟨_, rfl⟩
            have HUP : Hid (Wd.addV A9 1 = UP ∧ Wd.addV MI OV = A9) := ⟨hUP, hA9⟩
            rw [hUP] at cA2
            generalize addB A9 1 = AB2 at *
            have HMN : Hid (Num MI) := hMn
            have HVN : Hid (Num OV) := nV
            clear hUP hA9 nA9 hMn nV oneW
            go_cut [] (fun wq => Bx wq KK (.int .u64 (hiW LO)) (.int .u64 (loW LO)) ∧ Bx wq (KK + 1) (.int .u64 (hiW HH)) (.int .u64 (loW HH)) ∧ Bx wq KO (.int .u64 (hiW OV)) (.int .u64 (loW OV)) ∧ Bx wq KM (.int .u64 (hiW MI)) (.int .u64 (loW MI)) ∧ Bx wq KB (.int .u64 (hiW UP)) (.int .u64 (loW UP)) ∧ Below w.heap.size w wq)
            case first =>
             as_aux_lemma =>
              refine wp_region_last (S := (fun _ : World => True)) (L := 99) (by kernel_rfl) ?_
              obtain ⟨W0, hW0⟩ : ∃ W0, C4.drew = W0 := ⟨_, rfl⟩
              have BW0 : Below C4.heap.size C4 W0 := by rw [← hW0]; exact drew_belowI C4
              rw [hW0]
              clear hW0
              refine last_few (i := 0) (l := [1]) (by kernel_rfl) (List.forall_mem_cons.2 ⟨⟨_, rfl, ?h0n39⟩, List.forall_mem_cons.2 ⟨⟨_, rfl, ?h1n39⟩, List.forall_mem_nil _⟩⟩)
              case h0n39 =>
               intro K hK
               obtain ⟨x0, x1, _, _⟩ := Bx.below HBO.out BW0
               go_simp
               refine hK.out _ _ (fun _ => trivial) (fun _ => ?_)
               clear hK K x0 x1
               refine last_one (i := 1) (by kernel_rfl) rfl ?_
               intro K hK
               go_simp
               go_at_call 30
               refine (cO1 _).mono ?_
               rintro e W1 ⟨rfl, bW1⟩
               have BW1 : Below C4.heap.size C4 W1 := BW0.trans (bW1.mono BW0.size)
               go_simp
               refine hK.out _ _ (fun _ => trivial) (fun _ => ?_)
               clear hK K bW1
               refine last_one (i := 2) (by kernel_rfl) rfl ?_
               intro K hK
               go_simp
               go_at_call 28
               refine (cA2 _).mono ?_
               rintro e W2 ⟨rfl, bW2⟩
               have BW2 : Below C4.heap.size C4 W2 := BW1.trans (bW2.mono BW1.size)
               go_simp
               refine hK.out _ _ (fun _ => trivial) (fun _ => ?_)
               clear hK K bW2
               refine last_takeF (i := 3) (v := ?v3k40) rfl (by kernel_rfl) (by kernel_rfl) (by kernel_rfl) (by kernel_rfl) rfl (fun _ _ _ h => h) (by rfl) trivial ?hy3k40 ?rest3k40
               case hy3k40 =>
                intro xx hSx
                go_simp
                try (with_reducible rfl)
               simp only [Act.put, List.setIfInBounds_toArray, List.set_cons_zero, List.set_cons_succ]
               refine last_takeF (i := 4) (v := ?v4k41) rfl (by kernel_rfl) (by kernel_rfl) (by kernel_rfl) (by kernel_rfl) rfl (fun _ _ _ h => h) (by rfl) trivial ?hy4k41 ?rest4k41
               case hy4k41 =>
                intro xx hSx
                go_simp
                try (with_reducible rfl)
               simp only [Act.put, List.setIfInBounds_toArray, List.set_cons_zero, List.set_cons_succ]
               refine last_takeF (i := 5) (v := ?v5k42) rfl (by kernel_rfl) (by kernel_rfl) (by kernel_rfl) (by kernel_rfl) rfl (fun _ _ _ h => h) (by rfl) trivial ?hy5k42 ?rest5k42
               case hy5k42 =>
                intro xx hSx
                go_simp
                try (with_reducible rfl)
               simp only [Act.put, List.setIfInBounds_toArray, List.set_cons_zero, List.set_cons_succ]
               refine last_one (i := 6) (by kernel_rfl) rfl ?_
               intro K hK
               obtain ⟨x0, x1, x2, x3⟩ := Bx.below HBO.out BW2
               go_simp
               have q0 := set_two (Bx.below HBO.out BW2) (.int .u64 (hiW UP)) (.int .u64 (loW UP))
               have q1 := bx_far (k := KB) (o := 0) (o' := 1) (p := .int .u64 (hiW UP)) (q := .int .u64 (loW UP)) (Bx.below HBf1.out BW2) HAP.out.1
               have q2 := bx_far (k := KB) (o := 0) (o' := 1) (p := .int .u64 (hiW UP)) (q := .int .u64 (loW UP)) (Bx.below HBf2.out BW2) HAP.out.2.1
               have q3 := bx_far (k := KB) (o := 0) (o' := 1) (p := .int .u64 (hiW UP)) (q := .int .u64 (loW UP)) (Bx.below HBf6.out BW2) HAP.out.2.2.1
               have q4 := bx_far (k := KB) (o := 0) (o' := 1) (p := .int .u64 (hiW UP)) (q := .int .u64 (loW UP)) (Bx.below HBf7.out BW2) HAP.out.2.2.2.1
               have qb : Below w.heap.size w ((W2.setCell ⟨KB, 0, none⟩ (.int .u64 (hiW UP))).setCell ⟨KB, 1, none⟩ (.int .u64 (loW UP))) := ((HWB6.out.trans (BW2.mono HWB6.out.size)).setCell HAP.out.2.2.2.2 (.int .u64 (hiW UP))).setCell HAP.out.2.2.2.2 (.int .u64 (loW UP))
               obtain ⟨W3, hW3⟩ : ∃ W3, (W2.setCell ⟨KB, 0, none⟩ (.int .u64 (hiW UP))).setCell ⟨KB, 1, none⟩ (.int .u64 (loW UP)) = W3 := ⟨_, rfl⟩
               rw [hW3] at q0 q1 q2 q3 q4 qb
               rw [hW3]
               clear hW3 x0 x1 x2 x3
               refine hK.out _ _ (fun _ => trivial) (fun _ => ?_)
               clear hK K
               refine last_done (by kernel_rfl) ?_ _
               have HQ0 : Hid (Bx W3 KB (.int .u64 (hiW UP)) (.int .u64 (loW UP))) := q0
               have HQ1 : Hid (Bx W3 KK (.int .u64 (hiW LO)) (.int .u64 (loW LO))) := q1
               have HQ2 : Hid (Bx W3 (KK + 1) (.int .u64 (hiW HH)) (.int .u64 (loW HH))) := q2
               have HQ3 : Hid (Bx W3 KO (.int .u64 (hiW OV)) (.int .u64 (loW OV))) := q3
               have HQ4 : Hid (Bx W3 KM (.int .u64 (hiW MI)) (.int .u64 (loW MI))) := q4
               have HQB : Hid (Below w.heap.size w W3) := qb
               clear q0 q1 q2 q3 q4 qb
               go_wp2
               go_meet
               exact ⟨HQ1.out, HQ2.out, HQ3.out, HQ4.out, HQ0.out, HQB.out⟩
              case h1n39 =>
               intro K hK
               go_simp
               go_at_call 30
               refine (cO1 _).mono ?_
               rintro e W1 ⟨rfl, bW1⟩
               have BW1 : Below C4.heap.size C4 W1 := BW0.trans (bW1.mono BW0.size)
               go_simp
               refine hK.out _ _ (fun _ => trivial) (fun _ => ?_)
               clear hK K bW1
               refine last_one (i := 0) (by kernel_rfl) rfl ?_
               intro K hK
               obtain ⟨x0, x1, _, _⟩ := Bx.below HBO.out BW1
               go_simp
               refine hK.out _ _ (fun _ => trivial) (fun _ => ?_)
               clear hK K x0 x1
               refine last_one (i := 2) (by kernel_rfl) rfl ?_
               intro K hK
               go_simp
               go_at_call 28
               refine (cA2 _).mono ?_
               rintro e W2 ⟨rfl, bW2⟩
               have BW2 : Below C4.heap.size C4 W2 := BW1.trans (bW2.mono BW1.size)
               go_simp
               refine hK.out _ _ (fun _ => trivial) (fun _ => ?_)
               clear hK K bW2
               refine last_takeF (i := 3) (v := ?v3k43) rfl (by kernel_rfl) (by kernel_rfl) (by kernel_rfl) (by kernel_rfl) rfl (fun _ _ _ h => h) (by rfl) trivial ?hy3k43 ?rest3k43
               case hy3k43 =>
                intro xx hSx
                go_simp
                try (with_reducible rfl)
               simp only [Act.put, List.setIfInBounds_toArray, List.set_cons_zero, List.set_cons_succ]
               refine last_takeF (i := 4) (v := ?v4k44) rfl (by kernel_rfl) (by kernel_rfl) (by kernel_rfl) (by kernel_rfl) rfl (fun _ _ _ h => h) (by rfl) trivial ?hy4k44 ?rest4k44
               case hy4k44 =>
                intro xx hSx
                go_simp
                try (with_reducible rfl)
               simp only [Act.put, List.setIfInBounds_toArray, List.set_cons_zero, List.set_cons_succ]
               refine last_takeF (i := 5) (v := ?v5k45) rfl (by kernel_rfl) (by kernel_rfl) (by kernel_rfl) (by kernel_rfl) rfl (fun _ _ _ h => h) (by rfl) trivial ?hy5k45 ?rest5k45
               case hy5k45 =>
                intro xx hSx
                go_simp
                try (with_reducible rfl)
               simp only [Act.put, List.setIfInBounds_toArray, List.set_cons_zero, List.set_cons_succ]
               refine last_one (i := 6) (by kernel_rfl) rfl ?_
               intro K hK
               obtain ⟨x0, x1, x2, x3⟩ := Bx.below HBO.out BW2
               go_simp
               have q0 := set_two (Bx.below HBO.out BW2) (.int .u64 (hiW UP)) (.int .u64 (loW UP))
               have q1 := bx_far (k := KB) (o := 0) (o' := 1) (p := .int .u64 (hiW UP)) (q := .int .u64 (loW UP)) (Bx.below HBf1.out BW2) HAP.out.1
               have q2 := bx_far (k := KB) (o := 0) (o' := 1) (p := .int .u64 (hiW UP)) (q := .int .u64 (loW UP)) (Bx.below HBf2.out BW2) HAP.out.2.1
               have q3 := bx_far (k := KB) (o := 0) (o' := 1) (p := .int .u64 (hiW UP)) (q := .int .u64 (loW UP)) (Bx.below HBf6.out BW2) HAP.out.2.2.1
               have q4 := bx_far (k := KB) (o := 0) (o' := 1) (p := .int .u64 (hiW UP)) (q := .int .u64 (loW UP)) (Bx.below HBf7.out BW2) HAP.out.2.2.2.1
               have qb : Below w.heap.size w ((W2.setCell ⟨KB, 0, none⟩ (.int .u64 (hiW UP))).setCell ⟨KB, 1, none⟩ (.int .u64 (loW UP))) := ((HWB6.out.trans (BW2.mono HWB6.out.size)).setCell HAP.out.2.2.2.2 (.int .u64 (hiW UP))).setCell HAP.out.2.2.2.2 (.int .u64 (loW UP))
               obtain ⟨W3, hW3⟩ : ∃ W3, (W2.setCell ⟨KB, 0, none⟩ (.int .u64 (hiW UP))).setCell ⟨KB, 1, none⟩ (.int .u64 (loW UP)) = W3 := ⟨_, rfl⟩
               rw [hW3] at q0 q1 q2 q3 q4 qb
               rw [hW3]
               clear hW3 x0 x1 x2 x3
               refine hK.out _ _ (fun _ => trivial) (fun _ => ?_)
               clear hK K
               refine last_done (by kernel_rfl) ?_ _
               have HQ0 : Hid (Bx W3 KB (.int .u64 (hiW UP)) (.int .u64 (loW UP))) := q0
               have HQ1 : Hid (Bx W3 KK (.int .u64 (hiW LO)) (.int .u64 (loW LO))) := q1
               have HQ2 : Hid (Bx W3 (KK + 1) (.int .u64 (hiW HH)) (.int .u64 (loW HH))) := q2
               have HQ3 : Hid (Bx W3 KO (.int .u64 (hiW OV)) (.int .u64 (loW OV))) := q3
               have HQ4 : Hid (Bx W3 KM (.int .u64 (hiW MI)) (.int .u64 (loW MI))) := q4
               have HQB : Hid (Below w.heap.size w W3) := qb
               clear q0 q1 q2 q3 q4 qb
               go_wp2
               go_meet
               exact ⟨HQ1.out, HQ2.out, HQ3.out, HQ4.out, HQ0.out, HQB.out⟩
            case rest =>
            as_aux_lemma =>
             obtain ⟨hg1, hg2, hg6, hg7, hg8, hgb⟩ := hcut
             obtain ⟨D1, hD1⟩ : ∃ D1, wc = D1 := ⟨_, rfl⟩
             rw [hD1] at hg1 hg2 hg6 hg7 hg8 hgb
             rw [hD1]
             have HBg1 : Hid (Bx D1 KK (.int .u64 (hiW LO)) (.int .u64 (loW LO))) := hg1
             have HBg2 : Hid (Bx D1 (KK + 1) (.int .u64 (hiW HH)) (.int .u64 (loW HH))) := hg2
             have HBg6 : Hid (Bx D1 KO (.int .u64 (hiW OV)) (.int .u64 (loW OV))) := hg6
             have HBg7 : Hid (Bx D1 KM (.int .u64 (hiW MI)) (.int .u64 (loW MI))) := hg7
             have HBg8 : Hid (Bx D1 KB (.int .u64 (hiW UP)) (.int .u64 (loW UP))) := hg8
             have HWB7 : Hid (Below w.heap.size w D1) := hgb
             clear hD1 hg1 hg2 hg6 hg7 hg8 hgb HBf1 HBf2 HBf6 HBf7 HBO HWB6 HAP cA2
             have cB1 := raddn HH OV NHH.out HVN.out
             obtain ⟨B9, hB9⟩ : ∃ B9, Wd.addV HH OV = B9 := ⟨_, rfl⟩
             have HB9 : Hid (Wd.addV HH OV = B9) := hB9
             have nB9 : Num B9 := by rw [← hB9]; exact addV_num NHH.out HVN.out
             rw [hB9] at cB1
             generalize addB HH OV = AB3 at *
             clear hB9
             go_upto_region 36 with fail
             go_cut [42] (fun b wq => ∃ gg : Nat, b = .pointer (some ⟨gg, 0, none⟩) ∧ Bx wq gg (.int .u64 (hiW B9)) (.int .u64 (loW B9)) ∧ D1.heap.size ≤ gg ∧ Below D1.heap.size D1 wq)
             case first =>
              as_aux_lemma =>
               refine wp_region_last (S := (fun x' : World => x'.cell? ⟨KK + 1, 0, none⟩ = some (.int .u64 (hiW HH)) ∧ x'.cell? ⟨KK + 1, 1, none⟩ = some (.int .u64 (loW HH)) ∧ x'.cell? ⟨KO, 0, none⟩ = some (.int .u64 (hiW OV)) ∧ x'.cell? ⟨KO, 1, none⟩ = some (.int .u64 (loW OV)))) (L := 9) (by kernel_rfl) ?_
               obtain ⟨W0, hW0⟩ : ∃ W0, D1.drew = W0 := ⟨_, rfl⟩
               have BW0 : Below D1.heap.size D1 W0 := by rw [← hW0]; exact drew_belowI D1
               rw [hW0]
               clear hW0
               have HSB : Hid (∀ x, Below D1.heap.size D1 x → (fun x' : World => x'.cell? ⟨KK + 1, 0, none⟩ = some (.int .u64 (hiW HH)) ∧ x'.cell? ⟨KK + 1, 1, none⟩ = some (.int .u64 (loW HH)) ∧ x'.cell? ⟨KO, 0, none⟩ = some (.int .u64 (hiW OV)) ∧ x'.cell? ⟨KO, 1, none⟩ = some (.int .u64 (loW OV))) x) := fun x hx => ⟨(Bx.below HBg2.out hx).1, (Bx.below HBg2.out hx).2.1, (Bx.below HBg6.out hx).1, (Bx.below HBg6.out hx).2.1⟩
               have HSW0 := HSB.out _ BW0
               clear HBg1 HBg2 HBg6 HBg7 HBg8
               refine last_take (i := 0) (v := ?v0k53) rfl (by kernel_rfl) (by kernel_rfl) (by kernel_rfl) (by kernel_rfl) rfl (fun _ _ _ h => h) (by rfl) HSW0 ?hy0k53 ?rest0k53
               case hy0k53 =>
                intro xx hSx
                obtain ⟨s0, s1, s2, s3⟩ := hSx
                go_simp
                try (with_reducible rfl)
               simp only [Act.put, List.setIfInBounds_toArray, List.set_cons_zero, List.set_cons_succ]
               refine last_take (i := 2) (v := ?v2k54) rfl (by kernel_rfl) (by kernel_rfl) (by kernel_rfl) (by kernel_rfl) rfl (fun _ _ _ h => h) (by rfl) HSW0 ?hy2k54 ?rest2k54
               case hy2k54 =>
                intro xx hSx
                obtain ⟨s0, s1, s2, s3⟩ := hSx
                go_simp
                try (with_reducible rfl)
               simp only [Act.put, List.setIfInBounds_toArray, List.set_cons_zero, List.set_cons_succ]
               refine last_few (i := 1) (l := [7]) (by kernel_rfl) (List.forall_mem_cons.2 ⟨⟨_, rfl, ?h1n55⟩, List.forall_mem_cons.2 ⟨⟨_, rfl, ?h7n55⟩, List.forall_mem_nil _⟩⟩)
               case h1n55 =>
                intro K hK
                go_simp
                go_at_call 31
                refine (ref_any _ _ _).mono ?_
                rintro e W1 ⟨rfl, bW1⟩
                have BW1 : Below D1.heap.size D1 W1 := BW0.trans (bW1.mono BW0.size)
                have HSW1 := HSB.out _ BW1
                go_simp
                refine hK.out _ _ (fun _ => HSW1) (fun _ => ?_)
                clear hK K HSW0 bW1
                refine last_few (i := 3) (l := [7]) (by kernel_rfl) (List.forall_mem_cons.2 ⟨⟨_, rfl, ?h3n56⟩, List.forall_mem_cons.2 ⟨⟨_, rfl, ?h7n56⟩, List.forall_mem_nil _⟩⟩)
                case h3n56 =>
                 intro K hK
                 go_simp
                 go_at_call 28
                 refine (cB1 _).mono ?_
                 rintro e W2 ⟨rfl, bW2⟩
                 have BW2 : Below D1.heap.size D1 W2 := BW1.trans (bW2.mono BW1.size)
                 have HSW2 := HSB.out _ BW2
                 go_simp
                 refine hK.out _ _ (fun _ => HSW2) (fun _ => ?_)
                 clear hK K HSW1 bW2
                 refine last_take (i := 4) (v := ?v4k57) rfl (by kernel_rfl) (by kernel_rfl) (by kernel_rfl) (by kernel_rfl) rfl (fun _ _ _ h => h) (by rfl) HSW2 ?hy4k57 ?rest4k57
                 case hy4k57 =>
                  intro xx hSx
                  go_simp
                  try (with_reducible rfl)
                 simp only [Act.put, List.setIfInBounds_toArray, List.set_cons_zero, List.set_cons_succ]
                 refine last_take (i := 5) (v := ?v5k58) rfl (by kernel_rfl) (by kernel_rfl) (by kernel_rfl) (by kernel_rfl) rfl (fun _ _ _ h => h) (by rfl) HSW2 ?hy5k58 ?rest5k58
                 case hy5k58 =>
                  intro xx hSx
                  go_simp
                  try (with_reducible rfl)
                 simp only [Act.put, List.setIfInBounds_toArray, List.set_cons_zero, List.set_cons_succ]
                 refine last_take (i := 6) (v := ?v6k59) rfl (by kernel_rfl) (by kernel_rfl) (by kernel_rfl) (by kernel_rfl) rfl (fun _ _ _ h => h) (by rfl) HSW2 ?hy6k59 ?rest6k59
                 case hy6k59 =>
                  intro xx hSx
                  go_simp
                  try (with_reducible rfl)
                 simp only [Act.put, List.setIfInBounds_toArray, List.set_cons_zero, List.set_cons_succ]
                 refine last_one (i := 7) (by kernel_rfl) rfl ?_
                 intro K hK
                 go_simp
                 obtain ⟨b1, hb1⟩ : ∃ b1, W2.heap.size = b1 := ⟨_, rfl⟩
                 obtain ⟨W3, hW3⟩ : ∃ W3, W2.alloc (.cells #[.int .u64 0, .int .u64 0] 68) = W3 := ⟨_, rfl⟩
                 have nb1 : Bx W3 b1 (.int .u64 0) (.int .u64 0) := by rw [← hW3, ← hb1]; exact Bx.new W2 _ _ _
                 have bW3 : Below W2.heap.size W2 W3 := by rw [← hW3]; exact (Below.refl _ _).alloc (Nat.le_refl _) _
                 try rw [hb1]
                 try rw [hW3]
                 have BW3 : Below D1.heap.size D1 W3 := BW2.trans (bW3.mono BW2.size)
                 have gb1 : D1.heap.size ≤ b1 := by rw [← hb1]; exact BW2.size
                 have HSW3 := HSB.out _ BW3
                 refine hK.out _ _ (fun _ => HSW3) (fun _ => ?_)
                 clear hK K hW3 hb1 HSW2 bW3
                 refine last_one (i := 8) (by kernel_rfl) rfl ?_
                 intro K hK
                 have x0 := nb1.1
                 have x1 := nb1.2.1
                 have x2 := nb1.2.2.1
                 have x3 := nb1.2.2.2
                 go_simp
                 obtain ⟨W4, hW4⟩ : ∃ W4, (W3.setCell ⟨b1, 0, none⟩ (.int .u64 (hiW B9))).setCell ⟨b1, 1, none⟩ (.int .u64 (loW B9)) = W4 := ⟨_, rfl⟩
                 have nb1 := set_two nb1 (.int .u64 (hiW B9)) (.int .u64 (loW B9))
                 have BW4 : Below D1.heap.size D1 ((W3.setCell ⟨b1, 0, none⟩ (.int .u64 (hiW B9))).setCell ⟨b1, 1, none⟩ (.int .u64 (loW B9))) := (BW3.setCell gb1 (.int .u64 (hiW B9))).setCell gb1 (.int .u64 (loW B9))
                 rw [hW4] at BW4 nb1
                 try rw [hW4]
                 have HSW4 := HSB.out _ BW4
                 refine hK.out _ _ (fun _ => HSW4) (fun _ => ?_)
                 clear hK K x0 x1 x2 x3 hW4 HSW3
                 refine last_one (i := 9) (by kernel_rfl) rfl ?_
                 intro K hK
                 go_simp
                 refine hK.out _ _ (fun h => absurd rfl h) (fun _ => ?_)
                 clear hK K
                 refine last_done (by kernel_rfl) ?_ _
                 have HF1 : Hid (Bx W4 b1 (.int .u64 (hiW B9)) (.int .u64 (loW B9))) := nb1
                 have HF2 : Hid (D1.heap.size ≤ b1) := gb1
                 have HF3 : Hid (Below D1.heap.size D1 W4) := BW4
                 clear nb1 gb1 BW4 HSB
                 go_wp2
                 go_meet
                 exact ⟨b1, rfl, HF1.out, HF2.out, HF3.out⟩
                case h7n56 =>
                 intro K hK
                 go_simp
                 obtain ⟨b1, hb1⟩ : ∃ b1, W1.heap.size = b1 := ⟨_, rfl⟩
                 obtain ⟨W2, hW2⟩ : ∃ W2, W1.alloc (.cells #[.int .u64 0, .int .u64 0] 68) = W2 := ⟨_, rfl⟩
                 have nb1 : Bx W2 b1 (.int .u64 0) (.int .u64 0) := by rw [← hW2, ← hb1]; exact Bx.new W1 _ _ _
                 have bW2 : Below W1.heap.size W1 W2 := by rw [← hW2]; exact (Below.refl _ _).alloc (Nat.le_refl _) _
                 try rw [hb1]
                 try rw [hW2]
                 have BW2 : Below D1.heap.size D1 W2 := BW1.trans (bW2.mono BW1.size)
                 have gb1 : D1.heap.size ≤ b1 := by rw [← hb1]; exact BW1.size
                 have HSW2 := HSB.out _ BW2
                 refine hK.out _ _ (fun _ => HSW2) (fun _ => ?_)
                 clear hK K hW2 hb1 HSW1 bW2
                 refine last_one (i := 3) (by kernel_rfl) rfl ?_
                 intro K hK
                 go_simp
                 go_at_call 28
                 refine (cB1 _).mono ?_
                 rintro e W3 ⟨rfl, bW3⟩
                 have BW3 : Below D1.heap.size D1 W3 := BW2.trans (bW3.mono BW2.size)
                 have nb1 := nb1.below bW3
                 have HSW3 := HSB.out _ BW3
                 go_simp
                 refine hK.out _ _ (fun _ => HSW3) (fun _ => ?_)
                 clear hK K HSW2 bW3
                 refine last_take (i := 4) (v := ?v4k60) rfl (by kernel_rfl) (by kernel_rfl) (by kernel_rfl) (by kernel_rfl) rfl (fun _ _ _ h => h) (by rfl) HSW3 ?hy4k60 ?rest4k60
                 case hy4k60 =>
                  intro xx hSx
                  go_simp
                  try (with_reducible rfl)
                 simp only [Act.put, List.setIfInBounds_toArray, List.set_cons_zero, List.set_cons_succ]
                 refine last_take (i := 5) (v := ?v5k61) rfl (by kernel_rfl) (by kernel_rfl) (by kernel_rfl) (by kernel_rfl) rfl (fun _ _ _ h => h) (by rfl) HSW3 ?hy5k61 ?rest5k61
                 case hy5k61 =>
                  intro xx hSx
                  go_simp
                  try (with_reducible rfl)
                 simp only [Act.put, List.setIfInBounds_toArray, List.set_cons_zero, List.set_cons_succ]
                 refine last_take (i := 6) (v := ?v6k62) rfl (by kernel_rfl) (by kernel_rfl) (by kernel_rfl) (by kernel_rfl) rfl (fun _ _ _ h => h) (by rfl) HSW3 ?hy6k62 ?rest6k62
                 case hy6k62 =>
                  intro xx hSx
                  go_simp
                  try (with_reducible rfl)
                 simp only [Act.put, List.setIfInBounds_toArray, List.set_cons_zero, List.set_cons_succ]
                 refine last_one (i := 8) (by kernel_rfl) rfl ?_
                 intro K hK
                 have x0 := nb1.1
                 have x1 := nb1.2.1
                 have x2 := nb1.2.2.1
                 have x3 := nb1.2.2.2
                 go_simp
                 obtain ⟨W4, hW4⟩ : ∃ W4, (W3.setCell ⟨b1, 0, none⟩ (.int .u64 (hiW B9))).setCell ⟨b1, 1, none⟩ (.int .u64 (loW B9)) = W4 := ⟨_, rfl⟩
                 have nb1 := set_two nb1 (.int .u64 (hiW B9)) (.int .u64 (loW B9))
                 have BW4 : Below D1.heap.size D1 ((W3.setCell ⟨b1, 0, none⟩ (.int .u64 (hiW B9))).setCell ⟨b1, 1, none⟩ (.int .u64 (loW B9))) := (BW3.setCell gb1 (.int .u64 (hiW B9))).setCell gb1 (.int .u64 (loW B9))
                 rw [hW4] at BW4 nb1
                 try rw [hW4]
                 have HSW4 := HSB.out _ BW4
                 refine hK.out _ _ (fun _ => HSW4) (fun _ => ?_)
                 clear hK K x0 x1 x2 x3 hW4 HSW3
                 refine last_one (i := 9) (by kernel_rfl) rfl ?_
                 intro K hK
                 go_simp
                 refine hK.out _ _ (fun h => absurd rfl h) (fun _ => ?_)
                 clear hK K
                 refine last_done (by kernel_rfl) ?_ _
                 have HF1 : Hid (Bx W4 b1 (.int .u64 (hiW B9)) (.int .u64 (loW B9))) := nb1
                 have HF2 : Hid (D1.heap.size ≤ b1) := gb1
                 have HF3 : Hid (Below D1.heap.size D1 W4) := BW4
                 clear nb1 gb1 BW4 HSB
                 go_wp2
                 go_meet
                 exact ⟨b1, rfl, HF1.out, HF2.out, HF3.out⟩
               case h7n55 =>
                intro K hK
                go_simp
                obtain ⟨b1, hb1⟩ : ∃ b1, W0.heap.size = b1 := ⟨_, rfl⟩
                obtain ⟨W1, hW1⟩ : ∃ W1, W0.alloc (.cells #[.int .u64 0, .int .u64 0] 68) = W1 := ⟨_, rfl⟩
                have nb1 : Bx W1 b1 (.int .u64 0) (.int .u64 0) := by rw [← hW1, ← hb1]; exact Bx.new W0 _ _ _
                have bW1 : Below W0.heap.size W0 W1 := by rw [← hW1]; exact (Below.refl _ _).alloc (Nat.le_refl _) _
                try rw [hb1]
                try rw [hW1]
                have BW1 : Below D1.heap.size D1 W1 := BW0.trans (bW1.mono BW0.size)
                have gb1 : D1.heap.size ≤ b1 := by rw [← hb1]; exact BW0.size
                have HSW1 := HSB.out _ BW1
                refine hK.out _ _ (fun _ => HSW1) (fun _ => ?_)
                clear hK K hW1 hb1 HSW0 bW1
                refine last_one (i := 1) (by kernel_rfl) rfl ?_
                intro K hK
                go_simp
                go_at_call 31
                refine (ref_any _ _ _).mono ?_
                rintro e W2 ⟨rfl, bW2⟩
                have BW2 : Below D1.heap.size D1 W2 := BW1.trans (bW2.mono BW1.size)
                have nb1 := nb1.below bW2
                have HSW2 := HSB.out _ BW2
                go_simp
                refine hK.out _ _ (fun _ => HSW2) (fun _ => ?_)
                clear hK K HSW1 bW2
                refine last_one (i := 3) (by kernel_rfl) rfl ?_
                intro K hK
                go_simp
                go_at_call 28
                refine (cB1 _).mono ?_
                rintro e W3 ⟨rfl, bW3⟩
                have BW3 : Below D1.heap.size D1 W3 := BW2.trans (bW3.mono BW2.size)
                have nb1 := nb1.below bW3
                have HSW3 := HSB.out _ BW3
                go_simp
                refine hK.out _ _ (fun _ => HSW3) (fun _ => ?_)
                clear hK K HSW2 bW3
                refine last_take (i := 4) (v := ?v4k63) rfl (by kernel_rfl) (by kernel_rfl) (by kernel_rfl) (by kernel_rfl) rfl (fun _ _ _ h => h) (by rfl) HSW3 ?hy4k63 ?rest4k63
                case hy4k63 =>
                 intro xx hSx
                 go_simp
                 try (with_reducible rfl)
                simp only [Act.put, List.setIfInBounds_toArray, List.set_cons_zero, List.set_cons_succ]
                refine last_take (i := 5) (v := ?v5k64) rfl (by kernel_rfl) (by kernel_rfl) (by kernel_rfl) (by kernel_rfl) rfl (fun _ _ _ h => h) (by rfl) HSW3 ?hy5k64 ?rest5k64
                case hy5k64 =>
                 intro xx hSx
                 go_simp
                 try (with_reducible rfl)
                simp only [Act.put, List.setIfInBounds_toArray, List.set_cons_zero, List.set_cons_succ]
                refine last_take (i := 6) (v := ?v6k65) rfl (by kernel_rfl) (by kernel_rfl) (by kernel_rfl) (by kernel_rfl) rfl (fun _ _ _ h => h) (by rfl) HSW3 ?hy6k65 ?rest6k65
                case hy6k65 =>
                 intro xx hSx
                 go_simp
                 try (with_reducible rfl)
                simp only [Act.put, List.setIfInBounds_toArray, List.set_cons_zero, List.set_cons_succ]
                refine last_one (i := 8) (by kernel_rfl) rfl ?_
                intro K hK
                have x0 := nb1.1
                have x1 := nb1.2.1
                have x2 := nb1.2.2.1
                have x3 := nb1.2.2.2
                go_simp
                obtain ⟨W4, hW4⟩ : ∃ W4, (W3.setCell ⟨b1, 0, none⟩ (.int .u64 (hiW B9))).setCell ⟨b1, 1, none⟩ (.int .u64 (loW B9)) = W4 := ⟨_, rfl⟩
                have nb1 := set_two nb1 (.int .u64 (hiW B9)) (.int .u64 (loW B9))
                have BW4 : Below D1.heap.size D1 ((W3.setCell ⟨b1, 0, none⟩ (.int .u64 (hiW B9))).setCell ⟨b1, 1, none⟩ (.int .u64 (loW B9))) := (BW3.setCell gb1 (.int .u64 (hiW B9))).setCell gb1 (.int .u64 (loW B9))
                rw [hW4] at BW4 nb1
                try rw [hW4]
                have HSW4 := HSB.out _ BW4
                refine hK.out _ _ (fun _ => HSW4) (fun _ => ?_)
                clear hK K x0 x1 x2 x3 hW4 HSW3
                refine last_one (i := 9) (by kernel_rfl) rfl ?_
                intro K hK
                go_simp
                refine hK.out _ _ (fun h => absurd rfl h) (fun _ => ?_)
                clear hK K
                refine last_done (by kernel_rfl) ?_ _
                have HF1 : Hid (Bx W4 b1 (.int .u64 (hiW B9)) (.int .u64 (loW B9))) := nb1
                have HF2 : Hid (D1.heap.size ≤ b1) := gb1
                have HF3 : Hid (Below D1.heap.size D1 W4) := BW4
                clear nb1 gb1 BW4 HSB
                go_wp2
                go_meet
                exact ⟨b1, rfl, HF1.out, HF2.out, HF3.out⟩
             case rest =>
             as_aux_lemma =>
              obtain ⟨KC, rfl, hbx, hge, hb⟩ := hcut
              have HAQ : Hid (KK ≠ KC ∧ KM ≠ KC ∧ KB ≠ KC ∧ w.heap.size ≤ KC) := by
               have h1 := Bx.lt HBg1.out; have h2 := Bx.lt HBg7.out; have h3 := Bx.lt HBg8.out; have h6 := HWB7.out.size
               exact ⟨by omega, by omega, by omega, by omega⟩
              have HBh1 : Hid (Bx wc KK (.int .u64 (hiW LO)) (.int .u64 (loW LO))) := Bx.below HBg1.out hb
              have HBh7 : Hid (Bx wc KM (.int .u64 (hiW MI)) (.int .u64 (loW MI))) := Bx.below HBg7.out hb
              have HBh8 : Hid (Bx wc KB (.int .u64 (hiW UP)) (.int .u64 (loW UP))) := Bx.below HBg8.out hb
              have HBP : Hid (Bx wc KC (.int .u64 (hiW B9)) (.int .u64 (loW B9))) := hbx
              have HWn : Hid (Below w.heap.size w wc) := HWB7.out.trans (hb.mono HWB7.out.size)
              obtain ⟨D2, hD2⟩ : ∃ D2, wc = D2 := ⟨_, rfl⟩
              rw [hD2] at HBh1 HBh7 HBh8 HBP HWn
              rw [hD2]
              clear hD2 hb hbx hge HBg1 HBg2 HBg6 HBg7 HBg8 HWB7 cB1
              have cA3 := raddn B9 1 nB9 oneN
              obtain ⟨DN, hDN⟩ : ∃ DN, Wd.addV B9 1 = DN := ⟨_, rfl⟩
              have HDN : Hid (Wd.addV B9 1 = DN) := hDN
              rw [hDN] at cA3
              generalize addB B9 1 = AB4 at *
              clear hDN nB9 oneN
              go_upto_region 37 with fail
              go_cut [] (fun wq => Bx wq KK (.int .u64 (hiW LO)) (.int .u64 (loW LO)) ∧ Bx wq KM (.int .u64 (hiW MI)) (.int .u64 (loW MI)) ∧ Bx wq KB (.int .u64 (hiW UP)) (.int .u64 (loW UP)) ∧ Bx wq KC (.int .u64 (hiW DN)) (.int .u64 (loW DN)) ∧ Below w.heap.size w wq)
              case first =>
               as_aux_lemma =>
                refine wp_region_last (S := (fun _ : World => True)) (L := 99) (by kernel_rfl) ?_
                obtain ⟨W0, hW0⟩ : ∃ W0, D2.drew = W0 := ⟨_, rfl⟩
                have BW0 : Below D2.heap.size D2 W0 := by rw [← hW0]; exact drew_belowI D2
                rw [hW0]
                clear hW0
                refine last_few (i := 0) (l := [1]) (by kernel_rfl) (List.forall_mem_cons.2 ⟨⟨_, rfl, ?h0n46⟩, List.forall_mem_cons.2 ⟨⟨_, rfl, ?h1n46⟩, List.forall_mem_nil _⟩⟩)
                case h0n46 =>
                 intro K hK
                 obtain ⟨x0, x1, _, _⟩ := Bx.below HBP.out BW0
                 go_simp
                 refine hK.out _ _ (fun _ => trivial) (fun _ => ?_)
                 clear hK K x0 x1
                 refine last_one (i := 1) (by kernel_rfl) rfl ?_
                 intro K hK
                 go_simp
                 go_at_call 30
                 refine (cO1 _).mono ?_
                 rintro e W1 ⟨rfl, bW1⟩
                 have BW1 : Below D2.heap.size D2 W1 := BW0.trans (bW1.mono BW0.size)
                 go_simp
                 refine hK.out _ _ (fun _ => trivial) (fun _ => ?_)
                 clear hK K bW1
                 refine last_one (i := 2) (by kernel_rfl) rfl ?_
                 intro K hK
                 go_simp
                 go_at_call 28
                 refine (cA3 _).mono ?_
                 rintro e W2 ⟨rfl, bW2⟩
                 have BW2 : Below D2.heap.size D2 W2 := BW1.trans (bW2.mono BW1.size)
                 go_simp
                 refine hK.out _ _ (fun _ => trivial) (fun _ => ?_)
                 clear hK K bW2
                 refine last_takeF (i := 3) (v := ?v3k47) rfl (by kernel_rfl) (by kernel_rfl) (by kernel_rfl) (by kernel_rfl) rfl (fun _ _ _ h => h) (by rfl) trivial ?hy3k47 ?rest3k47
                 case hy3k47 =>
                  intro xx hSx
                  go_simp
                  try (with_reducible rfl)
                 simp only [Act.put, List.setIfInBounds_toArray, List.set_cons_zero, List.set_cons_succ]
                 refine last_takeF (i := 4) (v := ?v4k48) rfl (by kernel_rfl) (by kernel_rfl) (by kernel_rfl) (by kernel_rfl) rfl (fun _ _ _ h => h) (by rfl) trivial ?hy4k48 ?rest4k48
                 case hy4k48 =>
                  intro xx hSx
                  go_simp
                  try (with_reducible rfl)
                 simp only [Act.put, List.setIfInBounds_toArray, List.set_cons_zero, List.set_cons_succ]
                 refine last_takeF (i := 5) (v := ?v5k49) rfl (by kernel_rfl) (by kernel_rfl) (by kernel_rfl) (by kernel_rfl) rfl (fun _ _ _ h => h) (by rfl) trivial ?hy5k49 ?rest5k49
                 case hy5k49 =>
                  intro xx hSx
                  go_simp
                  try (with_reducible rfl)
                 simp only [Act.put, List.setIfInBounds_toArray, List.set_cons_zero, List.set_cons_succ]
                 refine last_one (i := 6) (by kernel_rfl) rfl ?_
                 intro K hK
                 obtain ⟨x0, x1, x2, x3⟩ := Bx.below HBP.out BW2
                 go_simp
                 have q0 := set_two (Bx.below HBP.out BW2) (.int .u64 (hiW DN)) (.int .u64 (loW DN))
                 have q1 := bx_far (k := KC) (o := 0) (o' := 1) (p := .int .u64 (hiW DN)) (q := .int .u64 (loW DN)) (Bx.below HBh1.out BW2) HAQ.out.1
                 have q2 := bx_far (k := KC) (o := 0) (o' := 1) (p := .int .u64 (hiW DN)) (q := .int .u64 (loW DN)) (Bx.below HBh7.out BW2) HAQ.out.2.1
                 have q3 := bx_far (k := KC) (o := 0) (o' := 1) (p := .int .u64 (hiW DN)) (q := .int .u64 (loW DN)) (Bx.below HBh8.out BW2) HAQ.out.2.2.1
                 have qb : Below w.heap.size w ((W2.setCell ⟨KC, 0, none⟩ (.int .u64 (hiW DN))).setCell ⟨KC, 1, none⟩ (.int .u64 (loW DN))) := ((HWn.out.trans (BW2.mono HWn.out.size)).setCell HAQ.out.2.2.2 (.int .u64 (hiW DN))).setCell HAQ.out.2.2.2 (.int .u64 (loW DN))
                 obtain ⟨W3, hW3⟩ : ∃ W3, (W2.setCell ⟨KC, 0, none⟩ (.int .u64 (hiW DN))).setCell ⟨KC, 1, none⟩ (.int .u64 (loW DN)) = W3 := ⟨_, rfl⟩
                 rw [hW3] at q0 q1 q2 q3 qb
                 rw [hW3]
                 clear hW3 x0 x1 x2 x3
                 refine hK.out _ _ (fun _ => trivial) (fun _ => ?_)
                 clear hK K
                 refine last_done (by kernel_rfl) ?_ _
                 have HQ0 : Hid (Bx W3 KC (.int .u64 (hiW DN)) (.int .u64 (loW DN))) := q0
                 have HQ1 : Hid (Bx W3 KK (.int .u64 (hiW LO)) (.int .u64 (loW LO))) := q1
                 have HQ2 : Hid (Bx W3 KM (.int .u64 (hiW MI)) (.int .u64 (loW MI))) := q2
                 have HQ3 : Hid (Bx W3 KB (.int .u64 (hiW UP)) (.int .u64 (loW UP))) := q3
                 have HQB : Hid (Below w.heap.size w W3) := qb
                 clear q0 q1 q2 q3 qb
                 go_wp2
                 go_meet
                 exact ⟨HQ1.out, HQ2.out, HQ3.out, HQ0.out, HQB.out⟩
                case h1n46 =>
                 intro K hK
                 go_simp
                 go_at_call 30
                 refine (cO1 _).mono ?_
                 rintro e W1 ⟨rfl, bW1⟩
                 have BW1 : Below D2.heap.size D2 W1 := BW0.trans (bW1.mono BW0.size)
                 go_simp
                 refine hK.out _ _ (fun _ => trivial) (fun _ => ?_)
                 clear hK K bW1
                 refine last_one (i := 0) (by kernel_rfl) rfl ?_
                 intro K hK
                 obtain ⟨x0, x1, _, _⟩ := Bx.below HBP.out BW1
                 go_simp
                 refine hK.out _ _ (fun _ => trivial) (fun _ => ?_)
                 clear hK K x0 x1
                 refine last_one (i := 2) (by kernel_rfl) rfl ?_
                 intro K hK
                 go_simp
                 go_at_call 28
                 refine (cA3 _).mono ?_
                 rintro e W2 ⟨rfl, bW2⟩
                 have BW2 : Below D2.heap.size D2 W2 := BW1.trans (bW2.mono BW1.size)
                 go_simp
                 refine hK.out _ _ (fun _ => trivial) (fun _ => ?_)
                 clear hK K bW2
                 refine last_takeF (i := 3) (v := ?v3k50) rfl (by kernel_rfl) (by kernel_rfl) (by kernel_rfl) (by kernel_rfl) rfl (fun _ _ _ h => h) (by rfl) trivial ?hy3k50 ?rest3k50
                 case hy3k50 =>
                  intro xx hSx
                  go_simp
                  try (with_reducible rfl)
                 simp only [Act.put, List.setIfInBounds_toArray, List.set_cons_zero, List.set_cons_succ]
                 refine last_takeF (i := 4) (v := ?v4k51) rfl (by kernel_rfl) (by kernel_rfl) (by kernel_rfl) (by kernel_rfl) rfl (fun _ _ _ h => h) (by rfl) trivial ?hy4k51 ?rest4k51
                 case hy4k51 =>
                  intro xx hSx
                  go_simp
                  try (with_reducible rfl)
                 simp only [Act.put, List.setIfInBounds_toArray, List.set_cons_zero, List.set_cons_succ]
                 refine last_takeF (i := 5) (v := ?v5k52) rfl (by kernel_rfl) (by kernel_rfl) (by kernel_rfl) (by kernel_rfl) rfl (fun _ _ _ h => h) (by rfl) trivial ?hy5k52 ?rest5k52
                 case hy5k52 =>
                  intro xx hSx
                  go_simp
                  try (with_reducible rfl)
                 simp only [Act.put, List.setIfInBounds_toArray, List.set_cons_zero, List.set_cons_succ]
                 refine last_one (i := 6) (by kernel_rfl) rfl ?_
                 intro K hK
                 obtain ⟨x0, x1, x2, x3⟩ := Bx.below HBP.out BW2
                 go_simp
                 have q0 := set_two (Bx.below HBP.out BW2) (.int .u64 (hiW DN)) (.int .u64 (loW DN))
                 have q1 := bx_far (k := KC) (o := 0) (o' := 1) (p := .int .u64 (hiW DN)) (q := .int .u64 (loW DN)) (Bx.below HBh1.out BW2) HAQ.out.1
                 have q2 := bx_far (k := KC) (o := 0) (o' := 1) (p := .int .u64 (hiW DN)) (q := .int .u64 (loW DN)) (Bx.below HBh7.out BW2) HAQ.out.2.1
                 have q3 := bx_far (k := KC) (o := 0) (o' := 1) (p := .int .u64 (hiW DN)) (q := .int .u64 (loW DN)) (Bx.below HBh8.out BW2) HAQ.out.2.2.1
                 have qb : Below w.heap.size w ((W2.setCell ⟨KC, 0, none⟩ (.int .u64 (hiW DN))).setCell ⟨KC, 1, none⟩ (.int .u64 (loW DN))) := ((HWn.out.trans (BW2.mono HWn.out.size)).setCell HAQ.out.2.2.2 (.int .u64 (hiW DN))).setCell HAQ.out.2.2.2 (.int .u64 (loW DN))
                 obtain ⟨W3, hW3⟩ : ∃ W3, (W2.setCell ⟨KC, 0, none⟩ (.int .u64 (hiW DN))).setCell ⟨KC, 1, none⟩ (.int .u64 (loW DN)) = W3 := ⟨_, rfl⟩
                 rw [hW3] at q0 q1 q2 q3 qb
                 rw [hW3]
                 clear hW3 x0 x1 x2 x3
                 refine hK.out _ _ (fun _ => trivial) (fun _ => ?_)
                 clear hK K
                 refine last_done (by kernel_rfl) ?_ _
                 have HQ0 : Hid (Bx W3 KC (.int .u64 (hiW DN)) (.int .u64 (loW DN))) := q0
                 have HQ1 : Hid (Bx W3 KK (.int .u64 (hiW LO)) (.int .u64 (loW LO))) := q1
                 have HQ2 : Hid (Bx W3 KM (.int .u64 (hiW MI)) (.int .u64 (loW MI))) := q2
                 have HQ3 : Hid (Bx W3 KB (.int .u64 (hiW UP)) (.int .u64 (loW UP))) := q3
                 have HQB : Hid (Below w.heap.size w W3) := qb
                 clear q0 q1 q2 q3 qb
                 go_wp2
                 go_meet
                 exact ⟨HQ1.out, HQ2.out, HQ3.out, HQ0.out, HQB.out⟩
              case rest =>
              as_aux_lemma =>
               obtain ⟨hg1, hg7, hg8, hg9, hgb⟩ := hcut
               obtain ⟨D3, hD3⟩ : ∃ D3, wc = D3 := ⟨_, rfl⟩
               rw [hD3] at hg1 hg7 hg8 hg9 hgb
               rw [hD3]
               have HS4 : Hid (Bx D3 KB (.int .u64 (hiW UP)) (.int .u64 (loW UP)) ∧ Bx D3 KK (.int .u64 (hiW LO)) (.int .u64 (loW LO)) ∧ Bx D3 KM (.int .u64 (hiW MI)) (.int .u64 (loW MI)) ∧ Bx D3 KC (.int .u64 (hiW DN)) (.int .u64 (loW DN))) := ⟨hg8, hg1, hg7, hg9⟩
               have HWB9 : Hid (Below w.heap.size w D3) := hgb
               clear hD3 hg1 hg7 hg8 hg9 hgb HBh1 HBh7 HBh8 HBP HWn HAQ cA3 cO1
               have hml := HMATH.out F MI (by rw [show (pkV j.ac (k : Int)).toNat = pa by rw [HPA.out.1]; exact Int.toNat_natCast pa]; exact HF.out) hF0.1 (by rw [HP.out, HPE.out, HMI.out.1]) HMN.out.2
               rw [HLH.out.1, HLH.out.2, HUP.out.2, HUP.out.1, HB9.out, HDN.out] at hml
               have hd1 := cmp_up hml.1
               have hd2 := cmp_dn hml.2
               have cC1 := rcmp_num UP LO
               have cC2 := rcmp_num MI DN
               unfold nu at cC1 cC2
               clear hml HMATH HLH HUP HB9 HDN HMI HMN HVN NHH HPE HP HF HPA hF0
               go_upto_region 38 with fail
               refine wp_region_last (S := (fun x' : World => (Bx x' KB (.int .u64 (hiW UP)) (.int .u64 (loW UP)) ∧ Bx x' KK (.int .u64 (hiW LO)) (.int .u64 (loW LO)) ∧ Bx x' KM (.int .u64 (hiW MI)) (.int .u64 (loW MI)) ∧ Bx x' KC (.int .u64 (hiW DN)) (.int .u64 (loW DN))) ∧ Below D3.heap.size D3 x')) (L := 11) (by kernel_rfl) ?_
               have HSW0 : (fun x' : World => (Bx x' KB (.int .u64 (hiW UP)) (.int .u64 (loW UP)) ∧ Bx x' KK (.int .u64 (hiW LO)) (.int .u64 (loW LO)) ∧ Bx x' KM (.int .u64 (hiW MI)) (.int .u64 (loW MI)) ∧ Bx x' KC (.int .u64 (hiW DN)) (.int .u64 (loW DN))) ∧ Below D3.heap.size D3 x') (D3.drew) := ⟨⟨Bx.below (show (fun x' : World => (Bx x' KB (.int .u64 (hiW UP)) (.int .u64 (loW UP)) ∧ Bx x' KK (.int .u64 (hiW LO)) (.int .u64 (loW LO)) ∧ Bx x' KM (.int .u64 (hiW MI)) (.int .u64 (loW MI)) ∧ Bx x' KC (.int .u64 (hiW DN)) (.int .u64 (loW DN))) ∧ Below D3.heap.size D3 x') D3 from ⟨HS4.out, Below.refl _ _⟩).1.1 (drew_belowI D3), Bx.below (show (fun x' : World => (Bx x' KB (.int .u64 (hiW UP)) (.int .u64 (loW UP)) ∧ Bx x' KK (.int .u64 (hiW LO)) (.int .u64 (loW LO)) ∧ Bx x' KM (.int .u64 (hiW MI)) (.int .u64 (loW MI)) ∧ Bx x' KC (.int .u64 (hiW DN)) (.int .u64 (loW DN))) ∧ Below D3.heap.size D3 x') D3 from ⟨HS4.out, Below.refl _ _⟩).1.2.1 (drew_belowI D3), Bx.below (show (fun x' : World => (Bx x' KB (.int .u64 (hiW UP)) (.int .u64 (loW UP)) ∧ Bx x' KK (.int .u64 (hiW LO)) (.int .u64 (loW LO)) ∧ Bx x' KM (.int .u64 (hiW MI)) (.int .u64 (loW MI)) ∧ Bx x' KC (.int .u64 (hiW DN)) (.int .u64 (loW DN))) ∧ Below D3.heap.size D3 x') D3 from ⟨HS4.out, Below.refl _ _⟩).1.2.2.1 (drew_belowI D3), Bx.below (show (fun x' : World => (Bx x' KB (.int .u64 (hiW UP)) (.int .u64 (loW UP)) ∧ Bx x' KK (.int .u64 (hiW LO)) (.int .u64 (loW LO)) ∧ Bx x' KM (.int .u64 (hiW MI)) (.int .u64 (loW MI)) ∧ Bx x' KC (.int .u64 (hiW DN)) (.int .u64 (loW DN))) ∧ Below D3.heap.size D3 x') D3 from ⟨HS4.out, Below.refl _ _⟩).1.2.2.2 (drew_belowI D3)⟩, (show (fun x' : World => (Bx x' KB (.int .u64 (hiW UP)) (.int .u64 (loW UP)) ∧ Bx x' KK (.int .u64 (hiW LO)) (.int .u64 (loW LO)) ∧ Bx x' KM (.int .u64 (hiW MI)) (.int .u64 (loW MI)) ∧ Bx x' KC (.int .u64 (hiW DN)) (.int .u64 (loW DN))) ∧ Below D3.heap.size D3 x') D3 from ⟨HS4.out, Below.refl _ _⟩).2.trans ((drew_belowI D3).mono (show (fun x' : World => (Bx x' KB (.int .u64 (hiW UP)) (.int .u64 (loW UP)) ∧ Bx x' KK (.int .u64 (hiW LO)) (.int .u64 (loW LO)) ∧ Bx x' KM (.int .u64 (hiW MI)) (.int .u64 (loW MI)) ∧ Bx x' KC (.int .u64 (hiW DN)) (.int .u64 (loW DN))) ∧ Below D3.heap.size D3 x') D3 from ⟨HS4.out, Below.refl _ _⟩).2.size)⟩
               refine last_take (i := 0) (v := ?v0k66) rfl (by kernel_rfl) (by kernel_rfl) (by kernel_rfl) (by kernel_rfl) rfl (fun _ _ _ h => h) (by rfl) HSW0 ?hy0k66 ?rest0k66
               case hy0k66 =>
                intro xx hSx
                obtain ⟨⟨⟨s0, s1, _, _⟩, ⟨s2, s3, _, _⟩, ⟨s4, s5, _, _⟩, s6, s7, _, _⟩, _⟩ := hSx
                go_simp
                try (with_reducible rfl)
               simp only [Act.put, List.setIfInBounds_toArray, List.set_cons_zero, List.set_cons_succ]
               refine last_take (i := 1) (v := ?v1k67) rfl (by kernel_rfl) (by kernel_rfl) (by kernel_rfl) (by kernel_rfl) rfl (fun _ _ _ h => h) (by rfl) HSW0 ?hy1k67 ?rest1k67
               case hy1k67 =>
                intro xx hSx
                obtain ⟨⟨⟨s0, s1, _, _⟩, ⟨s2, s3, _, _⟩, ⟨s4, s5, _, _⟩, s6, s7, _, _⟩, _⟩ := hSx
                go_simp
                try (with_reducible rfl)
               simp only [Act.put, List.setIfInBounds_toArray, List.set_cons_zero, List.set_cons_succ]
               refine last_one (i := 2) (by kernel_rfl) rfl ?_
               intro K hK
               go_simp
               go_at_call 31
               refine (ref_any _ _ _).mono ?_
               rintro e Z4 ⟨rfl, bz4⟩
               have HSZ4 : (fun x' : World => (Bx x' KB (.int .u64 (hiW UP)) (.int .u64 (loW UP)) ∧ Bx x' KK (.int .u64 (hiW LO)) (.int .u64 (loW LO)) ∧ Bx x' KM (.int .u64 (hiW MI)) (.int .u64 (loW MI)) ∧ Bx x' KC (.int .u64 (hiW DN)) (.int .u64 (loW DN))) ∧ Below D3.heap.size D3 x') Z4 := ⟨⟨Bx.below HSW0.1.1 bz4, Bx.below HSW0.1.2.1 bz4, Bx.below HSW0.1.2.2.1 bz4, Bx.below HSW0.1.2.2.2 bz4⟩, HSW0.2.trans (bz4.mono HSW0.2.size)⟩
               go_simp
               refine hK.out _ _ (fun _ => HSZ4) (fun _ => ?_)
               clear hK K HSW0
               refine last_one (i := 3) (by kernel_rfl) rfl ?_
               intro K hK
               go_simp
               go_at_call 32
               refine (cC1 _).mono ?_
               rintro e Z5 ⟨rfl, bz5⟩
               have HSZ5 : (fun x' : World => (Bx x' KB (.int .u64 (hiW UP)) (.int .u64 (loW UP)) ∧ Bx x' KK (.int .u64 (hiW LO)) (.int .u64 (loW LO)) ∧ Bx x' KM (.int .u64 (hiW MI)) (.int .u64 (loW MI)) ∧ Bx x' KC (.int .u64 (hiW DN)) (.int .u64 (loW DN))) ∧ Below D3.heap.size D3 x') Z5 := ⟨⟨Bx.below HSZ4.1.1 bz5, Bx.below HSZ4.1.2.1 bz5, Bx.below HSZ4.1.2.2.1 bz5, Bx.below HSZ4.1.2.2.2 bz5⟩, HSZ4.2.trans (bz5.mono HSZ4.2.size)⟩
               go_simp
               refine hK.out _ _ (fun _ => HSZ5) (fun _ => ?_)
               clear hK K HSZ4
               refine last_take (i := 4) (v := ?v4k68) rfl (by kernel_rfl) (by kernel_rfl) (by kernel_rfl) (by kernel_rfl) rfl (fun _ _ _ h => h) (by rfl) HSZ5 ?hy4k68 ?rest4k68
               case hy4k68 =>
                intro xx hSx
                go_simp
                try (with_reducible rfl)
               simp only [Act.put, List.setIfInBounds_toArray, List.set_cons_zero, List.set_cons_succ]
               try rw [hd1]
               refine last_take (i := 5) (v := ?v5k69) rfl (by kernel_rfl) (by kernel_rfl) (by kernel_rfl) (by kernel_rfl) rfl (fun _ _ _ h => h) (by rfl) HSZ5 ?hy5k69 ?rest5k69
               case hy5k69 =>
                intro xx hSx
                go_simp
                try (with_reducible rfl)
               simp only [Act.put, List.setIfInBounds_toArray, List.set_cons_zero, List.set_cons_succ]
               refine last_take (i := 6) (v := ?v6k70) rfl (by kernel_rfl) (by kernel_rfl) (by kernel_rfl) (by kernel_rfl) rfl (fun _ _ _ h => h) (by rfl) HSZ5 ?hy6k70 ?rest6k70
               case hy6k70 =>
                intro xx hSx
                obtain ⟨⟨⟨s0, s1, _, _⟩, ⟨s2, s3, _, _⟩, ⟨s4, s5, _, _⟩, s6, s7, _, _⟩, _⟩ := hSx
                go_simp
                try (with_reducible rfl)
               simp only [Act.put, List.setIfInBounds_toArray, List.set_cons_zero, List.set_cons_succ]
               refine last_take (i := 7) (v := ?v7k71) rfl (by kernel_rfl) (by kernel_rfl) (by kernel_rfl) (by kernel_rfl) rfl (fun _ _ _ h => h) (by rfl) HSZ5 ?hy7k71 ?rest7k71
               case hy7k71 =>
                intro xx hSx
                obtain ⟨⟨⟨s0, s1, _, _⟩, ⟨s2, s3, _, _⟩, ⟨s4, s5, _, _⟩, s6, s7, _, _⟩, _⟩ := hSx
                go_simp
                try (with_reducible rfl)
               simp only [Act.put, List.setIfInBounds_toArray, List.set_cons_zero, List.set_cons_succ]
               refine last_one (i := 8) (by kernel_rfl) rfl ?_
               intro K hK
               go_simp
               go_at_call 32
               refine (cC2 _).mono ?_
               rintro e Z6 ⟨rfl, bz6⟩
               have HSZ6 : (fun x' : World => (Bx x' KB (.int .u64 (hiW UP)) (.int .u64 (loW UP)) ∧ Bx x' KK (.int .u64 (hiW LO)) (.int .u64 (loW LO)) ∧ Bx x' KM (.int .u64 (hiW MI)) (.int .u64 (loW MI)) ∧ Bx x' KC (.int .u64 (hiW DN)) (.int .u64 (loW DN))) ∧ Below D3.heap.size D3 x') Z6 := ⟨⟨Bx.below HSZ5.1.1 bz6, Bx.below HSZ5.1.2.1 bz6, Bx.below HSZ5.1.2.2.1 bz6, Bx.below HSZ5.1.2.2.2 bz6⟩, HSZ5.2.trans (bz6.mono HSZ5.2.size)⟩
               go_simp
               refine hK.out _ _ (fun _ => HSZ6) (fun _ => ?_)
               clear hK K HSZ5
               refine last_take (i := 9) (v := ?v9k72) rfl (by kernel_rfl) (by kernel_rfl) (by kernel_rfl) (by kernel_rfl) rfl (fun _ _ _ h => h) (by rfl) HSZ6 ?hy9k72 ?rest9k72
               case hy9k72 =>
                intro xx hSx
                go_simp
                try (with_reducible rfl)
               simp only [Act.put, List.setIfInBounds_toArray, List.set_cons_zero, List.set_cons_succ]
               try rw [hd2]
               refine last_take (i := 10) (v := ?v10k73) rfl (by kernel_rfl) (by kernel_rfl) (by kernel_rfl) (by kernel_rfl) rfl (fun _ _ _ h => h) (by rfl) HSZ6 ?hy10k73 ?rest10k73
               case hy10k73 =>
                intro xx hSx
                go_simp
                try (with_reducible rfl)
               simp only [Act.put, List.setIfInBounds_toArray, List.set_cons_zero, List.set_cons_succ]
               have HEND : Hid (Below w.heap.size w Z6) := HWB9.out.trans (HSZ6.2.mono HWB9.out.size)
               refine last_one (i := 11) (by kernel_rfl) rfl ?_
               intro K hK
               go_simp
               refine hK.out _ _ (fun h => absurd rfl h) (fun _ => ?_)
               clear hK K HSZ6
               refine last_done (by kernel_rfl) ?_ _
               go_wp2
               go_ret
               exact ⟨rfl, HEND.out⟩
end Go.Proofs.YtdkbmligaodpmaaGreatDoor
