/-
  Rows of api.Rank: known whole; make, copy; copyOf.
  Merging rows of api.Rank: what stands between two rounds.
  Sorting rows of api.Rank by prio.higher: merge, sort, Sort walked.
  Sorting rows of api.Rank by prio.higher: sort, Sort walked.
-/
import Derived.Test.YtjgllfpnmmopdaaGreatDoorXsn
import Derived.Deep.RegionHeld3
import Derived.Deep.QuietTactic
import Derived.WalkSmall
namespace Go.Proofs.YtjgllfpnmmopdaaGreatDoor
open Go.RowKit Tr
/-- A block known whole. -/
def RwR (W : World) (b : Nat) (M : List Pr) : Prop := W.heap[b]? = some (.cells (flatP M).toArray 40 (0, 0))
section
variable {W W' : World} {b : Nat} {M : List Pr}
theorem RwR.lt (h : RwR W b M) : b < W.heap.size := (Array.getElem?_eq_some_iff.1 (show W.heap[b]? = _ from h)).1
theorem RwR.free (h : RwR W b M) (k : Nat) : W.frozen? ⟨b, k, none⟩ = false := frozen_at (show W.heap[b]? = _ from h)
theorem RwR.at (h : RwR W b M) {k : Nat} {p : Pr} (ha : M[k]? = some p) : W.cell? ⟨b, k * 2, none⟩ = some (.int .i64 p.a) ∧ W.cell? ⟨b, k * 2 + 1, none⟩ = some (.int .i64 p.b) := by
  have hb : W.heap[b]? = _ := h
  obtain ⟨e0, e1⟩ := flatP_at M k p ha
  exact ⟨cells_at hb (by simpa using e0), cells_at hb (by simpa using e1)⟩
theorem RwR.chg {K : Nat → Prop} (c : Chg K W W') (h : RwR W b M) (hK : ¬ K b) : RwR W' b M := (c.block b h.lt hK).trans h
theorem RwR.below (c : Below W.heap.size W W') (h : RwR W b M) : RwR W' b M := (c.block b h.lt).trans h
theorem RwR.set (h : RwR W b M) (k : Nat) (p : Pr) : RwR ((W.setCell ⟨b, k * 2, none⟩ (.int .i64 p.a)).setCell ⟨b, k * 2 + 1, none⟩ (.int .i64 p.b)) b (M.set k p) := by
  have h1 := heap_setCell_same W b (k * 2) _ 40 (.int .i64 p.a) h
  have h2 := heap_setCell_same (W.setCell ⟨b, k * 2, none⟩ (.int .i64 p.a)) b (k * 2 + 1) _ 40 (.int .i64 p.b) h1
  unfold RwR
  rw [h2]
  have e := flatP_set M k p
  simp [← e]
theorem RwR.src (h : RwR W b M) {A B C : List Pr} (e : M = A ++ (B ++ C)) (o : Nat) (ho : o = A.length * 2) : ∀ j u, (flatP B)[j]? = some u → W.cell? ((⟨b, o, none⟩ : Addr).add j) = some u := by
  intro j u hj
  have hb : W.heap[b]? = _ := h
  rw [Addr.add_lit]
  refine cells_at hb ?_
  subst ho
  rw [e, flatP_app, flatP_app]
  have h1 := (List.getElem?_eq_some_iff.1 hj).1
  simp only [List.getElem?_toArray]
  rw [List.getElem?_append_right (by rw [flatP_len]; omega), List.getElem?_append_left (by rw [flatP_len]; omega), flatP_len, show A.length * 2 + j - A.length * 2 = j by omega]
  exact hj
end
theorem Tryz.soRa : (Tryz.prog.info? 40).map (fun i => (i.zero, i.size, i.bytes)) = some (some (.agg #[.int .i64 0, .int .i64 0]), 2, 16) := by kernel_rfl
theorem Tryz.soRb : (Tryz.prog.info? 40).map (·.size) = some 2 := by kernel_rfl
theorem make_R (w : World) {n : Nat} (hn : n * 16 ≤ 140737488355328) : ∃ w', (Instr.makeSlice 35 (.int .i64 (n : Int)) (.int .i64 (n : Int))).run Tryz.prog w = .ok (.slice (some ⟨w.heap.size, 0, none⟩) n n) w' ∧ RwR w' w.heap.size (List.replicate n zPr) ∧ Below w.heap.size w w' ∧ w'.heap.size = w.heap.size + 1 := by
  obtain ⟨i0, hi0, hz0, hz1, hz2⟩ := info_parts Tryz.soRa
  have hmk := run_make (P := Tryz.prog) w 35 40 i0 _ Tryz.underlying35 hi0 hz0 .i64 .i64 (n : Int) (n : Int) (by omega) (Int.le_refl _) (by rw [hz2]; omega) (by omega)
  rw [show ((n : Int)).toNat = n by omega, hz1] at hmk
  refine ⟨_, hmk, ?_, (Below.refl _ _).alloc (Nat.le_refl _) _, by simp⟩
  unfold RwR
  rw [← madeP_flat n]
  exact heap_alloc_new w _
theorem copy_R {w : World} {g n c : Nat} {ao : Option Addr} {l : List Pr} (hA : RwR w g (List.replicate n zPr)) (hL : l.length = n) (hnil : ao = none → n = 0) (hsrc : ∀ ad, ao = some ad → ∀ j u, (flatP l)[j]? = some u → w.cell? (ad.add j) = some u) :
    ∃ w', (Builtin.copy_ #[35, 35] 3 #[.slice (some ⟨g, 0, none⟩) n n, .slice ao n c]).run Tryz.prog w = .ok (goInt (n : Nat)) w' ∧ RwR w' g l ∧ Below g w w' := by
  cases ao with
  | none =>
    have h0 := hnil rfl
    subst h0
    have hl : l = [] := List.eq_nil_of_length_eq_zero hL
    subst hl
    exact ⟨w, copy_noneN (P := Tryz.prog) w _ _ _ 40 _ _ _ _ _ _ 2 Tryz.underlying35 Tryz.soRb (Nat.min_self 0), hA, Below.refl _ _⟩
  | some ad =>
    have hf := flatP_len l
    have hm : Nat.min n n = n := Nat.min_self n
    have hrun := copy_rowN (P := Tryz.prog) w 35 35 3 40 g 0 n n ad n c 2 _ 40 (flatP l) Tryz.underlying35 Tryz.soRb hA (by rw [hm, hf, hL]) (hsrc ad rfl) (by simp [flatP_len, hL]) (flatP_one l)
    rw [hm] at hrun
    refine ⟨_, hrun, ?_, below_setRow (Below.refl _ _) (Nat.le_refl _) _⟩
    have := setRow_heap w g (flatP (List.replicate n zPr)).toArray (flatP l).toArray 40 _ hA
    unfold RwR
    rw [← this]
    have e : (flatP (List.replicate n zPr)).drop (flatP l).length = [] := by
      apply List.drop_eq_nil_of_le
      simp [flatP_len, hL]
    simp [e]
theorem copyOf_R {w : World} {n c : Nat} {ao : Option Addr} {l : List Pr} (hn : n * 16 ≤ 140737488355328) (hL : l.length = n) (hnil : ao = none → n = 0) (hsrc : ∀ ad, ao = some ad → ∀ j u, (flatP l)[j]? = some u → w.cell? (ad.add j) = some u) :
    Calls Tryz.prog 40 #[.slice ao n c] w fun e w' => e = .returned (.slice (some ⟨w.heap.size, 0, none⟩) n n) ∧ RwR w' w.heap.size l ∧ Below w.heap.size w w' ∧ w.heap.size < w'.heap.size := by
  obtain ⟨w1, hmk, hA, hb, hz⟩ := make_R w hn
  obtain ⟨w2, hcp, hA2, hb2⟩ := copy_R (c := c) hA hL hnil (fun ad e j u hj => (Chg.of_below hb (fun _ => False)).cell (hsrc ad e j u hj) (fun h => h))
  have HE : Hid (RwR w2 w.heap.size l ∧ Below w.heap.size w w2 ∧ w.heap.size < w2.heap.size) := ⟨hA2, hb.trans hb2, hA2.lt⟩
  clear hA hA2 hb hb2 hz hsrc hnil hL hn
  go_enter Tryz.func40, Tryz.ntmps40
  go_wp2
  go_ret
  exact ⟨rfl, HE.out⟩
end Go.Proofs.YtjgllfpnmmopdaaGreatDoor
namespace Go.Proofs.YtjgllfpnmmopdaaGreatDoor
open Go.RowKit Tr
structure MgR (lt : Pr → Pr → Bool) (I : World → Prop) (D : Nat → Prop) (w : World) (b sb fb : Nat) (fv : Value) (P Q F S F2 S2 : List Pr) (i : Nat) (x : World) : Prop where
  row : ∃ out G : List Pr, out.length = i ∧ G.length = F2.length ∧ RwR x b (P ++ (out ++ (G ++ (S2 ++ Q)))) ∧ mergeV lt F S = out ++ mergeV lt F2 S2
  first : RwR x fb F
  tail : ∃ F1, F = F1 ++ F2
  box : x.cell? ⟨sb, 0, none⟩ = some fv
  inv : I x
  chg : Chg (fun j => j = b ∨ D j) w x
  db : ¬ D b
  df : ¬ D fb
  ds : ¬ D sb
  fb1 : fb ≠ b
  sb1 : sb ≠ b
  kp : ∀ x x' (K : Nat → Prop), I x → Chg K x x' → (∀ j, D j → ¬ K j) → I x'
section
variable {lt : Pr → Pr → Bool} {I : World → Prop} {D : Nat → Prop} {w x x' : World} {b sb fb i : Nat} {fv : Value} {P Q F S F2 S2 F3 S3 : List Pr} {p q : Pr}
theorem MgR.sum (h : MgR lt I D w b sb fb fv P Q F S F2 S2 i x) : i + F2.length + S2.length = F.length + S.length := by
  obtain ⟨out, G, h1, h2, h3, h4⟩ := h.row
  have e := congrArg List.length h4
  rw [List.length_append, mergeV_length, mergeV_length, h1] at e
  omega
theorem MgR.call (h : MgR lt I D w b sb fb fv P Q F S F2 S2 i x) (c : Chg D x x') (hi : I x') : MgR lt I D w b sb fb fv P Q F S F2 S2 i x' := by
  obtain ⟨out, G, h1, h2, h3, h4⟩ := h.row
  exact ⟨⟨out, G, h1, h2, h3.chg c h.db, h4⟩, h.first.chg c h.df, h.tail, c.cell h.box h.ds, hi, h.chg.trans c (fun _ _ e => .inr e), h.db, h.df, h.ds, h.fb1, h.sb1, h.kp⟩
theorem MgR.drew (h : MgR lt I D w b sb fb fv P Q F S F2 S2 i x) : MgR lt I D w b sb fb fv P Q F S F2 S2 i x.drew :=
  h.call (Chg.refl _ _).drew (h.kp x x.drew (fun _ => False) h.inv (Chg.refl _ _).drew (fun _ _ e => e))
theorem MgR.drewN (h : MgR lt I D w b sb fb fv P Q F S F2 S2 i x) (n : Nat) : MgR lt I D w b sb fb fv P Q F S F2 S2 i (x.drewN n) := by
  have hb : Below x.heap.size x (x.drewN n) := ⟨rfl, rfl, rfl, Nat.le_refl _, fun _ _ => rfl⟩
  exact h.call (Chg.of_below hb _) (h.kp x (x.drewN n) (fun _ => False) h.inv (Chg.of_below hb _) (fun _ _ e => e))
theorem MgR.rdF (h : MgR lt I D w b sb fb fv P Q F S (p :: F3) S2 i x) : x.cell? ⟨fb, (F.length - (F3.length + 1)) * 2, none⟩ = some (.int .i64 p.a) ∧ x.cell? ⟨fb, (F.length - (F3.length + 1)) * 2 + 1, none⟩ = some (.int .i64 p.b) := by
  obtain ⟨F1, e⟩ := h.tail
  refine h.first.at ?_
  rw [e, List.getElem?_append_right (by simp)]
  simp
theorem MgR.rdS (h : MgR lt I D w b sb fb fv P Q F S F2 (q :: S3) i x) : x.cell? ⟨b, (P.length + i + F2.length) * 2, none⟩ = some (.int .i64 q.a) ∧ x.cell? ⟨b, (P.length + i + F2.length) * 2 + 1, none⟩ = some (.int .i64 q.b) := by
  obtain ⟨out, G, h1, h2, h3, h4⟩ := h.row
  refine h3.at ?_
  rw [← h1, ← h2, List.getElem?_append_right (by omega), List.getElem?_append_right (by omega), List.getElem?_append_right (by omega)]
  simp only [show P.length + out.length + G.length - P.length - out.length - G.length = 0 by omega]
  rfl
theorem MgR.free (h : MgR lt I D w b sb fb fv P Q F S F2 S2 i x) (k : Nat) : x.frozen? ⟨b, k, none⟩ = false := by
  obtain ⟨out, G, h1, h2, h3, h4⟩ := h.row
  exact h3.free k
/-- The cell that is written. -/
theorem MgR.rdG (h : MgR lt I D w b sb fb fv P Q F S (p :: F3) S2 i x) : ∃ g : Pr, x.cell? ⟨b, (P.length + i) * 2, none⟩ = some (.int .i64 g.a) ∧ x.cell? ⟨b, (P.length + i) * 2 + 1, none⟩ = some (.int .i64 g.b) := by
  obtain ⟨out, G, h1, h2, h3, h4⟩ := h.row
  cases G with
  | nil => simp at h2
  | cons g G =>
    refine ⟨g, h3.at ?_⟩
    rw [← h1, List.getElem?_append_right (by omega), List.getElem?_append_right (by omega)]
    simp only [show P.length + out.length - P.length - out.length = 0 by omega]
    rfl
theorem MgR.put (h : MgR lt I D w b sb fb fv P Q F S (p :: F3) S2 i x) (v : Pr) : ∃ out G : List Pr, out.length = i ∧ G.length = F3.length ∧ RwR ((x.setCell ⟨b, (P.length + i) * 2, none⟩ (.int .i64 v.a)).setCell ⟨b, (P.length + i) * 2 + 1, none⟩ (.int .i64 v.b)) b (P ++ (out ++ (v :: G ++ (S2 ++ Q)))) ∧ mergeV lt F S = out ++ mergeV lt (p :: F3) S2 := by
  obtain ⟨out, G, h1, h2, h3, h4⟩ := h.row
  cases G with
  | nil => simp at h2
  | cons g G =>
    have h5 := h3.set (P.length + i) v
    rw [← h1, set_mid, h1] at h5
    exact ⟨out, G, h1, by simpa using h2, h5, h4⟩
theorem MgR.rest (h : MgR lt I D w b sb fb fv P Q F S F2 S2 i x) (k : Chg (fun j => j = b) x x') : RwR x' fb F ∧ x'.cell? ⟨sb, 0, none⟩ = some fv ∧ I x' ∧ Chg (fun j => j = b ∨ D j) w x' :=
  ⟨h.first.chg k h.fb1, k.cell h.box h.sb1, h.kp x x' (fun j => j = b) h.inv k (fun _ hj e => h.db (e ▸ hj)), h.chg.trans k (fun _ _ e => .inl e)⟩
theorem MgR.takeF (h : MgR lt I D w b sb fb fv P Q F S (p :: F3) S2 i x) (hl : S2 = [] ∨ ∃ q S3, S2 = q :: S3 ∧ lt q p = false) : MgR lt I D w b sb fb fv P Q F S F3 S2 (i + 1) ((x.setCell ⟨b, (P.length + i) * 2, none⟩ (.int .i64 p.a)).setCell ⟨b, (P.length + i) * 2 + 1, none⟩ (.int .i64 p.b)) := by
  obtain ⟨out, G, h1, h2, h3, h4⟩ := h.put p
  obtain ⟨r1, r2, r3, r4⟩ := h.rest (x' := ((x.setCell ⟨b, (P.length + i) * 2, none⟩ (.int .i64 p.a)).setCell ⟨b, (P.length + i) * 2 + 1, none⟩ (.int .i64 p.b))) (((Chg.refl (fun j => j = b) x).setCell ⟨b, _, none⟩ _ (.inl rfl)).setCell ⟨b, _, none⟩ _ (.inl rfl))
  refine ⟨⟨out ++ [p], G, by simp [h1], h2, ?_, ?_⟩, r1, ?_, r2, r3, r4, h.db, h.df, h.ds, h.fb1, h.sb1, h.kp⟩
  · have e : P ++ (out ++ (p :: G ++ (S2 ++ Q))) = P ++ (out ++ [p] ++ (G ++ (S2 ++ Q))) := by simp
    rw [← e]; exact h3
  · rw [h4]
    rcases hl with e | ⟨q, S3, e, hq⟩
    · subst e; rw [mergeV_nil_right, mergeV_nil_right]; simp
    · subst e; rw [mergeV_first lt p q F3 S3 hq]; simp
  · obtain ⟨F1, e⟩ := h.tail
    exact ⟨F1 ++ [p], by rw [e]; simp⟩
theorem MgR.takeS (h : MgR lt I D w b sb fb fv P Q F S (p :: F3) (q :: S3) i x) (hq : lt q p = true) : MgR lt I D w b sb fb fv P Q F S (p :: F3) S3 (i + 1) ((x.setCell ⟨b, (P.length + i) * 2, none⟩ (.int .i64 q.a)).setCell ⟨b, (P.length + i) * 2 + 1, none⟩ (.int .i64 q.b)) := by
  obtain ⟨out, G, h1, h2, h3, h4⟩ := h.put q
  obtain ⟨r1, r2, r3, r4⟩ := h.rest (x' := ((x.setCell ⟨b, (P.length + i) * 2, none⟩ (.int .i64 q.a)).setCell ⟨b, (P.length + i) * 2 + 1, none⟩ (.int .i64 q.b))) (((Chg.refl (fun j => j = b) x).setCell ⟨b, _, none⟩ _ (.inl rfl)).setCell ⟨b, _, none⟩ _ (.inl rfl))
  refine ⟨⟨out ++ [q], G ++ [q], by simp [h1], by simp [h2], ?_, ?_⟩, r1, h.tail, r2, r3, r4, h.db, h.df, h.ds, h.fb1, h.sb1, h.kp⟩
  · have e : P ++ (out ++ (q :: G ++ (q :: S3 ++ Q))) = P ++ (out ++ [q] ++ (G ++ [q] ++ (S3 ++ Q))) := by simp
    rw [← e]; exact h3
  · rw [h4, mergeV_second lt p q F3 S3 hq]; simp
theorem MgR.done (h : MgR lt I D w b sb fb fv P Q F S [] S2 i x) : RwR x b (P ++ (mergeV lt F S ++ Q)) := by
  obtain ⟨out, G, h1, h2, h3, h4⟩ := h.row
  have e : G = [] := List.eq_nil_of_length_eq_zero h2
  subst e
  rw [h4, mergeV_nil]
  simpa using h3
end
end Go.Proofs.YtjgllfpnmmopdaaGreatDoor
namespace Go.Proofs.YtjgllfpnmmopdaaGreatDoor
open Go.RowKit Tr
set_option maxHeartbeats 1000000 in
set_option maxRecDepth 20000 in
theorem merge_Ra {lt : Pr → Pr → Bool} {I : World → Prop} {D : Nat → Prop} (C : Clo prV 18 [] lt I D) {w : World} {b o2 n c h : Nat} {P Q F S : List Pr}
    (hM : RwR w b (P ++ (F ++ (S ++ Q)))) (ho : o2 = P.length * 2) (hF : F.length = h) (hn : h + S.length = n) (hs : 0 < S.length) (hc : n ≤ c) (hb : n * 16 ≤ 140737488355328) (hI : I w) (hDb : ¬ D b) :
    Calls Tryz.prog 79 #[.agg #[(.func (.func 18) #[] #[])], .slice (some ⟨b, o2, none⟩) n c, .int .i64 h] w fun e w' => e = .returned (.tuple #[]) ∧ RwR w' b (P ++ (mergeV lt F S ++ Q)) ∧ Chg (fun j => j = b ∨ D j) w w' ∧ I w' := by
  obtain ⟨w1, hw1⟩ : ∃ w1, w.alloc (.cells #[(.func (.func 18) #[] #[])] 78) = w1 := ⟨_, rfl⟩
  have hb1 : Below w.heap.size w w1 := by rw [← hw1]; exact (Below.refl _ _).alloc (Nat.le_refl _) _
  have zw1 : w1.heap.size = w.heap.size + 1 := by rw [← hw1]; simp
  have cb1 : w1.cell? ⟨w.heap.size, 0, none⟩ = some (.func (.func 18) #[] #[]) := by rw [← hw1]; exact cells_at (heap_alloc_new w _) rfl
  have hM1 := hM.below hb1
  have hcp := copyOf_R (w := w1.drew) (n := h) (c := c) (ao := some ⟨b, o2, none⟩) (l := F) (by omega) hF (fun e => by cases e) (fun ad e => by cases e; exact RwR.src (RwR.below ((Below.refl _ w1).drew) hM1) rfl o2 (by omega))
  have hbl := hM.lt
  have HI1 : Hid (I w1) := C.keep w w1 (fun _ => False) hI (Chg.of_below hb1 _) (fun _ _ e => e)
  have hh : h ≤ n := by omega
  have hhc : h ≤ c := by omega
  have HX : Hid (RwR w1 b (P ++ (F ++ (S ++ Q)))) := hM1
  have HO : Hid (o2 = P.length * 2 ∧ F.length = h ∧ h + S.length = n ∧ n ≤ c ∧ n * 16 ≤ 140737488355328) := ⟨ho, hF, hn, hc, hb⟩
  have HB1 : Hid (Below w.heap.size w w1 ∧ w1.heap.size = w.heap.size + 1) := ⟨hb1, zw1⟩
  have HC : Hid (Clo prV 18 [] lt I D) := C
  have HLW : Hid (∀ j, D j → j < w.heap.size) := C.low w hI
  have hhn : (h : Int) ≤ n := by omega
  have hhc' : (h : Int) ≤ c := by omega
  have hcne : ¬ c = h := by omega
  clear ho hF hn hc hb hs hM hM1 C hI hb1 zw1
  go_enter Tryz.func79, Tryz.ntmps79
  go_upto_region 1 with fail
  go_region_with (go_at_call 40; refine hcp.mono ?_; rintro e w2 ⟨rfl, hF2, hb2, hz2⟩)
  have HMG : Hid (MgR lt I D w b w.heap.size w1.heap.size (.func (.func 18) #[] #[]) P Q F S F S 0 w2) := by
    have z1 := HB1.out.2
    have k2 : Chg (fun _ => False) w1 w2 := Chg.of_below (by have := hb2; exact ((Below.refl _ w1).drew).trans hb2) _
    have hi2 : I w2 := HC.out.keep w1 w2 _ HI1.out k2 (fun _ _ e => e)
    have lw := fun j (hj : D j) => HLW.out j hj
    exact ⟨⟨[], F, rfl, rfl, HX.out.chg k2 (fun e => e), rfl⟩, hF2, ⟨[], rfl⟩, k2.cell cb1 (fun e => e), hi2, (Chg.of_below HB1.out.1 _).trans (k2.mono (fun _ _ e => e.elim)) (fun _ _ e => e), hDb, (fun e => by have := lw _ e; omega), (fun e => by have := lw _ e; omega), (by omega), (by omega), HC.out.keep⟩
  go_wp2
  have hcall : Hid (∀ x p q, I x → Calls Tryz.prog 18 #[.agg #[.int .i64 p.a, .int .i64 p.b], .agg #[.int .i64 q.a, .int .i64 q.b]] x fun e x' => e = .returned (.bool (lt p q)) ∧ I x' ∧ Chg D x x') := fun x p q h => HC.out.call x p q h
  clear hcp HX hF2 hb2 hz2 cb1 hhn hhc' hcne hh hhc HB1 HI1 HLW HC hw1
  generalize w.heap.size = sb at *
  generalize w1.heap.size = fb at *
  clear w1
  go_loopg [6, 7, 8] (F.length + S.length) (fun gk v6 v7 v8 wr => ∃ (F2 S2 : List Pr) (a6 a7 : Addr) (c7 i : Nat), F2.length + S2.length = gk ∧ v6 = .slice (some a6) F2.length F2.length ∧ v7 = .slice (some a7) S2.length c7 ∧ v8 = .int .i64 i ∧ S2.length ≤ c7 ∧ (0 < F2.length → a6 = ⟨fb, (F.length - F2.length) * 2, none⟩) ∧ (0 < S2.length → a7 = ⟨b, (P.length + i + F2.length) * 2, none⟩) ∧ MgR lt I D w b sb fb (.func (.func 18) #[] #[]) P Q F S F2 S2 i wr)
  case atStart =>
    obtain ⟨e1, e2, e3, e4, e5⟩ := HO.out
    refine ⟨F, S, ⟨fb, 0, none⟩, ⟨b, o2 + h * 2, none⟩, c - h, 0, rfl, by rw [e2], by rw [show n - h = S.length by omega], rfl, by omega, (fun _ => by simp), (fun _ => ?_), HMG.out⟩
    rw [e1, ← e2, Nat.add_zero, Nat.add_mul]
  case round =>
    obtain ⟨F2, S2, a6, a7, c7, i, hgk, rfl, rfl, rfl, hc7, ha6, ha7, hmg⟩ := hrel
    have HM : Hid (MgR lt I D w b sb fb (.func (.func 18) #[] #[]) P Q F S F2 S2 i wr) := hmg
    clear hmg HMG
    cases F2 with
    | nil =>
      simp only [List.length_nil]
      go_wp2
      go_end0
      exact ⟨rfl, HM.out.done, HM.out.chg, HM.out.inv⟩
    | cons p F3 =>
      obtain rfl := ha6 (by simp)
      obtain ⟨f, hf⟩ : ∃ f, F3.length = f := ⟨_, rfl⟩
      have HSUM := HM.out.sum
      have HF : Hid (F3.length = f) := hf
      have HGK : Hid ((p :: F3).length + S2.length = gk) := hgk
      have HA7 : Hid (0 < S2.length → a7 = ⟨b, (P.length + i + (F3.length + 1)) * 2, none⟩) := ha7
      have HFL : Hid (F3.length + 1 ≤ F.length) := by
        obtain ⟨F1, e⟩ := HM.out.tail
        show F3.length + 1 ≤ F.length
        rw [e]; simp
      rw [hf] at HFL
      have hc7' := hc7
      simp only [List.length_cons, hf] at ha7 HSUM ⊢
      obtain ⟨f2, hf2⟩ : ∃ f2, (F.length - (f + 1)) * 2 = f2 := ⟨_, rfl⟩
      have HF2 : Hid ((F.length - (f + 1)) * 2 = f2) := hf2
      simp only [hf2]
      have hin : (i : Int) < n := by have := HO.out; omega
      have hin' : i < n := by omega
      have HAD : Hid ((P.length + i) * 2 = o2 + i * 2) := by show (P.length + i) * 2 = o2 + i * 2; have := HO.out.1; omega
      clear hf hf2 hgk ha6
      cases S2 with
      | nil =>
        simp only [List.length_nil]
        go_upto_region 5 with fail
        go_quiet (fail)
        have HMX : Hid (MgR lt I D w b sb fb (.func (.func 18) #[] #[]) P Q F S (p :: F3) [] i (wr.drewN nq)) := HM.out.drewN nq
        clear HM
        generalize wr.drewN nq = X at *
        obtain ⟨g, g1, g2⟩ := HMX.out.rdG
        have g3 := HMX.out.free (o2 + i * 2)
        have g4 := HMX.out.free (o2 + i * 2 + 1)
        rw [HAD.out] at g1 g2
        have r1 := HMX.out.rdF
        simp only [HF.out, HF2.out] at r1
        obtain ⟨r1, r2⟩ := r1
        have HN : Hid (∀ x', x' = ((X.setCell ⟨b, o2 + i * 2, none⟩ (.int .i64 p.a)).setCell ⟨b, o2 + i * 2 + 1, none⟩ (.int .i64 p.b)).drew → MgR lt I D w b sb fb (.func (.func 18) #[] #[]) P Q F S F3 [] (i + 1) x') := fun x' e => by
          have h := (HMX.out.takeF (.inl rfl)).drew
          rw [HAD.out] at h
          rw [e]; exact h
        have h1f : (1 : Int) ≤ (f : Int) + 1 := by omega
        have HW : Hid (wrap64 ((i : Int) + 1) = ((i + 1 : Nat) : Int)) := by
          show wrap64 ((i : Int) + 1) = ((i + 1 : Nat) : Int)
          have := HO.out
          unfold wrap64; omega
        by_cases hf1 : f = 0
        · subst hf1
          go_upto_region 7 with fail
          go_region_with fail
          all_goals (go_wp2; (go_roundg (0 + 0)); (case measure => have := HGK.out; simp only [List.length_cons, List.length_nil, HF.out] at this; omega); (case rel => exact ⟨F3, [], ⟨fb, f2, none⟩, a7, c7, i + 1, by rw [HF.out, List.length_nil], by rw [HF.out], rfl, by rw [HW.out], hc7', (fun h => by rw [HF.out] at h; omega), (fun h => by simp at h), HN.out _ rfl⟩))
        · go_upto_region 7 with fail
          go_region_with fail
          all_goals (go_wp2; (go_roundg (f + 0)); (case measure => have := HGK.out; simp only [List.length_cons, List.length_nil, HF.out] at this; omega); (case rel => exact ⟨F3, [], ⟨fb, f2 + 2, none⟩, a7, c7, i + 1, by rw [HF.out, List.length_nil], by rw [HF.out], rfl, by rw [HW.out], hc7', (fun _ => by rw [HF.out]; congr 1; have := HF2.out; have := HFL.out; omega), (fun h => by simp at h), HN.out _ rfl⟩))
      | cons q S3 =>
        obtain rfl := ha7 (by simp)
        obtain ⟨s, hs⟩ : ∃ s, S3.length = s := ⟨_, rfl⟩
        have HS : Hid (S3.length = s) := hs
        simp only [List.length_cons, hs] at hc7 HSUM ⊢
        obtain ⟨q2, hq2⟩ : ∃ q2, (P.length + i + (f + 1)) * 2 = q2 := ⟨_, rfl⟩
        have HQ2 : Hid ((P.length + i + (f + 1)) * 2 = q2) := hq2
        have HD : Hid (MgR lt I D w b sb fb (.func (.func 18) #[] #[]) P Q F S (p :: F3) (q :: S3) i wr.drew) := HM.out.drew
        simp only [hq2]
        have d1 := HD.out.rdS
        have d2 := HD.out.rdF
        have d3 := HD.out.box
        simp only [List.length_cons, HF.out, hq2, HF2.out] at d1 d2
        have HDD : Hid (wr.drew.cell? ⟨b, q2, none⟩ = some (.int .i64 q.a) ∧ wr.drew.cell? ⟨b, q2 + 1, none⟩ = some (.int .i64 q.b) ∧ wr.drew.cell? ⟨fb, f2, none⟩ = some (.int .i64 p.a) ∧ wr.drew.cell? ⟨fb, f2 + 1, none⟩ = some (.int .i64 p.b) ∧ wr.drew.cell? ⟨sb, 0, none⟩ = some (.func (.func 18) #[] #[])) := ⟨d1.1, d1.2, d2.1, d2.2, d3⟩
        have hca := hcall.out wr.drew q p HD.out.inv
        clear hs hq2 ha7 d1 d2 d3
        go_upto_region 5 with fail
        go_region_held3 (fun x => x.cell? ⟨b, q2, none⟩ = some (.int .i64 q.a) ∧ x.cell? ⟨b, q2 + 1, none⟩ = some (.int .i64 q.b) ∧ x.cell? ⟨fb, f2, none⟩ = some (.int .i64 p.a) ∧ x.cell? ⟨fb, f2 + 1, none⟩ = some (.int .i64 p.b) ∧ x.cell? ⟨sb, 0, none⟩ = some (.func (.func 18) #[] #[])) (first | exact HDD.out | exact HX5.out) (first | (go_at_call 18; refine hca.mono ?_; rintro e x5 ⟨rfl, hi5, hk5⟩; have HM5 : Hid (MgR lt I D w b sb fb (.func (.func 18) #[] #[]) P Q F S (p :: F3) (q :: S3) i x5) := HD.out.call hk5 hi5; have HX5 : Hid (x5.cell? ⟨b, q2, none⟩ = some (.int .i64 q.a) ∧ x5.cell? ⟨b, q2 + 1, none⟩ = some (.int .i64 q.b) ∧ x5.cell? ⟨fb, f2, none⟩ = some (.int .i64 p.a) ∧ x5.cell? ⟨fb, f2 + 1, none⟩ = some (.int .i64 p.b) ∧ x5.cell? ⟨sb, 0, none⟩ = some (.func (.func 18) #[] #[])) := (by have d1 := HM5.out.rdS; have d2 := HM5.out.rdF; have d3 := HM5.out.box; simp only [List.length_cons, HF.out, HQ2.out, HF2.out] at d1 d2; exact ⟨d1.1, d1.2, d2.1, d2.2, d3⟩)))
        have HM6 : Hid (MgR lt I D w b sb fb (.func (.func 18) #[] #[]) P Q F S (p :: F3) (q :: S3) i x5) := HM5.out
        clear HX5 HM5 HDD HD hca hi5 hk5 HM
        obtain ⟨t, ht⟩ : ∃ t, lt q p = t := ⟨_, rfl⟩
        have HT : Hid (lt q p = t) := ht
        rw [ht]
        clear ht
        obtain ⟨g, g1, g2⟩ := HM6.out.rdG
        have g3 := HM6.out.free (o2 + i * 2)
        have g4 := HM6.out.free (o2 + i * 2 + 1)
        rw [HAD.out] at g1 g2
        cases t with
        | true =>
          have r1 := HM6.out.rdS
          simp only [List.length_cons, HF.out, HQ2.out] at r1
          obtain ⟨r1, r2⟩ := r1
          have HN : Hid (∀ x', x' = ((x5.setCell ⟨b, o2 + i * 2, none⟩ (.int .i64 q.a)).setCell ⟨b, o2 + i * 2 + 1, none⟩ (.int .i64 q.b)).drew → MgR lt I D w b sb fb (.func (.func 18) #[] #[]) P Q F S (p :: F3) S3 (i + 1) x') := fun x' e => by
            have h := (HM6.out.takeS HT.out).drew
            rw [HAD.out] at h
            rw [e]; exact h
          have HW : Hid (wrap64 ((i : Int) + 1) = ((i + 1 : Nat) : Int)) := by
            show wrap64 ((i : Int) + 1) = ((i + 1 : Nat) : Int)
            have := HO.out
            unfold wrap64; omega
          have h1s : (1 : Int) ≤ (s : Int) + 1 := by omega
          by_cases hc1 : c7 = 1
          · have hs0 : s = 0 := by omega
            subst hs0
            go_upto_region 6 with fail
            go_region_with fail
            all_goals (go_wp2; (go_roundg (f + 1)); (case measure => have := HGK.out; simp only [List.length_cons, HF.out, HS.out] at this; omega); (case rel => exact ⟨p :: F3, S3, ⟨fb, f2, none⟩, ⟨b, q2, none⟩, 0, i + 1, by rw [List.length_cons, HF.out, HS.out], by rw [List.length_cons, HF.out], by rw [HS.out], by rw [HW.out], by rw [HS.out]; omega, (fun _ => by rw [List.length_cons, HF.out, HF2.out]), (fun h => by rw [HS.out] at h; omega), HN.out _ rfl⟩))
          · go_upto_region 6 with fail
            go_region_with fail
            all_goals (go_wp2; (go_roundg (f + 1 + s)); (case measure => have := HGK.out; simp only [List.length_cons, HF.out, HS.out] at this; omega); (case rel => exact ⟨p :: F3, S3, ⟨fb, f2, none⟩, ⟨b, q2 + 2, none⟩, c7 - 1, i + 1, by rw [List.length_cons, HF.out, HS.out], by rw [List.length_cons, HF.out], by rw [HS.out], by rw [HW.out], by rw [HS.out]; omega, (fun _ => by rw [List.length_cons, HF.out, HF2.out]), (fun _ => by rw [List.length_cons, HF.out]; congr 1; have := HQ2.out; omega), HN.out _ rfl⟩))
        | false =>
          have r1 := HM6.out.rdF
          simp only [HF.out, HF2.out] at r1
          obtain ⟨r1, r2⟩ := r1
          have HN : Hid (∀ x', x' = ((x5.setCell ⟨b, o2 + i * 2, none⟩ (.int .i64 p.a)).setCell ⟨b, o2 + i * 2 + 1, none⟩ (.int .i64 p.b)).drew → MgR lt I D w b sb fb (.func (.func 18) #[] #[]) P Q F S F3 (q :: S3) (i + 1) x') := fun x' e => by
            have h := (HM6.out.takeF (.inr ⟨q, S3, rfl, HT.out⟩)).drew
            rw [HAD.out] at h
            rw [e]; exact h
          have h1f : (1 : Int) ≤ (f : Int) + 1 := by omega
          have HW : Hid (wrap64 ((i : Int) + 1) = ((i + 1 : Nat) : Int)) := by
            show wrap64 ((i : Int) + 1) = ((i + 1 : Nat) : Int)
            have := HO.out
            unfold wrap64; omega
          by_cases hf1 : f = 0
          · subst hf1
            go_upto_region 7 with fail
            go_region_with fail
            all_goals (go_wp2; (go_roundg (0 + (s + 1))); (case measure => have := HGK.out; simp only [List.length_cons, HF.out, HS.out] at this; omega); (case rel => exact ⟨F3, (q :: S3), ⟨fb, f2, none⟩, ⟨b, q2, none⟩, c7, i + 1, by rw [HF.out, List.length_cons, HS.out], by rw [HF.out], by rw [List.length_cons, HS.out], by rw [HW.out], by rw [List.length_cons, HS.out]; omega, (fun h => by rw [HF.out] at h; omega), (fun _ => by rw [HF.out]; congr 1; have := HQ2.out; omega), HN.out _ rfl⟩))
          · go_upto_region 7 with fail
            go_region_with fail
            all_goals (go_wp2; (go_roundg (f + (s + 1))); (case measure => have := HGK.out; simp only [List.length_cons, HF.out, HS.out] at this; omega); (case rel => exact ⟨F3, (q :: S3), ⟨fb, f2 + 2, none⟩, ⟨b, q2, none⟩, c7, i + 1, by rw [HF.out, List.length_cons, HS.out], by rw [HF.out], by rw [List.length_cons, HS.out], by rw [HW.out], by rw [List.length_cons, HS.out]; omega, (fun _ => by rw [HF.out]; congr 1; have := HF2.out; have := HFL.out; omega), (fun _ => by rw [HF.out]; congr 1; have := HQ2.out; omega), HN.out _ rfl⟩))
end Go.Proofs.YtjgllfpnmmopdaaGreatDoor
namespace Go.Proofs.YtjgllfpnmmopdaaGreatDoor
open Go.RowKit Tr
set_option maxHeartbeats 1000000 in
set_option maxRecDepth 20000 in
theorem sort_Ra {lt : Pr → Pr → Bool} {I : World → Prop} {D : Nat → Prop} (C : Clo prV 18 [] lt I D) : ∀ (N : Nat) {w : World} {b o2 n c : Nat} {P Q L : List Pr}, n ≤ N → RwR w b (P ++ (L ++ Q)) → o2 = P.length * 2 → L.length = n → n ≤ c → n * 16 ≤ 140737488355328 → I w → ¬ D b →
    Calls Tryz.prog 41 #[.agg #[(.func (.func 18) #[] #[])], .slice (some ⟨b, o2, none⟩) n c] w fun e w' => e = .returned (.tuple #[]) ∧ RwR w' b (P ++ (sortV lt L ++ Q)) ∧ Chg (fun j => j = b ∨ D j) w w' ∧ I w' := by
  intro N
  induction N with
  | zero =>
    intro w b o2 n c P Q L hN hM ho hL hc hb hI hDb
    obtain rfl : n = 0 := by omega
    have e : sortV lt L = L := sortV_short lt (by omega)
    have HE : Hid (∀ x, Below w.heap.size w x → RwR x b (P ++ (sortV lt L ++ Q)) ∧ Chg (fun j => j = b ∨ D j) w x ∧ I x) := fun x hx => ⟨by rw [e]; exact hM.below hx, Chg.of_below hx _, C.keep w x (fun _ => False) hI (Chg.of_below hx _) (fun _ _ e => e)⟩
    clear hM ho hL hc hb hI hDb hN e C
    go_enter Tryz.func41, Tryz.ntmps41
    go_wp2
    refine bodyPost_ret (results_none rfl _ _ _) rfl ?_
    exact ⟨rfl, HE.out _ ((Below.refl _ _).alloc (Nat.le_refl _) _)⟩
  | succ N ih =>
    intro w b o2 n c P Q L hN hM ho hL hc hb hI hDb
    obtain ⟨w1, hw1⟩ : ∃ w1, w.alloc (.cells #[(.func (.func 18) #[] #[])] 78) = w1 := ⟨_, rfl⟩
    have hb1 : Below w.heap.size w w1 := by rw [← hw1]; exact (Below.refl _ _).alloc (Nat.le_refl _) _
    have zw1 : w1.heap.size = w.heap.size + 1 := by rw [← hw1]; simp
    have cb1 : w1.cell? ⟨w.heap.size, 0, none⟩ = some (.func (.func 18) #[] #[]) := by rw [← hw1]; exact cells_at (heap_alloc_new w _) rfl
    by_cases h2 : n < 2
    · have e : sortV lt L = L := sortV_short lt (by omega)
      have HE : Hid (RwR w1 b (P ++ (sortV lt L ++ Q)) ∧ Chg (fun j => j = b ∨ D j) w w1 ∧ I w1) := ⟨by rw [e]; exact hM.below hb1, Chg.of_below hb1 _, C.keep w w1 (fun _ => False) hI (Chg.of_below hb1 _) (fun _ _ e => e)⟩
      have h2' : (n : Int) < 2 := by omega
      clear hM ho hL hc hb hI hDb hN e C ih cb1
      go_enter Tryz.func41, Tryz.ntmps41
      go_wp2
      refine bodyPost_ret (results_none rfl _ _ _) rfl ?_
      exact ⟨rfl, HE.out⟩
    · obtain ⟨h, hh⟩ : ∃ h, n / 2 = h := ⟨_, rfl⟩
      have HQ : Hid ((n : Int).tdiv 2 = (h : Int)) := by show (n : Int).tdiv 2 = (h : Int); rw [← hh]; rw [Int.tdiv_eq_ediv_of_nonneg (by omega)]; rfl
      have h2' : ¬ (n : Int) < 2 := by omega
      have HWH : Hid (wrap64 (h : Int) = (h : Int)) := wrap64_nat (by omega)
      have HH : Hid (L.take (L.length / 2) = L.take h ∧ L.drop (L.length / 2) = L.drop h) := by rw [hL, hh]; exact ⟨rfl, rfl⟩
      obtain ⟨F, hF⟩ : ∃ F, L.take h = F := ⟨_, rfl⟩
      obtain ⟨S, hS⟩ : ∃ S, L.drop h = S := ⟨_, rfl⟩
      have hFS : L = F ++ S := by rw [← hF, ← hS, List.take_append_drop]
      have hFl : F.length = h := by rw [← hF, List.length_take]; omega
      have hSl : S.length = n - h := by rw [← hS, List.length_drop]; omega
      have HSO : Hid (sortV lt L = mergeV lt (sortV lt F) (sortV lt S)) := by
        show sortV lt L = _
        rw [sortV_long lt (by omega), HH.out.1, HH.out.2, hF, hS]
      have low := C.low w hI
      have hbl := hM.lt
      have hI1 := C.keep w w1 (fun _ => False) hI (Chg.of_below hb1 _) (fun _ _ e => e)
      have kd := fun x (hx : I x) => C.keep x x.drew (fun _ => False) hx (Chg.refl _ _).drew (fun _ _ e => e)
      have hM1 : RwR w1.drew b (P ++ (F ++ (S ++ Q))) := by
        have h5 := hM.below hb1
        rw [hFS, List.append_assoc] at h5
        exact RwR.below ((Below.refl _ w1).drew) h5
      have c1 := ih (w := w1.drew) (b := b) (o2 := o2) (n := h) (c := c) (P := P) (Q := S ++ Q) (L := F) (by omega) hM1 ho hFl (by omega) (by omega) (kd _ hI1) hDb
      have HI2 : Hid (∀ x, RwR x b (P ++ (sortV lt F ++ (S ++ Q))) → I x → Calls Tryz.prog 41 #[.agg #[(.func (.func 18) #[] #[])], .slice (some ⟨b, o2 + h * 2, none⟩) (n - h) (c - h)] x.drew fun e w' => e = .returned (.tuple #[]) ∧ RwR w' b ((P ++ sortV lt F) ++ (sortV lt S ++ Q)) ∧ Chg (fun j => j = b ∨ D j) x.drew w' ∧ I w') := fun x hx hi =>
        ih (w := x.drew) (b := b) (o2 := o2 + h * 2) (n := n - h) (c := c - h) (P := P ++ sortV lt F) (Q := Q) (L := S) (by omega) (RwR.below ((Below.refl _ x).drew) (by rw [List.append_assoc]; exact hx)) (by rw [List.length_append, sort_length, hFl]; omega) hSl (by omega) (by omega) (kd _ hi) hDb
      have HI3 : Hid (∀ x, RwR x b ((P ++ sortV lt F) ++ (sortV lt S ++ Q)) → I x → Calls Tryz.prog 79 #[.agg #[(.func (.func 18) #[] #[])], .slice (some ⟨b, o2, none⟩) n c, .int .i64 h] x fun e w' => e = .returned (.tuple #[]) ∧ RwR w' b (P ++ (mergeV lt (sortV lt F) (sortV lt S) ++ Q)) ∧ Chg (fun j => j = b ∨ D j) x w' ∧ I w') := fun x hx hi =>
        merge_Ra C (by rw [List.append_assoc] at hx; exact hx) ho (by rw [sort_length, hFl]) (by rw [sort_length, hSl]; omega) (by rw [sort_length, hSl]; omega) hc hb hi hDb
      have HB1 : Hid (Below w.heap.size w w1) := hb1
      have HKS : Hid (∀ x y, Chg (fun j => j = b ∨ D j) x y → x.cell? ⟨w.heap.size, 0, none⟩ = some (.func (.func 18) #[] #[]) → y.cell? ⟨w.heap.size, 0, none⟩ = some (.func (.func 18) #[] #[])) := fun x y k hx => k.cell hx (fun e => by rcases e with e | e; (have e' : w.heap.size = b := e; omega); (have := low _ e; exact Nat.lt_irrefl _ this))
      have hhn : (h : Int) ≤ n := by omega
      have hhc : (h : Int) ≤ c := by omega
      have hcne : ¬ c = h := by omega
      have d1 : w1.drew.cell? ⟨w.heap.size, 0, none⟩ = some (.func (.func 18) #[] #[]) := cb1
      clear hM ho hL hc hb hI hDb hN C ih hM1 HH hF hS hFS hFl hSl low hI1 kd hh zw1 h2 hbl hb1
      have hwh := HWH.out
      have hq := HQ.out
      go_enter Tryz.func41, Tryz.ntmps41
      go_upto_region 3 with fail
      go_region_with (go_at_call 41; refine c1.mono ?_; rintro e w3 ⟨rfl, r3, k3, i3⟩)
      have b3 := HKS.out _ _ k3 d1
      have c2 := HI2.out w3 r3 i3
      have d3 : w3.drew.cell? ⟨w.heap.size, 0, none⟩ = some (.func (.func 18) #[] #[]) := b3
      have HK3 : Hid (Chg (fun j => j = b ∨ D j) w w3) := ((Chg.of_below HB1.out _).drew).trans k3 (fun _ _ e => e)
      clear r3 i3 k3 c1 d1
      go_upto_region 4 with fail
      go_region_with (go_at_call 41; refine c2.mono ?_; rintro e w5 ⟨rfl, r5, k5, i5⟩)
      have b5 := HKS.out _ _ k5 d3
      have c3 := HI3.out w5 r5 i5
      have HK5 : Hid (Chg (fun j => j = b ∨ D j) w w5) := (HK3.out.drew).trans k5 (fun _ _ e => e)
      clear r5 i5 k5 c2 d3 b3
      go_wp2_with fail
      refine c3.mono ?_
      rintro e w6 ⟨rfl, r6, k6, i6⟩
      go_wp2
      go_end0
      exact ⟨rfl, by rw [HSO.out]; exact r6, HK5.out.trans k6 (fun _ _ e => e), i6⟩
set_option maxHeartbeats 1000000 in
set_option maxRecDepth 20000 in
theorem Sort_Ra {lt : Pr → Pr → Bool} {I : World → Prop} {D : Nat → Prop} (C : Clo prV 18 [] lt I D) {w : World} {n c : Nat} {ao : Option Addr} {l : List Pr} (hn : n * 16 ≤ 140737488355328) (hL : l.length = n) (hnil : ao = none → n = 0) (hsrc : ∀ ad, ao = some ad → ∀ j u, (flatP l)[j]? = some u → w.cell? (ad.add j) = some u) (hI : I w) :
    Calls Tryz.prog 17 #[.slice ao n c, (.func (.func 18) #[] #[])] w fun e w' => e = .returned (.slice (some ⟨w.heap.size, 0, none⟩) n n) ∧ RwR w' w.heap.size (sortV lt l) ∧ Chg D w w' ∧ I w' := by
  have c1 := copyOf_R (c := c) hn hL hnil hsrc
  have low := C.low w hI
  have HI2 : Hid (∀ x, RwR x w.heap.size l → Below w.heap.size w x → Calls Tryz.prog 41 #[.agg #[(.func (.func 18) #[] #[])], .slice (some ⟨w.heap.size, 0, none⟩) n n] x fun e w' => e = .returned (.tuple #[]) ∧ RwR w' w.heap.size (sortV lt l) ∧ Chg (fun j => j = w.heap.size ∨ D j) x w' ∧ I w') := fun x hx hb => by
    have h1 := sort_Ra C n (w := x) (b := w.heap.size) (o2 := 0) (n := n) (c := n) (P := []) (Q := []) (L := l) (Nat.le_refl _) (by simpa using hx) rfl hL (Nat.le_refl _) hn (C.keep w x (fun _ => False) hI (Chg.of_below hb _) (fun _ _ e => e)) (fun e => Nat.lt_irrefl _ (low _ e))
    simpa using h1
  have hne : ∀ (y : Array Value) (x : World), (binOp .neq 52 (.func (.func 18) #[] y) .nilFunc).run Tryz.prog x = .ok (.bool true) x := fun y x => neq_nilFunc x 52 _ _ _ _ _ _ Tryz.underlying52
  clear hn hL hnil hsrc hI C low
  go_enter Tryz.func17, Tryz.ntmps17
  go_wp2_with fail
  refine c1.mono ?_
  rintro e w1 ⟨rfl, r1, hb1, hz1⟩
  have c2 := HI2.out w1 r1 hb1
  clear c1
  go_wp2_with fail
  refine c2.mono ?_
  rintro e w2 ⟨rfl, r2, k2, i2⟩
  go_wp2
  go_ret
  exact ⟨rfl, r2, (Chg.of_below hb1 D).trans k2 (fun j hj e => by rcases e with e | e; (exact absurd hj (by omega)); (exact e)), i2⟩
end Go.Proofs.YtjgllfpnmmopdaaGreatDoor
