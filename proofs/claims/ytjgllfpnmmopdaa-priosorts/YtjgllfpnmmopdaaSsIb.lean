/-
  Sorting rows of backfilllaw14.Item by backfilllaw14.PrioSorts$2: sort, Sort walked.
-/
import Derived.Test.YtjgllfpnmmopdaaSwIb
namespace Go.Proofs.Ytjgllfpnmmopdaa
open Go.RowKit Tr
set_option maxHeartbeats 1000000 in
set_option maxRecDepth 20000 in
theorem sort_Ib {cv : Value} {lt : Pr → Pr → Bool} {I : World → Prop} {D : Nat → Prop} (C : Clo prV 9 [cv] lt I D) : ∀ (N : Nat) {w : World} {b o2 n c : Nat} {P Q L : List Pr}, n ≤ N → RwI w b (P ++ (L ++ Q)) → o2 = P.length * 2 → L.length = n → n ≤ c → n * 16 ≤ 140737488355328 → I w → ¬ D b →
    Calls Try.prog 21 #[.agg #[(.func (.func 9) #[] #[cv])], .slice (some ⟨b, o2, none⟩) n c] w fun e w' => e = .returned (.tuple #[]) ∧ RwI w' b (P ++ (sortV lt L ++ Q)) ∧ Chg (fun j => j = b ∨ D j) w w' ∧ I w' := by
  intro N
  induction N with
  | zero =>
    intro w b o2 n c P Q L hN hM ho hL hc hb hI hDb
    obtain rfl : n = 0 := by omega
    have e : sortV lt L = L := sortV_short lt (by omega)
    have HE : Hid (∀ x, Below w.heap.size w x → RwI x b (P ++ (sortV lt L ++ Q)) ∧ Chg (fun j => j = b ∨ D j) w x ∧ I x) := fun x hx => ⟨by rw [e]; exact hM.below hx, Chg.of_below hx _, C.keep w x (fun _ => False) hI (Chg.of_below hx _) (fun _ _ e => e)⟩
    clear hM ho hL hc hb hI hDb hN e C
    go_enter Try.func21, Try.ntmps21
    go_wp2
    refine bodyPost_ret (results_none rfl _ _ _) rfl ?_
    exact ⟨rfl, HE.out _ ((Below.refl _ _).alloc (Nat.le_refl _) _)⟩
  | succ N ih =>
    intro w b o2 n c P Q L hN hM ho hL hc hb hI hDb
    obtain ⟨w1, hw1⟩ : ∃ w1, w.alloc (.cells #[(.func (.func 9) #[] #[cv])] 48) = w1 := ⟨_, rfl⟩
    have hb1 : Below w.heap.size w w1 := by rw [← hw1]; exact (Below.refl _ _).alloc (Nat.le_refl _) _
    have zw1 : w1.heap.size = w.heap.size + 1 := by rw [← hw1]; simp
    have cb1 : w1.cell? ⟨w.heap.size, 0, none⟩ = some (.func (.func 9) #[] #[cv]) := by rw [← hw1]; exact cells_at (heap_alloc_new w _) rfl
    by_cases h2 : n < 2
    · have e : sortV lt L = L := sortV_short lt (by omega)
      have HE : Hid (RwI w1 b (P ++ (sortV lt L ++ Q)) ∧ Chg (fun j => j = b ∨ D j) w w1 ∧ I w1) := ⟨by rw [e]; exact hM.below hb1, Chg.of_below hb1 _, C.keep w w1 (fun _ => False) hI (Chg.of_below hb1 _) (fun _ _ e => e)⟩
      have h2' : (n : Int) < 2 := by omega
      clear hM ho hL hc hb hI hDb hN e C ih cb1
      go_enter Try.func21, Try.ntmps21
      go_wp2
      refine bodyPost_ret (results_none rfl _ _ _) rfl ?_
      exact ⟨rfl, HE.out⟩
    · obtain ⟨h, hh⟩ : ∃ h, n / 2 = h := ⟨_, rfl⟩
      have HQ : Hid ((n : Int).tdiv 2 = (h : Int)) := by show (n : Int).tdiv 2 = (h : Int); rw [← hh]; rw [Int.tdiv_eq_ediv_of_nonneg (by omega)]; rfl
      have h2' : ¬ (n : Int) < 2 := by omega
      have HWH : Hid (wrap64 (h : Int) = (h : Int)) := wrap64_nat (by omega)
      have HH : Hid (L.take (L.length / 2) = L.take h ∧ L.drop (L.length / 2) = L.drop h) := by rw [hL, hh]; exact ⟨rfl, rfl⟩
      obtain ⟨F, hF⟩ : ∃ F, L.take h = F := ⟨_, rfl⟩
      obtain ⟨S, hS⟩ : ∃ S, L.drop h = S := ⟨_, rfl⟩
      have hFS : L = F ++ S := by rw [← hF, ← hS, List.take_append_drop]
      have hFl : F.length = h := by rw [← hF, List.length_take]; omega
      have hSl : S.length = n - h := by rw [← hS, List.length_drop]; omega
      have HSO : Hid (sortV lt L = mergeV lt (sortV lt F) (sortV lt S)) := by
        show sortV lt L = _
        rw [sortV_long lt (by omega), HH.out.1, HH.out.2, hF, hS]
      have low := C.low w hI
      have hbl := hM.lt
      have hI1 := C.keep w w1 (fun _ => False) hI (Chg.of_below hb1 _) (fun _ _ e => e)
      have kd := fun x (hx : I x) => C.keep x x.drew (fun _ => False) hx (Chg.refl _ _).drew (fun _ _ e => e)
      have hM1 : RwI w1.drew b (P ++ (F ++ (S ++ Q))) := by
        have h5 := hM.below hb1
        rw [hFS, List.append_assoc] at h5
        exact RwI.below ((Below.refl _ w1).drew) h5
      have c1 := ih (w := w1.drew) (b := b) (o2 := o2) (n := h) (c := c) (P := P) (Q := S ++ Q) (L := F) (by omega) hM1 ho hFl (by omega) (by omega) (kd _ hI1) hDb
      have HI2 : Hid (∀ x, RwI x b (P ++ (sortV lt F ++ (S ++ Q))) → I x → Calls Try.prog 21 #[.agg #[(.func (.func 9) #[] #[cv])], .slice (some ⟨b, o2 + h * 2, none⟩) (n - h) (c - h)] x.drew fun e w' => e = .returned (.tuple #[]) ∧ RwI w' b ((P ++ sortV lt F) ++ (sortV lt S ++ Q)) ∧ Chg (fun j => j = b ∨ D j) x.drew w' ∧ I w') := fun x hx hi =>
        ih (w := x.drew) (b := b) (o2 := o2 + h * 2) (n := n - h) (c := c - h) (P := P ++ sortV lt F) (Q := Q) (L := S) (by omega) (RwI.below ((Below.refl _ x).drew) (by rw [List.append_assoc]; exact hx)) (by rw [List.length_append, sort_length, hFl]; omega) hSl (by omega) (by omega) (kd _ hi) hDb
      have HI3 : Hid (∀ x, RwI x b ((P ++ sortV lt F) ++ (sortV lt S ++ Q)) → I x → Calls Try.prog 35 #[.agg #[(.func (.func 9) #[] #[cv])], .slice (some ⟨b, o2, none⟩) n c, .int .i64 h] x fun e w' => e = .returned (.tuple #[]) ∧ RwI w' b (P ++ (mergeV lt (sortV lt F) (sortV lt S) ++ Q)) ∧ Chg (fun j => j = b ∨ D j) x w' ∧ I w') := fun x hx hi =>
        merge_Ib C (by rw [List.append_assoc] at hx; exact hx) ho (by rw [sort_length, hFl]) (by rw [sort_length, hSl]; omega) (by rw [sort_length, hSl]; omega) hc hb hi hDb
      have HB1 : Hid (Below w.heap.size w w1) := hb1
      have HKS : Hid (∀ x y, Chg (fun j => j = b ∨ D j) x y → x.cell? ⟨w.heap.size, 0, none⟩ = some (.func (.func 9) #[] #[cv]) → y.cell? ⟨w.heap.size, 0, none⟩ = some (.func (.func 9) #[] #[cv])) := fun x y k hx => k.cell hx (fun e => by rcases e with e | e; (have e' : w.heap.size = b := e; omega); (have := low _ e; exact Nat.lt_irrefl _ this))
      have hhn : (h : Int) ≤ n := by omega
      have hhc : (h : Int) ≤ c := by omega
      have hcne : ¬ c = h := by omega
      have d1 : w1.drew.cell? ⟨w.heap.size, 0, none⟩ = some (.func (.func 9) #[] #[cv]) := cb1
      clear hM ho hL hc hb hI hDb hN C ih hM1 HH hF hS hFS hFl hSl low hI1 kd hh zw1 h2 hbl hb1
      have hwh := HWH.out
      have hq := HQ.out
      go_enter Try.func21, Try.ntmps21
      go_upto_region 3 with fail
      go_region_with (go_at_call 21; refine c1.mono ?_; rintro e w3 ⟨rfl, r3, k3, i3⟩)
      have b3 := HKS.out _ _ k3 d1
      have c2 := HI2.out w3 r3 i3
      have d3 : w3.drew.cell? ⟨w.heap.size, 0, none⟩ = some (.func (.func 9) #[] #[cv]) := b3
      have HK3 : Hid (Chg (fun j => j = b ∨ D j) w w3) := ((Chg.of_below HB1.out _).drew).trans k3 (fun _ _ e => e)
      clear r3 i3 k3 c1 d1
      go_upto_region 4 with fail
      go_region_with (go_at_call 21; refine c2.mono ?_; rintro e w5 ⟨rfl, r5, k5, i5⟩)
      have b5 := HKS.out _ _ k5 d3
      have c3 := HI3.out w5 r5 i5
      have HK5 : Hid (Chg (fun j => j = b ∨ D j) w w5) := (HK3.out.drew).trans k5 (fun _ _ e => e)
      clear r5 i5 k5 c2 d3 b3
      go_wp2_with fail
      refine c3.mono ?_
      rintro e w6 ⟨rfl, r6, k6, i6⟩
      go_wp2
      go_end0
      exact ⟨rfl, by rw [HSO.out]; exact r6, HK5.out.trans k6 (fun _ _ e => e), i6⟩
set_option maxHeartbeats 1000000 in
set_option maxRecDepth 20000 in
theorem Sort_Ib {cv : Value} {lt : Pr → Pr → Bool} {I : World → Prop} {D : Nat → Prop} (C : Clo prV 9 [cv] lt I D) {w : World} {n c : Nat} {ao : Option Addr} {l : List Pr} (hn : n * 16 ≤ 140737488355328) (hL : l.length = n) (hnil : ao = none → n = 0) (hsrc : ∀ ad, ao = some ad → ∀ j u, (flatP l)[j]? = some u → w.cell? (ad.add j) = some u) (hI : I w) :
    Calls Try.prog 7 #[.slice ao n c, (.func (.func 9) #[] #[cv])] w fun e w' => e = .returned (.slice (some ⟨w.heap.size, 0, none⟩) n n) ∧ RwI w' w.heap.size (sortV lt l) ∧ Chg D w w' ∧ I w' := by
  have c1 := copyOf_I (c := c) hn hL hnil hsrc
  have low := C.low w hI
  have HI2 : Hid (∀ x, RwI x w.heap.size l → Below w.heap.size w x → Calls Try.prog 21 #[.agg #[(.func (.func 9) #[] #[cv])], .slice (some ⟨w.heap.size, 0, none⟩) n n] x fun e w' => e = .returned (.tuple #[]) ∧ RwI w' w.heap.size (sortV lt l) ∧ Chg (fun j => j = w.heap.size ∨ D j) x w' ∧ I w') := fun x hx hb => by
    have h1 := sort_Ib C n (w := x) (b := w.heap.size) (o2 := 0) (n := n) (c := n) (P := []) (Q := []) (L := l) (Nat.le_refl _) (by simpa using hx) rfl hL (Nat.le_refl _) hn (C.keep w x (fun _ => False) hI (Chg.of_below hb _) (fun _ _ e => e)) (fun e => Nat.lt_irrefl _ (low _ e))
    simpa using h1
  have hne : ∀ (y : Array Value) (x : World), (binOp .neq 27 (.func (.func 9) #[] y) .nilFunc).run Try.prog x = .ok (.bool true) x := fun y x => neq_nilFunc x 27 _ _ _ _ _ _ Try.underlying27
  clear hn hL hnil hsrc hI C low
  go_enter Try.func7, Try.ntmps7
  go_wp2_with fail
  refine c1.mono ?_
  rintro e w1 ⟨rfl, r1, hb1, hz1⟩
  have c2 := HI2.out w1 r1 hb1
  clear c1
  go_wp2_with fail
  refine c2.mono ?_
  rintro e w2 ⟨rfl, r2, k2, i2⟩
  go_wp2
  go_ret
  exact ⟨rfl, r2, (Chg.of_below hb1 D).trans k2 (fun j hj e => by rcases e with e | e; (exact absurd hj (by omega)); (exact e)), i2⟩
end Go.Proofs.Ytjgllfpnmmopdaa
