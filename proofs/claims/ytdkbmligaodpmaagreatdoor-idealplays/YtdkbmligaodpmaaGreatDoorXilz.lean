/-
 LAYER 16: package ideal: a family in memory; together.
 LAYER 16: package ideal: sum, used.
 LAYER 16: package ideal: used (made by gen16q.py).
 LAYER 16: package ideal: waits.
 LAYER 16: package ideal: family.
-/
import Derived.Test.YtdkbmligaodpmaaGreatDoorXihz
import Derived.Test.YtdkbmligaodpmaaGreatDoorSfZqz
import Derived.Test.YtdkbmligaodpmaaGreatDoorXpgz
import Derived.Deep.RegionLaw
import Derived.Deep.AppendLies
namespace Go.Proofs.YtdkbmligaodpmaaGreatDoor
open Go.RowKit Wd Tr Cg Ld

theorem sumI_app (f : Nat → Int) : ∀ a b : List Nat, sumI f (a ++ b) = sumI f a + sumI f b
 | [], b => by simp [sumI]
 | x :: a, b => by simp only [List.cons_append, sumI, sumI_app f a b]; omega
theorem togN_sum {l : List Ac} (p : Nat) : ∀ k, k ≤ l.length → togN l p k = sumI (shOf l) (kidP l p k)
 | 0, _ => rfl
 | k + 1, h => by
  have ih := togN_sum (l := l) p k (by omega)
  obtain ⟨a, ha⟩ : ∃ a, l[k]? = some a := ⟨_, List.getElem?_eq_getElem (by omega)⟩
  by_cases e : a.pa = p
  ·rw [togN_yes ha e, kidP_yes ha e, sumI_app, ih]
   simp only [sumI, sh_of ha]
   omega
  ·rw [togN_no ha e, kidP_no ha e, ih]
theorem tog_sum (l : List Ac) (p : Nat) : tog l p = sumI (shOf l) (kidsV l p) := togN_sum p _ (Nat.le_refl _)
theorem sumI_take {f : Nat → Int} {ks : List Nat} {j k : Nat} (h : ks[j]? = some k) : sumI f (ks.take (j + 1)) = sumI f (ks.take j) + f k := by
 obtain ⟨hj, rfl⟩ := List.getElem?_eq_some_iff.1 h
 rw [List.take_succ_eq_append_getElem hj, sumI_app]
 simp [sumI]
theorem sumTo_take {f : Nat → Int} {s : Int} {ks : List Nat} {j k : Nat} (h : ks[j]? = some k) : sumTo f s (ks.take (j + 1)) = addS (sumTo f s (ks.take j)) (f k) := by
 obtain ⟨hj, rfl⟩ := List.getElem?_eq_some_iff.1 h
 rw [List.take_succ_eq_append_getElem hj, sumTo_last]

abbrev famV (t og n cap : Nat) (fl : Int) : Value := .agg #[.pointer (some ⟨t, 0, none⟩), .slice (some ⟨og, 0, none⟩) n cap, .int .u64 fl]
structure Fm (W : World) (t og : Nat) (l : List Ac) (lo hi : Nat → Int) : Prop where
 tree : Tree (fun _ => True) W t (l.map plainAc) (kidB (l.map plainAc))
 lo : ∀ j, j < l.length → W.cell? ⟨og, j * 2, none⟩ = some (.int .u64 (lo j))
 hi : ∀ j, j < l.length → W.cell? ⟨og, j * 2 + 1, none⟩ = some (.int .u64 (hi j))
section
variable {W W' : World} {t og : Nat} {l : List Ac} {lo hi : Nat → Int}
theorem Fm.below (h : Fm W t og l lo hi) (b : Below W.heap.size W W') : Fm W' t og l lo hi := ⟨h.tree.below b, fun j hj => keepC b (h.lo j hj), fun j hj => keepC b (h.hi j hj)⟩
theorem Fm.kids (h : Fm W t og l lo hi) (hwu : Wu l) {p : Nat} (hp : p < l.length) :
  Calls Tryz.prog 166 #[.pointer (some ⟨t, 0, none⟩), .int .i64 p] W fun e w' => ∃ v, e = .returned v ∧ w'.ownsRow W.heap.size 3 1 v (kidsV l p).length (ints (kidsV l p)) ∧ Below W.heap.size W w' := by
 obtain ⟨v, m, kv, ks, hp1, _⟩ := h.tree
 have := pkids_any hp1 hwu (p : Int)
 have e : kidsZ (l.map plainAc) (p : Int) = kidsV l p := by
  unfold kidsZ
  rw [if_pos (by simp [thereB, hp]), Int.toNat_natCast, kids_plain]
 rwa [e] at this
theorem Fm.blw (h : Fm W t og l lo hi) (hwu : Wu l) {p : Nat} (hp : p < l.length) :
  Calls Tryz.prog 170 #[.pointer (some ⟨t, 0, none⟩), .int .i64 p] W fun e w' => ∃ v, e = .returned v ∧ w'.ownsRow W.heap.size 3 1 v (bwV l p).length (ints (bwV l p)) ∧ Below W.heap.size W w' := by
 obtain ⟨v, m, kv, ks, hp1, _⟩ := h.tree
 have := pbelow_any hp1 hwu (p : Int)
 have e : belowZ (l.map plainAc) (p : Int) = bwV l p := by
  unfold belowZ
  rw [if_pos (by simp [thereB, hp]), Int.toNat_natCast]
  rfl
 rwa [e] at this
theorem Fm.get (h : Fm W t og l lo hi) (hwu : Wu l) {p : Nat} {a : Ac} (ha : l[p]? = some a) :
  Calls Tryz.prog 149 #[.pointer (some ⟨t, 0, none⟩), .int .i64 p] W fun e w' => e = .returned (.tuple #[.agg #[.string a.nm, .int .i64 a.pa, .int .i64 a.sh, .bool a.cl, .int .u64 0], .bool true]) ∧ Below W.heap.size W w' := by
 obtain ⟨v, m, kv, ks, hp1, _⟩ := h.tree
 have hl := hwu.len
 have hp := (List.getElem?_eq_some_iff.1 ha).1
 have := pget_any hp1 (by rw [List.length_map]; omega) (p : Int)
 have e : getA (l.map plainAc) (p : Int) = .tuple #[.agg #[.string a.nm, .int .i64 a.pa, .int .i64 a.sh, .bool a.cl, .int .u64 0], .bool true] := by
  unfold getA
  rw [if_pos (by simp [thereB, hp]), Int.toNat_natCast, List.getElem?_map, ha]
  rfl
 rwa [e] at this
end
set_option maxRecDepth 20000 in
set_option maxHeartbeats 2000000 in
theorem ptog_any {W : World} {t og : Nat} {l : List Ac} {lo hi : Nat → Int} (hf : Fm W t og l lo hi) (hwu : Wu l) {p : Nat} (hp : p < l.length) (n cap : Nat) (fl : Int) :
  Calls Tryz.prog 151 #[famV t og n cap fl, .int .i64 p] W fun e w' => e = .returned (.int .u64 (tog l p)) ∧ Below W.heap.size W w' := by
 have hb : Below W.heap.size W (W.alloc (.cells #[.pointer (some ⟨t, 0, none⟩), .slice (some ⟨og, 0, none⟩) n cap, .int .u64 fl] 130)) := (Below.refl _ W).alloc (Nat.le_refl _) _
 have hk := (hf.below hb).kids hwu hp
 have hbx : (W.alloc (.cells #[.pointer (some ⟨t, 0, none⟩), .slice (some ⟨og, 0, none⟩) n cap, .int .u64 fl] 130)).cell? ⟨W.heap.size, 0, none⟩ = some (.pointer (some ⟨t, 0, none⟩)) := by simp
 have ht := tog_word hwu p
 have hts := tog_sum l p
 have hbound : ∀ j, 0 ≤ sumI (shOf l) ((kidsV l p).take j) ∧ sumI (shOf l) ((kidsV l p).take j) ≤ 262144 := fun j => by
  have hn : ∀ ks : List Nat, (∀ k ∈ ks, k ∈ kidsV l p) → 0 ≤ sumI (shOf l) ks := fun ks hks => sumI_nonneg (fun k hk' => by have := (hwu.sh (hwu.kid (hks k hk')).2.1).1; omega)
  have h1 := hn ((kidsV l p).take j) (fun k hk' => List.mem_of_mem_take hk')
  have h2 := hn ((kidsV l p).drop j) (fun k hk' => List.mem_of_mem_drop hk')
  have h3 := sumI_app (shOf l) ((kidsV l p).take j) ((kidsV l p).drop j)
  rw [List.take_append_drop] at h3
  omega
 have hkid : ∀ j k, (kidsV l p)[j]? = some k → k < l.length := fun j k h => (hwu.kid (List.mem_of_getElem? h)).2.1
 have wt : IntKind.u64.wrap (tog l p) = tog l p := by rw [IntKind.wrap_u64]; omega
 have hql : (kidsV l p).length ≤ 64 := by
  have h1 : (kidsV l p).length ≤ l.length := kidP_le l p l.length
  have := hwu.len
  omega
 have HTS : Hid _ := hts
 have HBD : Hid _ := hbound
 have HKI : Hid _ := hkid
 have HF : Hid (Fm _ t og l lo hi) := hf.below hb
 have HWU : Hid (Wu l) := hwu
 clear hf hts hbound hkid ht hwu hp
 go_enter Tryz.func151, Tryz.ntmps151
 go_wp2_with fail
 refine hk.mono ?_
 rintro e w1 ⟨v, rfl, hrow, hb1⟩
 obtain ⟨ao, c, rfl, hnil, hsrc⟩ := ints_src hrow
 have hb2 := hb.trans (hb1.mono hb.size)
 have hbx1 := keepC hb1 hbx
 have HF1 : Hid (Fm w1 t og l lo hi) := HF.out.below hb1
 have HSR : Hid _ := hsrc
 obtain ⟨R, hR⟩ : ∃ R, kidsV l p = R := ⟨_, rfl⟩
 rw [hR] at HTS HBD HKI HSR hnil hql ⊢
 obtain ⟨q, hq⟩ : ∃ q, R.length = q := ⟨_, rfl⟩
 rw [hq] at hnil hql ⊢
 have HQ : Hid (R.length = q) := hq
 have HNIL : Hid (ao = none → q = 0 ∧ c = 0) := hnil
 clear hk hrow hb1 hb hbx HF hR hq hsrc hnil
 go_wp2
 go_loopg [5, 15] q (fun gk ps pj wr => ∃ j : Nat, j + gk = q ∧ pj = .int .i64 j ∧ ps = .int .i64 (sumI (shOf l) (R.take j)) ∧ Below w1.heap.size w1 wr)
 case atStart => exact ⟨0, by omega, rfl, rfl, Below.refl _ _⟩
 case round =>
  obtain ⟨j, hj, rfl, rfl, hB⟩ := hrel
  have hbx2 := keepC hB hbx1
  by_cases hlt : j < q
  ·have hlt' : (j : Int) < q := by omega
   obtain ⟨k, hk⟩ : ∃ k, R[j]? = some k := ⟨_, List.getElem?_eq_getElem (by rw [HQ.out]; exact hlt)⟩
   obtain ⟨a, ha⟩ : ∃ a, l[k]? = some a := ⟨_, List.getElem?_eq_getElem (HKI.out j k hk)⟩
   cases ao with
   | none => have := (HNIL.out rfl).1; omega
   | some ad =>
    have hcell := keepC hB (HSR.out ad rfl j (.int .i64 (k : Int)) (by simp [ints, hk]))
    have hg := (HF1.out.below hB).get HWU.out ha
    have hs := sumI_take (f := shOf l) hk
    rw [sh_of ha] at hs
    have hbd1 := HBD.out j
    have hbd2 := HBD.out (j + 1)
    generalize hS2 : sumI (shOf l) (R.take (j + 1)) = S2 at *
    generalize hS1 : sumI (shOf l) (R.take j) = S1 at *
    have hwrap : IntKind.i64.wrap (S1 + a.sh) = S2 := by rw [← hs, IntKind.wrap_i64]; omega
    have HB : Hid _ := hB
    have HJ2 : Hid (sumI (shOf l) (R.take (j + 1)) = S2) := hS2
    clear hB hk ha hs hbd1 hbd2 hS1 hS2
    go_wp2_with fail
    refine hg.mono ?_
    rintro e w3 ⟨rfl, hb3⟩
    have HB3 : Hid _ := HB.out.trans (hb3.mono HB.out.size)
    clear hg hb3
    go_wp2
    go_roundg (q - (j + 1))
    case measure => omega
    case rel => exact ⟨j + 1, by omega, rfl, by rw [HJ2.out], HB3.out.alloc HB3.out.size _⟩
  ·obtain rfl : j = q := by omega
   have HE : Hid (sumI (shOf l) (R.take j) = tog l p) := show _ = _ by rw [HTS.out, List.take_of_length_le (by rw [HQ.out]; omega)]
   have HB : Hid _ := hB
   clear hB
   rw [HE.out]
   go_wp2
   go_ret
   exact ⟨rfl, hb2.trans (HB.out.mono hb2.size)⟩
end Go.Proofs.YtdkbmligaodpmaaGreatDoor
namespace Go.Proofs.YtdkbmligaodpmaaGreatDoor
open Go.RowKit Wd Tr Cg Ld

structure SmI (W wr : World) (t og n cap : Nat) (fl a b : Int) : Prop where
 b0 : wr.cell? ⟨W.heap.size, 1, none⟩ = some (.slice (some ⟨og, 0, none⟩) n cap)
 res : Bx wr (W.heap.size + 1) (.int .u64 0) (.int .u64 0)
 tot : Bx wr (W.heap.size + 1 + 1) (.int .u64 a) (.int .u64 b)
 bel : Below W.heap.size W wr
 big : W.heap.size + 3 ≤ wr.heap.size
theorem SmI.below {W wr w' : World} {t og n cap : Nat} {fl a b : Int} (h : SmI W wr t og n cap fl a b) (x : Below wr.heap.size wr w') : SmI W w' t og n cap fl a b :=
 ⟨keepC x h.b0, h.res.below x, h.tot.below x, h.bel.trans (x.mono (by have := h.big; omega)), by have := h.big; have := x.size; omega⟩
theorem SmI.set {W wr : World} {t og n cap : Nat} {fl a b : Int} (h : SmI W wr t og n cap fl a b) (x y : Int) : SmI W ((wr.setCell ⟨W.heap.size + 1 + 1, 0, none⟩ (.int .u64 x)).setCell ⟨W.heap.size + 1 + 1, 1, none⟩ (.int .u64 y)) t og n cap fl x y := by
 obtain ⟨b0, ⟨r0, r1, r2, r3⟩, ⟨t0, t1, t2, t3⟩, bel, big⟩ := h
 exact ⟨by simp [go_sem, *], ⟨by simp [go_sem, *], by simp [go_sem, *], by simp [go_sem, *], by simp [go_sem, *]⟩, set_two ⟨t0, t1, t2, t3⟩ _ _, (bel.setCell (by simp; omega) _).setCell (by simp; omega) _, by simp; omega⟩
theorem ints_src2 {w : World} {B : Nat} {v : Value} {xs : List Nat} (h : w.ownsRow B 3 1 v xs.length (ints xs)) : ∃ ao c, v = .slice ao xs.length c ∧ (ao = none → xs.length = 0 ∧ c = 0) ∧ ∀ ad, ao = some ad → B ≤ ad.block ∧ ∀ j u, (ints xs)[j]? = some u → w.cell? (ad.add j) = some u := by
 rcases h.2 with ⟨rfl, h0⟩ | ⟨g, cap, cur, rfl, hb, r⟩
 ·exact ⟨none, 0, by rw [h0], fun _ => ⟨h0, rfl⟩, fun ad e => by cases e⟩
 ·refine ⟨_, cap, rfl, (fun e => by cases e), fun ad e => ?_⟩
  cases e
  exact ⟨hb, fun j u hu => h.cells rfl j u hu⟩
set_option maxRecDepth 20000 in
set_option maxHeartbeats 2000000 in
theorem psum_any {W : World} {t og : Nat} {l : List Ac} {lo hi : Nat → Int} (hf : Fm W t og l lo hi) (hwu : Wu l) (hlo : ∀ j, Word (lo j)) (hhi : ∀ j, Word (hi j)) {p : Nat} (hp : p < l.length) (cap : Nat) (fl : Int) :
  Calls Tryz.prog 160 #[famV t og l.length cap fl, .int .i64 p] W fun e w' => e = .returned (spV (sumTo lo 0 (bwV l p)) (sumTo hi 0 (bwV l p))) ∧ Below W.heap.size W w' := by
 obtain ⟨W3, hW3⟩ : ∃ W3, ((W.alloc (.cells #[.pointer (some ⟨t, 0, none⟩), .slice (some ⟨og, 0, none⟩) l.length cap, .int .u64 fl] 130)).alloc (.cells #[.int .u64 0, .int .u64 0] 93)).alloc (.cells #[.int .u64 0, .int .u64 0] 93) = W3 := ⟨_, rfl⟩
 have hS : SmI W W3 t og l.length cap fl 0 0 := by
  subst hW3
  have x := Bx.new (W.alloc (.cells #[.pointer (some ⟨t, 0, none⟩), .slice (some ⟨og, 0, none⟩) l.length cap, .int .u64 fl] 130)) (.int .u64 0) (.int .u64 0) 93
  have y := Bx.new ((W.alloc (.cells #[.pointer (some ⟨t, 0, none⟩), .slice (some ⟨og, 0, none⟩) l.length cap, .int .u64 fl] 130)).alloc (.cells #[.int .u64 0, .int .u64 0] 93)) (.int .u64 0) (.int .u64 0) 93
  simp only [World.size_alloc] at x y
  exact ⟨allocC _ (allocC _ (by simp)), x.alloc _ _, y, (((Below.refl _ W).alloc (Nat.le_refl _) _).alloc (by simp) _).alloc (by simp; omega) _, by simp⟩
 have h0 : W3.cell? ⟨W.heap.size, 0, none⟩ = some (.pointer (some ⟨t, 0, none⟩)) := by subst hW3; exact allocC _ (allocC _ (by simp))
 have hf3 : Fm W3 t og l lo hi := hf.below hS.bel
 have hk := hf3.blw hwu hp
 have hql : (bwV l p).length ≤ 64 := by
  have h1 := bw_len l p
  have := hwu.len
  omega
 have hkid : ∀ j k, (bwV l p)[j]? = some k → k < l.length := fun j k h => bw_lt (List.mem_of_getElem? h)
 have hll := hwu.len
 have hog : og < W.heap.size := World.block_lt_of_cell? W _ (hf.lo 0 hwu.pos)
 have HKI : Hid _ := hkid
 have HLO : Hid _ := hlo
 have HHI : Hid _ := hhi
 have HF : Hid (Fm W3 t og l lo hi) := hf3
 have HS : Hid (SmI W W3 t og l.length cap fl 0 0) := hS
 have HW3 : Hid _ := hW3
 clear hf hf3 hkid hwu hp hlo hhi hS hW3
 go_enter Tryz.func160, Tryz.ntmps160
 go_upto_region 2 with fail
 rw [HW3.out]
 clear HW3
 go_wp2_with fail
 refine hk.mono ?_
 rintro e w1 ⟨v, rfl, hrow, hb1⟩
 obtain ⟨ao, c, rfl, hnil, hsrc⟩ := ints_src2 hrow
 have HS1 : Hid (SmI W w1 t og l.length cap fl 0 0) := HS.out.below hb1
 have HF1 : Hid (Fm w1 t og l lo hi) := HF.out.below hb1
 have HSR : Hid _ := hsrc
 obtain ⟨R, hR⟩ : ∃ R, bwV l p = R := ⟨_, rfl⟩
 rw [hR] at HKI HSR hnil hql ⊢
 obtain ⟨q, hq⟩ : ∃ q, R.length = q := ⟨_, rfl⟩
 rw [hq] at hnil hql ⊢
 have HQ : Hid (R.length = q) := hq
 have HNIL : Hid (ao = none → q = 0 ∧ c = 0) := hnil
 have HR : Hid (bwV l p = R) := hR
 have HBG : Hid (W.heap.size + 3 ≤ W3.heap.size) := HS.out.big
 clear hk hrow hb1 HF HS hR hq hsrc hnil h0
 go_wp2
 go_loopg [14] q (fun gk pj wr => ∃ j : Nat, j + gk = q ∧ pj = .int .i64 j ∧ SmI W wr t og l.length cap fl (sumTo lo 0 (R.take j)) (sumTo hi 0 (R.take j)) ∧ Chg (fun j => j = W.heap.size + 1 + 1) w1 wr)
 case atStart => exact ⟨0, by omega, rfl, HS1.out, Chg.refl _ _⟩
 case round =>
  obtain ⟨j, hj, rfl, hI, hC⟩ := hrel
  by_cases hlt : j < q
  ·have hlt' : (j : Int) < q := by omega
   obtain ⟨k, hk⟩ : ∃ k, R[j]? = some k := ⟨_, List.getElem?_eq_getElem (by rw [HQ.out]; exact hlt)⟩
   have hkl := HKI.out j k hk
   have hkl' : (k : Int) < l.length := by omega
   cases ao with
   | none => have := (HNIL.out rfl).1; omega
   | some ad =>
    obtain ⟨had, hsr⟩ := HSR.out ad rfl
    have hbg := HBG.out
    have hcell := hC.cell (hsr j (.int .i64 (k : Int)) (by simp [ints, hk])) (by
     have e : (ad.add j).block = ad.block := by unfold Addr.add; split <;> rfl
     rw [e]; omega)
    have o0 := hC.cell (HF1.out.lo k hkl) (by simp; omega)
    have o1 := hC.cell (HF1.out.hi k hkl) (by simp; omega)
    have hs1 := sumTo_take (f := lo) (s := 0) hk
    have hs2 := sumTo_take (f := hi) (s := 0) hk
    have w0 : Word (sumTo lo 0 (R.take j)) := sumTo_word ⟨by decide, by decide⟩ (fun i _ => HLO.out i)
    have w1' : Word (sumTo hi 0 (R.take j)) := sumTo_word ⟨by decide, by decide⟩ (fun i _ => HHI.out i)
    have cP := plus_any (sumTo lo 0 (R.take j)) (sumTo hi 0 (R.take j)) (lo k) (hi k) w0 w1' (HLO.out k) (HHI.out k)
    have e1 : narV (sumTo lo 0 (R.take j) + lo k) = sumTo lo 0 (R.take (j + 1)) := hs1.symm
    have e2 : narV (sumTo hi 0 (R.take j) + hi k) = sumTo hi 0 (R.take (j + 1)) := hs2.symm
    rw [e1, e2] at cP
    obtain ⟨b0, res, ⟨t0, t1, t2, t3⟩, hB, hz⟩ := hI
    have HI : Hid (SmI W wr.drew t og l.length cap fl (sumTo lo 0 (R.take j)) (sumTo hi 0 (R.take j))) := SmI.below ⟨b0, res, ⟨t0, t1, t2, t3⟩, hB, hz⟩ (drew_belowI wr)
    have HC : Hid _ := hC
    clear hs1 hs2 e1 e2 w0 w1' hC hk hsr had hbg hB res
    generalize sumTo lo 0 (R.take j) = A at *
    generalize sumTo hi 0 (R.take j) = C at *
    generalize hA2 : sumTo lo 0 (R.take (j + 1)) = A2 at *
    generalize hC2 : sumTo hi 0 (R.take (j + 1)) = C2 at *
    have HA2 : Hid (sumTo lo 0 (R.take (j + 1)) = A2 ∧ sumTo hi 0 (R.take (j + 1)) = C2) := show _ ∧ _ from ⟨hA2, hC2⟩
    clear hA2 hC2
    have hk0 : (0 : Int) ≤ k := by omega
    go_wp2_with fail
    go_region_with (first
     | (go_at_call 164; refine (cP _).mono ?_; rintro e x ⟨rfl, hx⟩; have u0 := keepC hx t0; have u1 := keepC hx t1; have v0 := keepF hx t0 t2; have v1 := keepF hx t1 t3; have HX : Hid (Below wr.drew.heap.size wr.drew x) := hx))
    all_goals
     have HI2 : Hid _ := (HI.out.below HX.out).set A2 C2
     have HC2 : Hid (Chg (fun j => j = W.heap.size + 1 + 1) w1 x) := (HC.out.drew).trans (Chg.of_below HX.out _) (fun _ _ h => h)
     clear HI HC HX
     go_wp2
     go_roundg (q - (j + 1))
     case measure => omega
     case rel => exact ⟨j + 1, by omega, rfl, by rw [HA2.out.1, HA2.out.2]; exact HI2.out, HC2.out.two⟩
  ·obtain rfl : j = q := by omega
   have HE : Hid (R.take j = R) := show R.take j = R by rw [List.take_of_length_le (by rw [HQ.out]; omega)]
   rw [HE.out] at hI
   obtain ⟨_, ⟨r0, r1, r2, r3⟩, ⟨t0, t1, _, _⟩, hB, hz⟩ := hI
   clear hC HE
   go_wp2
   exact bodyPost_ret (v := spV (sumTo lo 0 R) (sumTo hi 0 R)) (by simp [results, Tryz.results160, go_sem, *]) rfl ⟨by rw [HR.out], (hB.setCell (by simp) _).setCell (by simp) _⟩
end Go.Proofs.YtdkbmligaodpmaaGreatDoor
namespace Go.Proofs.YtdkbmligaodpmaaGreatDoor
open Go.RowKit Wd Tr Cg Ld

def Q3 (w : World) (k r : Nat) (t og n cap : Nat) (fl : Int) (x : World) : Prop := x.cell? ⟨k, 0, none⟩ = some (.pointer (some ⟨t, 0, none⟩)) ∧ x.cell? ⟨k, 1, none⟩ = some (.slice (some ⟨og, 0, none⟩) n cap) ∧ x.cell? ⟨k, 2, none⟩ = some (.int .u64 fl) ∧ x.cell? ⟨r, 0, none⟩ = some (cvA x ⟨r, 0, none⟩) ∧ x.cell? ⟨r, 1, none⟩ = some (cvA x ⟨r, 1, none⟩) ∧ x.frozen? ⟨r, 0, none⟩ = false ∧ x.frozen? ⟨r, 1, none⟩ = false ∧ Below w.heap.size w x ∧ w.heap.size ≤ x.heap.size
theorem Q3.keep {w x y : World} {k r : Nat} {t og n cap : Nat} {fl : Int} (h : Q3 w k r t og n cap fl x) (bw : Below x.heap.size x y) : Q3 w k r t og n cap fl y := by
 obtain ⟨h0, h1, h2, r0, r1, f0, f1, hB, hz⟩ := h
 exact ⟨keepC bw h0, keepC bw h1, keepC bw h2, cvA_keep bw r0, cvA_keep bw r1, keepF bw r0 f0, keepF bw r1 f1, hB.trans (bw.mono hz), Nat.le_trans hz bw.size⟩
theorem Q3.store {w x : World} {k r : Nat} {t og n cap : Nat} {fl : Int} (u v : Value) (h : Q3 w k r t og n cap fl x) (nk : k ≠ r) (hr : w.heap.size ≤ r) : Q3 w k r t og n cap fl ((x.setCell ⟨r, 0, none⟩ u).setCell ⟨r, 1, none⟩ v) := by
 obtain ⟨h0, h1, h2, r0, r1, f0, f1, hB, hz⟩ := h
 exact ⟨by simp [go_sem, *], by simp [go_sem, *], by simp [go_sem, *], by unfold cvA; simp [go_sem, *], by unfold cvA; simp [go_sem, *], by simp [go_sem, *], by simp [go_sem, *], (hB.setCell hr _).setCell hr _, by simp; exact hz⟩
theorem Q3.tail {w x : World} {k r : Nat} {t og n cap : Nat} {fl : Int} (h : Q3 w k r t og n cap fl x) : x.cell? ⟨r, 0, none⟩ = some (cvA x ⟨r, 0, none⟩) ∧ x.cell? ⟨r, 1, none⟩ = some (cvA x ⟨r, 1, none⟩) ∧ Below w.heap.size w x := by
 obtain ⟨_, _, _, r0, r1, _, _, hB, _⟩ := h
 exact ⟨r0, r1, hB⟩
theorem Q3.bel {w x : World} {k r t og n cap : Nat} {fl : Int} (h : Q3 w k r t og n cap fl x) : Below w.heap.size w x := h.2.2.2.2.2.2.2.1
structure Fs (W : World) (t og : Nat) (m k : List Ac) : Prop where
 fm : Fm W t og m (usOf m) (usOf k)
 sd : Side m k
theorem Fs.below {W W' : World} {t og : Nat} {m k : List Ac} (h : Fs W t og m k) (b : Below W.heap.size W W') : Fs W' t og m k := ⟨h.fm.below b, h.sd⟩
theorem Fs.sum {W : World} {t og : Nat} {m k : List Ac} (h : Fs W t og m k) {p : Nat} (hp : p < m.length) (cap : Nat) (fl : Int) :
  Calls Tryz.prog 160 #[famV t og m.length cap fl, .int .i64 p] W fun e w' => e = .returned (spV (sumV m p) (sumV k p)) ∧ Below W.heap.size W w' := by
 have c := psum_any h.fm h.sd.wu (us_word h.sd.ul) (us_word h.sd.um) hp cap fl
 rw [sum_to h.sd.wu h.sd.ul hp, h.sd.alike.bw, sum_to h.sd.wm h.sd.um (h.sd.lt hp)] at c
 exact c
theorem narD {x : Int} (h : x ≤ 9223372036854775808) : narV x = x := nar_small (by omega)
theorem min_nar {x : Int} : min (narV x) 9223372036854775808 = if x ≤ 9223372036854775808 then x else 9223372036854775808 := by
 unfold narV
 by_cases h : x ≤ 9223372036854775808
 ·rw [if_pos h, if_pos (by omega)]
  omega
 ·rw [if_neg h]
  split <;> omega
theorem u_low {m k : List Ac} (s : Side m k) {fl : Int} (hw : Word fl) {p : Nat} (hp : p < m.length) : 0 ≤ uV m (wV k fl) p ∧ uV m (wV k fl) p ≤ 9223372036854775808 := by
 have := u_word s.ul (s.wok hw).word ((s.wok hw).most p hp)
 omega
set_option maxRecDepth 20000 in
set_option maxHeartbeats 1000000 in
theorem pused_any {W : World} {t og : Nat} {m k : List Ac} (hf : Fs W t og m k) {fl : Int} (hw : Word fl) (h0 : 0 < fl) {p : Nat} (hp : p < m.length) (cap : Nat) :
  Calls Tryz.prog 148 #[famV t og m.length cap fl, .int .i64 p] W fun e w' => e = .returned (spV (uV m (wV k fl) p) (uH k (wV m fl) p)) ∧ Below W.heap.size W w' := by
 have cS := fun (x : World) (hx : Below W.heap.size W x) => (hf.below hx).sum hp cap fl
 have cR := fun (x : World) (hx : Below W.heap.size W x) => (hf.below hx).sum hf.sd.wu.pos cap fl
 have ha := sum_word hf.sd.ul p
 have hb := sum_word hf.sd.um p
 have hc : Word (mxV (sumV m 0) fl) := mx_word (sum_word hf.sd.ul 0) hw
 have hd : Word (mxV (sumV k 0) fl) := mx_word (sum_word hf.sd.um 0) hw
 have c0 : mxV (sumV m 0) fl ≠ 0 := by have := w_ge m fl; unfold wV at this; unfold mxV; omega
 have d0 : mxV (sumV k 0) fl ≠ 0 := by have := w_ge k fl; unfold wV at this; unfold mxV; omega
 have HE : Hid (narV (sumV m p * 9223372036854775808 / mxV (sumV k 0) fl) = uV m (wV k fl) p ∧ min (narV (cl (sumV k p * 9223372036854775808) (mxV (sumV m 0) fl))) 9223372036854775808 = uH k (wV m fl) p) := by
  refine show _ ∧ _ from ⟨narD (u_low hf.sd hw hp).2, min_nar⟩
 have HS : Hid (Q3 W W.heap.size (W.heap.size + 1) t og m.length cap fl ((W.alloc (.cells #[.pointer (some ⟨t, 0, none⟩), .slice (some ⟨og, 0, none⟩) m.length cap, .int .u64 fl] 130)).alloc (.cells #[.int .u64 0, .int .u64 0] 93)).drew) := ⟨by simp [go_sem], by simp [go_sem], by simp [go_sem], cvA_of (v := .int .u64 0) (by simp [go_sem]), cvA_of (v := .int .u64 0) (by simp [go_sem]), by simp [go_sem], by simp [go_sem], (((Below.refl W.heap.size W).alloc (Nat.le_refl _) _).alloc (by simp) _).drew, by simp; omega⟩
 have HT : ∀ (x : World) (u v : Value), Q3 W W.heap.size (W.heap.size + 1) t og m.length cap fl x → Q3 W W.heap.size (W.heap.size + 1) t og m.length cap fl ((x.setCell ⟨W.heap.size + 1, 0, none⟩ u).setCell ⟨W.heap.size + 1, 1, none⟩ v) := fun x u v h => Q3.store u v h (by omega) (by omega)
 rw [← HE.out.1, ← HE.out.2]
 have e00 : ((0 : Nat) : Int) = 0 := rfl
 rw [e00] at cR
 clear hf hp h0 hw e00
 generalize sumV m p = A at *
 generalize sumV k p = C at *
 generalize sumV m 0 = A0 at *
 generalize sumV k 0 = C0 at *
 generalize m.length = L at *
 go_enter Tryz.func148, Tryz.ntmps148
 go_upto_region 1 with fail
 go_region_held3 (fun x => x.cell? ⟨W.heap.size, 0, none⟩ = some (.pointer (some ⟨t, 0, none⟩)) ∧ x.cell? ⟨W.heap.size, 1, none⟩ = some (.slice (some ⟨og, 0, none⟩) L cap) ∧ x.cell? ⟨W.heap.size, 2, none⟩ = some (.int .u64 fl) ∧ x.cell? ⟨W.heap.size + 1, 0, none⟩ = some (cvA x ⟨W.heap.size + 1, 0, none⟩) ∧ x.cell? ⟨W.heap.size + 1, 1, none⟩ = some (cvA x ⟨W.heap.size + 1, 1, none⟩) ∧ x.frozen? ⟨W.heap.size + 1, 0, none⟩ = false ∧ x.frozen? ⟨W.heap.size + 1, 1, none⟩ = false ∧ Below W.heap.size W x ∧ W.heap.size ≤ x.heap.size) (first | exact HS.out | assumption | exact Q3.keep (by assumption) (by assumption) | exact HT _ _ _ (by assumption))
  (first
   | (go_at_call_of 160 (Value.int IntKind.i64 (p : Int)); refine (cS _ (Q3.bel (by first | exact HS.out | assumption))).mono ?_; rintro e x ⟨rfl, hx⟩)
   | (go_at_call 160; refine (cR _ (Q3.bel (by first | exact HS.out | assumption))).mono ?_; rintro e x ⟨rfl, hx⟩)
   | (go_at_call 162; refine (satl_any _ _ _ _).mono ?_; rintro e x ⟨rfl, hx⟩)
   | (go_at_call 161; refine (of_any' _ _ _ _ (by assumption) (by assumption) (by assumption) (by assumption) (by assumption) (by assumption) _).mono ?_; rintro e x ⟨rfl, hx⟩))
 all_goals
  rename_i hHeld
  have hS : Q3 W W.heap.size (W.heap.size + 1) t og L cap fl _ := hHeld
  clear hHeld
  obtain ⟨z0, z1, hB⟩ := hS.tail
  obtain ⟨v0, v1, q0, q1⟩ := two_read z0 z1
  clear HS HT hS z0 z1
  go_wp2
  exact bodyPost_ret (v := spV (narV (A * 9223372036854775808 / mxV C0 fl)) (min (narV (cl (C * 9223372036854775808) (mxV A0 fl))) 9223372036854775808)) (by simp [results, Tryz.results148, go_sem, q0, q1]) rfl ⟨rfl, hB⟩
end Go.Proofs.YtdkbmligaodpmaaGreatDoor
namespace Go.Proofs.YtdkbmligaodpmaaGreatDoor
open Go.RowKit Wd Tr Cg Ld

structure Jb where
 ac : Int
 no : Int
 li : Int
 su : Int
 st : Int
 sr : Int
 en : Int
 sa : Option Addr
 sl : Nat
 sc : Nat
abbrev jbL (j : Jb) : Array Value := #[.int .i64 j.ac, .int .i64 j.no, .int .i64 j.li, .int .i64 j.su, .int .i64 j.st, .int .i64 j.sr, .int .i64 j.en, .slice j.sa j.sl j.sc]
abbrev jbV (j : Jb) : Value := .agg (jbL j)
def wtB (c : Cf) (L : List Bd) (now : Int) (j : Jb) : Bool := okA L j.ac && (decide (0 ≤ j.su) && (decide (j.su ≤ now) && (decide (now ≤ 1099511627776) && (decide (1 ≤ j.no) && decide (j.no ≤ c.nodes)))))
theorem Idl.draw {c : Cf} {B : Nat} {W : World} {d : Nat} {v : Value} {L : List Bd} (h : Idl c B W d v L) (n : Nat) : Idl c B (W.drewN n) d v L := ⟨h.blk, h.row, h.lo, h.ok, h.few⟩
theorem bel_draw (w : World) (n : Nat) : Below w.heap.size w (w.drewN n) := ⟨rfl, rfl, rfl, Nat.le_refl _, fun _ _ => rfl⟩
set_option maxRecDepth 20000 in
set_option maxHeartbeats 1000000 in
theorem waits_any {c : Cf} {B : Nat} {w : World} {d : Nat} {v : Value} {L : List Bd} (h : Idl c B w d v L) (now : Int) (j : Jb) :
  Calls Tryz.prog 63 #[.pointer (some ⟨d, 0, none⟩), .int .i64 now, jbV j] w fun e w' => e = .returned (.bool (wtB c L now j)) ∧ Below w.heap.size w w' := by
 have hb : Below w.heap.size w (w.alloc (.cells (jbL j) 39)) := (Below.refl _ w).alloc (Nat.le_refl _) _
 have h2 := h.below hb
 have HA : Hid (∀ m, Calls Tryz.prog 41 #[.pointer (some ⟨d, 0, none⟩), .int .i64 j.ac] ((w.alloc (.cells (jbL j) 39)).drewN m) fun e w' => e = .returned (.bool (okA L j.ac)) ∧ w' = (w.alloc (.cells (jbL j) 39)).drewN m) := fun m => ihas_any (h2.draw m) j.ac
 have c1 := h2.c1
 have b0 : (w.alloc (.cells (jbL j) 39)).cell? ⟨w.heap.size, 0, none⟩ = some (.int .i64 j.ac) := by simp
 have b1 : (w.alloc (.cells (jbL j) 39)).cell? ⟨w.heap.size, 1, none⟩ = some (.int .i64 j.no) := by simp
 have b3 : (w.alloc (.cells (jbL j) 39)).cell? ⟨w.heap.size, 3, none⟩ = some (.int .i64 j.su) := by simp
 have HB : Hid (Below w.heap.size w (w.alloc (.cells (jbL j) 39))) := hb
 clear h h2 hb
 have fin : ∀ n, Below w.heap.size w ((w.alloc (.cells (jbL j) 39)).drewN n) := fun n => HB.out.trans ((bel_draw _ n).mono HB.out.size)
 have HFIN : Hid _ := fin
 clear fin HB
 unfold wtB
 cases hk : okA L j.ac with
 | false =>
  rw [hk] at HA
  rw [Bool.false_and]
  go_enter Tryz.func63, Tryz.ntmps63
  go_upto_region 1 with fail
  generalize w.alloc (.cells (jbL j) 39) = w1 at *
  go_quiet ((go_at_call 41; exact Calls.quiet_of_same (HA.out _)))
  go_wp2
  go_ret
  exact ⟨rfl, HFIN.out _⟩
 | true =>
  rw [hk] at HA
  rw [Bool.true_and]
  have key : ∀ (p q r s t : Bool), decide (0 ≤ j.su) = p → decide (j.su ≤ now) = q → decide (now ≤ 1099511627776) = r → decide (1 ≤ j.no) = s → decide (j.no ≤ c.nodes) = t →
    Calls Tryz.prog 63 #[.pointer (some ⟨d, 0, none⟩), .int .i64 now, jbV j] w fun e w' => e = .returned (.bool (p && (q && (r && (s && t))))) ∧ Below w.heap.size w w' := by
   intro p q r s t hp hq hr hs ht
   clear hk
   cases p with
   | false =>
    clear hq hr hs ht
    go_enter Tryz.func63, Tryz.ntmps63
    go_upto_region 1 with fail
    generalize w.alloc (.cells (jbL j) 39) = w1 at *
    go_quiet ((go_at_call 41; exact Calls.quiet_of_same (HA.out _)))
    go_wp2
    go_ret
    exact ⟨rfl, HFIN.out _⟩
   | true =>
   cases q with
   | false =>
    clear hr hs ht
    go_enter Tryz.func63, Tryz.ntmps63
    go_upto_region 1 with fail
    generalize w.alloc (.cells (jbL j) 39) = w1 at *
    go_quiet ((go_at_call 41; exact Calls.quiet_of_same (HA.out _)))
    go_wp2
    go_ret
    exact ⟨rfl, HFIN.out _⟩
   | true =>
   cases r with
   | false =>
    clear hs ht
    go_enter Tryz.func63, Tryz.ntmps63
    go_upto_region 1 with fail
    generalize w.alloc (.cells (jbL j) 39) = w1 at *
    go_quiet ((go_at_call 41; exact Calls.quiet_of_same (HA.out _)))
    go_wp2
    go_ret
    exact ⟨rfl, HFIN.out _⟩
   | true =>
   cases s with
   | false =>
    clear ht
    go_enter Tryz.func63, Tryz.ntmps63
    go_upto_region 1 with fail
    generalize w.alloc (.cells (jbL j) 39) = w1 at *
    go_quiet ((go_at_call 41; exact Calls.quiet_of_same (HA.out _)))
    go_wp2
    go_ret
    exact ⟨rfl, HFIN.out _⟩
   | true =>
    cases t with
    | false =>
     go_enter Tryz.func63, Tryz.ntmps63
     go_upto_region 1 with fail
     generalize w.alloc (.cells (jbL j) 39) = w1 at *
     go_quiet ((go_at_call 41; exact Calls.quiet_of_same (HA.out _)))
     go_wp2
     go_ret
     exact ⟨rfl, HFIN.out _⟩
    | true =>
     go_enter Tryz.func63, Tryz.ntmps63
     go_upto_region 1 with fail
     generalize w.alloc (.cells (jbL j) 39) = w1 at *
     go_quiet ((go_at_call 41; exact Calls.quiet_of_same (HA.out _)))
     go_wp2
     go_ret
     exact ⟨rfl, HFIN.out _⟩
  exact key _ _ _ _ _ rfl rfl rfl rfl rfl
end Go.Proofs.YtdkbmligaodpmaaGreatDoor
namespace Go.Proofs.YtdkbmligaodpmaaGreatDoor
open Go.RowKit Wd Tr Cg Ld

def flat2 : List (Int × Int) → List Value
 | [] => []
 | p :: l => .int .u64 p.1 :: .int .u64 p.2 :: flat2 l
theorem flat2_len : ∀ l : List (Int × Int), (flat2 l).length = l.length * 2
 | [] => rfl
 | p :: l => by simp only [flat2, List.length_cons, flat2_len l]; omega
theorem flat2_app : ∀ l m : List (Int × Int), flat2 (l ++ m) = flat2 l ++ flat2 m
 | [], _ => rfl
 | p :: l, m => by simp only [List.cons_append, flat2, flat2_app l m]
theorem flat2_one : ∀ l : List (Int × Int), ∀ u ∈ flat2 l, u.oneCell' = true
 | [], u, h => by cases h
 | p :: l, u, h => by
  simp only [flat2, List.mem_cons] at h
  rcases h with rfl | rfl | h
  ·rfl
  ·rfl
  ·exact flat2_one l u h
theorem flat2_at : ∀ {l : List (Int × Int)} {k : Nat} {p : Int × Int}, l[k]? = some p → (flat2 l)[k * 2]? = some (.int .u64 p.1) ∧ (flat2 l)[k * 2 + 1]? = some (.int .u64 p.2)
 | [], k, p, h => by simp at h
 | c :: l, 0, p, h => by
  simp only [List.getElem?_cons_zero, Option.some.injEq] at h
  subst h
  exact ⟨rfl, rfl⟩
 | c :: l, k + 1, p, h => by
  simp only [List.getElem?_cons_succ] at h
  obtain ⟨h0, h1⟩ := flat2_at h
  have e : (k + 1) * 2 = k * 2 + 2 := by omega
  rw [e]
  exact ⟨h0, h1⟩
def shL (L : List Bd) : List (Int × Int) := L.map fun b => (loS b, hiS b)
theorem shL_len (L : List Bd) : (shL L).length = L.length := by simp [shL]
theorem shL_take {L : List Bd} {j : Nat} {b : Bd} (h : L[j]? = some b) : shL (L.take (j + 1)) = shL (L.take j) ++ [(loS b, hiS b)] := by
 obtain ⟨hj, rfl⟩ := List.getElem?_eq_some_iff.1 h
 unfold shL
 rw [List.take_succ_eq_append_getElem hj, List.map_append]
 rfl
theorem Tryz.infSp : (Tryz.prog.info? 93).map (fun i => (i.zero, i.size, i.bytes)) = some (some (.agg #[.int .u64 0, .int .u64 0]), 2, 16) := by kernel_rfl
theorem step_cl {ops : Array Oper} {o : Oper} {a : Act} {w : World} {K : Act → World → Prop} {Q : Exit → Act → World → Prop} {E : Prop} (hgd : o.guard = none) (x : Operand)
  (ho : o.op = .call { callee := .value (.func 110), args := #[x], argTypes := #[100] }) (vx : Value) (hx : a.eval x = vx) (R : Ending → World → Prop) (hc : Calls Tryz.prog 110 #[vx] w R)
  (hK : ∀ e w', R e w' → ∃ v, e = .returned v ∧ K (a.put o.dst v) w') :
  if Region.wanted o (yielded ops a.tmps) = true then Oper.wp Tryz.prog o a w K Q else E := by
 have hw : Region.wanted o (yielded ops a.tmps) = true := by simp [Region.wanted, hgd]
 rw [if_pos hw]
 unfold Oper.wp
 have hr : (execOp a.eval o).run Tryz.prog w = .ok (.enter 110 #[vx]) w := by
  subst hx
  simp [execOp, ho, resolve, invoke, go_sem]
 rw [hr, Oper.upon_enter]
 refine hc.mono ?_
 intro e w' h
 obtain ⟨v, rfl, hk⟩ := hK e w' h
 exact hk
structure FyI (W wr : World) (t : Nat) (fl : Int) (v : Value) (xs : List (Int × Int)) : Prop where
 res : wr.heap[W.heap.size]? = some (.cells #[.pointer none, .slice none 0 0, .int .u64 0] 130 (0, 0))
 box : wr.heap[W.heap.size + 1]? = some (.cells #[.pointer (some ⟨t, 0, none⟩), v, .int .u64 fl] 130 (0, 0))
 row : wr.ownsRow (W.heap.size + 2) 93 2 v xs.length (flat2 xs)
 bel : Below W.heap.size W wr
 big : W.heap.size + 2 ≤ wr.heap.size
theorem FyI.below {W wr w' : World} {t : Nat} {fl : Int} {v : Value} {xs : List (Int × Int)} (h : FyI W wr t fl v xs) (x : Below wr.heap.size wr w') : FyI W w' t fl v xs :=
 ⟨heapK h.res x, heapK h.box x, row_kept h.row x, h.bel.trans (x.mono (by have := h.big; omega)), by have := h.big; have := x.size; omega⟩
theorem FyI.more {W wr w1 : World} {t : Nat} {fl : Int} {v v' : Value} {xs : List (Int × Int)} {p : Int × Int} (h : FyI W wr t fl v xs) (hrow : w1.ownsRow (W.heap.size + 2) 93 2 v' (xs.length + 1) (flat2 xs ++ [.int .u64 p.1, .int .u64 p.2])) (hg : (wr.alloc (.cells #[.int .u64 p.1, .int .u64 p.2] 93)).grownBy w1 v.ownBlock) :
  w1.heap[W.heap.size + 1]? = some (.cells #[.pointer (some ⟨t, 0, none⟩), v, .int .u64 fl] 130 (0, 0)) ∧ FyI W (w1.setCell ⟨W.heap.size + 1, 1, none⟩ v') t fl v' (xs ++ [p]) := by
 have hz := h.big
 have hv : ∀ k, v.ownBlock = some k → W.heap.size + 2 ≤ k := fun k hk => (h.row.lt k hk).1
 have hv' : ∀ k, v'.ownBlock = some k → W.heap.size + 2 ≤ k := fun k hk => (hrow.lt k hk).1
 have keep : ∀ k x, wr.heap[k]? = some x → k < W.heap.size + 2 → w1.heap[k]? = some x := fun k x hx hk => by
  have hlt : k < wr.heap.size := (Array.getElem?_eq_some_iff.1 hx).1
  exact (hg.block k (by simp; omega) (fun e => by have := hv k e.symm; omega)).trans ((Below.heap_alloc _ _ _ hlt).trans hx)
 have b1 := keep _ _ h.box (by omega)
 refine ⟨b1, ⟨?_, ?_, ?_, ?_, ?_⟩⟩
 ·rw [Below.heap_setCell _ _ _ _ (by simp)]
  exact keep _ _ h.res (by omega)
 ·exact heap_setCell_same w1 (W.heap.size + 1) 1 _ 130 v' b1
 ·have e : flat2 xs ++ [.int .u64 p.1, .int .u64 p.2] = flat2 (xs ++ [p]) := by rw [flat2_app]; rfl
  rw [e] at hrow
  have hl : (xs ++ [p]).length = xs.length + 1 := by simp
  rw [hl]
  exact row_same hrow (fun k hk => Below.heap_setCell _ _ _ _ (fun e => by have := hv' k hk; simp at e; omega))
 ·refine Below.setCell ?_ (by simp) _
  have hb1 : Below W.heap.size W (wr.alloc (.cells #[.int .u64 p.1, .int .u64 p.2] 93)) := h.bel.alloc (by omega) _
  exact hb1.grown hg (by simp; omega) (fun k e => by have := hv k e; omega)
 ·have := hg.size
  simp at this ⊢
  omega
set_option maxRecDepth 20000 in
set_option maxHeartbeats 2000000 in
theorem family_any {c : Cf} {B : Nat} {W : World} {d : Nat} {v : Value} {L : List Bd} (h : Idl c B W d v L) (t : Nat) :
  Calls Tryz.prog 65 #[.pointer (some ⟨d, 0, none⟩), .pointer (some ⟨t, 0, none⟩)] W fun e w' => ∃ vo, e = .returned (.agg #[.pointer (some ⟨t, 0, none⟩), vo, .int .u64 (flo c)]) ∧ w'.ownsRow (W.heap.size + 2) 93 2 vo L.length (flat2 (shL L)) ∧ Below W.heap.size W w' := by
 obtain ⟨i0, hi0, hz0, hz1, hz2⟩ := info_parts Tryz.infSp
 obtain ⟨W2, hW2⟩ : ∃ W2, (W.alloc (.cells #[.pointer none, .slice none 0 0, .int .u64 0] 130)).alloc (.cells #[.pointer (some ⟨t, 0, none⟩), .slice none 0 0, .int .u64 (flo c)] 130) = W2 := ⟨_, rfl⟩
 have hS : FyI W W2 t (flo c) (.slice none 0 0) [] := by
  subst hW2
  refine ⟨(Below.heap_alloc _ _ _ (by simp)).trans (heap_alloc_new _ _), ?_, World.ownsRow_nil _ _ _ _, ((Below.refl _ W).alloc (Nat.le_refl _) _).alloc (by simp) _, by simp⟩
  have := heap_alloc_new (W.alloc (.cells #[.pointer none, .slice none 0 0, .int .u64 0] 130)) (.cells #[.pointer (some ⟨t, 0, none⟩), .slice none 0 0, .int .u64 (flo c)] 130)
  simp only [World.size_alloc] at this
  exact this
 have h5a : (W.alloc (.cells #[.pointer none, .slice none 0 0, .int .u64 0] 130)).cell? ⟨d, 5, none⟩ = some (.int .u64 (flo c)) := allocC _ h.c5
 have h2 := h.below hS.bel
 obtain ⟨q, hq⟩ : ∃ q, L.length = q := ⟨_, rfl⟩
 have hfew := h.few
 obtain ⟨ao, cp, hv⟩ := h.shape
 have c0 := h2.c0
 subst hv
 rw [hq] at c0 hfew ⊢
 have HI0 : Hid _ := h
 have HQ : Hid (L.length = q) := hq
 have HS : Hid _ := hS
 have HW2 : Hid _ := hW2
 clear h h2 hS hW2 hq
 go_enter Tryz.func65, Tryz.ntmps65
 go_upto_region 2 with fail
 rw [HW2.out]
 clear HW2 h5a
 go_wp2
 clear c0
 go_loopg [19] q (fun gk pj wr => ∃ (j : Nat) (vo : Value), j + gk = q ∧ pj = .int .i64 j ∧ FyI W wr t (flo c) vo (shL (L.take j)))
 case atStart => exact ⟨0, _, by omega, rfl, HS.out⟩
 case round =>
  obtain ⟨j, vo, hj, rfl, hI⟩ := hrel
  obtain ⟨aov, cv, hvo⟩ := sl_shape hI.row
  subst hvo
  by_cases hlt : j < q
  ·have hlt' : (j : Int) < q := by omega
   obtain ⟨b, hb⟩ : ∃ b, L[j]? = some b := ⟨_, List.getElem?_eq_getElem (by rw [HQ.out]; exact hlt)⟩
   obtain ⟨g, cp', cs, hv, hg, hbd, _⟩ := (HI0.out.below hI.bel).wrote hb
   rw [HQ.out] at hv
   cases hv
   have hok := HI0.out.ok b (List.mem_of_getElem? hb)
   have a0 := (cell_of hg hbd.a0).1
   have a1 := (cell_of hg hbd.a1).1
   have a2 := (cell_of hg hbd.a2).1
   have a3 : wr.cell? ⟨g, j * 4 + 3, none⟩ = some (.int .u64 (loW b.hi)) := (cell_of hg hbd.a3).1
   have hst := shL_take hb
   have hlen : (shL (L.take j)).length = j := by rw [shL_len, List.length_take, HQ.out]; omega
   have cR := rounded_any b.lo b.hi hok.lon hok.hin
   have HE : Hid ((narV (b.lo / 4294967296), narV (cl b.hi 4294967296)) = ((loS b, hiS b) : Int × Int)) := show _ = _ from rfl
   generalize hXS : shL (L.take j) = xs at *
   have HXS : Hid (shL (L.take (j + 1)) = xs ++ [(narV (b.lo / 4294967296), narV (cl b.hi 4294967296))]) := show _ = _ by rw [hst, HE.out]
   clear hst hb hbd hg hok HE hXS
   generalize narV (b.lo / 4294967296) = NL at *
   generalize narV (cl b.hi 4294967296) = NH at *
   have hb2 : FyI W (wr.alloc (.cells #[.int .u64 (hiW b.lo), .int .u64 (loW b.lo), .int .u64 (hiW b.hi), .int .u64 (loW b.hi)] 100)) t (flo c) (.slice aov xs.length cv) xs := hI.below ((Below.refl _ wr).alloc (Nat.le_refl _) _)
   rw [hlen] at hb2
   have HLE : Hid (xs.length = j) := hlen
   clear hI hlen
   go_upto_region 5 with fail
   obtain ⟨u0, u1, u2, u3⟩ : (wr.alloc (.cells #[.int .u64 (hiW b.lo), .int .u64 (loW b.lo), .int .u64 (hiW b.hi), .int .u64 (loW b.hi)] 100)).cell? ⟨wr.heap.size, 0, none⟩ = some (.int .u64 (hiW b.lo)) ∧ (wr.alloc (.cells #[.int .u64 (hiW b.lo), .int .u64 (loW b.lo), .int .u64 (hiW b.hi), .int .u64 (loW b.hi)] 100)).cell? ⟨wr.heap.size, 1, none⟩ = some (.int .u64 (loW b.lo)) ∧ (wr.alloc (.cells #[.int .u64 (hiW b.lo), .int .u64 (loW b.lo), .int .u64 (hiW b.hi), .int .u64 (loW b.hi)] 100)).cell? ⟨wr.heap.size, 2, none⟩ = some (.int .u64 (hiW b.hi)) ∧ (wr.alloc (.cells #[.int .u64 (hiW b.lo), .int .u64 (loW b.lo), .int .u64 (hiW b.hi), .int .u64 (loW b.hi)] 100)).cell? ⟨wr.heap.size, 3, none⟩ = some (.int .u64 (loW b.hi)) := ⟨by simp, by simp, by simp, by simp⟩
   generalize wr.alloc (.cells #[.int .u64 (hiW b.lo), .int .u64 (loW b.lo), .int .u64 (hiW b.hi), .int .u64 (loW b.hi)] 100) = wb at *
   generalize wr.heap.size = kb at *
   obtain ⟨y0, _⟩ := cell_of (o := 1) hb2.box rfl
   have hdb := hb2.below (drew_belowI wb)
   have HDB : Hid _ := hdb
   clear hb2 hdb a0 a1 a2 a3
   go_region_law (first
    | (refine step_cl rfl (.tmp 25) rfl (.agg #[.int .u64 (hiW b.lo), .int .u64 (loW b.lo), .int .u64 (hiW b.hi), .int .u64 (loW b.hi)]) (by simp [Act.eval]) _ (cR _) ?_; rintro e x ⟨rfl, hx⟩; refine ⟨_, rfl, ?_⟩; have hx2 := HDB.out.below hx; have y1 := (cell_of (o := 1) hx2.box rfl).1; have y2 := allocC (.cells #[.int .u64 NL, .int .u64 NH] 93) y1; have HX2 : Hid _ := hx2; have hxr := hx2.row; have hxb := hx2.big; clear hx2 hx)
    | (refine step_append_lies _ rfl (.tmp 24) (.tmp 27) 128 rfl (W.heap.size + 2) 93 i0 _ 2 16 Tryz.underlying128 hi0 hz0 hz1 hz2 rfl (by decide) (.slice aov j cv) j (flat2 xs) (by simp [Act.eval]) (by have := hxr.alloc (.cells #[.int .u64 NL, .int .u64 NH] 93); rw [HLE.out] at this; exact this) ⟨x.heap.size, 0, none⟩ 1 1 [.int .u64 NL, .int .u64 NH] (by simp [Act.eval]) rfl (new_cells x [.int .u64 NL, .int .u64 NH] 93) (flat2_one [(NL, NH)]) (by omega) (Nat.le_trans (m := 35184372088832) (by omega) (by decide)) (by omega) (by simp; omega) _ rfl ?_; intro g5 cap5 w5 hown hgr _ _; have hfin := FyI.more (p := (NL, NH)) HX2.out (by rw [HLE.out]; exact hown) hgr; have z0 := (cell_of (o := 1) hfin.1 rfl).1; have z1 := (cell_of (o := 1) hfin.1 rfl).2; have HF5 : Hid _ := hfin.2; clear hfin hown hgr))
   all_goals
    go_wp2
    go_roundg (q - (j + 1))
    case measure => omega
    case rel => exact ⟨j + 1, _, by omega, rfl, by rw [HXS.out]; exact HF5.out⟩
  ·obtain rfl : j = q := by omega
   have hlen : (shL (L.take j)).length = j := by rw [shL_len, List.length_take, HQ.out]; omega
   have htk : L.take j = L := List.take_of_length_le (by rw [HQ.out]; omega)
   rw [htk] at hI hlen
   rw [hlen] at hI
   obtain ⟨r0, f0⟩ := cell_of (o := 0) hI.res rfl
   obtain ⟨r1, f1⟩ := cell_of (o := 1) hI.res rfl
   obtain ⟨r2, f2⟩ := cell_of (o := 2) hI.res rfl
   obtain ⟨x0, _⟩ := cell_of (o := 0) hI.box rfl
   obtain ⟨x1, _⟩ := cell_of (o := 1) hI.box rfl
   obtain ⟨x2, _⟩ := cell_of (o := 2) hI.box rfl
   have hrow := hI.row
   rw [hlen] at hrow
   have HROW : Hid (wr.ownsRow (W.heap.size + 2) 93 2 (.slice aov j cv) j (flat2 (shL L))) := hrow
   have hbel := hI.bel
   clear hI hrow htk hlen
   go_wp2
   refine bodyPost_ret (v := .agg #[.pointer (some ⟨t, 0, none⟩), .slice aov j cv, .int .u64 (flo c)]) (by simp [results, Tryz.results65, go_sem, *]) rfl ⟨_, rfl, ?_, ((hbel.setCell (Nat.le_refl _) _).setCell (Nat.le_refl _) _).setCell (Nat.le_refl _) _⟩
   refine row_same HROW.out (fun k hk => ?_)
   have := (World.ownsRow.lt HROW.out k hk).1
   rw [Below.heap_setCell _ _ _ _ (by simp; omega), Below.heap_setCell _ _ _ _ (by simp; omega), Below.heap_setCell _ _ _ _ (by simp; omega)]
end Go.Proofs.YtdkbmligaodpmaaGreatDoor
