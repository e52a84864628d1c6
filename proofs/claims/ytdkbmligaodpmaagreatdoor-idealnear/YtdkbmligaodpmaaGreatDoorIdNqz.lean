/-
 THE PLAIN MATHEMATICS OF LAYER 16 (ideal): how far a factor is off, whose usages are rounded down. No Go in sight.
-/
import Derived.Test.YtdkbmligaodpmaaGreatDoorXmtz
namespace Go.Proofs.YtdkbmligaodpmaaGreatDoor.Tr
open Wd Ld

theorem used_hi {s t w v x fl D : Int} (hD : 0 < D) (hfl : 0 < fl) (ht : 0 ≤ t) (hs : s ≤ t) (hsw : s ≤ w) (hw : fl ≤ w) (hv : fl ≤ v) (hvw : v ≤ w + x) (hx : 0 ≤ x) :
  s * D / w ≤ (if cl (t * D) v ≤ D then cl (t * D) v else D) + cl (x * D) fl := by
 have hdl := (cl_ge (x := x * D) hfl).1
 have hd0 := cl_nonneg (x := x * D) (b := fl) (Int.mul_nonneg hx (by omega)) hfl
 have ha : s * D / w ≤ D := by
  refine Int.le_trans (Int.ediv_le_ediv (by omega) (Int.mul_le_mul_of_nonneg_right hsw (by omega))) ?_
  rw [Int.mul_comm, Int.mul_ediv_cancel _ (by omega)]
  exact Int.le_refl _
 split
 ·rename_i hq
  have h1 := (cl_ge (x := t * D) (b := v) (by omega)).1
  have hq0 := cl_nonneg (x := t * D) (b := v) (Int.mul_nonneg ht (by omega)) (by omega)
  generalize cl (t * D) v = q at *
  generalize cl (x * D) fl = dl at *
  have h2 : s * D ≤ t * D := Int.mul_le_mul_of_nonneg_right hs (by omega)
  have h3 : q * v ≤ q * (w + x) := Int.mul_le_mul_of_nonneg_left hvw hq0
  have h4 : q * x ≤ D * x := Int.mul_le_mul_of_nonneg_right hq hx
  have h5 : dl * fl ≤ dl * w := Int.mul_le_mul_of_nonneg_left hw hd0
  have h6 : s * D ≤ (q + dl) * w := by
   rw [Int.add_mul]
   rw [Int.mul_add] at h3
   rw [Int.mul_comm x D] at hdl
   omega
  have h7 := Int.ediv_le_ediv (c := w) (by omega) h6
  rwa [Int.mul_ediv_cancel _ (by omega)] at h7
 ·omega
theorem used_lo {s t w v x fl D : Int} (hD : 0 < D) (hfl : 0 < fl) (ht : 0 ≤ t) (hs : t ≤ s + x) (hw : fl ≤ w) (hwv : w ≤ v) (hx : 0 ≤ x) :
  t * D / v ≤ s * D / w + cl (x * D) fl := by
 have hdl := (cl_ge (x := x * D) hfl).1
 have hd0 := cl_nonneg (x := x * D) (b := fl) (Int.mul_nonneg hx (by omega)) hfl
 generalize cl (x * D) fl = dl at *
 have a0 : 0 ≤ t * D / v := Int.ediv_nonneg (Int.mul_nonneg ht (by omega)) (by omega)
 have a1 := Int.mul_ediv_self_le (x := t * D) (k := v) (by omega)
 have a2 : t * D / v * w ≤ t * D / v * v := Int.mul_le_mul_of_nonneg_left hwv a0
 have a3 : t * D ≤ (s + x) * D := Int.mul_le_mul_of_nonneg_right hs (by omega)
 have a4 : dl * fl ≤ dl * w := Int.mul_le_mul_of_nonneg_left hw hd0
 rw [Int.mul_comm] at a1
 rw [Int.add_mul] at a3
 have a5 : t * D / v * w ≤ s * D + dl * w := by omega
 have a6 := Int.ediv_le_ediv (c := w) (by omega) a5
 rwa [Int.mul_ediv_cancel _ (by omega), Int.add_mul_ediv_right _ _ (by omega)] at a6
structure Tri (l m k : List Ac) (K : Int) : Prop where
 low : Side l m
 upp : Side m k
 k0 : 0 ≤ K
 near : ∀ n, usOf m n ≤ usOf l n + K
section
variable {l m k : List Ac} {K fl : Int} {n : Nat}
theorem Tri.side (t : Tri l m k K) : Side l k where
 alike := t.low.alike.trans t.upp.alike
 wu := t.low.wu
 ul := t.low.ul
 um := t.upp.um
 le n := Int.le_trans (t.low.le n) (t.upp.le n)
theorem Tri.ltm (t : Tri l m k K) (hn : n < l.length) : n < m.length := t.low.lt hn
theorem Tri.gap (t : Tri l m k K) (hn : n < l.length) : sumV m n ≤ sumV l n + 64 * K := by
 rw [sum_bw t.low.wm t.low.um (t.ltm hn), sum_bw t.low.wu t.low.ul hn, ← t.low.alike.bw]
 have h1 := sumI_more (f := usOf m) (g := usOf l) (c := K) (ks := bwV l n) (fun j _ => t.near j)
 have h2 := bw_len l n
 have h3 := t.low.wu.len
 have h4 : K * ((bwV l n).length : Int) ≤ K * 64 := Int.mul_le_mul_of_nonneg_left (by omega) t.k0
 refine nar_gap ?_ (by have := t.k0; omega)
 omega
theorem Tri.wgap (t : Tri l m k K) : wV m fl ≤ wV l fl + 64 * K := by
 have h := t.gap (n := 0) t.low.wu.pos
 have := t.k0
 unfold wV
 split <;> split <;> omega
def dlV (K fl : Int) : Int := cl (64 * K * 9223372036854775808) fl
theorem dl_nonneg (hK : 0 ≤ K) (hf : 0 < fl) : 0 ≤ dlV K fl := cl_nonneg (by omega) hf
theorem Tri.u_hi (t : Tri l m k K) (hf : 0 < fl) (hn : n < l.length) : uV l (wV l fl) n ≤ uH k (wV m fl) n + dlV K fl := by
 have h := t.k0
 exact used_hi (s := sumV l n) (t := sumV k n) (w := wV l fl) (v := wV m fl) (x := 64 * K) (by omega) hf (sum_word t.upp.um n).1 (t.side.alike.sum t.side.le n) (sum_w t.low.wu t.low.ul fl hn) (w_ge _ _) (w_ge _ _) t.wgap (by omega)
theorem Tri.u_lo (t : Tri l m k K) (hf : 0 < fl) (hn : n < l.length) : uV m (wV k fl) n ≤ uV l (wV l fl) n + dlV K fl := by
 have h := t.k0
 exact used_lo (s := sumV l n) (t := sumV m n) (w := wV l fl) (v := wV k fl) (x := 64 * K) (by omega) hf (sum_word t.low.um n).1 (t.gap hn) (w_ge _ _) t.side.w (by omega)
theorem part_off {u v x y s t d : Int} (hs : 1 ≤ s) (ht : s ≤ t) (huv : u ≤ v + d) (hxy : x ≤ y + d) : u + (x - u) * s / t ≤ v + (y - v) * s / t + d := by
 have := part_mono (u := u) (v := v + d) (x := x) (y := y + d) hs ht huv hxy
 rw [show y + d - (v + d) = y - v by omega] at this
 omega
theorem Tri.ef_hi (t : Tri l m k K) (hf : 0 < fl) : ∀ {d n}, n < l.length → Dep l d n → efV l (wV l fl) n ≤ ehV k (wV m fl) n + dlV K fl
 | 0, n, hn, hd => by
  obtain rfl : n = 0 := hd
  rw [ef_root, eh_root]
  exact t.u_hi hf hn
 | d + 1, n, hn, hd => by
  have ih := t.ef_hi hf (t.low.wu.up_lt hn) hd.2
  obtain ⟨s1, s2⟩ := sh_tog t.low.wu hn hd.1
  rw [ef_up t.low.wu _ hn hd.1, eh_up t.upp.wm _ (t.side.lt hn) hd.1, ← t.side.alike.sh, ← t.side.alike.up, ← t.side.alike.tog]
  refine Int.le_trans (part_off s1 s2 (t.u_hi hf hn) ih) ?_
  have := (cl_ge (x := (ehV k (wV m fl) (up l n) - uH k (wV m fl) n) * shOf l n) (b := tog l (up l n)) (by omega)).2
  omega
theorem Tri.ef_lo (t : Tri l m k K) (hf : 0 < fl) : ∀ {d n}, n < l.length → Dep l d n → efV m (wV k fl) n ≤ efV l (wV l fl) n + dlV K fl
 | 0, n, hn, hd => by
  obtain rfl : n = 0 := hd
  rw [ef_root, ef_root]
  exact t.u_lo hf hn
 | d + 1, n, hn, hd => by
  have ih := t.ef_lo hf (t.low.wu.up_lt hn) hd.2
  obtain ⟨s1, s2⟩ := sh_tog t.low.wu hn hd.1
  rw [ef_up t.low.wu _ hn hd.1, ef_up t.low.wm _ (t.ltm hn) hd.1, ← t.low.alike.sh, ← t.low.alike.up, ← t.low.alike.tog]
  exact part_off s1 s2 (t.u_lo hf hn) ih
def dxV (K fl : Int) : Int := cl (dlV K fl) 524288
theorem at_most {n d : Int} : atD n d ≤ 4096 * atN n d := by
 unfold atD atN
 split <;> omega
theorem raw_off {e f d n b : Int} (hn : 1 ≤ n) (hb : n ≤ b) (h : b < 18446744073709551616) (hd : 0 ≤ d) (hef : e ≤ f + d) : rawP e n b ≤ rawP f n b + cl d 524288 := by
 obtain ⟨h1, h2, _⟩ := at_pos hn hb h
 have h4 := at_most (n := n) (d := b)
 unfold rawP
 rw [cl_cl (by omega), cl_cl (by omega)]
 generalize atN n b = N at *
 generalize atD n b = A at *
 have hp : 0 < 2147483648 * N := by omega
 refine Int.le_trans (cl_mono hp (Int.mul_le_mul_of_nonneg_right hef (by omega))) ?_
 rw [Int.add_mul]
 refine Int.le_trans (cl_add hp) ?_
 have h5 : cl (d * A) (2147483648 * N) ≤ cl d 524288 := by
  refine cl_of hp ?_
  have h6 := (cl_ge (x := d) (b := 524288) (by omega)).1
  have h7 : d * A ≤ d * (4096 * N) := Int.mul_le_mul_of_nonneg_left h4 hd
  have h8 : d * (4096 * N) ≤ cl d 524288 * 524288 * (4096 * N) := Int.mul_le_mul_of_nonneg_right h6 (by omega)
  have h9 : cl d 524288 * 524288 * (4096 * N) = cl d 524288 * (2147483648 * N) := by
   rw [Int.mul_assoc, ← Int.mul_assoc 524288 4096 N]
   rfl
  omega
 omega
theorem dx_nonneg (hK : 0 ≤ K) (hf : 0 < fl) : 0 ≤ dxV K fl := cl_nonneg (dl_nonneg hK hf) (by omega)
def xU (l : List Ac) (fl : Int) (n : Nat) : Nat := (powV (efV l (wV l fl) n) (numV l n) (denV l n)).toNat
theorem Tri.x_hi (t : Tri l m k K) (hf : 0 < fl) (hn : n < l.length) : (xU l fl n : Int) ≤ xHi m k fl n + dxV K fl := by
 obtain ⟨d, _, hd⟩ := t.low.wu.deep hn
 obtain ⟨d1, d2, d3, d4⟩ := den_word t.low.wu hn
 have h1 := raw_off d1 d2 d4 (dl_nonneg t.k0 hf) (t.ef_hi hf hn hd)
 have h2 := nar_gap h1 (dx_nonneg t.k0 hf)
 have h3 := dx_nonneg t.k0 hf
 unfold xU xHi powV
 rw [← t.low.alike.num, ← t.low.alike.den]
 unfold dxV at *
 omega
theorem Tri.x_lo (t : Tri l m k K) (hf : 0 < fl) (hn : n < l.length) : (xLo m k fl n : Int) ≤ xU l fl n + dxV K fl := by
 obtain ⟨d, _, hd⟩ := t.low.wu.deep hn
 obtain ⟨d1, d2, d3, d4⟩ := den_word t.low.wu hn
 have h0 := raw_le d1 d2 d4 (Int.le_refl (efV m (wV k fl) n))
 have h1 := raw_off d1 d2 d4 (dl_nonneg t.k0 hf) (t.ef_lo hf hn hd)
 have h2 := nar_gap (Int.le_trans h0 h1) (dx_nonneg t.k0 hf)
 have h3 := dx_nonneg t.k0 hf
 unfold xU xLo powV pdV
 rw [← t.low.alike.num, ← t.low.alike.den]
 unfold dxV at *
 omega
theorem fac_x (l : List Ac) (fl : Int) (n : Nat) : facV l (wV l fl) n = ((halfN (xU l fl n) : Nat) : Int) := rfl
theorem Tri.f_lo (t : Tri l m k K) (hf : 0 < fl) (hn : n < l.length) : (fLo m k fl n : Int) ≤ facV l (wV l fl) n + 81 + dxV K fl * 2147483648 := by
 rw [fac_x]
 unfold fLo
 have h1 := t.x_hi hf hn
 have h0 := dx_nonneg t.k0 hf
 generalize xHi m k fl n = a at *
 generalize xU l fl n = b at *
 rcases Nat.le_total a b with h | h
 ·have h2 := half_lip h
  have h3 := upp_gap b
  have h4 : ((b - a : Nat) : Int) * 2147483648 ≤ dxV K fl * 2147483648 := Int.mul_le_mul_of_nonneg_right (by omega) (by omega)
  omega
 ·have h2 := half_falls h
  omega
theorem Tri.f_hi (t : Tri l m k K) (hf : 0 < fl) (hn : n < l.length) : facV l (wV l fl) n ≤ (fHi m k fl n : Int) + dxV K fl * 2147483648 := by
 rw [fac_x]
 unfold fHi
 have h1 := t.x_lo hf hn
 have h0 := dx_nonneg t.k0 hf
 generalize xLo m k fl n = a at *
 generalize xU l fl n = b at *
 rcases Nat.le_total b a with h | h
 ·have h2 := half_lip h
  have h4 : ((a - b : Nat) : Int) * 2147483648 ≤ dxV K fl * 2147483648 := Int.mul_le_mul_of_nonneg_right (by omega) (by omega)
  omega
 ·have h2 := half_falls h
  have h3 := half_upper a
  omega
end
theorem off_room {K G C F off : Int} (hK : 0 ≤ K) (hG : 2 * K ≤ G) (hC : 1 ≤ C) (hF : 0 ≤ F)
  (ho : ((258048 * G + 2 * C) * F + C * 4294967296) * 9223372036854775808 < (off + 1) * (C * 4294967296)) :
  F * (81 + dxV K (C * 4294967296) * 2147483648) + 9223372036854775808 ≤ off := by
 have hfl : 0 < C * 4294967296 := by omega
 have h1 := cl_lt (x := 64 * K * 9223372036854775808) hfl
 have h2 := cl_lt (x := dlV K (C * 4294967296)) (b := 524288) (by omega)
 have hd0 := dx_nonneg hK hfl
 unfold dxV at hd0 ⊢
 change dlV K (C * 4294967296) * (C * 4294967296) < _ at h1
 generalize dlV K (C * 4294967296) = dl at *
 generalize cl dl 524288 = d at *
 have h3 : dl * C < 64 * K * 2147483648 + C := by
  rw [← Int.mul_assoc] at h1
  omega
 have h4 : d * 524288 * C ≤ (dl + 524288) * C := Int.mul_le_mul_of_nonneg_right (by omega) (by omega)
 rw [Int.add_mul] at h4
 have h5 : d * 524288 * C = 524288 * (d * C) := by rw [Int.mul_comm d, Int.mul_assoc]
 have h6 : (81 + d * 2147483648) * C ≤ 258048 * G * 2147483648 + C * 4294967296 := by
  rw [Int.add_mul, Int.mul_comm d, Int.mul_assoc]
  omega
 have h7 := Int.mul_le_mul_of_nonneg_left h6 hF
 have h8 : (F * (81 + d * 2147483648) + 9223372036854775808) * (C * 4294967296) ≤ ((258048 * G + 2 * C) * F + C * 4294967296) * 9223372036854775808 := by
  have e1 : F * ((81 + d * 2147483648) * C) = F * (81 + d * 2147483648) * C := by rw [Int.mul_assoc]
  have e2 : F * (258048 * G * 2147483648 + C * 4294967296) = (258048 * G + 2 * C) * F * 2147483648 := by
   have e4 : 258048 * G * 2147483648 + C * 4294967296 = (258048 * G + 2 * C) * 2147483648 := by omega
   rw [e4, ← Int.mul_assoc, Int.mul_comm F]
  rw [e1, e2] at h7
  generalize F * (81 + d * 2147483648) = X at *
  generalize (258048 * G + 2 * C) * F = Y at *
  rw [Int.add_mul]
  have e3 : X * (C * 4294967296) = X * C * 4294967296 := by rw [Int.mul_assoc]
  rw [e3]
  omega
 have h9 := Int.lt_of_mul_lt_mul_right (Int.lt_of_le_of_lt h8 ho) (by omega)
 omega
end Go.Proofs.YtdkbmligaodpmaaGreatDoor.Tr
