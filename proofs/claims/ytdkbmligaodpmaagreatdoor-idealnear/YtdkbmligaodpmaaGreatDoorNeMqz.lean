/-
 IDEALNEAR: its mathematics: what Off gives, with 63 bits behind the point; the priority and the two bounds.
-/
import Derived.Test.YtdkbmligaodpmaaGreatDoorXiyz
import Derived.Test.YtdkbmligaodpmaaGreatDoorTkAqz
namespace Go.Proofs.YtdkbmligaodpmaaGreatDoor
open Wd Tr Cg

def ofQ (c : Cf) : Int := offN c / offD c
def ofR (c : Cf) : Int := offN c % offD c
def ofL (c : Cf) : Int := ofR c * 9223372036854775808 / offD c
def ofV (c : Cf) : Int := ofQ c * 9223372036854775808 + ofL c
structure OfB (c : Cf) : Prop where
 n : Num (offN c)
 d : Word (offD c)
 d1 : 1 ≤ offD c
 q0 : 0 ≤ ofQ c
 q1 : ofQ c ≤ 562949953421312
 r0 : 0 ≤ ofR c
 r1 : ofR c < offD c
 l0 : 0 ≤ ofL c
 l1 : ofL c < 9223372036854775808
 up : offN c * 9223372036854775808 < (ofV c + 1) * offD c
theorem of_box {c : Cf} (hck : chkZ c = 0) : OfB c := by
 obtain ⟨r, hm, ht⟩ := chk_ok hck
 have hb := off_box r hm
 have htb := top_box r
 obtain ⟨_, _, n0, n1, d0, d1⟩ := hb
 have hr0 : 0 ≤ ofR c := Int.emod_nonneg _ (by omega)
 have hr1 : ofR c < offD c := Int.emod_lt_of_pos _ (by omega)
 have e1 : offD c * ofQ c + ofR c = offN c := Int.mul_ediv_add_emod _ _
 have l0 : 0 ≤ ofL c := Int.ediv_nonneg (by omega) (by omega)
 have l1 : ofL c < 9223372036854775808 := Int.ediv_lt_of_lt_mul (by omega) (by rw [Int.mul_comm]; exact Int.mul_lt_mul_of_pos_left hr1 (by omega))
 have e2 : offD c * ofL c + ofR c * 9223372036854775808 % offD c = ofR c * 9223372036854775808 := Int.mul_ediv_add_emod _ _
 have s1 : ofR c * 9223372036854775808 % offD c < offD c := Int.emod_lt_of_pos _ (by omega)
 refine ⟨⟨n0, by unfold top; omega⟩, ⟨by omega, by omega⟩, d0, Int.ediv_nonneg n0 (by omega), ?_, hr0, hr1, l0, l1, ?_⟩
 ·refine Int.ediv_le_of_le_mul (by omega) ?_
  have := Int.mul_le_mul_of_nonneg_left htb.2.2.2 (show (0 : Int) ≤ offD c by omega)
  have e3 : offD c * 562949953421312 = 562949953421312 * offD c := Int.mul_comm _ _
  omega
 ·unfold ofV
  have e4 : (ofQ c * 9223372036854775808 + ofL c + 1) * offD c = (offD c * ofQ c) * 9223372036854775808 + offD c * ofL c + offD c := by
   rw [Int.add_mul, Int.add_mul, Int.one_mul, Int.mul_comm (ofL c), Int.mul_right_comm, Int.mul_comm (ofQ c)]
  rw [e4]
  generalize offD c * ofQ c = A at *
  generalize offD c * ofL c = B at *
  omega
theorem of_shl {c : Cf} (hck : chkZ c = 0) : shlV (ofQ c) 63 = ofQ c * 9223372036854775808 := by
 have h := of_box hck
 have := h.q0; have := h.q1
 unfold shlV
 rw [if_neg (by omega), show ((2 : Int) ^ Int.toNat 63) = 9223372036854775808 by decide]
 omega
theorem of_add {c : Cf} (hck : chkZ c = 0) : Wd.addV (ofQ c * 9223372036854775808) (ofL c) = ofV c ∧ Num (ofV c) ∧ Num (ofQ c * 9223372036854775808) ∧ Num (ofL c) ∧ Num (ofQ c) := by
 have h := of_box hck
 have := h.q0; have := h.q1; have := h.l0; have := h.l1
 unfold Wd.addV ofV Num top
 rw [if_pos (by omega)]
 omega
theorem tri_of {c : Cf} (r : Rng c) {l : List Ac} (hwu : Wu l) {s : Tk} {B : Int} (h : All (kZ c) B l.length s) (hB : B ≤ 9223372036854775808) : Tri (withU l s.us) (mL l s.bs) (mH l s.bs) (kZ c) ∧ (∀ b ∈ s.bs, b.Ok) ∧ (∀ u ∈ s.us, Word u) := by
 have hk := k_box r
 have hlb := h.lb
 have hlu := h.lu
 have hat : ∀ (a : Nat) (b : Bd), s.bs[a]? = some b → ∃ u, s.us[a]? = some u ∧ Nr (kZ c) B u b := fun a b hb => by
  have ha : a < s.us.length := by rw [hlu, ← hlb]; exact (List.getElem?_eq_some_iff.1 hb).1
  exact ⟨_, List.getElem?_eq_getElem ha, h.nr a _ b (List.getElem?_eq_getElem ha) hb⟩
 have hok : ∀ b ∈ s.bs, b.Ok := fun b hb => by
  obtain ⟨a, ha⟩ := List.mem_iff_getElem?.1 hb
  obtain ⟨u, _, hn⟩ := hat a b ha
  exact hn.ok
 have huw : ∀ u ∈ s.us, Word u := fun u hu => by
  obtain ⟨a, ha⟩ := List.mem_iff_getElem?.1 hu
  have hl : a < s.bs.length := by rw [hlb, ← hlu]; exact (List.getElem?_eq_some_iff.1 ha).1
  have hn := h.nr a u _ ha (List.getElem?_eq_getElem hl)
  have h0 := hn.u0; have h1 := hn.ub
  exact ⟨h0, by omega⟩
 have hpt : ∀ n, usOf (withU l s.us) n ≤ usOf (mL l s.bs) n ∧ usOf (mL l s.bs) n ≤ usOf (withU l s.us) n + kZ c := fun n => by
  by_cases hn : n < s.bs.length
  ·obtain ⟨u, hu, hr⟩ := hat n _ (List.getElem?_eq_getElem hn)
   rw [withU_us hlu hu, show usOf (mL l s.bs) n = loS s.bs[n] from withU_us (by simp [hlb]) (by rw [List.getElem?_map, List.getElem?_eq_getElem hn]; rfl)]
   have h0 := hr.u0; have h1 := hr.ub; have h2 := hr.lo; have h3 := hr.hi
   unfold loS
   rw [nar_small (by omega)]
   omega
  ·have e1 : (mL l s.bs)[n]? = none := List.getElem?_eq_none (by have := withU_len (l := l) (us := s.bs.map loS) (by simp [hlb]); unfold mL; omega)
   have e2 : (withU l s.us)[n]? = none := List.getElem?_eq_none (by have := withU_len (l := l) hlu; omega)
   unfold usOf
   rw [e1, e2]
   exact ⟨Int.le_refl _, by omega⟩
 have hsd := side_of hwu hlb.symm hok
 have a1 := withU_alike (l := l) hlu
 have a2 : Tr.Alike l (mL l s.bs) := withU_alike (by simp [hlb])
 exact ⟨⟨⟨a1.symm.trans a2, a1.wu hwu, withU_ok hlu huw, hsd.ul, fun n => (hpt n).1⟩, hsd, by omega, fun n => (hpt n).2⟩, hok, huw⟩
theorem addV_le (a b : Int) : Wd.addV a b ≤ a + b ∧ Wd.addV a b ≤ top := by
 unfold Wd.addV
 split <;> omega
theorem addV_or (a b : Int) : Wd.addV a b = a + b ∨ Wd.addV a b = top := by
 unfold Wd.addV
 split
 ·exact .inl rfl
 ·exact .inr rfl
theorem near_math {c : Cf} (hck : chkZ c = 0) {l : List Ac} (hwu : Wu l) {s : Tk} {B : Int} (h : All (kZ c) B l.length s) (hB : B ≤ 9223372036854775808) {now : Int} {j : Jb} (hw : wtB c s.bs now j = true) {F : Int} (hF : facV (withU l s.us) (wV (withU l s.us) (flZ c)) j.ac.toNat = F) (hF0 : 0 ≤ F) {mine : Int} (hmn : mine = (restV c now j + c.fair * F / 9223372036854775808) * 9223372036854775808) (hmt : mine ≤ top) :
  idLo c l s.bs now j ≤ Wd.addV (Wd.addV mine (ofV c)) 1 ∧ mine ≤ Wd.addV (Wd.addV (idHi c l s.bs now j) (ofV c)) 1 := by
 obtain ⟨r, hm, _⟩ := chk_ok hck
 obtain ⟨t, hok, huw⟩ := tri_of r hwu h hB
 have hcb := c_box r
 have hfl : 0 < flo c := by unfold flo; omega
 obtain ⟨⟨p0, p1⟩, _⟩ := wt_yes hw
 have hn : j.ac.toNat < (withU l s.us).length := by rw [withU_len h.lu]; have := h.lb; omega
 have f1 := t.f_lo hfl hn
 have f2 := t.f_hi hfl hn
 rw [show flo c = flZ c from rfl] at f1 f2
 rw [hF] at f1 f2
 have hd0 := dx_nonneg t.k0 hfl
 have r0 := r.f0
 have hob := of_box hck
 have hv0 : 0 ≤ ofV c := by have := hob.q0; have := hob.l0; unfold ofV; omega
 have hroom : c.fair * (81 + dxV (kZ c) (flZ c) * 2147483648) + (if c.fair = 0 then 0 else 9223372036854775808) ≤ ofV c := by
  by_cases h0 : c.fair = 0
  ·rw [if_pos h0, h0, Int.zero_mul]
   omega
  ·rw [if_neg h0]
   refine off_room t.k0 (G := gZ c) ?_ hcb.1 r0 ?_
   ·have hk := k_box r
    have hmb := m_box r
    unfold gZ
    have : 1 ≤ upZ (mZ c * 81) 2147483648 := by unfold upZ; omega
    have := Int.mul_le_mul_of_nonneg_left (show (2 : Int) ≤ 1 + upZ (mZ c * 81) 2147483648 by omega) (show (0 : Int) ≤ kZ c by omega)
    omega
   ·have hu := hob.up
    unfold offN offD at hu
    rw [if_neg h0, if_neg h0] at hu
    exact hu
 rw [show dxV (kZ c) (flo c) = dxV (kZ c) (flZ c) from rfl] at hd0
 have m1 := Int.mul_le_mul_of_nonneg_left f1 r0
 have m2 := Int.mul_le_mul_of_nonneg_left f2 r0
 have hp : 0 ≤ c.fair * F := Int.mul_nonneg r0 hF0
 have hdz : 0 ≤ c.fair * (dxV (kZ c) (flZ c) * 2147483648) := Int.mul_nonneg r0 (by omega)
 rw [Int.mul_add] at hroom m2
 rw [Int.add_assoc, Int.mul_add, Int.mul_add] at m1
 have e1 := Int.mul_ediv_add_emod (c.fair * F) 9223372036854775808
 have e2 := Int.emod_lt_of_pos (c.fair * F) (show (0 : Int) < 9223372036854775808 by omega)
 have e3 := Int.emod_nonneg (c.fair * F) (show (9223372036854775808 : Int) ≠ 0 by omega)
 have hz : c.fair = 0 → c.fair * F = 0 := fun h0 => by rw [h0, Int.zero_mul]
 unfold idLo idHi
 have gl := addV_le (restV c now j * 9223372036854775808) (c.fair * ((fLo (mL l s.bs) (mH l s.bs) (flo c) j.ac.toNat : Nat) : Int))
 have gh := addV_or (restV c now j * 9223372036854775808) (c.fair * ((fHi (mL l s.bs) (mH l s.bs) (flo c) j.ac.toNat : Nat) : Int))
 rw [show flo c = flZ c from rfl] at gl gh ⊢
 generalize Wd.addV (restV c now j * 9223372036854775808) (c.fair * ((fLo (mL l s.bs) (mH l s.bs) (flZ c) j.ac.toNat : Nat) : Int)) = LO at *
 generalize Wd.addV (restV c now j * 9223372036854775808) (c.fair * ((fHi (mL l s.bs) (mH l s.bs) (flZ c) j.ac.toNat : Nat) : Int)) = HI at *
 generalize c.fair * ((fLo (mL l s.bs) (mH l s.bs) (flZ c) j.ac.toNat : Nat) : Int) = XL at *
 generalize c.fair * ((fHi (mL l s.bs) (mH l s.bs) (flZ c) j.ac.toNat : Nat) : Int) = XH at *
 generalize c.fair * (dxV (kZ c) (flZ c) * 2147483648) = DX at *
 generalize c.fair * F = CF at *
 rw [Int.add_mul] at hmn
 generalize restV c now j * 9223372036854775808 = RR at *
 generalize ofV c = OF at *
 have ha := addV_or mine OF
 have hb := addV_or HI OF
 generalize Wd.addV mine OF = A1 at *
 generalize Wd.addV HI OF = B1 at *
 have ha2 := addV_or A1 1
 have hb2 := addV_or B1 1
 generalize Wd.addV A1 1 = A2 at *
 generalize Wd.addV B1 1 = B2 at *
 have ht : (0 : Int) ≤ top := by unfold top; omega
 by_cases h0 : c.fair = 0
 ·have hz0 := hz h0
  rw [if_pos h0] at hroom
  omega
 ·rw [if_neg h0] at hroom
  omega
end Go.Proofs.YtdkbmligaodpmaaGreatDoor
