/-
  TEXTS: SqA, SqB.
-/
import Derived.Test.YtceoibfliggalaaGreatDoorKb39
import Derived.Test.YtceoibfliggalaaGreatDoorKb45
import Derived.Test.YtceoibfliggalaaGreatDoorKb13
namespace Go.Proofs.YtceoibfliggalaaGreatDoor
open Tr Cg Go.RowKit
def ext (z : List UInt8) : RS → RS
 | none => none
 | some r => some (r ++ z)
theorem ext_some {z : List UInt8} {s : RS} (h : s ≠ none) : ext z s ≠ none := by
 cases s with
 | none => exact absurd rfl h
 | some r => exact nofun
theorem len_ext (z : List UInt8) (s : RS) : lenF s ≤ lenF (ext z s) := by
 cases s with
 | none => exact Nat.le_refl _
 | some r => show r.length ≤ (r ++ z).length; rw [List.length_append]; omega
theorem bytF_ext {n : Nat} {s : RS} {z : List UInt8} (h : (bytF n s).2 ≠ none) : bytF n (ext z s) = ((bytF n s).1, ext z (bytF n s).2) := by
 cases s with
 | none => exact absurd rfl h
 | some r =>
  by_cases hn : n ≤ r.length
  ·have e1 : bytF n (some r) = (r.take n, some (r.drop n)) := if_pos hn
   have e2 : bytF n (ext z (some r)) = ((r ++ z).take n, some ((r ++ z).drop n)) := if_pos (by rw [List.length_append]; omega)
   rw [e1, e2, List.take_append_of_le_length hn, List.drop_append_of_le_length hn]
   rfl
  ·have e1 : bytF n (some r) = ([], none) := if_neg hn
   rw [e1] at h
   exact absurd rfl h
theorem numF_ext {s : RS} {z : List UInt8} (h : (numF s).2 ≠ none) : numF (ext z s) = ((numF s).1, ext z (numF s).2) := by
 have := bytF_ext (z := z) h
 unfold numF at h ⊢
 rw [this]
theorem numsF_none : ∀ k, (numsF k none).2 = none
 | 0 => rfl
 | k + 1 => numsF_none k
theorem numsF_ext : ∀ (k : Nat) {s : RS} {z : List UInt8}, (numsF k s).2 ≠ none → numsF k (ext z s) = ((numsF k s).1, ext z (numsF k s).2)
 | 0, _, _, _ => rfl
 | k + 1, s, z, h => by
  have h0 : (numF s).2 ≠ none := fun e => h (by show (numsF k (numF s).2).2 = none; rw [e]; exact numsF_none k)
  have h1 : (numsF k (numF s).2).2 ≠ none := h
  have e := numsF_ext k (z := z) h1
  show ((numF (ext z s)).1 :: (numsF k (numF (ext z s)).2).1, (numsF k (numF (ext z s)).2).2) = _
  rw [numF_ext h0, e]
  rfl
theorem need_not {b : Bool} {s : RS} (h : needF b s ≠ none) : b = true ∧ s ≠ none := by
 cases b with
 | false => exact absurd rfl h
 | true => exact ⟨rfl, h⟩
theorem cntF_none (least : Nat) : (cntF least none).2 = none := by
 have e : (numF none).2 = none := rfl
 show needF (cntB least none) (numF none).2 = none
 rw [e]
 unfold needF
 split <;> rfl
theorem cntF_ext {least : Nat} {s : RS} {z : List UInt8} (h : (cntF least s).2 ≠ none) : cntF least (ext z s) = ((cntF least s).1, ext z (cntF least s).2) := by
 obtain ⟨hb, hs⟩ := need_not (show needF (cntB least s) (numF s).2 ≠ none from h)
 have hb' : cntB least (ext z s) = true := by
  unfold cntB at hb ⊢
  rw [numF_ext hs]
  simp only [Bool.and_eq_true, decide_eq_true_eq] at hb ⊢
  have h1 := Nat.div_le_div_right (c := least) (len_ext z (numF s).2)
  omega
 unfold cntF
 rw [hb, hb', numF_ext hs]
 show (if ext z (numF s).2 = none then 0 else (numF s).1, ext z (numF s).2) = (if (numF s).2 = none then 0 else (numF s).1, ext z (numF s).2)
 rw [if_neg hs, if_neg (ext_some hs)]
theorem acF_none : (acF none).2 = none := by
 have : (numsF 4 (acS none).2).2 = none := by
  have : (acS none).2 = none := rfl
  rw [this]
  exact numsF_none 4
 unfold acF
 rw [this]
 unfold needF
 split <;> rfl
theorem acF_ext {s : RS} {z : List UInt8} (h : (acF s).2 ≠ none) : acF (ext z s) = ((acF s).1, ext z (acF s).2) := by
 obtain ⟨hb, hs⟩ := need_not (show needF _ (numsF 4 (acS s).2).2 ≠ none from h)
 have h1 : (acS s).2 ≠ none := fun e => hs (by rw [e]; exact numsF_none 4)
 have h2 : (cntF 1 s).2 ≠ none := fun e => h1 (by unfold acS; rw [e]; rfl)
 have e1 : acS (ext z s) = ((acS s).1, ext z (acS s).2) := by
  unfold acS at h1 ⊢
  rw [cntF_ext h2]
  exact bytF_ext h1
 unfold acF
 rw [e1]
 simp only [numsF_ext 4 hs]
 rw [hb]
 rfl
theorem jbF_none : (jbF none).2 = none := by
 have h7 : (numsF 7 none).2 = none := numsF_none 7
 have : (jbS none).2 = none := by
  unfold jbS
  rw [h7]
  exact cntF_none 8
 unfold jbF
 rw [this]
 exact numsF_none _
theorem jbF_ext {s : RS} {z : List UInt8} (h : (jbF s).2 ≠ none) : jbF (ext z s) = ((jbF s).1, ext z (jbF s).2) := by
 have hs : (numsF (jbS s).1.toNat (jbS s).2).2 ≠ none := h
 have h1 : (jbS s).2 ≠ none := fun e => hs (by rw [e]; exact numsF_none _)
 have h2 : (numsF 7 s).2 ≠ none := fun e => h1 (by
  unfold jbS
  rw [e]
  exact cntF_none _)
 have e1 : jbS (ext z s) = ((jbS s).1, ext z (jbS s).2) := by
  unfold jbS at h1 ⊢
  rw [numsF_ext 7 h2]
  exact cntF_ext h1
 unfold jbF
 rw [e1, numsF_ext 7 h2]
 simp only [numsF_ext _ hs]
theorem acsF_none : ∀ k, (acsF k none).2 = none
 | 0 => rfl
 | k + 1 => by
  show (acsF k (acF none).2).2 = none
  rw [acF_none]
  exact acsF_none k
theorem jbsF_none : ∀ k, (jbsF k none).2 = none
 | 0 => rfl
 | k + 1 => by
  show (jbsF k (jbF none).2).2 = none
  rw [jbF_none]
  exact jbsF_none k
theorem acsF_ext : ∀ (k : Nat) {s : RS} {z : List UInt8}, (acsF k s).2 ≠ none → acsF k (ext z s) = ((acsF k s).1, ext z (acsF k s).2)
 | 0, _, _, _ => rfl
 | k + 1, s, z, h => by
  have h0 : (acF s).2 ≠ none := fun e => h (by show (acsF k (acF s).2).2 = none; rw [e]; exact acsF_none k)
  have e := acsF_ext k (z := z) (show (acsF k (acF s).2).2 ≠ none from h)
  show ((acF (ext z s)).1 :: (acsF k (acF (ext z s)).2).1, (acsF k (acF (ext z s)).2).2) = _
  rw [acF_ext h0, e]
  rfl
theorem jbsF_ext : ∀ (k : Nat) {s : RS} {z : List UInt8}, (jbsF k s).2 ≠ none → jbsF k (ext z s) = ((jbsF k s).1, ext z (jbsF k s).2)
 | 0, _, _, _ => rfl
 | k + 1, s, z, h => by
  have h0 : (jbF s).2 ≠ none := fun e => h (by show (jbsF k (jbF s).2).2 = none; rw [e]; exact jbsF_none k)
  have e := jbsF_ext k (z := z) (show (jbsF k (jbF s).2).2 ≠ none from h)
  show ((jbF (ext z s)).1 :: (jbsF k (jbF (ext z s)).2).1, (jbsF k (jbF (ext z s)).2).2) = _
  rw [jbF_ext h0, e]
  rfl
theorem rd7_more {r z : List UInt8} (h : rd7 r ≠ none) (hz : z ≠ []) : rd7 (r ++ z) = none := by
 obtain ⟨hb, h6⟩ := need_not (show needF _ (rd6 r).2 ≠ none from h)
 have h5 : (rd5 r).2 ≠ none := fun e => h6 (by unfold rd6; rw [e]; exact jbsF_none _)
 have h4 : (rd4 r).2 ≠ none := fun e => h5 (by
  unfold rd5
  rw [e]
  exact cntF_none _)
 have h3 : (rd3 r).2 ≠ none := fun e => h4 (by unfold rd4; rw [e]; exact acsF_none _)
 have h2 : (rd2 r).2 ≠ none := fun e => h3 (by
  unfold rd3
  rw [e]
  exact cntF_none _)
 have h1 : rd1 r ≠ none := fun e => h2 (by unfold rd2; rw [e]; exact numsF_none _)
 obtain ⟨b1, s1⟩ := need_not (show needF _ (bytF 9 (some r)).2 ≠ none from h1)
 have e0 : bytF 9 (some (r ++ z)) = ((bytF 9 (some r)).1, ext z (bytF 9 (some r)).2) := bytF_ext s1
 have e1 : rd1 (r ++ z) = ext z (rd1 r) := by
  unfold rd1
  rw [e0]
  simp only
  rw [b1]
  rfl
 have e2 : rd2 (r ++ z) = ((rd2 r).1, ext z (rd2 r).2) := by unfold rd2 at h2 ⊢; rw [e1]; exact numsF_ext _ h2
 have e3 : rd3 (r ++ z) = ((rd3 r).1, ext z (rd3 r).2) := by unfold rd3 at h3 ⊢; rw [e2]; exact cntF_ext h3
 have e4 : rd4 (r ++ z) = ((rd4 r).1, ext z (rd4 r).2) := by unfold rd4 at h4 ⊢; rw [e3]; exact acsF_ext _ h4
 have e5 : rd5 (r ++ z) = ((rd5 r).1, ext z (rd5 r).2) := by unfold rd5 at h5 ⊢; rw [e4]; exact cntF_ext h5
 have e6 : rd6 (r ++ z) = ((rd6 r).1, ext z (rd6 r).2) := by unfold rd6 at h6 ⊢; rw [e5]; exact jbsF_ext _ h6
 unfold rd7
 rw [e6]
 show needF (decide (lenF (ext z (rd6 r).2) = 0)) _ = none
 have hl : ¬ lenF (ext z (rd6 r).2) = 0 := by
  cases hs : (rd6 r).2 with
  | none => exact absurd hs h6
  | some q =>
   show ¬ (q ++ z).length = 0
   rw [List.length_append]
   have := List.length_pos_iff.2 hz
   omega
 rw [decide_eq_false hl]
 rfl
end Go.Proofs.YtceoibfliggalaaGreatDoor
namespace Go.Proofs.YtceoibfliggalaaGreatDoor
open Wd Tr Cg Lg
theorem name_len {a : ByteArray} (h : okName a = true) : a.size ≤ 32 := by
 unfold okName at h
 simp at h
 omega
theorem sh_rng {n : Int} (h : okSh n = true) : 1 ≤ n ∧ n ≤ 4096 := by
 unfold okSh at h
 simpa using h
theorem times_rng {c : Cf} {now : Int} {j : Jv} (h : timesB c now j = true) (hn : now ≤ 1099511627776) (h0 : 0 ≤ j.sb) (hm : c.nodes ≤ 256) (hlm : j.lm ≤ 1048576) (hl0 : 1 ≤ j.lm) (hnd : j.nd ≤ 256) :
  (1 ≤ j.st ∧ j.st ≤ 6) ∧ (0 ≤ j.sr ∧ j.sr ≤ 1099511627776) ∧ (0 ≤ j.en ∧ j.en ≤ 1099511627776) ∧ (∀ x ∈ j.set, -1 < x ∧ x < 256) ∧ j.set.length < 9223372036854775808 := by
 unfold timesB at h
 split at h
 ·rename_i h1
  simp only [Bool.and_eq_true, decide_eq_true_eq] at h
  have : j.set = [] := List.length_eq_zero_iff.1 h.2.2
  rw [this]
  exact ⟨by omega, by omega, by omega, nofun, by decide⟩
 ·split at h
  ·simp only [Bool.and_eq_true, decide_eq_true_eq] at h
   have : j.set = [] := List.length_eq_zero_iff.1 h.2.2.2
   rw [this]
   exact ⟨by omega, by omega, by omega, nofun, by decide⟩
  ·split at h
   ·cases h
   ·rename_i h3
    have hs : setB c.nodes j = true := by
     cases e : setB c.nodes j with
     | true => rfl
     | false => exact absurd (.inl e) h3
    have h4 : ¬ (j.sr ≤ j.sb ∨ now < j.sr) := fun e => h3 (.inr e)
    unfold setB at hs
    simp only [Bool.and_eq_true, decide_eq_true_eq] at hs
    have hr := fun x hx => rise_mem hs.1 x hx
    refine (show (1 ≤ j.st ∧ j.st ≤ 6) ∧ (0 ≤ j.en ∧ j.en ≤ 1099511627776) from ?_).elim fun a b => ⟨a, by omega, b, fun x hx => ⟨(hr x hx).1, by have := (hr x hx).2; omega⟩, ?_⟩
    ·split at h
     ·simp only [Bool.and_eq_true, decide_eq_true_eq] at h
      omega
     ·split at h
      ·simp only [Bool.and_eq_true, decide_eq_true_eq] at h
       omega
      ·split at h
       ·simp only [Bool.and_eq_true, decide_eq_true_eq] at h
        omega
       ·cases h
    ·have := hs.2
     omega
theorem st_ok {s : Sv} (h0 : chkZ s.cf = 0) (h : Okay s) (hu : ∀ a ∈ s.la, Word a.us) : StOk s := by
 obtain ⟨r, _, _⟩ := chk_ok h0
 have wf := wf_load h.load
 have hl := wf.len
 rw [List.length_map] at hl
 have n0 := h.n0
 have n1 := h.n1
 have hm := h.many
 refine ⟨fun n hn => ?_, fun a ha => ?_, fun j hj => ?_, by omega, by omega⟩
 ·have hh : s.hd = -1 ∨ (0 ≤ s.hd ∧ s.hd.toNat < s.js.length) := by
   have hb := h.hold
   unfold holdB at hb
   simp only [Bool.or_eq_true, Bool.and_eq_true, decide_eq_true_eq] at hb
   rcases hb with e | ⟨e1, e2⟩
   ·exact .inl e
   ·refine .inr ⟨e1, ?_⟩
    cases hx : s.js[s.hd.toNat]? with
    | none => rw [hx] at e2; cases e2
    | some j => exact (List.getElem?_eq_some_iff.1 hx).1
  obtain ⟨a0, a1, a2, a3, a4, a5, a6, a7, a8, a9, b0, b1, b2, b3, b4, b5⟩ := r
  simp only [List.mem_cons, List.not_mem_nil, or_false] at hn
  unfold I64
  rcases hn with e | e | e | e | e | e | e | e | e | e <;> omega
 ·obtain ⟨i, hi⟩ := List.mem_iff_getElem?.1 ha
  have hp : (s.la.map plainAc)[i]? = some (plainAc a) := by rw [List.getElem?_map, hi]; rfl
  have us := hu a ha
  by_cases h0' : 0 < i
  ·obtain ⟨k1, k2, k3, k4, _⟩ := wf.row i _ hp h0'
   have q1 := name_len (a := a.nm) k1
   have q2 := sh_rng (n := a.sh) k4
   have q3 : 0 ≤ a.pa := k2
   have q4 : a.pa < (s.la.length : Int) := by have := k3; rw [List.length_map] at this; exact this
   exact ⟨⟨by omega, by omega⟩, ⟨by omega, by omega⟩, us, by omega⟩
  ·obtain rfl : i = 0 := by omega
   rw [wf.root] at hp
   have e := Option.some.inj hp
   have e1 : a.nm = rootName := (congrArg Ac.nm e).symm
   have e2 : a.pa = -1 := (congrArg Ac.pa e).symm
   have e3 : a.sh = 1 := (congrArg Ac.sh e).symm
   refine ⟨⟨by omega, by omega⟩, ⟨by omega, by omega⟩, us, ?_⟩
   rw [e1]
   decide
 ·obtain ⟨i, hi⟩ := List.mem_iff_getElem?.1 hj
  have hb := jobs_iff.1 h.jobs i (List.getElem?_eq_some_iff.1 hi).1 j hi
  unfold jobB headB at hb
  simp only [Bool.and_eq_true, decide_eq_true_eq] at hb
  obtain ⟨⟨⟨c1, c2, c3, c4, c5, c6⟩, c7, c8, _, _⟩, ht⟩ := hb
  have r1 := r.n1
  have r2 := r.l1
  obtain ⟨t1, t2, t3, t4, t5⟩ := times_rng ht n1 c7 r1 (by omega) c5 (by omega)
  exact ⟨⟨by omega, by omega⟩, ⟨by omega, by omega⟩, ⟨by omega, by omega⟩, ⟨by omega, by omega⟩, ⟨by omega, by omega⟩, ⟨by omega, by omega⟩, ⟨by omega, by omega⟩, fun n hn => ⟨by have := t4 n hn; omega, by have := t4 n hn; omega⟩, t5⟩
end Go.Proofs.YtceoibfliggalaaGreatDoor
