/-
  TEXTS: SpM, SpN.
-/
import Derived.Test.YtceoibfliggalaaGreatDoorKb31
import Derived.Test.YtceoibfliggalaaGreatDoorKb42
import Derived.Laws.BitsAllLaws
namespace Go.Proofs.YtceoibfliggalaaGreatDoor
open Go.RowKit Wd Tr Cg Lg
theorem acs_by : ∀ la : List Ac, (la.flatMap acB).length + 10 * la.length = byA la
 | [] => rfl
 | a :: la => by
  have := acs_by la
  rw [List.flatMap_cons, List.length_append, ac_len, List.length_cons]
  unfold byA
  omega
theorem jbs_by : ∀ ps : List Pj, ((ps.map Pj.v).flatMap jbB).length + 6 * ps.length = byJ ps
 | [] => rfl
 | p :: ps => by
  have := jbs_by ps
  rw [List.map_cons, List.flatMap_cons, List.length_append, jb_len, List.length_cons]
  unfold byJ
  omega
theorem sets_by : ∀ ps : List Pj, setsN ps * 8 + ps.length * 70 = byJ ps
 | [] => rfl
 | p :: ps => by
  have := sets_by ps
  rw [List.length_cons]
  unfold byJ setsN
  omega
theorem accs_by : ∀ la : List Ac, la.length * 50 ≤ byA la
 | [] => Nat.le_refl _
 | a :: la => by
  have := accs_by la
  rw [List.length_cons]
  unfold byA
  omega
theorem st_fits {c : Cf} {now hd : Int} {la : List Ac} {ps : List Pj} (h : ¬ 2147483647 < byN la ps) : (stB ⟨c, now, la, ps.map Pj.v, hd⟩).length ≤ 2147483647 ∧ wtN la ps ≤ 2147483647 := by
 have h1 := acs_by la
 have h2 := jbs_by ps
 have h3 := sets_by ps
 have h4 := accs_by la
 have h5 := st_parts ⟨c, now, la, ps.map Pj.v, hd⟩
 have h6 : la.length = 0 → byA la = 0 := fun e => by rw [List.length_eq_zero_iff.1 e]; rfl
 have h7 : ps.length = 0 → byJ ps = 0 := fun e => by rw [List.length_eq_zero_iff.1 e]; rfl
 simp only at h5
 unfold byN at h
 unfold wtN
 omega
end Go.Proofs.YtceoibfliggalaaGreatDoor
namespace Go.Proofs.YtceoibfliggalaaGreatDoor
open Go.RowKit Wd Tr Cg Ld Lg
theorem numsF_size : ∀ (k : Nat) (s : RS), (numsF k s).1.length = k
 | 0, _ => rfl
 | k + 1, s => by
  unfold numsF
  rw [List.length_cons, numsF_size k]
theorem rd2_ten (r : List UInt8) : ∃ (c : Cf) (now hd : Int), (rd2 r).1 = [c.nodes, c.queue, c.limit, c.age, c.fair, c.size, c.period, c.half, now, hd] := by
 have h : (rd2 r).1.length = 10 := numsF_size 10 _
 generalize (rd2 r).1 = l at h
 match l, h with
 | [a0, a1, a2, a3, a4, a5, a6, a7, a8, a9], _ => exact ⟨⟨a0, a1, a2, a3, a4, a5, a6, a7⟩, a8, a9, rfl⟩
theorem get_form {w w' : World} {r : List UInt8} {e : Ending} {c : Cf} {now hd : Int} (h2 : (rd2 r).1 = [c.nodes, c.queue, c.limit, c.age, c.fair, c.size, c.period, c.half, now, hd]) (h : GetP w r e w') : Below w.heap.size w w' ∧
  (if rd7 r = none then e = .returned (.tuple #[.agg #[.int .i64 0, .int .i64 0, .int .i64 0, .int .i64 0, .int .i64 0, .int .i64 0, .int .i64 0, .int .i64 0, .int .i64 0, .slice none 0 0, .slice none 0 0, .int .i64 0], .int .i64 190]) else if auditV (chkZ c) ⟨c, now, (rd4 r).1, (rd6 r).1, hd⟩ = 0 then ∃ gA gJ, ∃ qs : List Pj, qs.map Pj.v = (rd6 r).1 ∧ e = .returned (.tuple #[.agg (stC c now (.slice (some ⟨gA, 0, none⟩) (rd4 r).1.length (rd4 r).1.length) (.slice (some ⟨gJ, 0, none⟩) qs.length qs.length) hd), .int .i64 0]) ∧ RdS w' w.heap.size gA gJ (rd4 r).1 qs else e = .returned (.tuple #[.agg #[.int .i64 0, .int .i64 0, .int .i64 0, .int .i64 0, .int .i64 0, .int .i64 0, .int .i64 0, .int .i64 0, .int .i64 0, .slice none 0 0, .slice none 0 0, .int .i64 0], .int .i64 191])) := by
 obtain ⟨c1, now1, hd1, gA, gJ, qs, hr, hqs, hif, hb⟩ := h
 rw [h2] at hr
 simp only [List.cons.injEq, and_true] at hr
 obtain ⟨e0, e1, e2, e3, e4, e5, e6, e7, e8, e9⟩ := hr
 obtain rfl : c = c1 := by
  obtain ⟨a0, a1, a2, a3, a4, a5, a6, a7⟩ := c
  obtain ⟨b0, b1, b2, b3, b4, b5, b6, b7⟩ := c1
  simp only at e0 e1 e2 e3 e4 e5 e6 e7
  subst e0 e1 e2 e3 e4 e5 e6 e7
  rfl
 subst e8 e9
 refine ⟨hb, ?_⟩
 by_cases h7 : rd7 r = none
 ·rw [if_pos h7] at hif ⊢
  exact hif
 ·rw [if_neg h7] at hif ⊢
  rw [hqs] at hif
  by_cases hau : auditV (chkZ c) ⟨c, now, (rd4 r).1, (rd6 r).1, hd⟩ = 0
  ·rw [if_pos hau] at hif ⊢
   exact ⟨gA, gJ, qs, hqs, hif.1, hif.2⟩
  ·rw [if_neg hau] at hif ⊢
   exact hif
end Go.Proofs.YtceoibfliggalaaGreatDoor
