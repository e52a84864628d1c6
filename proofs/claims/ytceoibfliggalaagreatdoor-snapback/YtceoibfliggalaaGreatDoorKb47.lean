/-
  TEXTS: SqD.
-/
import Derived.Test.YtceoibfliggalaaGreatDoorKb32
import Derived.Test.YtceoibfliggalaaGreatDoorKb46
import Derived.Test.YtceoibfliggalaaGreatDoorKb42
namespace Go.Proofs.YtceoibfliggalaaGreatDoor
open Go.RowKit Wd Tr Cg Lg
theorem lent_cut {W : World} {B : Nat} {v : Value} {r : List UInt8} (h : W.ownsRow B 5 1 v (r.length + 2) (u8s (r ++ [165, 165]))) :
  ∃ g cap : Nat, v = .slice (some ⟨g, 0, none⟩) (r.length + 2) cap ∧ r.length + 2 ≤ cap ∧ W.ownsRow B 5 1 (.slice (some ⟨g, 0, none⟩) r.length cap) r.length (u8s r) := by
 rcases h.2 with ⟨_, h0⟩ | ⟨g, cap, cur, h1, h2, h3, h4, h5, h6, h7⟩
 ·omega
 ·refine ⟨g, cap, h1, h4, by rw [u8s_len], .inr ⟨g, cap, cur, rfl, h2, h3, by omega, h5, h6, ?_⟩⟩
  have e := congrArg (List.take r.length) h7
  rw [List.take_take, u8s_app, List.take_append_of_le_length (by rw [u8s_len]; omega), List.take_of_length_le (l := u8s r) (by rw [u8s_len]; omega)] at e
  rw [show min r.length ((r.length + 2) * 1) = r.length * 1 by omega] at e
  exact e
theorem byt_own {W : World} {B : Nat} {v : Value} {r : List UInt8} (h : W.ownsRow B 5 1 v r.length (u8s r)) (hr : 0 < r.length) :
  ∃ g cap : Nat, v = .slice (some ⟨g, 0, none⟩) r.length cap ∧ r.length ≤ cap ∧ BytAt W (some ⟨g, 0, none⟩) r := by
 rcases h.2 with ⟨_, h0⟩ | ⟨g, cap, cur, h1, h2, h3, h4, h5, h6, h7⟩
 ·omega
 ·refine ⟨g, cap, h1, h4, g, 0, fun _ => rfl, fun j u hu => ?_⟩
  have hj := (List.getElem?_eq_some_iff.1 hu).1
  have e : (u8s r)[j]? = some (Value.int .u8 (u.toNat : Int)) := by unfold u8s; rw [List.getElem?_map, hu]; rfl
  rw [← h7, Nat.mul_one, List.getElem?_take_of_lt hj] at e
  rw [Nat.zero_add]
  exact cells_at h3 (by simpa using e)
theorem flat_le {α : Type} {f : α → List UInt8} {k : Nat} : ∀ {l : List α}, (∀ a ∈ l, (f a).length ≤ k) → (l.flatMap f).length ≤ k * l.length
 | [], _ => by simp
 | a :: l, h => by
  have h1 := flat_le (l := l) (fun b hb => h b (List.mem_cons_of_mem _ hb))
  have h2 := h a List.mem_cons_self
  rw [List.flatMap_cons, List.length_append, List.length_cons, Nat.mul_add]
  omega
theorem st_small {s : Sv} (h0 : chkZ s.cf = 0) (h : Okay s) : (stB s).length ≤ 2147483647 := by
 obtain ⟨r, _, _⟩ := chk_ok h0
 have wf := wf_load h.load
 have hl := wf.len
 rw [List.length_map] at hl
 have hm := h.many
 have h1 : (s.la.flatMap acB).length ≤ 72 * s.la.length := flat_le fun a ha => by
  rw [ac_len]
  obtain ⟨i, hi⟩ := List.mem_iff_getElem?.1 ha
  have hp : (s.la.map plainAc)[i]? = some (plainAc a) := by rw [List.getElem?_map, hi]; rfl
  by_cases h0' : 0 < i
  ·have := name_len (a := a.nm) (wf.row i _ hp h0').1
   omega
  ·obtain rfl : i = 0 := by omega
   rw [wf.root] at hp
   have e1 : a.nm = rootName := (congrArg Ac.nm (Option.some.inj hp)).symm
   rw [e1]
   decide
 have h2 : (s.js.flatMap jbB).length ≤ 2112 * s.js.length := flat_le fun j hj => by
  rw [jb_len]
  obtain ⟨i, hi⟩ := List.mem_iff_getElem?.1 hj
  have hb := jobs_iff.1 h.jobs i (List.getElem?_eq_some_iff.1 hi).1 j hi
  unfold jobB headB at hb
  simp only [Bool.and_eq_true, decide_eq_true_eq] at hb
  obtain ⟨⟨⟨c1, c2, c3, c4, c5, c6⟩, c7, c8, _, _⟩, ht⟩ := hb
  have r1 := r.n1
  have hs : j.set.length ≤ 256 := by
   unfold timesB at ht
   split at ht
   ·simp only [Bool.and_eq_true, decide_eq_true_eq] at ht
    omega
   ·split at ht
    ·simp only [Bool.and_eq_true, decide_eq_true_eq] at ht
     omega
    ·split at ht
     ·cases ht
     ·rename_i h3
      have hs : setB s.cf.nodes j = true := by
       cases e : setB s.cf.nodes j with
       | true => rfl
       | false => exact absurd (.inl e) h3
      unfold setB at hs
      simp only [Bool.and_eq_true, decide_eq_true_eq] at hs
      omega
  omega
 rw [st_parts]
 omega
end Go.Proofs.YtceoibfliggalaaGreatDoor
