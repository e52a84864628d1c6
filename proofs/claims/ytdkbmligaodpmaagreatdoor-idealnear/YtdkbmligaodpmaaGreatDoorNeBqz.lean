/-
 IDEALNEAR: what stands while it goes: the config's box, the job's box, the Ideal; accounts whose usages alone are others.
-/
import Derived.Test.YtdkbmligaodpmaaGreatDoorNeAqz
import Derived.Test.YtdkbmligaodpmaaGreatDoorNeMqz
import Derived.Test.YtdkbmligaodpmaaGreatDoorAbAqz
import Derived.Test.YtdkbmligaodpmaaGreatDoorRgGqz
namespace Go.Proofs.YtdkbmligaodpmaaGreatDoor
open Go.RowKit Wd Tr Cg Ld

theorem find_plain (l : List Ac) (s : ByteArray) : findV (l.map plainAc) s = findV l s := by
 induction l with
 | nil => rfl
 | cons a l ih =>
  simp only [List.map_cons, findV]
  rw [ih]
  rfl
theorem rowE_plain (l : List Ac) (i : Nat) (a : Ac) : rowE (l.map plainAc) i (plainAc a) = rowE l i a := by
 unfold rowE
 rw [find_plain, List.length_map]
 rfl
theorem rowsE_plain (l : List Ac) : ∀ (f i : Nat), rowsE (l.map plainAc) f i = rowsE l f i
 | 0, _ => rfl
 | f + 1, i => by
  simp only [rowsE]
  rw [List.getElem?_map]
  cases l[i]? with
  | none => rfl
  | some a =>
   simp only [Option.map_some]
   rw [rowE_plain, rowsE_plain l f (i + 1)]
theorem depN_plain (l : List Ac) (f n : Nat) : depN (l.map plainAc) f n = depN l f n := ((plain_alike l).dep f n).symm
theorem deepE_plain (l : List Ac) : ∀ (f i : Nat), deepE (l.map plainAc) f i = deepE l f i
 | 0, _ => rfl
 | f + 1, i => by
  simp only [deepE]
  rw [List.length_map, show depthV (l.map plainAc) i = depthV l i by unfold depthV; rw [List.length_map, depN_plain]]
  split
  ·rfl
  ·cases depthV l i with
   | none => rfl
   | some d => simp only; rw [deepE_plain l f (i + 1)]
theorem loadE_plain (l : List Ac) : loadE (l.map plainAc) = loadE l := by
 unfold loadE
 rw [List.getElem?_map]
 cases l[0]? with
 | none => rfl
 | some a =>
  simp only [Option.map_some]
  rw [List.length_map, rowsE_plain, deepE_plain]
  rfl
theorem loadE_alike {l m : List Ac} (h : Tr.Alike l m) : loadE l = loadE m := by
 rw [← loadE_plain l, ← loadE_plain m]
 exact congrArg loadE h
structure Ne (c : Cf) (w x : World) (j : Jb) : Prop where
 st : St w w.heap.size c x
 jb : x.heap[w.heap.size + 1]? = some (.cells (jbL j) 39 (0, 0))
section
variable {c : Cf} {w x y : World} {j : Jb}
theorem Ne.big (h : Ne c w x j) : w.heap.size + 2 ≤ x.heap.size := (Array.getElem?_eq_some_iff.1 h.jb).1
theorem Ne.bel (h : Ne c w x j) : Below w.heap.size w x := h.st.bel
theorem Ne.below (h : Ne c w x j) (b : Below x.heap.size x y) : Ne c w y j := ⟨keepW h.st b, heapK h.jb b⟩
theorem Ne.chg (h : Ne c w x j) {K : Nat → Prop} (hc : Chg K x y) (hK : ∀ i, K i → w.heap.size + 2 ≤ i) : Ne c w y j :=
 ⟨St.chg h.st hc (fun e => by have := hK _ e; omega) (fun i e => by have := hK i e; omega), (hc.block _ (by have := h.big; omega) (fun e => by have := hK _ e; omega)).trans h.jb⟩
theorem Ne.put (h : Ne c w x j) {o : Nat} {v : Value} {j' : Jb} (hj : (jbL j).setIfInBounds o v = jbL j') : Ne c w (x.setCell ⟨w.heap.size + 1, o, none⟩ v) j' := by
 have hb := h.big
 refine ⟨St.chg h.st (K := fun i => i = w.heap.size + 1) ((Chg.refl _ x).setCell _ _ (.inl rfl)) (fun e => by have e' : w.heap.size = w.heap.size + 1 := e; omega) (fun i e => by have e' : i = w.heap.size + 1 := e; omega), ?_⟩
 have := heap_setCell_same x (w.heap.size + 1) o _ 39 v h.jb
 rw [this, hj]
theorem Ne.put0 (h : Ne c w x j) (v : Int) : Ne c w (x.setCell ⟨w.heap.size + 1, 0, none⟩ (.int .i64 v)) { j with ac := v } := h.put rfl
theorem Ne.put1 (h : Ne c w x j) (v : Int) : Ne c w (x.setCell ⟨w.heap.size + 1, 1, none⟩ (.int .i64 v)) { j with no := v } := h.put rfl
theorem Ne.put3 (h : Ne c w x j) (v : Int) : Ne c w (x.setCell ⟨w.heap.size + 1, 3, none⟩ (.int .i64 v)) { j with su := v } := h.put rfl
end
structure Na (c : Cf) (w x : World) (j : Jb) (t : Nat) (tv : Value) (L : List Bd) : Prop where
 ne : Ne c w x j
 i : Idl c w.heap.size x t tv L
 ht : ∀ k, IK t tv k → w.heap.size + 2 ≤ k
theorem Na.opened {c : Cf} {w x y : World} {j : Jb} {t : Nat} {tv tv' : Value} {L L' : List Bd} (h : Na c w x j t tv L) (hI : Idl c w.heap.size y t tv' L') (hC : Chg (IK t tv) x y) (hat : tv'.ownBlock = tv.ownBlock ∨ ∃ k, x.heap.size ≤ k ∧ tv'.ownBlock = some k) : Na c w y j t tv' L' := by
 refine ⟨h.ne.chg hC h.ht, hI, fun k hk => ?_⟩
 rcases hk with rfl | hk
 ·exact h.ht _ (.inl rfl)
 ·rcases hat with e | ⟨m, hm, e⟩
  ·exact h.ht k (.inr (by rw [← e]; exact hk))
  ·rw [e] at hk
   cases hk
   have := h.ne.big
   omega
theorem own_form {W : World} {B e sz n : Nat} {v : Value} {vs : List Value} (h : W.ownsRow B e sz v n vs) (hn : 0 < n) : ∃ b cap, v = .slice (some ⟨b, 0, none⟩) n cap ∧ B ≤ b := by
 rcases h.2 with ⟨_, h0⟩ | ⟨b, cap, cur, h1, hb, _⟩
 ·omega
 ·exact ⟨b, cap, h1, hb⟩
theorem bd_box {c : Cf} (r : Rng c) (hm : mZ c ≤ 2147483648) (t : Nat) : bdT c t ≤ 9223372036854775808 := by
 have hk := k_box r
 have hc := c_box r
 have hp0 := r.p0
 have hn0 := r.n0
 have hml := Int.emod_lt_of_pos ((t : Nat) : Int) (show 0 < c.period by omega)
 have hC : ((t : Nat) : Int) % c.period * c.nodes + c.nodes ≤ cZ c := by
  have : (((t : Nat) : Int) % c.period + 1) * c.nodes ≤ c.period * c.nodes := Int.mul_le_mul_of_nonneg_right (by omega) (by omega)
  rw [Int.add_mul, Int.mul_comm c.period] at this
  unfold cZ
  omega
 have hM : (kZ c - 1) * cZ c + cZ c = mZ c := by
  unfold mZ
  rw [Int.sub_mul, Int.mul_comm (kZ c)]
  omega
 unfold bdT
 omega
def nJ (c : Cf) (q : Nat) (j : Jb) : Jb := { j with ac := pkV j.ac q, no := 1 + pkV j.no c.nodes, su := pkV j.su 549755813888 }
def nC (j : Jb) (age : Int) : Int := pkV j.su 549755813888 + pkV age 549755813888
theorem nJ_wt {c : Cf} (r : Rng c) {q : Nat} (hq : 0 < q) {L : List Bd} (hL : L.length = q) (j : Jb) (age : Int) : wtB c L (nC j age) (nJ c q j) = true := by
 have p1 := pk_box (c := j.ac) (n := (q : Int)) (by omega)
 have p2 := pk_box (c := j.no) (n := c.nodes) (by have := r.n0; omega)
 have p3 := pk_box (c := j.su) (n := 549755813888) (by omega)
 have p4 := pk_box (c := age) (n := 549755813888) (by omega)
 unfold wtB nC nJ
 simp only [Bool.and_eq_true, decide_eq_true_eq]
 refine ⟨okA_iff.2 ⟨p1.1, by omega⟩, ?_, ?_, ?_, ?_, ?_⟩ <;> omega
end Go.Proofs.YtdkbmligaodpmaaGreatDoor
