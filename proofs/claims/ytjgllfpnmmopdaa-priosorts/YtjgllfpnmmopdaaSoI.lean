/-
  Rows of backfilllaw14.Item: known whole; make, copy; copyOf.
-/
import Derived.Test.YtjgllfpnmmopdaaSoP
namespace Go.Proofs.Ytjgllfpnmmopdaa
open Go.RowKit Tr
/-- A block known whole. -/
def RwI (W : World) (b : Nat) (M : List Pr) : Prop := W.heap[b]? = some (.cells (flatP M).toArray 25 (0, 0))
section
variable {W W' : World} {b : Nat} {M : List Pr}
theorem RwI.lt (h : RwI W b M) : b < W.heap.size := (Array.getElem?_eq_some_iff.1 (show W.heap[b]? = _ from h)).1
theorem RwI.free (h : RwI W b M) (k : Nat) : W.frozen? ⟨b, k, none⟩ = false := frozen_at (show W.heap[b]? = _ from h)
theorem RwI.at (h : RwI W b M) {k : Nat} {p : Pr} (ha : M[k]? = some p) : W.cell? ⟨b, k * 2, none⟩ = some (.int .i64 p.a) ∧ W.cell? ⟨b, k * 2 + 1, none⟩ = some (.int .i64 p.b) := by
  have hb : W.heap[b]? = _ := h
  obtain ⟨e0, e1⟩ := flatP_at M k p ha
  exact ⟨cells_at hb (by simpa using e0), cells_at hb (by simpa using e1)⟩
theorem RwI.chg {K : Nat → Prop} (c : Chg K W W') (h : RwI W b M) (hK : ¬ K b) : RwI W' b M := (c.block b h.lt hK).trans h
theorem RwI.below (c : Below W.heap.size W W') (h : RwI W b M) : RwI W' b M := (c.block b h.lt).trans h
theorem RwI.set (h : RwI W b M) (k : Nat) (p : Pr) : RwI ((W.setCell ⟨b, k * 2, none⟩ (.int .i64 p.a)).setCell ⟨b, k * 2 + 1, none⟩ (.int .i64 p.b)) b (M.set k p) := by
  have h1 := heap_setCell_same W b (k * 2) _ 25 (.int .i64 p.a) h
  have h2 := heap_setCell_same (W.setCell ⟨b, k * 2, none⟩ (.int .i64 p.a)) b (k * 2 + 1) _ 25 (.int .i64 p.b) h1
  unfold RwI
  rw [h2]
  have e := flatP_set M k p
  simp [← e]
theorem RwI.src (h : RwI W b M) {A B C : List Pr} (e : M = A ++ (B ++ C)) (o : Nat) (ho : o = A.length * 2) : ∀ j u, (flatP B)[j]? = some u → W.cell? ((⟨b, o, none⟩ : Addr).add j) = some u := by
  intro j u hj
  have hb : W.heap[b]? = _ := h
  rw [Addr.add_lit]
  refine cells_at hb ?_
  subst ho
  rw [e, flatP_app, flatP_app]
  have h1 := (List.getElem?_eq_some_iff.1 hj).1
  simp only [List.getElem?_toArray]
  rw [List.getElem?_append_right (by rw [flatP_len]; omega), List.getElem?_append_left (by rw [flatP_len]; omega), flatP_len, show A.length * 2 + j - A.length * 2 = j by omega]
  exact hj
end
theorem Try.soIa : (Try.prog.info? 25).map (fun i => (i.zero, i.size, i.bytes)) = some (some (.agg #[.int .i64 0, .int .i64 0]), 2, 16) := by kernel_rfl
theorem Try.soIb : (Try.prog.info? 25).map (·.size) = some 2 := by kernel_rfl
theorem make_I (w : World) {n : Nat} (hn : n * 16 ≤ 140737488355328) : ∃ w', (Instr.makeSlice 22 (.int .i64 (n : Int)) (.int .i64 (n : Int))).run Try.prog w = .ok (.slice (some ⟨w.heap.size, 0, none⟩) n n) w' ∧ RwI w' w.heap.size (List.replicate n zPr) ∧ Below w.heap.size w w' ∧ w'.heap.size = w.heap.size + 1 := by
  obtain ⟨i0, hi0, hz0, hz1, hz2⟩ := info_parts Try.soIa
  have hmk := run_make (P := Try.prog) w 22 25 i0 _ Try.underlying22 hi0 hz0 .i64 .i64 (n : Int) (n : Int) (by omega) (Int.le_refl _) (by rw [hz2]; omega) (by omega)
  rw [show ((n : Int)).toNat = n by omega, hz1] at hmk
  refine ⟨_, hmk, ?_, (Below.refl _ _).alloc (Nat.le_refl _) _, by simp⟩
  unfold RwI
  rw [← madeP_flat n]
  exact heap_alloc_new w _
theorem copy_I {w : World} {g n c : Nat} {ao : Option Addr} {l : List Pr} (hA : RwI w g (List.replicate n zPr)) (hL : l.length = n) (hnil : ao = none → n = 0) (hsrc : ∀ ad, ao = some ad → ∀ j u, (flatP l)[j]? = some u → w.cell? (ad.add j) = some u) :
    ∃ w', (Builtin.copy_ #[22, 22] 3 #[.slice (some ⟨g, 0, none⟩) n n, .slice ao n c]).run Try.prog w = .ok (goInt (n : Nat)) w' ∧ RwI w' g l ∧ Below g w w' := by
  cases ao with
  | none =>
    have h0 := hnil rfl
    subst h0
    have hl : l = [] := List.eq_nil_of_length_eq_zero hL
    subst hl
    exact ⟨w, copy_noneN (P := Try.prog) w _ _ _ 25 _ _ _ _ _ _ 2 Try.underlying22 Try.soIb (Nat.min_self 0), hA, Below.refl _ _⟩
  | some ad =>
    have hf := flatP_len l
    have hm : Nat.min n n = n := Nat.min_self n
    have hrun := copy_rowN (P := Try.prog) w 22 22 3 25 g 0 n n ad n c 2 _ 25 (flatP l) Try.underlying22 Try.soIb hA (by rw [hm, hf, hL]) (hsrc ad rfl) (by simp [flatP_len, hL]) (flatP_one l)
    rw [hm] at hrun
    refine ⟨_, hrun, ?_, below_setRow (Below.refl _ _) (Nat.le_refl _) _⟩
    have := setRow_heap w g (flatP (List.replicate n zPr)).toArray (flatP l).toArray 25 _ hA
    unfold RwI
    rw [← this]
    have e : (flatP (List.replicate n zPr)).drop (flatP l).length = [] := by
      apply List.drop_eq_nil_of_le
      simp [flatP_len, hL]
    simp [e]
theorem copyOf_I {w : World} {n c : Nat} {ao : Option Addr} {l : List Pr} (hn : n * 16 ≤ 140737488355328) (hL : l.length = n) (hnil : ao = none → n = 0) (hsrc : ∀ ad, ao = some ad → ∀ j u, (flatP l)[j]? = some u → w.cell? (ad.add j) = some u) :
    Calls Try.prog 20 #[.slice ao n c] w fun e w' => e = .returned (.slice (some ⟨w.heap.size, 0, none⟩) n n) ∧ RwI w' w.heap.size l ∧ Below w.heap.size w w' ∧ w.heap.size < w'.heap.size := by
  obtain ⟨w1, hmk, hA, hb, hz⟩ := make_I w hn
  obtain ⟨w2, hcp, hA2, hb2⟩ := copy_I (c := c) hA hL hnil (fun ad e j u hj => (Chg.of_below hb (fun _ => False)).cell (hsrc ad e j u hj) (fun h => h))
  have HE : Hid (RwI w2 w.heap.size l ∧ Below w.heap.size w w2 ∧ w.heap.size < w2.heap.size) := ⟨hA2, hb.trans hb2, hA2.lt⟩
  clear hA hA2 hb hb2 hz hsrc hnil hL hn
  go_enter Try.func20, Try.ntmps20
  go_wp2
  go_ret
  exact ⟨rfl, HE.out⟩
end Go.Proofs.Ytjgllfpnmmopdaa
