/-
  Rows of int: known whole; make, copy; copyOf.
-/
import Derived.Test.YtjgllfpnmmopdaaSoP
namespace Go.Proofs.Ytjgllfpnmmopdaa
open Go.RowKit Tr
/-- A block known whole. -/
def RwN (W : World) (b : Nat) (M : List Int) : Prop := W.heap[b]? = some (.cells (flatN M).toArray 3 (0, 0))
section
variable {W W' : World} {b : Nat} {M : List Int}
theorem RwN.lt (h : RwN W b M) : b < W.heap.size := (Array.getElem?_eq_some_iff.1 (show W.heap[b]? = _ from h)).1
theorem RwN.free (h : RwN W b M) (k : Nat) : W.frozen? ⟨b, k, none⟩ = false := frozen_at (show W.heap[b]? = _ from h)
theorem RwN.at (h : RwN W b M) {k : Nat} {p : Int} (ha : M[k]? = some p) : W.cell? ⟨b, k, none⟩ = some (.int .i64 p) := by
  have hb : W.heap[b]? = _ := h
  exact cells_at hb (by simpa using flatN_at M k p ha)
theorem RwN.chg {K : Nat → Prop} (c : Chg K W W') (h : RwN W b M) (hK : ¬ K b) : RwN W' b M := (c.block b h.lt hK).trans h
theorem RwN.below (c : Below W.heap.size W W') (h : RwN W b M) : RwN W' b M := (c.block b h.lt).trans h
theorem RwN.set (h : RwN W b M) (k : Nat) (p : Int) : RwN (W.setCell ⟨b, k, none⟩ (.int .i64 p)) b (M.set k p) := by
  have h1 := heap_setCell_same W b k _ 3 (.int .i64 p) h
  unfold RwN
  rw [h1]
  have e := flatN_set M k p
  simp [← e]
theorem RwN.src (h : RwN W b M) {A B C : List Int} (e : M = A ++ (B ++ C)) (o : Nat) (ho : o = A.length * 1) : ∀ j u, (flatN B)[j]? = some u → W.cell? ((⟨b, o, none⟩ : Addr).add j) = some u := by
  intro j u hj
  have hb : W.heap[b]? = _ := h
  rw [Addr.add_lit]
  refine cells_at hb ?_
  subst ho
  rw [e, flatN_app, flatN_app]
  have h1 := (List.getElem?_eq_some_iff.1 hj).1
  simp only [List.getElem?_toArray]
  rw [List.getElem?_append_right (by rw [flatN_len]; omega), List.getElem?_append_left (by rw [flatN_len]; omega), flatN_len, show A.length * 1 + j - A.length * 1 = j by omega]
  exact hj
end
theorem Try.soNa : (Try.prog.info? 3).map (fun i => (i.zero, i.size, i.bytes)) = some (some (.int .i64 0), 1, 8) := by kernel_rfl
theorem Try.soNb : (Try.prog.info? 3).map (·.size) = some 1 := by kernel_rfl
theorem make_N (w : World) {n : Nat} (hn : n * 8 ≤ 140737488355328) : ∃ w', (Instr.makeSlice 32 (.int .i64 (n : Int)) (.int .i64 (n : Int))).run Try.prog w = .ok (.slice (some ⟨w.heap.size, 0, none⟩) n n) w' ∧ RwN w' w.heap.size (List.replicate n 0) ∧ Below w.heap.size w w' ∧ w'.heap.size = w.heap.size + 1 := by
  obtain ⟨i0, hi0, hz0, hz1, hz2⟩ := info_parts Try.soNa
  have hmk := run_make (P := Try.prog) w 32 3 i0 _ Try.underlying32 hi0 hz0 .i64 .i64 (n : Int) (n : Int) (by omega) (Int.le_refl _) (by rw [hz2]; omega) (by omega)
  rw [show ((n : Int)).toNat = n by omega, hz1] at hmk
  refine ⟨_, hmk, ?_, (Below.refl _ _).alloc (Nat.le_refl _) _, by simp⟩
  unfold RwN
  rw [← madeN_flat n]
  exact heap_alloc_new w _
theorem copy_N {w : World} {g n c : Nat} {ao : Option Addr} {l : List Int} (hA : RwN w g (List.replicate n 0)) (hL : l.length = n) (hnil : ao = none → n = 0) (hsrc : ∀ ad, ao = some ad → ∀ j u, (flatN l)[j]? = some u → w.cell? (ad.add j) = some u) :
    ∃ w', (Builtin.copy_ #[32, 32] 3 #[.slice (some ⟨g, 0, none⟩) n n, .slice ao n c]).run Try.prog w = .ok (goInt (n : Nat)) w' ∧ RwN w' g l ∧ Below g w w' := by
  cases ao with
  | none =>
    have h0 := hnil rfl
    subst h0
    have hl : l = [] := List.eq_nil_of_length_eq_zero hL
    subst hl
    exact ⟨w, copy_noneN (P := Try.prog) w _ _ _ 3 _ _ _ _ _ _ 1 Try.underlying32 Try.soNb (Nat.min_self 0), hA, Below.refl _ _⟩
  | some ad =>
    have hf := flatN_len l
    have hm : Nat.min n n = n := Nat.min_self n
    have hrun := copy_rowN (P := Try.prog) w 32 32 3 3 g 0 n n ad n c 1 _ 3 (flatN l) Try.underlying32 Try.soNb hA (by rw [hm, hf, hL]) (hsrc ad rfl) (by simp [flatN_len, hL]) (flatN_one l)
    rw [hm] at hrun
    refine ⟨_, hrun, ?_, below_setRow (Below.refl _ _) (Nat.le_refl _) _⟩
    have := setRow_heap w g (flatN (List.replicate n 0)).toArray (flatN l).toArray 3 _ hA
    unfold RwN
    rw [← this]
    have e : (flatN (List.replicate n 0)).drop (flatN l).length = [] := by
      apply List.drop_eq_nil_of_le
      simp [flatN_len, hL]
    simp [e]
theorem copyOf_N {w : World} {n c : Nat} {ao : Option Addr} {l : List Int} (hn : n * 8 ≤ 140737488355328) (hL : l.length = n) (hnil : ao = none → n = 0) (hsrc : ∀ ad, ao = some ad → ∀ j u, (flatN l)[j]? = some u → w.cell? (ad.add j) = some u) :
    Calls Try.prog 33 #[.slice ao n c] w fun e w' => e = .returned (.slice (some ⟨w.heap.size, 0, none⟩) n n) ∧ RwN w' w.heap.size l ∧ Below w.heap.size w w' ∧ w.heap.size < w'.heap.size := by
  obtain ⟨w1, hmk, hA, hb, hz⟩ := make_N w hn
  obtain ⟨w2, hcp, hA2, hb2⟩ := copy_N (c := c) hA hL hnil (fun ad e j u hj => (Chg.of_below hb (fun _ => False)).cell (hsrc ad e j u hj) (fun h => h))
  have HE : Hid (RwN w2 w.heap.size l ∧ Below w.heap.size w w2 ∧ w.heap.size < w2.heap.size) := ⟨hA2, hb.trans hb2, hA2.lt⟩
  clear hA hA2 hb hb2 hz hsrc hnil hL hn
  go_enter Try.func33, Try.ntmps33
  go_wp2
  go_ret
  exact ⟨rfl, HE.out⟩
end Go.Proofs.Ytjgllfpnmmopdaa
