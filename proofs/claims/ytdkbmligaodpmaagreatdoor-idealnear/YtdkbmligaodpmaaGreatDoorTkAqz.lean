/-
 LAYER 16, the ticks: rows of usages of one's own.
-/
import Derived.Test.YtdkbmligaodpmaaGreatDoorHdBqz
import Derived.Test.YtdkbmligaodpmaaGreatDoorXriz
import Derived.Test.YtdkbmligaodpmaaGreatDoorXplz
import Derived.Laws.MakeOwn
namespace Go.Proofs.YtdkbmligaodpmaaGreatDoor
open Go.RowKit Wd Tr Cg Ld

def UsC (W : World) (g : Nat) (us : List Int) : Prop := W.heap[g]? = some (.cells (us.map (Value.int .u64)).toArray 60 (0, 0))
section
variable {W W' : World} {g : Nat} {us : List Int}
theorem UsC.lt (h : UsC W g us) : g < W.heap.size := (Array.getElem?_eq_some_iff.1 (show W.heap[g]? = _ from h)).1
theorem UsC.at (h : UsC W g us) {k : Nat} {u : Int} (hk : us[k]? = some u) : W.cell? ⟨g, k, none⟩ = some (.int .u64 u) ∧ W.frozen? ⟨g, k, none⟩ = false := cell_of h (by simp [hk])
theorem UsC.chg {K : Nat → Prop} (c : Chg K W W') (h : UsC W g us) (hK : ¬ K g) : UsC W' g us := (c.block g h.lt hK).trans h
theorem UsC.below (c : Below W.heap.size W W') (h : UsC W g us) : UsC W' g us := (c.block g h.lt).trans h
theorem UsC.set (h : UsC W g us) (k : Nat) (u : Int) : UsC (W.setCell ⟨g, k, none⟩ (.int .u64 u)) g (us.set k u) := by
 have := heap_setCell_same W g k _ 60 (.int .u64 u) h
 unfold UsC
 rw [this]
 simp [List.map_set]
end
theorem made_us (n : Nat) : madeCells #[.int .u64 0] (n * 1) = ((List.replicate n (0 : Int)).map (Value.int .u64)).toArray := by
 apply Array.ext
 ·simp [madeCells]
 ·intro j h1 h2
  simp only [madeCells, Array.getElem_map, Array.getElem_range, List.getElem_toArray, List.getElem_map, List.getElem_replicate]
  simp [Nat.mod_one]
theorem make_us (w : World) {n : Nat} (hn : n ≤ 64) : ∃ w', (Instr.makeSlice 57 (.int .i64 (n : Int)) (.int .i64 (n : Int))).run Tryz.prog w = .ok (.slice (some ⟨w.heap.size, 0, none⟩) n n) w' ∧ UsC w' w.heap.size (List.replicate n 0) ∧ Below w.heap.size w w' ∧ w.heap.size + 1 ≤ w'.heap.size := by
 obtain ⟨i0, hi0, hz0, hz1, hz2⟩ := info_parts Tryz.infWE
 have hmk := run_make (P := Tryz.prog) w 57 60 i0 _ Tryz.underlying57 hi0 hz0 .i64 .i64 (n : Int) (n : Int) (by omega) (Int.le_refl _) (by rw [hz2]; omega) (by omega)
 rw [show ((n : Int)).toNat = n by omega, hz1] at hmk
 refine ⟨_, hmk, ?_, (Below.refl _ _).alloc (Nat.le_refl _) _, by simp⟩
 unfold UsC
 rw [← made_us n]
 exact heap_alloc_new w _
def fuJ (f : Int) (us : List Int) (j : Nat) : List Int := (us.take j).map (fdU f) ++ us.drop j
theorem fuJ_at {f : Int} {us : List Int} {j : Nat} {u : Int} (h : us[j]? = some u) : (fuJ f us j)[j]? = some u := by
 have hj := (List.getElem?_eq_some_iff.1 h).1
 unfold fuJ
 rw [List.getElem?_append_right (by simp; omega)]
 simp [Nat.min_eq_left (Nat.le_of_lt hj), h]
theorem fuJ_set {f : Int} {us : List Int} {j : Nat} {u : Int} (h : us[j]? = some u) : (fuJ f us j).set j (fdU f u) = fuJ f us (j + 1) := by
 obtain ⟨hj, rfl⟩ := List.getElem?_eq_some_iff.1 h
 unfold fuJ
 have hl : ((us.take j).map (fdU f)).length = j := by simp; omega
 rw [List.set_append_right _ _ (by omega), hl, Nat.sub_self, List.drop_eq_getElem_cons hj, List.take_succ_eq_append_getElem hj]
 simp only [List.set_cons_zero, List.map_append, List.map_cons, List.map_nil, List.append_assoc, List.singleton_append]
theorem fuJ_zero (f : Int) (us : List Int) : fuJ f us 0 = us := by simp [fuJ]
theorem fuJ_all {f : Int} {us : List Int} : fuJ f us us.length = us.map (fdU f) := by simp [fuJ]
def hisV (ts : List Tc) : List (List (Int × Int)) := ts.map fun t => t.xs.zip t.ys
theorem his_at {ts : List Tc} {k : Nat} {t : Tc} (h : ts[k]? = some t) : (hisV ts).getD k [] = t.xs.zip t.ys := by
 rw [List.getD_eq_getElem?_getD]
 unfold hisV
 rw [List.getElem?_map, h]
 rfl
theorem zip_at {xs ys : List Int} {k : Nat} {a n : Int} (ha : xs[k]? = some a) (hn : ys[k]? = some n) : (xs.zip ys).getD k (0, 0) = (a, n) := by
 rw [List.getD_eq_getElem?_getD, (List.getElem?_zip_eq_some (z := (a, n))).2 ⟨ha, hn⟩]
 rfl
theorem tick_in_ok {c : Cf} (hck : chkZ c = 0) (many : Nat) (h : List (List (Int × Int))) (t : Nat) (ps : List (Int × Int)) (k : Nat) :
  (∃ K B, All K B many (inA many ps { tkA c many h t with left := c.nodes } k) ∧ B ≤ 9223372036854775808) ∧ 0 ≤ (inA many ps { tkA c many h t with left := c.nodes } k).left ∧ (inA many ps { tkA c many h t with left := c.nodes } k).left ≤ c.nodes := by
 obtain ⟨r, hm⟩ := chk_yes hck
 have hk := k_box r
 have hc := c_box r
 have hp0 := r.p0
 have hn0 := r.n0
 have hml := Int.emod_lt_of_pos (t : Int) (show 0 < c.period by omega)
 have hC : (t : Int) % c.period * c.nodes + c.nodes ≤ cZ c := by
  have : ((t : Int) % c.period + 1) * c.nodes ≤ c.period * c.nodes := Int.mul_le_mul_of_nonneg_right (by omega) (by omega)
  rw [Int.add_mul, Int.mul_comm c.period] at this
  unfold cZ
  omega
 have hM : (kZ c - 1) * cZ c + cZ c = mZ c := by
  unfold mZ
  rw [Int.sub_mul, Int.mul_comm (kZ c)]
  omega
 have hB : bdT c t + c.nodes * 4294967296 ≤ 9223372036854775808 := by unfold bdT; omega
 have hA := All.at r hm many h t
 have h0 : All (kZ c) (bdT c t) many { tkA c many h t with left := c.nodes } := ⟨hA.lu, hA.lb, hA.nr⟩
 obtain ⟨i1, i2, i3⟩ := h0.inner (N := c.nodes) rfl (by omega) (by omega) hB ps k
 exact ⟨⟨_, _, i1, by omega⟩, i2, i3⟩
end Go.Proofs.YtdkbmligaodpmaaGreatDoor
