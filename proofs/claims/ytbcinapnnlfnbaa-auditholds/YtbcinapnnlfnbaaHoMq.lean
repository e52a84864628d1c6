/-
  AUDITHOLDS: who holds which node; usage by halves of a word (mathematics).
-/
import Derived.Test.YtbcinapnnlfnbaaXsw
import Derived.Test.YtbcinapnnlfnbaaAuPq
import Derived.Laws.MakeOwn
import Derived.Test.YtbcinapnnlfnbaaXlu
namespace Go.Proofs.Ytbcinapnnlfnbaa
open Go.RowKit Wd Tr Cg Lg

/-- Which nodes may have an owner, ahead of the i-th job and behind some nodes of it. -/
def Own0 (vs : List Jv) (i : Nat) (S O : List Int) : Prop := ∀ (m : Nat) (x : Int), O[m]? = some x → x ≠ 0 → (∃ h j, h < i ∧ vs[h]? = some j ∧ j.st = 2 ∧ (m : Int) ∈ j.set) ∨ (m : Int) ∈ S
theorem Own0.start (vs : List Jv) (n : Nat) : Own0 vs 0 [] (List.replicate n 0) := fun m x h hx => by
  rw [List.getElem?_replicate] at h
  split at h
  · cases h; exact absurd rfl hx
  · cases h
theorem Own0.skip {vs : List Jv} {i : Nat} {O : List Int} (h : Own0 vs i [] O) : Own0 vs (i + 1) [] O := fun m x hm hx => by
  rcases h m x hm hx with ⟨q, j, h1, h2⟩ | h1
  · exact .inl ⟨q, j, by omega, h2⟩
  · cases h1
theorem Own0.next {vs : List Jv} {i : Nat} {O : List Int} {j : Jv} (hj : vs[i]? = some j) (h2 : j.st = 2) (h : Own0 vs i j.set O) : Own0 vs (i + 1) [] O := fun m x hm hx => by
  rcases h m x hm hx with ⟨q, j', h1, h3⟩ | h1
  · exact .inl ⟨q, j', by omega, h3⟩
  · exact .inl ⟨i, j, by omega, hj, h2, h1⟩
theorem Own0.put {vs : List Jv} {i k : Nat} {O S : List Int} {x v : Int} (h0 : 0 ≤ x) (hx : S[k]? = some x) (h : Own0 vs i (S.take k) O) : Own0 vs i (S.take (k + 1)) (O.set x.toNat v) := fun m y hm hy => by
  obtain ⟨hk, e⟩ := List.getElem?_eq_some_iff.1 hx
  rw [List.take_succ_eq_append_getElem hk, e]
  by_cases q : x.toNat = m
  · right
    refine List.mem_append_right _ (List.mem_singleton.2 ?_)
    omega
  · rw [List.getElem?_set_ne q] at hm
    rcases h m y hm hy with h1 | h1
    · exact .inl h1
    · exact .inr (List.mem_append_left _ h1)
theorem Own0.free {vs : List Jv} {i k : Nat} {O : List Int} {j : Jv} {x y n : Int} (ha : apartB vs vs.length = true) (hj : vs[i]? = some j) (h2 : j.st = 2) (hr : riseB n (-1) j.set = true) (hx : j.set[k]? = some x) (h : Own0 vs i (j.set.take k) O) (hy : O[x.toNat]? = some y) : y = 0 := by
  apply Classical.byContradiction
  intro hne
  have h0 := Nd.rise_pos hr x (List.mem_of_getElem? hx)
  rcases h x.toNat y hy hne with ⟨q, b, h1, h3, h4, h5⟩ | h1
  · rw [Int.toNat_of_nonneg h0] at h5
    have := apart_iff.1 ha i (List.getElem?_eq_some_iff.1 hj).1 j hj b (List.mem_of_getElem? (i := q) (by rw [List.getElem?_take_of_lt h1]; exact h3))
    unfold commonB at this
    rw [meet_iff.2 ⟨x, List.mem_of_getElem? hx, h5⟩, Bool.and_true] at this
    simp [overB, h2, h4] at this
  · rw [Int.toNat_of_nonneg h0] at h1
    obtain ⟨p, hp, hpx⟩ := mem_take_at' h1
    have := List.pairwise_iff_getElem.1 (rise_up hr) p k (List.getElem?_eq_some_iff.1 hpx).1 (List.getElem?_eq_some_iff.1 hx).1 hp
    rw [(List.getElem?_eq_some_iff.1 hpx).2, (List.getElem?_eq_some_iff.1 hx).2] at this
    omega
/-- A running job of a state that is taken. -/
theorem run_facts {c : Cf} {now : Int} {N : Nat} {vs : List Jv} (h : jobsB c now N vs vs.length = true) {i : Nat} {j : Jv} (hj : vs[i]? = some j) (h2 : j.st = 2) : (j.set.length : Int) = j.nd ∧ 1 ≤ j.sr ∧ j.sr ≤ now ∧ now < j.sr + j.lm ∧ j.lm ≤ c.limit ∧ riseB c.nodes (-1) j.set = true := by
  have hb := jobs_iff.1 h i (List.getElem?_eq_some_iff.1 hj).1 j hj
  unfold jobB at hb
  obtain ⟨h3, h4⟩ := Bool.and_eq_true_iff.1 hb
  simp only [headB, Bool.and_eq_true, decide_eq_true_eq] at h3
  rw [times_eq] at h4
  obtain ⟨h5, h6⟩ := Bool.and_eq_true_iff.1 h4
  unfold timB at h5
  rw [if_neg (by omega), if_neg (by omega)] at h5
  unfold runB at h5
  rw [if_pos h2] at h5
  simp only [fromB, Bool.and_eq_true, decide_eq_true_eq] at h5
  unfold setsB at h6
  rw [show startB j.st = true by rw [h2]; rfl] at h6
  simp only [if_true, Bool.and_eq_true, decide_eq_true_eq] at h6
  exact ⟨h6.1, by omega, by omega, by omega, by omega, h6.2⟩
/-- A row of numbers, known whole. -/
def RwO (W : World) (b : Nat) (O : List Int) : Prop := W.heap[b]? = some (.cells (i64s O).toArray 3 (0, 0))
theorem RwO.at {W : World} {b : Nat} {O : List Int} (h : RwO W b O) {k : Nat} {x : Int} (hx : O[k]? = some x) : W.cell? ⟨b, k, none⟩ = some (.int .i64 x) := by
  refine cells_at (show W.heap[b]? = _ from h) ?_
  rw [List.getElem?_toArray, i64s, List.getElem?_map, hx]
  rfl
theorem RwO.lt {W : World} {b : Nat} {O : List Int} (h : RwO W b O) : b < W.heap.size := (Array.getElem?_eq_some_iff.1 (show W.heap[b]? = _ from h)).1
theorem RwO.free {W : World} {b : Nat} {O : List Int} (h : RwO W b O) (k : Nat) : W.frozen? ⟨b, k, none⟩ = false := frozen_at (show W.heap[b]? = _ from h)
theorem RwO.below {W W' : World} {b : Nat} {O : List Int} (c : Below W.heap.size W W') (h : RwO W b O) : RwO W' b O := (c.block b h.lt).trans h
theorem RwO.set {W : World} {b : Nat} {O : List Int} (h : RwO W b O) (k : Nat) (x : Int) : RwO (W.setCell ⟨b, k, none⟩ (.int .i64 x)) b (O.set k x) := by
  have h1 := heap_setCell_same W b k _ 3 (.int .i64 x) h
  unfold RwO
  rw [h1]
  simp [i64s, List.map_set]
theorem made_zero (n : Nat) : madeCells #[.int .i64 0] (n * 1) = (i64s (List.replicate n 0)).toArray := by
  apply Array.ext
  · simp [madeCells, i64s]
  · intro j h1 h2
    have hj : j < n := by simpa [madeCells] using h1
    simp only [madeCells, Array.getElem_map, Array.getElem_range, List.getElem_toArray, i64s, List.getElem_map, List.getElem_replicate]
    simp [Nat.mod_one]
theorem make_own (w : World) {n : Nat} (hn : n ≤ 256) : ∃ w', (Instr.makeSlice 36 (.int .i64 (n : Int)) (.int .i64 (n : Int))).run Try.prog w = .ok (.slice (some ⟨w.heap.size, 0, none⟩) n n) w' ∧ RwO w' w.heap.size (List.replicate n 0) ∧ Below w.heap.size w w' := by
  obtain ⟨i0, hi0, hz0, hz1, hz2⟩ := info_parts Try.infInt17
  have hmk := run_make (P := Try.prog) w 36 3 i0 _ Try.underlying36 hi0 hz0 .i64 .i64 (n : Int) (n : Int) (by omega) (Int.le_refl _) (by rw [hz2]; omega) (by omega)
  rw [show ((n : Int)).toNat = n by omega, hz1] at hmk
  refine ⟨_, hmk, ?_, (Below.refl _ _).alloc (Nat.le_refl _) _⟩
  unfold RwO
  rw [← made_zero n]
  exact heap_alloc_new w _
/-- Usage, held against raw node-ticks by halves. -/
theorem use_halves {us raw : Int} (hu : Word us) (h : us ≤ raw * 4294967296) : ¬ raw < us / 4294967296 ∧ (us / 4294967296 = raw → us * 4294967296 % 18446744073709551616 = 0) := by
  obtain ⟨u0, u1⟩ := hu
  constructor
  · omega
  · intro e; omega
end Go.Proofs.Ytbcinapnnlfnbaa
