/-
  'all': a list has just the values of another one, each once.
-/
import Derived.Test.YtjgllfpnmmopdaaSmI
import Derived.Deep.QuietTactic
namespace Go.Proofs.Ytjgllfpnmmopdaa
open Go.RowKit Tr

/-- The items with their places as numbers. -/
def numF : List Pr → Nat → List Pr
  | [], _ => []
  | p :: l, i => ⟨p.a, (i : Int)⟩ :: numF l (i + 1)
theorem numF_len : ∀ (l : List Pr) (i : Nat), (numF l i).length = l.length
  | [], _ => rfl
  | p :: l, i => by simp only [numF, List.length_cons, numF_len l]
theorem numF_mem : ∀ (l : List Pr) (i : Nat) (p : Pr), p ∈ numF l i → ∃ (k : Nat) (q : Pr), l[k]? = some q ∧ p.a = q.a ∧ p.b = ((i + k : Nat) : Int)
  | [], _, p, h => by simp [numF] at h
  | q :: l, i, p, h => by
    simp only [numF, List.mem_cons] at h
    rcases h with h | h
    · subst h; exact ⟨0, q, rfl, rfl, rfl⟩
    · obtain ⟨k, r, h1, h2, h3⟩ := numF_mem l (i + 1) p h
      exact ⟨k + 1, r, by simpa using h1, h2, by rw [h3]; congr 1; omega⟩
theorem numF_at : ∀ (l : List Pr) (i k : Nat) (q : Pr), l[k]? = some q → (numF l i)[k]? = some ⟨q.a, ((i + k : Nat) : Int)⟩
  | [], _, k, q, h => by simp at h
  | p :: l, i, 0, q, h => by simp at h; subst h; rfl
  | p :: l, i, k + 1, q, h => by
    have := numF_at l (i + 1) k q (by simpa using h)
    simp only [numF, List.getElem?_cons_succ, this]
    congr 3; omega
theorem numF_up : ∀ (l : List Pr) (i : Nat), (numF l i).Pairwise (fun a b => a.b < b.b)
  | [], _ => List.Pairwise.nil
  | p :: l, i => by
    refine List.pairwise_cons.2 ⟨fun q hq => ?_, numF_up l (i + 1)⟩
    obtain ⟨k, r, _, _, h3⟩ := numF_mem l (i + 1) q hq
    show (i : Int) < q.b
    rw [h3]; omega
theorem perm_apart {A l : List Pr} (h : A.Perm (numF l 0)) : A.Pairwise (fun a b => a.b ≠ b.b) :=
  (h.pairwise_iff (fun e => e.symm)).2 ((numF_up l 0).imp (fun e => by omega))
theorem perm_in {A l : List Pr} (h : A.Perm (numF l 0)) {i : Nat} {p : Pr} (hp : A[i]? = some p) : ∃ (k : Nat) (q : Pr), l[k]? = some q ∧ p.a = q.a ∧ p.b = (k : Int) := by
  obtain ⟨k, q, h1, h2, h3⟩ := numF_mem l 0 p (h.mem_iff.1 (List.mem_of_getElem? hp))
  exact ⟨k, q, h1, h2, by rw [h3]; simp⟩
/-- What has been seen. -/
def seenF (A : List Pr) (i : Nat) (j : Nat) : Bool := (A.take i).any (fun p => decide (p.b = (j : Int)))
theorem seen_no {A : List Pr} (h : A.Pairwise (fun a b => a.b ≠ b.b)) {i k : Nat} {p : Pr} (hp : A[i]? = some p) (hk : p.b = (k : Int)) : seenF A i k = false := by
  unfold seenF
  rw [List.any_eq_false]
  intro q hq
  obtain ⟨j, hj, e⟩ := List.mem_iff_getElem.1 hq
  simp only [List.length_take] at hj
  rw [List.getElem_take] at e
  obtain ⟨hi, ep⟩ := List.getElem?_eq_some_iff.1 hp
  have h1 := (List.pairwise_iff_getElem.1 h) j i (by omega) hi (by omega)
  rw [e, ep] at h1
  simp only [decide_eq_true_eq]
  intro e2
  exact h1 (by rw [e2, hk])
theorem seen_put {A : List Pr} {i k : Nat} {p : Pr} (hp : A[i]? = some p) (hk : p.b = (k : Int)) (j : Nat) : seenF A (i + 1) j = if j = k then true else seenF A i j := by
  unfold seenF
  rw [List.take_add_one, hp]
  simp only [Option.toList_some, List.any_append, List.any_cons, List.any_nil, Bool.or_false]
  by_cases e : j = k
  · subst e; simp [hk]
  · rw [if_neg e]
    have : decide (p.b = (j : Int)) = false := decide_eq_false (fun h => e (by rw [hk] at h; omega))
    rw [this, Bool.or_false]
/-- A row of marks. -/
def RowB (W : World) (b L : Nat) (f : Nat → Bool) : Prop := ∃ cur, W.heap[b]? = some (.cells cur 4 (0, 0)) ∧ cur.size = L ∧ ∀ j, j < L → cur[j]? = some (.bool (f j))
section
variable {W W' : World} {b L : Nat} {f g : Nat → Bool}
theorem RowB.cell (h : RowB W b L f) {j : Nat} (hj : j < L) : W.cell? ⟨b, j, none⟩ = some (.bool (f j)) := by
  obtain ⟨cur, h1, _, h3⟩ := h
  exact cells_at h1 (h3 j hj)
theorem RowB.free (h : RowB W b L f) (k : Nat) : W.frozen? ⟨b, k, none⟩ = false := by
  obtain ⟨cur, h1, _, _⟩ := h
  exact frozen_at h1
theorem RowB.lt (h : RowB W b L f) : b < W.heap.size := by
  obtain ⟨cur, h1, _, _⟩ := h
  exact (Array.getElem?_eq_some_iff.1 h1).1
theorem RowB.below (h : RowB W b L f) (c : Below W.heap.size W W') : RowB W' b L f := by
  obtain ⟨cur, h1, h2, h3⟩ := h
  exact ⟨cur, (c.block b (Array.getElem?_eq_some_iff.1 h1).1).trans h1, h2, h3⟩
theorem RowB.set (h : RowB W b L f) {k : Nat} (hk : k < L) {v : Bool} (hg : ∀ j, j < L → g j = if j = k then v else f j) : RowB (W.setCell ⟨b, k, none⟩ (.bool v)) b L g := by
  obtain ⟨cur, h1, h2, h3⟩ := h
  refine ⟨cur.setIfInBounds k (.bool v), ?_, by simpa using h2, fun j hj => ?_⟩
  · have := heap_setCell_same W b k cur 4 (.bool v) h1
    rw [this]
  · rw [hg j hj]
    by_cases e : j = k
    · subst e; rw [if_pos rfl]; simp [h2, hk]
    · rw [if_neg e]
      rw [Array.getElem?_setIfInBounds_ne (fun x => e x.symm)]
      exact h3 j hj
end
theorem Try.soBa : (Try.prog.info? 4).map (fun i => (i.zero, i.size, i.bytes)) = some (some (.bool false), 1, 1) := by kernel_rfl
theorem make_B (w : World) {n : Nat} (hn : n ≤ 140737488355328) : ∃ w', (Instr.makeSlice 50 (.int .i64 (n : Int)) (.int .i64 (n : Int))).run Try.prog w = .ok (.slice (some ⟨w.heap.size, 0, none⟩) n n) w' ∧ RowB w' w.heap.size n (fun _ => false) ∧ Below w.heap.size w w' ∧ w'.heap.size = w.heap.size + 1 := by
  obtain ⟨i0, hi0, hz0, hz1, hz2⟩ := info_parts Try.soBa
  have hmk := run_make (P := Try.prog) w 50 4 i0 _ Try.underlying50 hi0 hz0 .i64 .i64 (n : Int) (n : Int) (by omega) (Int.le_refl _) (by rw [hz2]; omega) (by omega)
  rw [show ((n : Int)).toNat = n by omega, hz1] at hmk
  refine ⟨_, hmk, ?_, (Below.refl _ _).alloc (Nat.le_refl _) _, by simp⟩
  refine ⟨_, heap_alloc_new w _, by simp [madeCells], fun j hj => ?_⟩
  simp [madeCells, hj]
  show (#[Value.bool false] : Array Value)[j % 1]! = _
  simp [Nat.mod_one]
set_option maxHeartbeats 1000000 in
set_option maxRecDepth 20000 in
theorem all_yes {w : World} {g n c gl ol cl : Nat} {ao : Option Addr} {A l : List Pr} (hA : RwI w g A) (hp : A.Perm (numF l 0)) (hL : l.length = n) (hn : n * 16 ≤ 140737488355328) (hao : 0 < n → ao = some ⟨gl, ol, none⟩)
    (hsrc : ∀ k q, l[k]? = some q → w.cell? ⟨gl, ol + k * 2, none⟩ = some (.int .i64 q.a)) :
    Calls Try.prog 11 #[.slice (some ⟨g, 0, none⟩) n c, .slice ao n cl] w fun e w' => e = .returned (.bool true) ∧ Below w.heap.size w w' := by
  obtain ⟨w1, hmk, hB, hb1, hz1⟩ := make_B w (n := n) (by omega)
  have hAl : A.length = n := by rw [hp.length_eq, numF_len, hL]
  have hd : ((n : Int) != (n : Int)) = false := by simp
  have HP : Hid (∀ i p, A[i]? = some p → ∃ (k : Nat) (q : Pr), l[k]? = some q ∧ p.a = q.a ∧ p.b = (k : Int) ∧ k < n ∧ seenF A i k = false) := fun i p h => by
    obtain ⟨k, q, h1, h2, h3⟩ := perm_in hp h
    exact ⟨k, q, h1, h2, h3, by have := (List.getElem?_eq_some_iff.1 h1).1; omega, seen_no (perm_apart hp) h h3⟩
  have HA : Hid (RwI w g A) := hA
  have HS : Hid (∀ k q, l[k]? = some q → w.cell? ⟨gl, ol + k * 2, none⟩ = some (.int .i64 q.a)) := hsrc
  have HAO : Hid (0 < n → ao = some ⟨gl, ol, none⟩) := hao
  have HN : Hid (A.length = n ∧ n * 16 ≤ 140737488355328) := ⟨hAl, hn⟩
  have HB1 : Hid (RowB w1 w.heap.size n (seenF A 0) ∧ Below w.heap.size w w1) := ⟨hB, hb1⟩
  clear hA hp hL hn hao hsrc hAl hB hb1 hz1
  go_enter Try.func11, Try.ntmps11
  go_wp2
  go_loopg [6] n (fun gk x wr => ∃ i : Nat, i + gk = n ∧ x = .int .i64 i ∧ RowB wr w.heap.size n (seenF A i) ∧ Below w.heap.size w wr)
  case atStart => exact ⟨0, by omega, rfl, HB1.out⟩
  case round =>
    obtain ⟨i, hi, rfl, hrb, hbw⟩ := hrel
    have HR : Hid (RowB wr w.heap.size n (seenF A i) ∧ Below w.heap.size w wr) := ⟨hrb, hbw⟩
    clear hrb hbw HB1 hmk
    by_cases hlt : i < n
    · obtain ⟨p, hpi⟩ : ∃ p, A[i]? = some p := ⟨_, List.getElem?_eq_getElem (by have := HN.out.1; omega)⟩
      obtain ⟨k, q, h1, h2, h3, h4, h5⟩ := HP.out i p hpi
      have HU : Hid (∀ j, j < n → seenF A (i + 1) j = if j = k then true else seenF A i j) := fun j _ => seen_put hpi h3 j
      obtain rfl := HAO.out (by omega)
      have a1 := ((HA.out.below HR.out.2).at hpi)
      obtain ⟨a1, a2⟩ := a1
      have a3 := cellB HR.out.2 (HS.out k q h1)
      have a4 := HR.out.1.cell h4
      have a5 := HR.out.1.free k
      rw [h5] at a4
      rw [h3] at a2
      rw [← h2] at a3
      have k1 : ¬ (k : Int) < 0 := by omega
      have k2 : (k : Int) < n := by omega
      have k3 : ¬ (n : Int) ≤ k := by omega
      have k4 : (p.a != p.a) = false := by simp
      have HK : Hid (k < n) := h4
      clear h1 h2 h3 h5 hpi h4
      generalize p.a = pa at *
      go_upto_region 8 with fail
      go_quiet (fail)
      have HX : Hid (RowB (wr.drewN nq) w.heap.size n (seenF A i) ∧ Below w.heap.size w (wr.drewN nq)) := ⟨HR.out.1.below ⟨rfl, rfl, rfl, Nat.le_refl _, fun _ _ => rfl⟩, below_drewN HR.out.2 nq⟩
      clear a1 a2 a3 a4 a5 HR
      generalize wr.drewN nq = X at *
      have b4 := HX.out.1.cell HK.out
      have b5 := HX.out.1.free k
      have HY : Hid (RowB (X.setCell ⟨w.heap.size, k, none⟩ (.bool true)) w.heap.size n (seenF A (i + 1)) ∧ Below w.heap.size w (X.setCell ⟨w.heap.size, k, none⟩ (.bool true))) := ⟨HX.out.1.set HK.out HU.out, HX.out.2.setCell (Nat.le_refl _) _⟩
      clear HX HU
      have HW : Hid (wrap64 ((i : Int) + 1) = ((i + 1 : Nat) : Int)) := wrap64_nat (h := i + 1) (by have := HN.out.2; omega)
      go_wp2
      go_roundg (n - (i + 1))
      case measure => omega
      case rel => exact ⟨i + 1, by omega, by first | rfl | (rw [HW.out]), HY.out⟩
    · have e : i = n := by omega
      subst e
      go_wp2
      go_ret
      exact ⟨rfl, HR.out.2⟩
end Go.Proofs.Ytjgllfpnmmopdaa
