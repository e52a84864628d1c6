/-
  NodesScript: its head; machines that there can't be.
-/
import Derived.Test.YtmfecocbadekhaaDoorPlay
import Derived.Test.YtmfecocbadekhaaDoorShown
namespace Go.Proofs.YtmfecocbadekhaaDoor
open Go.RowKit Nd

theorem play_start {w w1 w2 w3 w4 w5 : World} {n m g1 c1 g2 c2 F1 F2 : Nat} (hz : 0 < w.heap.size) (hb1 : Below w.heap.size w w1) (s1 : SetIn w2 w1.heap.size n F1) (hb2 : Below w1.heap.size w1 w2) (r1 : RefIn w3 w2.heap.size g1 c1 n F1) (hg1 : w2.heap.size < g1) (hb3 : Below w2.heap.size w2 w3)
    (s2 : SetIn w4 w3.heap.size m F2) (hb4 : Below w3.heap.size w3 w4) (r2 : RefIn w5 w4.heap.size g2 c2 m F2) (hg2 : w4.heap.size < g2) (hb5 : Below w4.heap.size w4 w5) :
    Play w (w5.heap.size + 1) (w5.heap.size + 1 + 1) w5.heap.size ⟨w1.heap.size, w2.heap.size, g1, c1, n, F1, F1, w3.heap.size, w4.heap.size, g2, c2, m, F2, none, none, 0, 0, []⟩
      (((w5.alloc (.cells #[.slice none 0 0, .slice none 0 0] 34)).alloc (.cells #[.pointer (some ⟨w1.heap.size, 0, none⟩), .pointer (some ⟨w2.heap.size, 0, none⟩)] 36)).alloc (.cells #[.pointer (some ⟨w3.heap.size, 0, none⟩), .pointer (some ⟨w4.heap.size, 0, none⟩)] 36)) := by
  have l1 := hb1.size
  have l2 := s1.lt
  have l3 := r1.glt
  have l4 := s2.lt
  have l5 := r2.glt
  have k45 := hb5
  have k35 := below_on hb4 hb5 hb4.size
  have k25 := below_on hb3 k35 hb3.size
  have k15 := below_on hb2 k25 hb2.size
  have k05 := below_on hb1 k15 hb1.size
  have S1 := s1.below k25
  have R1 := r1.below k35
  have S2 := s2.below k45
  clear s1 r1 s2 hb2 hb3 hb4 hb5 hb1
  generalize hA : (Obj.cells #[.slice none 0 0, .slice none 0 0] 34 : Obj) = A
  generalize hB : (Obj.cells #[.pointer (some ⟨w1.heap.size, 0, none⟩), .pointer (some ⟨w2.heap.size, 0, none⟩)] 36 : Obj) = B
  generalize hC : (Obj.cells #[.pointer (some ⟨w3.heap.size, 0, none⟩), .pointer (some ⟨w4.heap.size, 0, none⟩)] 36 : Obj) = C
  have kA : (((w5.alloc A).alloc B).alloc C).heap[w5.heap.size]? = some A := by
    rw [Below.heap_alloc _ _ _ (by simp; omega), Below.heap_alloc _ _ _ (by simp), heap_alloc_new]
  have kB : (((w5.alloc A).alloc B).alloc C).heap[w5.heap.size + 1]? = some B := by
    rw [Below.heap_alloc _ _ _ (by simp)]
    have := heap_alloc_new (w5.alloc A) B
    simpa using this
  have kC : (((w5.alloc A).alloc B).alloc C).heap[w5.heap.size + 1 + 1]? = some C := by
    have := heap_alloc_new ((w5.alloc A).alloc B) C
    simpa using this
  have hb : Below w5.heap.size w5 (((w5.alloc A).alloc B).alloc C) := (((Below.refl _ _).alloc (Nat.le_refl _) A).alloc (by simp) B).alloc (by simp; omega) C
  generalize ((w5.alloc A).alloc B).alloc C = W at kA kB kC hb ⊢
  rw [← hA] at kA
  rw [← hB] at kB
  rw [← hC] at kC
  clear hA hB hC
  have hN : Nums W w5.heap.size none none 0 0 [] := ⟨kA, World.ownsRow_nil _ _ _ _, World.ownsRow_nil _ _ _ _, fun e he => by simp at he, by simp [foot, ablk], by simp⟩
  refine ⟨⟨S1.below hb, R1.below hb, S2.below hb, r2.below hb, hN, fun e he => by simp at he, ?_, ?_⟩, rfl, by simp, ?_, ?_, ?_, ?_, ?_, ?_, ?_, ?_, ?_, ?_, by omega, by omega, by omega, ?_, hz, below_on k05 hb k05.size⟩
  · simp only [St.blks, St.feet, foot, ablk, List.nodup_cons, List.mem_cons, not_or]
    exact ⟨⟨by omega, by omega, by omega, by omega, by omega, by omega, by simp⟩, ⟨by omega, by omega, by omega, by omega, by omega, by simp⟩, ⟨by omega, by omega, by omega, by omega, by simp⟩, ⟨by omega, by omega, by omega, by simp⟩, ⟨by omega, by omega, by simp⟩, ⟨by omega, by simp⟩, by simp, by simp⟩
  · intro a ha
    simp only [St.blks, St.feet, foot, ablk, List.mem_cons] at ha
    rcases ha with e | e | e | e | e | e | e | e
    all_goals first | omega | (simp at e)
  · simp [World.cell?, kB]
  · simp [World.cell?, kB]
  · simp [World.cell?, kC]
  · simp [World.cell?, kC]
  · simp [World.frozen?, kB]
  · simp [World.frozen?, kB]
  · simp [World.frozen?, kC]
  · simp [World.frozen?, kC]
  · intro e
    simp only [St.blks, St.feet, foot, ablk, List.mem_cons] at e
    rcases e with e | e | e | e | e | e | e | e
    all_goals first | omega | (simp at e)
  · intro e
    simp only [St.blks, St.feet, foot, ablk, List.mem_cons] at e
    rcases e with e | e | e | e | e | e | e | e
    all_goals first | omega | (simp at e)
  · intro a ha
    simp only [St.blks, St.feet, foot, ablk, List.mem_cons] at ha
    rcases ha with e | e | e | e | e | e | e | e
    all_goals first | omega | (simp at e)

set_option maxHeartbeats 2000000 in
set_option maxRecDepth 20000 in
theorem script_no1 (n m : Int) (ao : Option Addr) (L sc : Nat) (w : World) (hT : Tab w) (hn : n < 1 ∨ 256 < n) (hm : m < 1 ∨ 256 < m) :
    Calls Tryd.prog 3 #[.int .i64 n, .int .i64 m, .slice ao L sc] w fun e w' => e = .returned (.bool true) ∧ Below w.heap.size w w' := by
  go_enter Tryd.func3, Tryd.ntmps3
  go_wp2_with fail
  refine (shown_any _ hT).mono ?_
  rintro e w1 ⟨rfl, hb1⟩
  go_wp2_with fail
  refine (new_no n _ hn).mono ?_
  rintro e w2 ⟨rfl, rfl⟩
  go_wp2_with fail
  refine (rnew_no n _ hn).mono ?_
  rintro e w2 ⟨rfl, rfl⟩
  go_wp2_with fail
  refine (new_no m _ hm).mono ?_
  rintro e w2 ⟨rfl, rfl⟩
  go_wp2_with fail
  refine (rnew_no m _ hm).mono ?_
  rintro e w2 ⟨rfl, rfl⟩
  go_wp2
  go_ret
  exact ⟨rfl, hb1⟩
set_option maxHeartbeats 2000000 in
set_option maxRecDepth 20000 in
theorem script_no2 (n : Nat) (m : Int) (ao : Option Addr) (L sc : Nat) (w : World) (hT : Tab w) (h1 : 1 ≤ n) (h2 : n ≤ 256) (hm : m < 1 ∨ 256 < m) :
    Calls Tryd.prog 3 #[.int .i64 n, .int .i64 m, .slice ao L sc] w fun e w' => e = .returned (.bool true) ∧ Below w.heap.size w w' := by
  go_enter Tryd.func3, Tryd.ntmps3
  go_wp2_with fail
  refine (shown_any _ hT).mono ?_
  rintro e w1 ⟨rfl, hb1⟩
  go_wp2_with fail
  refine (new_yes n _ h1 h2 (below_tab hb1 hT)).mono ?_
  rintro e w2 ⟨rfl, _, hb2⟩
  go_wp2_with fail
  refine (rnew_yes n _ h1 h2).mono ?_
  rintro e w3 ⟨g, cap, rfl, _, _, hb3⟩
  go_wp2_with fail
  refine (new_no m _ hm).mono ?_
  rintro e w4 ⟨rfl, rfl⟩
  go_wp2_with fail
  refine (rnew_no m _ hm).mono ?_
  rintro e w4 ⟨rfl, rfl⟩
  go_wp2
  go_ret
  exact ⟨rfl, below_on (below_on hb1 hb2 hb1.size) hb3 (by have := hb1.size; have := hb2.size; omega)⟩
set_option maxHeartbeats 2000000 in
set_option maxRecDepth 20000 in
theorem script_no3 (n : Int) (m : Nat) (ao : Option Addr) (L sc : Nat) (w : World) (hT : Tab w) (h1 : 1 ≤ m) (h2 : m ≤ 256) (hn : n < 1 ∨ 256 < n) :
    Calls Tryd.prog 3 #[.int .i64 n, .int .i64 m, .slice ao L sc] w fun e w' => e = .returned (.bool true) ∧ Below w.heap.size w w' := by
  go_enter Tryd.func3, Tryd.ntmps3
  go_wp2_with fail
  refine (shown_any _ hT).mono ?_
  rintro e w1 ⟨rfl, hb1⟩
  go_wp2_with fail
  refine (new_no n _ hn).mono ?_
  rintro e w2 ⟨rfl, rfl⟩
  go_wp2_with fail
  refine (rnew_no n _ hn).mono ?_
  rintro e w2 ⟨rfl, rfl⟩
  go_wp2_with fail
  refine (new_yes m _ h1 h2 (below_tab hb1 hT)).mono ?_
  rintro e w2 ⟨rfl, _, hb2⟩
  go_wp2_with fail
  refine (rnew_yes m _ h1 h2).mono ?_
  rintro e w3 ⟨g, cap, rfl, _, _, hb3⟩
  go_wp2
  go_ret
  exact ⟨rfl, below_on (below_on hb1 hb2 hb1.size) hb3 (by have := hb1.size; have := hb2.size; omega)⟩
end Go.Proofs.YtmfecocbadekhaaDoor
