/-
  PrioAge walked.
-/
import Derived.Test.YtjgllfpnmmopdaaShw
import Derived.Test.YtjgllfpnmmopdaaCfF
namespace Go.Proofs.Ytjgllfpnmmopdaa
open Go.RowKit Wd Tr Cg
structure Pc (w : World) (c : Cf) (s l : Jb) (x : World) : Prop where
  b0 : x.heap[w.heap.size]? = some (.cells #[.int .i64 c.nodes, .int .i64 c.queue, .int .i64 c.limit, .int .i64 c.age, .int .i64 c.fair, .int .i64 c.size, .int .i64 c.period, .int .i64 c.half] 31 (0, 0))
  b1 : x.heap[w.heap.size + 1]? = some (.cells #[.int .i64 s.ac, .int .i64 s.nd, .int .i64 s.lm, .int .i64 s.sb, .int .i64 s.st, .int .i64 s.sr, .int .i64 s.en, s.set] 34 (0, 0))
  b2 : x.heap[w.heap.size + 2]? = some (.cells #[.int .i64 l.ac, .int .i64 l.nd, .int .i64 l.lm, .int .i64 l.sb, .int .i64 l.st, .int .i64 l.sr, .int .i64 l.en, l.set] 34 (0, 0))
  bel : Below w.heap.size w x
theorem Pc.below {w x y : World} {c : Cf} {s l : Jb} (h : Pc w c s l x) (b : Below x.heap.size x y) : Pc w c s l y :=
  ⟨(b.block _ (Array.getElem?_eq_some_iff.1 h.b0).1).trans h.b0, (b.block _ (Array.getElem?_eq_some_iff.1 h.b1).1).trans h.b1, (b.block _ (Array.getElem?_eq_some_iff.1 h.b2).1).trans h.b2, h.bel.trans (b.mono h.bel.size)⟩
theorem Pc.new (w : World) (c : Cf) (s l : Jb) : Pc w c s l (((w.alloc (.cells #[.int .i64 c.nodes, .int .i64 c.queue, .int .i64 c.limit, .int .i64 c.age, .int .i64 c.fair, .int .i64 c.size, .int .i64 c.period, .int .i64 c.half] 31)).alloc (.cells #[.int .i64 s.ac, .int .i64 s.nd, .int .i64 s.lm, .int .i64 s.sb, .int .i64 s.st, .int .i64 s.sr, .int .i64 s.en, s.set] 34)).alloc (.cells #[.int .i64 l.ac, .int .i64 l.nd, .int .i64 l.lm, .int .i64 l.sb, .int .i64 l.st, .int .i64 l.sr, .int .i64 l.en, l.set] 34)) := by
  refine ⟨?_, ?_, ?_, (((Below.refl _ _).alloc (Nat.le_refl _) _).alloc (by simp) _).alloc (by simp; omega) _⟩
  · rw [Below.heap_alloc _ _ _ (by simp; omega), Below.heap_alloc _ _ _ (by simp)]; exact heap_alloc_new w _
  · rw [Below.heap_alloc _ _ _ (by simp)]
    have := heap_alloc_new (w.alloc (.cells #[.int .i64 c.nodes, .int .i64 c.queue, .int .i64 c.limit, .int .i64 c.age, .int .i64 c.fair, .int .i64 c.size, .int .i64 c.period, .int .i64 c.half] 31)) (.cells #[.int .i64 s.ac, .int .i64 s.nd, .int .i64 s.lm, .int .i64 s.sb, .int .i64 s.st, .int .i64 s.sr, .int .i64 s.en, s.set] 34)
    simpa using this
  · have := heap_alloc_new ((w.alloc (.cells #[.int .i64 c.nodes, .int .i64 c.queue, .int .i64 c.limit, .int .i64 c.age, .int .i64 c.fair, .int .i64 c.size, .int .i64 c.period, .int .i64 c.half] 31)).alloc (.cells #[.int .i64 s.ac, .int .i64 s.nd, .int .i64 s.lm, .int .i64 s.sb, .int .i64 s.st, .int .i64 s.sr, .int .i64 s.en, s.set] 34)) (.cells #[.int .i64 l.ac, .int .i64 l.nd, .int .i64 l.lm, .int .i64 l.sb, .int .i64 l.st, .int .i64 l.sr, .int .i64 l.en, l.set] 34)
    simpa using this
theorem Pc.set2 {w x : World} {c : Cf} {s l : Jb} (h : Pc w c s l x) (a b : Int) : Pc w c { s with sb := a } { l with sb := b } ((x.setCell ⟨w.heap.size + 1, 3, none⟩ (.int .i64 a)).setCell ⟨w.heap.size + 2, 3, none⟩ (.int .i64 b)) := by
  have n1 : w.heap.size ≠ w.heap.size + 1 := by omega
  have n2 : w.heap.size ≠ w.heap.size + 2 := by omega
  have n3 : w.heap.size + 1 ≠ w.heap.size + 2 := by omega
  have h1 := heap_setCell_same x (w.heap.size + 1) 3 _ 34 (.int .i64 a) h.b1
  have h2 := heap_setCell_same (x.setCell ⟨w.heap.size + 1, 3, none⟩ (.int .i64 a)) (w.heap.size + 2) 3 _ 34 (.int .i64 b) ((Below.heap_setCell _ _ _ _ (by simp)).trans h.b2)
  refine ⟨?_, ?_, h2, (h.bel.setCell (by show w.heap.size ≤ w.heap.size + 1; omega) _).setCell (by show w.heap.size ≤ w.heap.size + 2; omega) _⟩
  · rw [Below.heap_setCell _ _ _ _ (by simp), Below.heap_setCell _ _ _ _ (by simp)]; exact h.b0
  · rw [Below.heap_setCell _ _ _ _ (by simp)]; exact h1
set_option maxHeartbeats 4000000 in
set_option maxRecDepth 20000 in
theorem age_cases (c : Cf) (now elder later : Int) (s l : Jb) {low high : Int} (w : World) (hm : chkZ c = 0 → ¬ now < 0 → ¬ 1099511627776 < now → ¬ elder < 0 → ¬ now < later → ¬ later ≤ elder → ¬ s.nd < 1 → ¬ c.nodes < s.nd → ¬ l.nd < 1 → ¬ c.nodes < l.nd → ¬ high < low → ¬ 9223372036854775808 < high → Calls Try.prog 5 #[cfV c, .int .i64 now, .int .i64 elder, .int .i64 later, jbV s, jbV l, .int .u64 low, .int .u64 high] w fun e w' => e = .returned (.bool true) ∧ Below w.heap.size w w') :
    Calls Try.prog 5 #[cfV c, .int .i64 now, .int .i64 elder, .int .i64 later, jbV s, jbV l, .int .u64 low, .int .u64 high] w fun e w' => e = .returned (.bool true) ∧ Below w.heap.size w w' := by
  obtain ⟨w0, hw0⟩ : ∃ w0, ((w.alloc (.cells #[.int .i64 c.nodes, .int .i64 c.queue, .int .i64 c.limit, .int .i64 c.age, .int .i64 c.fair, .int .i64 c.size, .int .i64 c.period, .int .i64 c.half] 31)).alloc (.cells #[.int .i64 s.ac, .int .i64 s.nd, .int .i64 s.lm, .int .i64 s.sb, .int .i64 s.st, .int .i64 s.sr, .int .i64 s.en, s.set] 34)).alloc (.cells #[.int .i64 l.ac, .int .i64 l.nd, .int .i64 l.lm, .int .i64 l.sb, .int .i64 l.st, .int .i64 l.sr, .int .i64 l.en, l.set] 34) = w0 := ⟨_, rfl⟩
  have hp := Pc.new w c s l
  rw [hw0] at hp
  have hs := shown_any w0
  have HP0 : Hid (Pc w c s l w0) := hp
  have HM : Hid (chkZ c = 0 → ¬ now < 0 → ¬ 1099511627776 < now → ¬ elder < 0 → ¬ now < later → ¬ later ≤ elder → ¬ s.nd < 1 → ¬ c.nodes < s.nd → ¬ l.nd < 1 → ¬ c.nodes < l.nd → ¬ high < low → ¬ 9223372036854775808 < high → Calls Try.prog 5 #[cfV c, .int .i64 now, .int .i64 elder, .int .i64 later, jbV s, jbV l, .int .u64 low, .int .u64 high] w fun e w' => e = .returned (.bool true) ∧ Below w.heap.size w w') := hm
  clear hp hm
  by_cases h1 : chkZ c = 0
  · have HCK : Hid (∀ x, Calls Try.prog 14 #[cfV c] x fun e w' => e = .returned (.int .i64 0) ∧ Below x.heap.size x w') := fun x => by have h := rcheck_any c x; rw [h1] at h; exact h
    unfold cfV at HCK
    unfold cfV jbV at *
    by_cases k0 : now < 0
    · skip
      go_enter Try.func5, Try.ntmps5
      go_wp2_with fail
      refine hs.mono ?_
      rintro e x1 ⟨rfl, hb1⟩
      have HP : Hid (Pc w c s l x1) := HP0.out.below hb1
      clear hs hb1 HP0 hw0
      have cc := HCK.out x1
      have c0 : x1.cell? ⟨w.heap.size, 0, none⟩ = some (.int .i64 c.nodes) := cells_at (Pc.b0 HP.out) rfl
      have c1 : x1.cell? ⟨w.heap.size, 1, none⟩ = some (.int .i64 c.queue) := cells_at (Pc.b0 HP.out) rfl
      have c2 : x1.cell? ⟨w.heap.size, 2, none⟩ = some (.int .i64 c.limit) := cells_at (Pc.b0 HP.out) rfl
      have c3 : x1.cell? ⟨w.heap.size, 3, none⟩ = some (.int .i64 c.age) := cells_at (Pc.b0 HP.out) rfl
      have c4 : x1.cell? ⟨w.heap.size, 4, none⟩ = some (.int .i64 c.fair) := cells_at (Pc.b0 HP.out) rfl
      have c5 : x1.cell? ⟨w.heap.size, 5, none⟩ = some (.int .i64 c.size) := cells_at (Pc.b0 HP.out) rfl
      have c6 : x1.cell? ⟨w.heap.size, 6, none⟩ = some (.int .i64 c.period) := cells_at (Pc.b0 HP.out) rfl
      have c7 : x1.cell? ⟨w.heap.size, 7, none⟩ = some (.int .i64 c.half) := cells_at (Pc.b0 HP.out) rfl
      have s0 : x1.cell? ⟨w.heap.size + 1, 0, none⟩ = some (.int .i64 s.ac) := cells_at (Pc.b1 HP.out) rfl
      have s1 : x1.cell? ⟨w.heap.size + 1, 1, none⟩ = some (.int .i64 s.nd) := cells_at (Pc.b1 HP.out) rfl
      have s2 : x1.cell? ⟨w.heap.size + 1, 2, none⟩ = some (.int .i64 s.lm) := cells_at (Pc.b1 HP.out) rfl
      have s3 : x1.cell? ⟨w.heap.size + 1, 3, none⟩ = some (.int .i64 s.sb) := cells_at (Pc.b1 HP.out) rfl
      have s4 : x1.cell? ⟨w.heap.size + 1, 4, none⟩ = some (.int .i64 s.st) := cells_at (Pc.b1 HP.out) rfl
      have s5 : x1.cell? ⟨w.heap.size + 1, 5, none⟩ = some (.int .i64 s.sr) := cells_at (Pc.b1 HP.out) rfl
      have s6 : x1.cell? ⟨w.heap.size + 1, 6, none⟩ = some (.int .i64 s.en) := cells_at (Pc.b1 HP.out) rfl
      have s7 : x1.cell? ⟨w.heap.size + 1, 7, none⟩ = some (s.set) := cells_at (Pc.b1 HP.out) rfl
      have l0 : x1.cell? ⟨w.heap.size + 2, 0, none⟩ = some (.int .i64 l.ac) := cells_at (Pc.b2 HP.out) rfl
      have l1 : x1.cell? ⟨w.heap.size + 2, 1, none⟩ = some (.int .i64 l.nd) := cells_at (Pc.b2 HP.out) rfl
      have l2 : x1.cell? ⟨w.heap.size + 2, 2, none⟩ = some (.int .i64 l.lm) := cells_at (Pc.b2 HP.out) rfl
      have l3 : x1.cell? ⟨w.heap.size + 2, 3, none⟩ = some (.int .i64 l.sb) := cells_at (Pc.b2 HP.out) rfl
      have l4 : x1.cell? ⟨w.heap.size + 2, 4, none⟩ = some (.int .i64 l.st) := cells_at (Pc.b2 HP.out) rfl
      have l5 : x1.cell? ⟨w.heap.size + 2, 5, none⟩ = some (.int .i64 l.sr) := cells_at (Pc.b2 HP.out) rfl
      have l6 : x1.cell? ⟨w.heap.size + 2, 6, none⟩ = some (.int .i64 l.en) := cells_at (Pc.b2 HP.out) rfl
      have l7 : x1.cell? ⟨w.heap.size + 2, 7, none⟩ = some (l.set) := cells_at (Pc.b2 HP.out) rfl
      go_wp2_with fail
      refine cc.mono ?_
      rintro e x2 ⟨rfl, hb2⟩
      have HP2 : Hid (Pc w c s l x2) := HP.out.below hb2
      clear cc hb2 HP
      clear c0 c1 c2 c3 c4 c5 c6 c7 s0 s1 s2 s3 s4 s5 s6 s7 l0 l1 l2 l3 l4 l5 l6 l7
      have HP : Hid (Pc w c s l x2) := HP2.out
      clear HP2
      have c0 : x2.cell? ⟨w.heap.size, 0, none⟩ = some (.int .i64 c.nodes) := cells_at (Pc.b0 HP.out) rfl
      have c1 : x2.cell? ⟨w.heap.size, 1, none⟩ = some (.int .i64 c.queue) := cells_at (Pc.b0 HP.out) rfl
      have c2 : x2.cell? ⟨w.heap.size, 2, none⟩ = some (.int .i64 c.limit) := cells_at (Pc.b0 HP.out) rfl
      have c3 : x2.cell? ⟨w.heap.size, 3, none⟩ = some (.int .i64 c.age) := cells_at (Pc.b0 HP.out) rfl
      have c4 : x2.cell? ⟨w.heap.size, 4, none⟩ = some (.int .i64 c.fair) := cells_at (Pc.b0 HP.out) rfl
      have c5 : x2.cell? ⟨w.heap.size, 5, none⟩ = some (.int .i64 c.size) := cells_at (Pc.b0 HP.out) rfl
      have c6 : x2.cell? ⟨w.heap.size, 6, none⟩ = some (.int .i64 c.period) := cells_at (Pc.b0 HP.out) rfl
      have c7 : x2.cell? ⟨w.heap.size, 7, none⟩ = some (.int .i64 c.half) := cells_at (Pc.b0 HP.out) rfl
      have s0 : x2.cell? ⟨w.heap.size + 1, 0, none⟩ = some (.int .i64 s.ac) := cells_at (Pc.b1 HP.out) rfl
      have s1 : x2.cell? ⟨w.heap.size + 1, 1, none⟩ = some (.int .i64 s.nd) := cells_at (Pc.b1 HP.out) rfl
      have s2 : x2.cell? ⟨w.heap.size + 1, 2, none⟩ = some (.int .i64 s.lm) := cells_at (Pc.b1 HP.out) rfl
      have s3 : x2.cell? ⟨w.heap.size + 1, 3, none⟩ = some (.int .i64 s.sb) := cells_at (Pc.b1 HP.out) rfl
      have s4 : x2.cell? ⟨w.heap.size + 1, 4, none⟩ = some (.int .i64 s.st) := cells_at (Pc.b1 HP.out) rfl
      have s5 : x2.cell? ⟨w.heap.size + 1, 5, none⟩ = some (.int .i64 s.sr) := cells_at (Pc.b1 HP.out) rfl
      have s6 : x2.cell? ⟨w.heap.size + 1, 6, none⟩ = some (.int .i64 s.en) := cells_at (Pc.b1 HP.out) rfl
      have s7 : x2.cell? ⟨w.heap.size + 1, 7, none⟩ = some (s.set) := cells_at (Pc.b1 HP.out) rfl
      have l0 : x2.cell? ⟨w.heap.size + 2, 0, none⟩ = some (.int .i64 l.ac) := cells_at (Pc.b2 HP.out) rfl
      have l1 : x2.cell? ⟨w.heap.size + 2, 1, none⟩ = some (.int .i64 l.nd) := cells_at (Pc.b2 HP.out) rfl
      have l2 : x2.cell? ⟨w.heap.size + 2, 2, none⟩ = some (.int .i64 l.lm) := cells_at (Pc.b2 HP.out) rfl
      have l3 : x2.cell? ⟨w.heap.size + 2, 3, none⟩ = some (.int .i64 l.sb) := cells_at (Pc.b2 HP.out) rfl
      have l4 : x2.cell? ⟨w.heap.size + 2, 4, none⟩ = some (.int .i64 l.st) := cells_at (Pc.b2 HP.out) rfl
      have l5 : x2.cell? ⟨w.heap.size + 2, 5, none⟩ = some (.int .i64 l.sr) := cells_at (Pc.b2 HP.out) rfl
      have l6 : x2.cell? ⟨w.heap.size + 2, 6, none⟩ = some (.int .i64 l.en) := cells_at (Pc.b2 HP.out) rfl
      have l7 : x2.cell? ⟨w.heap.size + 2, 7, none⟩ = some (l.set) := cells_at (Pc.b2 HP.out) rfl
      have HBB : Hid (Below w.heap.size w x2) := HP.out.bel
      go_wp2
      go_ret
      exact ⟨rfl, HBB.out⟩
    by_cases k1 : 1099511627776 < now
    · skip
      go_enter Try.func5, Try.ntmps5
      go_wp2_with fail
      refine hs.mono ?_
      rintro e x1 ⟨rfl, hb1⟩
      have HP : Hid (Pc w c s l x1) := HP0.out.below hb1
      clear hs hb1 HP0 hw0
      have cc := HCK.out x1
      have c0 : x1.cell? ⟨w.heap.size, 0, none⟩ = some (.int .i64 c.nodes) := cells_at (Pc.b0 HP.out) rfl
      have c1 : x1.cell? ⟨w.heap.size, 1, none⟩ = some (.int .i64 c.queue) := cells_at (Pc.b0 HP.out) rfl
      have c2 : x1.cell? ⟨w.heap.size, 2, none⟩ = some (.int .i64 c.limit) := cells_at (Pc.b0 HP.out) rfl
      have c3 : x1.cell? ⟨w.heap.size, 3, none⟩ = some (.int .i64 c.age) := cells_at (Pc.b0 HP.out) rfl
      have c4 : x1.cell? ⟨w.heap.size, 4, none⟩ = some (.int .i64 c.fair) := cells_at (Pc.b0 HP.out) rfl
      have c5 : x1.cell? ⟨w.heap.size, 5, none⟩ = some (.int .i64 c.size) := cells_at (Pc.b0 HP.out) rfl
      have c6 : x1.cell? ⟨w.heap.size, 6, none⟩ = some (.int .i64 c.period) := cells_at (Pc.b0 HP.out) rfl
      have c7 : x1.cell? ⟨w.heap.size, 7, none⟩ = some (.int .i64 c.half) := cells_at (Pc.b0 HP.out) rfl
      have s0 : x1.cell? ⟨w.heap.size + 1, 0, none⟩ = some (.int .i64 s.ac) := cells_at (Pc.b1 HP.out) rfl
      have s1 : x1.cell? ⟨w.heap.size + 1, 1, none⟩ = some (.int .i64 s.nd) := cells_at (Pc.b1 HP.out) rfl
      have s2 : x1.cell? ⟨w.heap.size + 1, 2, none⟩ = some (.int .i64 s.lm) := cells_at (Pc.b1 HP.out) rfl
      have s3 : x1.cell? ⟨w.heap.size + 1, 3, none⟩ = some (.int .i64 s.sb) := cells_at (Pc.b1 HP.out) rfl
      have s4 : x1.cell? ⟨w.heap.size + 1, 4, none⟩ = some (.int .i64 s.st) := cells_at (Pc.b1 HP.out) rfl
      have s5 : x1.cell? ⟨w.heap.size + 1, 5, none⟩ = some (.int .i64 s.sr) := cells_at (Pc.b1 HP.out) rfl
      have s6 : x1.cell? ⟨w.heap.size + 1, 6, none⟩ = some (.int .i64 s.en) := cells_at (Pc.b1 HP.out) rfl
      have s7 : x1.cell? ⟨w.heap.size + 1, 7, none⟩ = some (s.set) := cells_at (Pc.b1 HP.out) rfl
      have l0 : x1.cell? ⟨w.heap.size + 2, 0, none⟩ = some (.int .i64 l.ac) := cells_at (Pc.b2 HP.out) rfl
      have l1 : x1.cell? ⟨w.heap.size + 2, 1, none⟩ = some (.int .i64 l.nd) := cells_at (Pc.b2 HP.out) rfl
      have l2 : x1.cell? ⟨w.heap.size + 2, 2, none⟩ = some (.int .i64 l.lm) := cells_at (Pc.b2 HP.out) rfl
      have l3 : x1.cell? ⟨w.heap.size + 2, 3, none⟩ = some (.int .i64 l.sb) := cells_at (Pc.b2 HP.out) rfl
      have l4 : x1.cell? ⟨w.heap.size + 2, 4, none⟩ = some (.int .i64 l.st) := cells_at (Pc.b2 HP.out) rfl
      have l5 : x1.cell? ⟨w.heap.size + 2, 5, none⟩ = some (.int .i64 l.sr) := cells_at (Pc.b2 HP.out) rfl
      have l6 : x1.cell? ⟨w.heap.size + 2, 6, none⟩ = some (.int .i64 l.en) := cells_at (Pc.b2 HP.out) rfl
      have l7 : x1.cell? ⟨w.heap.size + 2, 7, none⟩ = some (l.set) := cells_at (Pc.b2 HP.out) rfl
      go_wp2_with fail
      refine cc.mono ?_
      rintro e x2 ⟨rfl, hb2⟩
      have HP2 : Hid (Pc w c s l x2) := HP.out.below hb2
      clear cc hb2 HP
      clear c0 c1 c2 c3 c4 c5 c6 c7 s0 s1 s2 s3 s4 s5 s6 s7 l0 l1 l2 l3 l4 l5 l6 l7
      have HP : Hid (Pc w c s l x2) := HP2.out
      clear HP2
      have c0 : x2.cell? ⟨w.heap.size, 0, none⟩ = some (.int .i64 c.nodes) := cells_at (Pc.b0 HP.out) rfl
      have c1 : x2.cell? ⟨w.heap.size, 1, none⟩ = some (.int .i64 c.queue) := cells_at (Pc.b0 HP.out) rfl
      have c2 : x2.cell? ⟨w.heap.size, 2, none⟩ = some (.int .i64 c.limit) := cells_at (Pc.b0 HP.out) rfl
      have c3 : x2.cell? ⟨w.heap.size, 3, none⟩ = some (.int .i64 c.age) := cells_at (Pc.b0 HP.out) rfl
      have c4 : x2.cell? ⟨w.heap.size, 4, none⟩ = some (.int .i64 c.fair) := cells_at (Pc.b0 HP.out) rfl
      have c5 : x2.cell? ⟨w.heap.size, 5, none⟩ = some (.int .i64 c.size) := cells_at (Pc.b0 HP.out) rfl
      have c6 : x2.cell? ⟨w.heap.size, 6, none⟩ = some (.int .i64 c.period) := cells_at (Pc.b0 HP.out) rfl
      have c7 : x2.cell? ⟨w.heap.size, 7, none⟩ = some (.int .i64 c.half) := cells_at (Pc.b0 HP.out) rfl
      have s0 : x2.cell? ⟨w.heap.size + 1, 0, none⟩ = some (.int .i64 s.ac) := cells_at (Pc.b1 HP.out) rfl
      have s1 : x2.cell? ⟨w.heap.size + 1, 1, none⟩ = some (.int .i64 s.nd) := cells_at (Pc.b1 HP.out) rfl
      have s2 : x2.cell? ⟨w.heap.size + 1, 2, none⟩ = some (.int .i64 s.lm) := cells_at (Pc.b1 HP.out) rfl
      have s3 : x2.cell? ⟨w.heap.size + 1, 3, none⟩ = some (.int .i64 s.sb) := cells_at (Pc.b1 HP.out) rfl
      have s4 : x2.cell? ⟨w.heap.size + 1, 4, none⟩ = some (.int .i64 s.st) := cells_at (Pc.b1 HP.out) rfl
      have s5 : x2.cell? ⟨w.heap.size + 1, 5, none⟩ = some (.int .i64 s.sr) := cells_at (Pc.b1 HP.out) rfl
      have s6 : x2.cell? ⟨w.heap.size + 1, 6, none⟩ = some (.int .i64 s.en) := cells_at (Pc.b1 HP.out) rfl
      have s7 : x2.cell? ⟨w.heap.size + 1, 7, none⟩ = some (s.set) := cells_at (Pc.b1 HP.out) rfl
      have l0 : x2.cell? ⟨w.heap.size + 2, 0, none⟩ = some (.int .i64 l.ac) := cells_at (Pc.b2 HP.out) rfl
      have l1 : x2.cell? ⟨w.heap.size + 2, 1, none⟩ = some (.int .i64 l.nd) := cells_at (Pc.b2 HP.out) rfl
      have l2 : x2.cell? ⟨w.heap.size + 2, 2, none⟩ = some (.int .i64 l.lm) := cells_at (Pc.b2 HP.out) rfl
      have l3 : x2.cell? ⟨w.heap.size + 2, 3, none⟩ = some (.int .i64 l.sb) := cells_at (Pc.b2 HP.out) rfl
      have l4 : x2.cell? ⟨w.heap.size + 2, 4, none⟩ = some (.int .i64 l.st) := cells_at (Pc.b2 HP.out) rfl
      have l5 : x2.cell? ⟨w.heap.size + 2, 5, none⟩ = some (.int .i64 l.sr) := cells_at (Pc.b2 HP.out) rfl
      have l6 : x2.cell? ⟨w.heap.size + 2, 6, none⟩ = some (.int .i64 l.en) := cells_at (Pc.b2 HP.out) rfl
      have l7 : x2.cell? ⟨w.heap.size + 2, 7, none⟩ = some (l.set) := cells_at (Pc.b2 HP.out) rfl
      have HBB : Hid (Below w.heap.size w x2) := HP.out.bel
      go_wp2
      go_ret
      exact ⟨rfl, HBB.out⟩
    by_cases k2 : elder < 0
    · skip
      go_enter Try.func5, Try.ntmps5
      go_wp2_with fail
      refine hs.mono ?_
      rintro e x1 ⟨rfl, hb1⟩
      have HP : Hid (Pc w c s l x1) := HP0.out.below hb1
      clear hs hb1 HP0 hw0
      have cc := HCK.out x1
      have c0 : x1.cell? ⟨w.heap.size, 0, none⟩ = some (.int .i64 c.nodes) := cells_at (Pc.b0 HP.out) rfl
      have c1 : x1.cell? ⟨w.heap.size, 1, none⟩ = some (.int .i64 c.queue) := cells_at (Pc.b0 HP.out) rfl
      have c2 : x1.cell? ⟨w.heap.size, 2, none⟩ = some (.int .i64 c.limit) := cells_at (Pc.b0 HP.out) rfl
      have c3 : x1.cell? ⟨w.heap.size, 3, none⟩ = some (.int .i64 c.age) := cells_at (Pc.b0 HP.out) rfl
      have c4 : x1.cell? ⟨w.heap.size, 4, none⟩ = some (.int .i64 c.fair) := cells_at (Pc.b0 HP.out) rfl
      have c5 : x1.cell? ⟨w.heap.size, 5, none⟩ = some (.int .i64 c.size) := cells_at (Pc.b0 HP.out) rfl
      have c6 : x1.cell? ⟨w.heap.size, 6, none⟩ = some (.int .i64 c.period) := cells_at (Pc.b0 HP.out) rfl
      have c7 : x1.cell? ⟨w.heap.size, 7, none⟩ = some (.int .i64 c.half) := cells_at (Pc.b0 HP.out) rfl
      have s0 : x1.cell? ⟨w.heap.size + 1, 0, none⟩ = some (.int .i64 s.ac) := cells_at (Pc.b1 HP.out) rfl
      have s1 : x1.cell? ⟨w.heap.size + 1, 1, none⟩ = some (.int .i64 s.nd) := cells_at (Pc.b1 HP.out) rfl
      have s2 : x1.cell? ⟨w.heap.size + 1, 2, none⟩ = some (.int .i64 s.lm) := cells_at (Pc.b1 HP.out) rfl
      have s3 : x1.cell? ⟨w.heap.size + 1, 3, none⟩ = some (.int .i64 s.sb) := cells_at (Pc.b1 HP.out) rfl
      have s4 : x1.cell? ⟨w.heap.size + 1, 4, none⟩ = some (.int .i64 s.st) := cells_at (Pc.b1 HP.out) rfl
      have s5 : x1.cell? ⟨w.heap.size + 1, 5, none⟩ = some (.int .i64 s.sr) := cells_at (Pc.b1 HP.out) rfl
      have s6 : x1.cell? ⟨w.heap.size + 1, 6, none⟩ = some (.int .i64 s.en) := cells_at (Pc.b1 HP.out) rfl
      have s7 : x1.cell? ⟨w.heap.size + 1, 7, none⟩ = some (s.set) := cells_at (Pc.b1 HP.out) rfl
      have l0 : x1.cell? ⟨w.heap.size + 2, 0, none⟩ = some (.int .i64 l.ac) := cells_at (Pc.b2 HP.out) rfl
      have l1 : x1.cell? ⟨w.heap.size + 2, 1, none⟩ = some (.int .i64 l.nd) := cells_at (Pc.b2 HP.out) rfl
      have l2 : x1.cell? ⟨w.heap.size + 2, 2, none⟩ = some (.int .i64 l.lm) := cells_at (Pc.b2 HP.out) rfl
      have l3 : x1.cell? ⟨w.heap.size + 2, 3, none⟩ = some (.int .i64 l.sb) := cells_at (Pc.b2 HP.out) rfl
      have l4 : x1.cell? ⟨w.heap.size + 2, 4, none⟩ = some (.int .i64 l.st) := cells_at (Pc.b2 HP.out) rfl
      have l5 : x1.cell? ⟨w.heap.size + 2, 5, none⟩ = some (.int .i64 l.sr) := cells_at (Pc.b2 HP.out) rfl
      have l6 : x1.cell? ⟨w.heap.size + 2, 6, none⟩ = some (.int .i64 l.en) := cells_at (Pc.b2 HP.out) rfl
      have l7 : x1.cell? ⟨w.heap.size + 2, 7, none⟩ = some (l.set) := cells_at (Pc.b2 HP.out) rfl
      go_wp2_with fail
      refine cc.mono ?_
      rintro e x2 ⟨rfl, hb2⟩
      have HP2 : Hid (Pc w c s l x2) := HP.out.below hb2
      clear cc hb2 HP
      clear c0 c1 c2 c3 c4 c5 c6 c7 s0 s1 s2 s3 s4 s5 s6 s7 l0 l1 l2 l3 l4 l5 l6 l7
      have HP : Hid (Pc w c s l x2) := HP2.out
      clear HP2
      have c0 : x2.cell? ⟨w.heap.size, 0, none⟩ = some (.int .i64 c.nodes) := cells_at (Pc.b0 HP.out) rfl
      have c1 : x2.cell? ⟨w.heap.size, 1, none⟩ = some (.int .i64 c.queue) := cells_at (Pc.b0 HP.out) rfl
      have c2 : x2.cell? ⟨w.heap.size, 2, none⟩ = some (.int .i64 c.limit) := cells_at (Pc.b0 HP.out) rfl
      have c3 : x2.cell? ⟨w.heap.size, 3, none⟩ = some (.int .i64 c.age) := cells_at (Pc.b0 HP.out) rfl
      have c4 : x2.cell? ⟨w.heap.size, 4, none⟩ = some (.int .i64 c.fair) := cells_at (Pc.b0 HP.out) rfl
      have c5 : x2.cell? ⟨w.heap.size, 5, none⟩ = some (.int .i64 c.size) := cells_at (Pc.b0 HP.out) rfl
      have c6 : x2.cell? ⟨w.heap.size, 6, none⟩ = some (.int .i64 c.period) := cells_at (Pc.b0 HP.out) rfl
      have c7 : x2.cell? ⟨w.heap.size, 7, none⟩ = some (.int .i64 c.half) := cells_at (Pc.b0 HP.out) rfl
      have s0 : x2.cell? ⟨w.heap.size + 1, 0, none⟩ = some (.int .i64 s.ac) := cells_at (Pc.b1 HP.out) rfl
      have s1 : x2.cell? ⟨w.heap.size + 1, 1, none⟩ = some (.int .i64 s.nd) := cells_at (Pc.b1 HP.out) rfl
      have s2 : x2.cell? ⟨w.heap.size + 1, 2, none⟩ = some (.int .i64 s.lm) := cells_at (Pc.b1 HP.out) rfl
      have s3 : x2.cell? ⟨w.heap.size + 1, 3, none⟩ = some (.int .i64 s.sb) := cells_at (Pc.b1 HP.out) rfl
      have s4 : x2.cell? ⟨w.heap.size + 1, 4, none⟩ = some (.int .i64 s.st) := cells_at (Pc.b1 HP.out) rfl
      have s5 : x2.cell? ⟨w.heap.size + 1, 5, none⟩ = some (.int .i64 s.sr) := cells_at (Pc.b1 HP.out) rfl
      have s6 : x2.cell? ⟨w.heap.size + 1, 6, none⟩ = some (.int .i64 s.en) := cells_at (Pc.b1 HP.out) rfl
      have s7 : x2.cell? ⟨w.heap.size + 1, 7, none⟩ = some (s.set) := cells_at (Pc.b1 HP.out) rfl
      have l0 : x2.cell? ⟨w.heap.size + 2, 0, none⟩ = some (.int .i64 l.ac) := cells_at (Pc.b2 HP.out) rfl
      have l1 : x2.cell? ⟨w.heap.size + 2, 1, none⟩ = some (.int .i64 l.nd) := cells_at (Pc.b2 HP.out) rfl
      have l2 : x2.cell? ⟨w.heap.size + 2, 2, none⟩ = some (.int .i64 l.lm) := cells_at (Pc.b2 HP.out) rfl
      have l3 : x2.cell? ⟨w.heap.size + 2, 3, none⟩ = some (.int .i64 l.sb) := cells_at (Pc.b2 HP.out) rfl
      have l4 : x2.cell? ⟨w.heap.size + 2, 4, none⟩ = some (.int .i64 l.st) := cells_at (Pc.b2 HP.out) rfl
      have l5 : x2.cell? ⟨w.heap.size + 2, 5, none⟩ = some (.int .i64 l.sr) := cells_at (Pc.b2 HP.out) rfl
      have l6 : x2.cell? ⟨w.heap.size + 2, 6, none⟩ = some (.int .i64 l.en) := cells_at (Pc.b2 HP.out) rfl
      have l7 : x2.cell? ⟨w.heap.size + 2, 7, none⟩ = some (l.set) := cells_at (Pc.b2 HP.out) rfl
      have HBB : Hid (Below w.heap.size w x2) := HP.out.bel
      go_wp2
      go_ret
      exact ⟨rfl, HBB.out⟩
    by_cases k3 : now < later
    · skip
      go_enter Try.func5, Try.ntmps5
      go_wp2_with fail
      refine hs.mono ?_
      rintro e x1 ⟨rfl, hb1⟩
      have HP : Hid (Pc w c s l x1) := HP0.out.below hb1
      clear hs hb1 HP0 hw0
      have cc := HCK.out x1
      have c0 : x1.cell? ⟨w.heap.size, 0, none⟩ = some (.int .i64 c.nodes) := cells_at (Pc.b0 HP.out) rfl
      have c1 : x1.cell? ⟨w.heap.size, 1, none⟩ = some (.int .i64 c.queue) := cells_at (Pc.b0 HP.out) rfl
      have c2 : x1.cell? ⟨w.heap.size, 2, none⟩ = some (.int .i64 c.limit) := cells_at (Pc.b0 HP.out) rfl
      have c3 : x1.cell? ⟨w.heap.size, 3, none⟩ = some (.int .i64 c.age) := cells_at (Pc.b0 HP.out) rfl
      have c4 : x1.cell? ⟨w.heap.size, 4, none⟩ = some (.int .i64 c.fair) := cells_at (Pc.b0 HP.out) rfl
      have c5 : x1.cell? ⟨w.heap.size, 5, none⟩ = some (.int .i64 c.size) := cells_at (Pc.b0 HP.out) rfl
      have c6 : x1.cell? ⟨w.heap.size, 6, none⟩ = some (.int .i64 c.period) := cells_at (Pc.b0 HP.out) rfl
      have c7 : x1.cell? ⟨w.heap.size, 7, none⟩ = some (.int .i64 c.half) := cells_at (Pc.b0 HP.out) rfl
      have s0 : x1.cell? ⟨w.heap.size + 1, 0, none⟩ = some (.int .i64 s.ac) := cells_at (Pc.b1 HP.out) rfl
      have s1 : x1.cell? ⟨w.heap.size + 1, 1, none⟩ = some (.int .i64 s.nd) := cells_at (Pc.b1 HP.out) rfl
      have s2 : x1.cell? ⟨w.heap.size + 1, 2, none⟩ = some (.int .i64 s.lm) := cells_at (Pc.b1 HP.out) rfl
      have s3 : x1.cell? ⟨w.heap.size + 1, 3, none⟩ = some (.int .i64 s.sb) := cells_at (Pc.b1 HP.out) rfl
      have s4 : x1.cell? ⟨w.heap.size + 1, 4, none⟩ = some (.int .i64 s.st) := cells_at (Pc.b1 HP.out) rfl
      have s5 : x1.cell? ⟨w.heap.size + 1, 5, none⟩ = some (.int .i64 s.sr) := cells_at (Pc.b1 HP.out) rfl
      have s6 : x1.cell? ⟨w.heap.size + 1, 6, none⟩ = some (.int .i64 s.en) := cells_at (Pc.b1 HP.out) rfl
      have s7 : x1.cell? ⟨w.heap.size + 1, 7, none⟩ = some (s.set) := cells_at (Pc.b1 HP.out) rfl
      have l0 : x1.cell? ⟨w.heap.size + 2, 0, none⟩ = some (.int .i64 l.ac) := cells_at (Pc.b2 HP.out) rfl
      have l1 : x1.cell? ⟨w.heap.size + 2, 1, none⟩ = some (.int .i64 l.nd) := cells_at (Pc.b2 HP.out) rfl
      have l2 : x1.cell? ⟨w.heap.size + 2, 2, none⟩ = some (.int .i64 l.lm) := cells_at (Pc.b2 HP.out) rfl
      have l3 : x1.cell? ⟨w.heap.size + 2, 3, none⟩ = some (.int .i64 l.sb) := cells_at (Pc.b2 HP.out) rfl
      have l4 : x1.cell? ⟨w.heap.size + 2, 4, none⟩ = some (.int .i64 l.st) := cells_at (Pc.b2 HP.out) rfl
      have l5 : x1.cell? ⟨w.heap.size + 2, 5, none⟩ = some (.int .i64 l.sr) := cells_at (Pc.b2 HP.out) rfl
      have l6 : x1.cell? ⟨w.heap.size + 2, 6, none⟩ = some (.int .i64 l.en) := cells_at (Pc.b2 HP.out) rfl
      have l7 : x1.cell? ⟨w.heap.size + 2, 7, none⟩ = some (l.set) := cells_at (Pc.b2 HP.out) rfl
      go_wp2_with fail
      refine cc.mono ?_
      rintro e x2 ⟨rfl, hb2⟩
      have HP2 : Hid (Pc w c s l x2) := HP.out.below hb2
      clear cc hb2 HP
      clear c0 c1 c2 c3 c4 c5 c6 c7 s0 s1 s2 s3 s4 s5 s6 s7 l0 l1 l2 l3 l4 l5 l6 l7
      have HP : Hid (Pc w c s l x2) := HP2.out
      clear HP2
      have c0 : x2.cell? ⟨w.heap.size, 0, none⟩ = some (.int .i64 c.nodes) := cells_at (Pc.b0 HP.out) rfl
      have c1 : x2.cell? ⟨w.heap.size, 1, none⟩ = some (.int .i64 c.queue) := cells_at (Pc.b0 HP.out) rfl
      have c2 : x2.cell? ⟨w.heap.size, 2, none⟩ = some (.int .i64 c.limit) := cells_at (Pc.b0 HP.out) rfl
      have c3 : x2.cell? ⟨w.heap.size, 3, none⟩ = some (.int .i64 c.age) := cells_at (Pc.b0 HP.out) rfl
      have c4 : x2.cell? ⟨w.heap.size, 4, none⟩ = some (.int .i64 c.fair) := cells_at (Pc.b0 HP.out) rfl
      have c5 : x2.cell? ⟨w.heap.size, 5, none⟩ = some (.int .i64 c.size) := cells_at (Pc.b0 HP.out) rfl
      have c6 : x2.cell? ⟨w.heap.size, 6, none⟩ = some (.int .i64 c.period) := cells_at (Pc.b0 HP.out) rfl
      have c7 : x2.cell? ⟨w.heap.size, 7, none⟩ = some (.int .i64 c.half) := cells_at (Pc.b0 HP.out) rfl
      have s0 : x2.cell? ⟨w.heap.size + 1, 0, none⟩ = some (.int .i64 s.ac) := cells_at (Pc.b1 HP.out) rfl
      have s1 : x2.cell? ⟨w.heap.size + 1, 1, none⟩ = some (.int .i64 s.nd) := cells_at (Pc.b1 HP.out) rfl
      have s2 : x2.cell? ⟨w.heap.size + 1, 2, none⟩ = some (.int .i64 s.lm) := cells_at (Pc.b1 HP.out) rfl
      have s3 : x2.cell? ⟨w.heap.size + 1, 3, none⟩ = some (.int .i64 s.sb) := cells_at (Pc.b1 HP.out) rfl
      have s4 : x2.cell? ⟨w.heap.size + 1, 4, none⟩ = some (.int .i64 s.st) := cells_at (Pc.b1 HP.out) rfl
      have s5 : x2.cell? ⟨w.heap.size + 1, 5, none⟩ = some (.int .i64 s.sr) := cells_at (Pc.b1 HP.out) rfl
      have s6 : x2.cell? ⟨w.heap.size + 1, 6, none⟩ = some (.int .i64 s.en) := cells_at (Pc.b1 HP.out) rfl
      have s7 : x2.cell? ⟨w.heap.size + 1, 7, none⟩ = some (s.set) := cells_at (Pc.b1 HP.out) rfl
      have l0 : x2.cell? ⟨w.heap.size + 2, 0, none⟩ = some (.int .i64 l.ac) := cells_at (Pc.b2 HP.out) rfl
      have l1 : x2.cell? ⟨w.heap.size + 2, 1, none⟩ = some (.int .i64 l.nd) := cells_at (Pc.b2 HP.out) rfl
      have l2 : x2.cell? ⟨w.heap.size + 2, 2, none⟩ = some (.int .i64 l.lm) := cells_at (Pc.b2 HP.out) rfl
      have l3 : x2.cell? ⟨w.heap.size + 2, 3, none⟩ = some (.int .i64 l.sb) := cells_at (Pc.b2 HP.out) rfl
      have l4 : x2.cell? ⟨w.heap.size + 2, 4, none⟩ = some (.int .i64 l.st) := cells_at (Pc.b2 HP.out) rfl
      have l5 : x2.cell? ⟨w.heap.size + 2, 5, none⟩ = some (.int .i64 l.sr) := cells_at (Pc.b2 HP.out) rfl
      have l6 : x2.cell? ⟨w.heap.size + 2, 6, none⟩ = some (.int .i64 l.en) := cells_at (Pc.b2 HP.out) rfl
      have l7 : x2.cell? ⟨w.heap.size + 2, 7, none⟩ = some (l.set) := cells_at (Pc.b2 HP.out) rfl
      have HBB : Hid (Below w.heap.size w x2) := HP.out.bel
      go_wp2
      go_ret
      exact ⟨rfl, HBB.out⟩
    by_cases k4 : later ≤ elder
    · skip
      go_enter Try.func5, Try.ntmps5
      go_wp2_with fail
      refine hs.mono ?_
      rintro e x1 ⟨rfl, hb1⟩
      have HP : Hid (Pc w c s l x1) := HP0.out.below hb1
      clear hs hb1 HP0 hw0
      have cc := HCK.out x1
      have c0 : x1.cell? ⟨w.heap.size, 0, none⟩ = some (.int .i64 c.nodes) := cells_at (Pc.b0 HP.out) rfl
      have c1 : x1.cell? ⟨w.heap.size, 1, none⟩ = some (.int .i64 c.queue) := cells_at (Pc.b0 HP.out) rfl
      have c2 : x1.cell? ⟨w.heap.size, 2, none⟩ = some (.int .i64 c.limit) := cells_at (Pc.b0 HP.out) rfl
      have c3 : x1.cell? ⟨w.heap.size, 3, none⟩ = some (.int .i64 c.age) := cells_at (Pc.b0 HP.out) rfl
      have c4 : x1.cell? ⟨w.heap.size, 4, none⟩ = some (.int .i64 c.fair) := cells_at (Pc.b0 HP.out) rfl
      have c5 : x1.cell? ⟨w.heap.size, 5, none⟩ = some (.int .i64 c.size) := cells_at (Pc.b0 HP.out) rfl
      have c6 : x1.cell? ⟨w.heap.size, 6, none⟩ = some (.int .i64 c.period) := cells_at (Pc.b0 HP.out) rfl
      have c7 : x1.cell? ⟨w.heap.size, 7, none⟩ = some (.int .i64 c.half) := cells_at (Pc.b0 HP.out) rfl
      have s0 : x1.cell? ⟨w.heap.size + 1, 0, none⟩ = some (.int .i64 s.ac) := cells_at (Pc.b1 HP.out) rfl
      have s1 : x1.cell? ⟨w.heap.size + 1, 1, none⟩ = some (.int .i64 s.nd) := cells_at (Pc.b1 HP.out) rfl
      have s2 : x1.cell? ⟨w.heap.size + 1, 2, none⟩ = some (.int .i64 s.lm) := cells_at (Pc.b1 HP.out) rfl
      have s3 : x1.cell? ⟨w.heap.size + 1, 3, none⟩ = some (.int .i64 s.sb) := cells_at (Pc.b1 HP.out) rfl
      have s4 : x1.cell? ⟨w.heap.size + 1, 4, none⟩ = some (.int .i64 s.st) := cells_at (Pc.b1 HP.out) rfl
      have s5 : x1.cell? ⟨w.heap.size + 1, 5, none⟩ = some (.int .i64 s.sr) := cells_at (Pc.b1 HP.out) rfl
      have s6 : x1.cell? ⟨w.heap.size + 1, 6, none⟩ = some (.int .i64 s.en) := cells_at (Pc.b1 HP.out) rfl
      have s7 : x1.cell? ⟨w.heap.size + 1, 7, none⟩ = some (s.set) := cells_at (Pc.b1 HP.out) rfl
      have l0 : x1.cell? ⟨w.heap.size + 2, 0, none⟩ = some (.int .i64 l.ac) := cells_at (Pc.b2 HP.out) rfl
      have l1 : x1.cell? ⟨w.heap.size + 2, 1, none⟩ = some (.int .i64 l.nd) := cells_at (Pc.b2 HP.out) rfl
      have l2 : x1.cell? ⟨w.heap.size + 2, 2, none⟩ = some (.int .i64 l.lm) := cells_at (Pc.b2 HP.out) rfl
      have l3 : x1.cell? ⟨w.heap.size + 2, 3, none⟩ = some (.int .i64 l.sb) := cells_at (Pc.b2 HP.out) rfl
      have l4 : x1.cell? ⟨w.heap.size + 2, 4, none⟩ = some (.int .i64 l.st) := cells_at (Pc.b2 HP.out) rfl
      have l5 : x1.cell? ⟨w.heap.size + 2, 5, none⟩ = some (.int .i64 l.sr) := cells_at (Pc.b2 HP.out) rfl
      have l6 : x1.cell? ⟨w.heap.size + 2, 6, none⟩ = some (.int .i64 l.en) := cells_at (Pc.b2 HP.out) rfl
      have l7 : x1.cell? ⟨w.heap.size + 2, 7, none⟩ = some (l.set) := cells_at (Pc.b2 HP.out) rfl
      go_wp2_with fail
      refine cc.mono ?_
      rintro e x2 ⟨rfl, hb2⟩
      have HP2 : Hid (Pc w c s l x2) := HP.out.below hb2
      clear cc hb2 HP
      clear c0 c1 c2 c3 c4 c5 c6 c7 s0 s1 s2 s3 s4 s5 s6 s7 l0 l1 l2 l3 l4 l5 l6 l7
      have HP : Hid (Pc w c s l x2) := HP2.out
      clear HP2
      have c0 : x2.cell? ⟨w.heap.size, 0, none⟩ = some (.int .i64 c.nodes) := cells_at (Pc.b0 HP.out) rfl
      have c1 : x2.cell? ⟨w.heap.size, 1, none⟩ = some (.int .i64 c.queue) := cells_at (Pc.b0 HP.out) rfl
      have c2 : x2.cell? ⟨w.heap.size, 2, none⟩ = some (.int .i64 c.limit) := cells_at (Pc.b0 HP.out) rfl
      have c3 : x2.cell? ⟨w.heap.size, 3, none⟩ = some (.int .i64 c.age) := cells_at (Pc.b0 HP.out) rfl
      have c4 : x2.cell? ⟨w.heap.size, 4, none⟩ = some (.int .i64 c.fair) := cells_at (Pc.b0 HP.out) rfl
      have c5 : x2.cell? ⟨w.heap.size, 5, none⟩ = some (.int .i64 c.size) := cells_at (Pc.b0 HP.out) rfl
      have c6 : x2.cell? ⟨w.heap.size, 6, none⟩ = some (.int .i64 c.period) := cells_at (Pc.b0 HP.out) rfl
      have c7 : x2.cell? ⟨w.heap.size, 7, none⟩ = some (.int .i64 c.half) := cells_at (Pc.b0 HP.out) rfl
      have s0 : x2.cell? ⟨w.heap.size + 1, 0, none⟩ = some (.int .i64 s.ac) := cells_at (Pc.b1 HP.out) rfl
      have s1 : x2.cell? ⟨w.heap.size + 1, 1, none⟩ = some (.int .i64 s.nd) := cells_at (Pc.b1 HP.out) rfl
      have s2 : x2.cell? ⟨w.heap.size + 1, 2, none⟩ = some (.int .i64 s.lm) := cells_at (Pc.b1 HP.out) rfl
      have s3 : x2.cell? ⟨w.heap.size + 1, 3, none⟩ = some (.int .i64 s.sb) := cells_at (Pc.b1 HP.out) rfl
      have s4 : x2.cell? ⟨w.heap.size + 1, 4, none⟩ = some (.int .i64 s.st) := cells_at (Pc.b1 HP.out) rfl
      have s5 : x2.cell? ⟨w.heap.size + 1, 5, none⟩ = some (.int .i64 s.sr) := cells_at (Pc.b1 HP.out) rfl
      have s6 : x2.cell? ⟨w.heap.size + 1, 6, none⟩ = some (.int .i64 s.en) := cells_at (Pc.b1 HP.out) rfl
      have s7 : x2.cell? ⟨w.heap.size + 1, 7, none⟩ = some (s.set) := cells_at (Pc.b1 HP.out) rfl
      have l0 : x2.cell? ⟨w.heap.size + 2, 0, none⟩ = some (.int .i64 l.ac) := cells_at (Pc.b2 HP.out) rfl
      have l1 : x2.cell? ⟨w.heap.size + 2, 1, none⟩ = some (.int .i64 l.nd) := cells_at (Pc.b2 HP.out) rfl
      have l2 : x2.cell? ⟨w.heap.size + 2, 2, none⟩ = some (.int .i64 l.lm) := cells_at (Pc.b2 HP.out) rfl
      have l3 : x2.cell? ⟨w.heap.size + 2, 3, none⟩ = some (.int .i64 l.sb) := cells_at (Pc.b2 HP.out) rfl
      have l4 : x2.cell? ⟨w.heap.size + 2, 4, none⟩ = some (.int .i64 l.st) := cells_at (Pc.b2 HP.out) rfl
      have l5 : x2.cell? ⟨w.heap.size + 2, 5, none⟩ = some (.int .i64 l.sr) := cells_at (Pc.b2 HP.out) rfl
      have l6 : x2.cell? ⟨w.heap.size + 2, 6, none⟩ = some (.int .i64 l.en) := cells_at (Pc.b2 HP.out) rfl
      have l7 : x2.cell? ⟨w.heap.size + 2, 7, none⟩ = some (l.set) := cells_at (Pc.b2 HP.out) rfl
      have HBB : Hid (Below w.heap.size w x2) := HP.out.bel
      go_wp2
      go_ret
      exact ⟨rfl, HBB.out⟩
    by_cases k5 : s.nd < 1
    · skip
      go_enter Try.func5, Try.ntmps5
      go_wp2_with fail
      refine hs.mono ?_
      rintro e x1 ⟨rfl, hb1⟩
      have HP : Hid (Pc w c s l x1) := HP0.out.below hb1
      clear hs hb1 HP0 hw0
      have cc := HCK.out x1
      have c0 : x1.cell? ⟨w.heap.size, 0, none⟩ = some (.int .i64 c.nodes) := cells_at (Pc.b0 HP.out) rfl
      have c1 : x1.cell? ⟨w.heap.size, 1, none⟩ = some (.int .i64 c.queue) := cells_at (Pc.b0 HP.out) rfl
      have c2 : x1.cell? ⟨w.heap.size, 2, none⟩ = some (.int .i64 c.limit) := cells_at (Pc.b0 HP.out) rfl
      have c3 : x1.cell? ⟨w.heap.size, 3, none⟩ = some (.int .i64 c.age) := cells_at (Pc.b0 HP.out) rfl
      have c4 : x1.cell? ⟨w.heap.size, 4, none⟩ = some (.int .i64 c.fair) := cells_at (Pc.b0 HP.out) rfl
      have c5 : x1.cell? ⟨w.heap.size, 5, none⟩ = some (.int .i64 c.size) := cells_at (Pc.b0 HP.out) rfl
      have c6 : x1.cell? ⟨w.heap.size, 6, none⟩ = some (.int .i64 c.period) := cells_at (Pc.b0 HP.out) rfl
      have c7 : x1.cell? ⟨w.heap.size, 7, none⟩ = some (.int .i64 c.half) := cells_at (Pc.b0 HP.out) rfl
      have s0 : x1.cell? ⟨w.heap.size + 1, 0, none⟩ = some (.int .i64 s.ac) := cells_at (Pc.b1 HP.out) rfl
      have s1 : x1.cell? ⟨w.heap.size + 1, 1, none⟩ = some (.int .i64 s.nd) := cells_at (Pc.b1 HP.out) rfl
      have s2 : x1.cell? ⟨w.heap.size + 1, 2, none⟩ = some (.int .i64 s.lm) := cells_at (Pc.b1 HP.out) rfl
      have s3 : x1.cell? ⟨w.heap.size + 1, 3, none⟩ = some (.int .i64 s.sb) := cells_at (Pc.b1 HP.out) rfl
      have s4 : x1.cell? ⟨w.heap.size + 1, 4, none⟩ = some (.int .i64 s.st) := cells_at (Pc.b1 HP.out) rfl
      have s5 : x1.cell? ⟨w.heap.size + 1, 5, none⟩ = some (.int .i64 s.sr) := cells_at (Pc.b1 HP.out) rfl
      have s6 : x1.cell? ⟨w.heap.size + 1, 6, none⟩ = some (.int .i64 s.en) := cells_at (Pc.b1 HP.out) rfl
      have s7 : x1.cell? ⟨w.heap.size + 1, 7, none⟩ = some (s.set) := cells_at (Pc.b1 HP.out) rfl
      have l0 : x1.cell? ⟨w.heap.size + 2, 0, none⟩ = some (.int .i64 l.ac) := cells_at (Pc.b2 HP.out) rfl
      have l1 : x1.cell? ⟨w.heap.size + 2, 1, none⟩ = some (.int .i64 l.nd) := cells_at (Pc.b2 HP.out) rfl
      have l2 : x1.cell? ⟨w.heap.size + 2, 2, none⟩ = some (.int .i64 l.lm) := cells_at (Pc.b2 HP.out) rfl
      have l3 : x1.cell? ⟨w.heap.size + 2, 3, none⟩ = some (.int .i64 l.sb) := cells_at (Pc.b2 HP.out) rfl
      have l4 : x1.cell? ⟨w.heap.size + 2, 4, none⟩ = some (.int .i64 l.st) := cells_at (Pc.b2 HP.out) rfl
      have l5 : x1.cell? ⟨w.heap.size + 2, 5, none⟩ = some (.int .i64 l.sr) := cells_at (Pc.b2 HP.out) rfl
      have l6 : x1.cell? ⟨w.heap.size + 2, 6, none⟩ = some (.int .i64 l.en) := cells_at (Pc.b2 HP.out) rfl
      have l7 : x1.cell? ⟨w.heap.size + 2, 7, none⟩ = some (l.set) := cells_at (Pc.b2 HP.out) rfl
      go_wp2_with fail
      refine cc.mono ?_
      rintro e x2 ⟨rfl, hb2⟩
      have HP2 : Hid (Pc w c s l x2) := HP.out.below hb2
      clear cc hb2 HP
      clear c0 c1 c2 c3 c4 c5 c6 c7 s0 s1 s2 s3 s4 s5 s6 s7 l0 l1 l2 l3 l4 l5 l6 l7
      have HP : Hid (Pc w c s l x2) := HP2.out
      clear HP2
      have c0 : x2.cell? ⟨w.heap.size, 0, none⟩ = some (.int .i64 c.nodes) := cells_at (Pc.b0 HP.out) rfl
      have c1 : x2.cell? ⟨w.heap.size, 1, none⟩ = some (.int .i64 c.queue) := cells_at (Pc.b0 HP.out) rfl
      have c2 : x2.cell? ⟨w.heap.size, 2, none⟩ = some (.int .i64 c.limit) := cells_at (Pc.b0 HP.out) rfl
      have c3 : x2.cell? ⟨w.heap.size, 3, none⟩ = some (.int .i64 c.age) := cells_at (Pc.b0 HP.out) rfl
      have c4 : x2.cell? ⟨w.heap.size, 4, none⟩ = some (.int .i64 c.fair) := cells_at (Pc.b0 HP.out) rfl
      have c5 : x2.cell? ⟨w.heap.size, 5, none⟩ = some (.int .i64 c.size) := cells_at (Pc.b0 HP.out) rfl
      have c6 : x2.cell? ⟨w.heap.size, 6, none⟩ = some (.int .i64 c.period) := cells_at (Pc.b0 HP.out) rfl
      have c7 : x2.cell? ⟨w.heap.size, 7, none⟩ = some (.int .i64 c.half) := cells_at (Pc.b0 HP.out) rfl
      have s0 : x2.cell? ⟨w.heap.size + 1, 0, none⟩ = some (.int .i64 s.ac) := cells_at (Pc.b1 HP.out) rfl
      have s1 : x2.cell? ⟨w.heap.size + 1, 1, none⟩ = some (.int .i64 s.nd) := cells_at (Pc.b1 HP.out) rfl
      have s2 : x2.cell? ⟨w.heap.size + 1, 2, none⟩ = some (.int .i64 s.lm) := cells_at (Pc.b1 HP.out) rfl
      have s3 : x2.cell? ⟨w.heap.size + 1, 3, none⟩ = some (.int .i64 s.sb) := cells_at (Pc.b1 HP.out) rfl
      have s4 : x2.cell? ⟨w.heap.size + 1, 4, none⟩ = some (.int .i64 s.st) := cells_at (Pc.b1 HP.out) rfl
      have s5 : x2.cell? ⟨w.heap.size + 1, 5, none⟩ = some (.int .i64 s.sr) := cells_at (Pc.b1 HP.out) rfl
      have s6 : x2.cell? ⟨w.heap.size + 1, 6, none⟩ = some (.int .i64 s.en) := cells_at (Pc.b1 HP.out) rfl
      have s7 : x2.cell? ⟨w.heap.size + 1, 7, none⟩ = some (s.set) := cells_at (Pc.b1 HP.out) rfl
      have l0 : x2.cell? ⟨w.heap.size + 2, 0, none⟩ = some (.int .i64 l.ac) := cells_at (Pc.b2 HP.out) rfl
      have l1 : x2.cell? ⟨w.heap.size + 2, 1, none⟩ = some (.int .i64 l.nd) := cells_at (Pc.b2 HP.out) rfl
      have l2 : x2.cell? ⟨w.heap.size + 2, 2, none⟩ = some (.int .i64 l.lm) := cells_at (Pc.b2 HP.out) rfl
      have l3 : x2.cell? ⟨w.heap.size + 2, 3, none⟩ = some (.int .i64 l.sb) := cells_at (Pc.b2 HP.out) rfl
      have l4 : x2.cell? ⟨w.heap.size + 2, 4, none⟩ = some (.int .i64 l.st) := cells_at (Pc.b2 HP.out) rfl
      have l5 : x2.cell? ⟨w.heap.size + 2, 5, none⟩ = some (.int .i64 l.sr) := cells_at (Pc.b2 HP.out) rfl
      have l6 : x2.cell? ⟨w.heap.size + 2, 6, none⟩ = some (.int .i64 l.en) := cells_at (Pc.b2 HP.out) rfl
      have l7 : x2.cell? ⟨w.heap.size + 2, 7, none⟩ = some (l.set) := cells_at (Pc.b2 HP.out) rfl
      have HBB : Hid (Below w.heap.size w x2) := HP.out.bel
      go_wp2
      go_ret
      exact ⟨rfl, HBB.out⟩
    by_cases k6 : c.nodes < s.nd
    · skip
      go_enter Try.func5, Try.ntmps5
      go_wp2_with fail
      refine hs.mono ?_
      rintro e x1 ⟨rfl, hb1⟩
      have HP : Hid (Pc w c s l x1) := HP0.out.below hb1
      clear hs hb1 HP0 hw0
      have cc := HCK.out x1
      have c0 : x1.cell? ⟨w.heap.size, 0, none⟩ = some (.int .i64 c.nodes) := cells_at (Pc.b0 HP.out) rfl
      have c1 : x1.cell? ⟨w.heap.size, 1, none⟩ = some (.int .i64 c.queue) := cells_at (Pc.b0 HP.out) rfl
      have c2 : x1.cell? ⟨w.heap.size, 2, none⟩ = some (.int .i64 c.limit) := cells_at (Pc.b0 HP.out) rfl
      have c3 : x1.cell? ⟨w.heap.size, 3, none⟩ = some (.int .i64 c.age) := cells_at (Pc.b0 HP.out) rfl
      have c4 : x1.cell? ⟨w.heap.size, 4, none⟩ = some (.int .i64 c.fair) := cells_at (Pc.b0 HP.out) rfl
      have c5 : x1.cell? ⟨w.heap.size, 5, none⟩ = some (.int .i64 c.size) := cells_at (Pc.b0 HP.out) rfl
      have c6 : x1.cell? ⟨w.heap.size, 6, none⟩ = some (.int .i64 c.period) := cells_at (Pc.b0 HP.out) rfl
      have c7 : x1.cell? ⟨w.heap.size, 7, none⟩ = some (.int .i64 c.half) := cells_at (Pc.b0 HP.out) rfl
      have s0 : x1.cell? ⟨w.heap.size + 1, 0, none⟩ = some (.int .i64 s.ac) := cells_at (Pc.b1 HP.out) rfl
      have s1 : x1.cell? ⟨w.heap.size + 1, 1, none⟩ = some (.int .i64 s.nd) := cells_at (Pc.b1 HP.out) rfl
      have s2 : x1.cell? ⟨w.heap.size + 1, 2, none⟩ = some (.int .i64 s.lm) := cells_at (Pc.b1 HP.out) rfl
      have s3 : x1.cell? ⟨w.heap.size + 1, 3, none⟩ = some (.int .i64 s.sb) := cells_at (Pc.b1 HP.out) rfl
      have s4 : x1.cell? ⟨w.heap.size + 1, 4, none⟩ = some (.int .i64 s.st) := cells_at (Pc.b1 HP.out) rfl
      have s5 : x1.cell? ⟨w.heap.size + 1, 5, none⟩ = some (.int .i64 s.sr) := cells_at (Pc.b1 HP.out) rfl
      have s6 : x1.cell? ⟨w.heap.size + 1, 6, none⟩ = some (.int .i64 s.en) := cells_at (Pc.b1 HP.out) rfl
      have s7 : x1.cell? ⟨w.heap.size + 1, 7, none⟩ = some (s.set) := cells_at (Pc.b1 HP.out) rfl
      have l0 : x1.cell? ⟨w.heap.size + 2, 0, none⟩ = some (.int .i64 l.ac) := cells_at (Pc.b2 HP.out) rfl
      have l1 : x1.cell? ⟨w.heap.size + 2, 1, none⟩ = some (.int .i64 l.nd) := cells_at (Pc.b2 HP.out) rfl
      have l2 : x1.cell? ⟨w.heap.size + 2, 2, none⟩ = some (.int .i64 l.lm) := cells_at (Pc.b2 HP.out) rfl
      have l3 : x1.cell? ⟨w.heap.size + 2, 3, none⟩ = some (.int .i64 l.sb) := cells_at (Pc.b2 HP.out) rfl
      have l4 : x1.cell? ⟨w.heap.size + 2, 4, none⟩ = some (.int .i64 l.st) := cells_at (Pc.b2 HP.out) rfl
      have l5 : x1.cell? ⟨w.heap.size + 2, 5, none⟩ = some (.int .i64 l.sr) := cells_at (Pc.b2 HP.out) rfl
      have l6 : x1.cell? ⟨w.heap.size + 2, 6, none⟩ = some (.int .i64 l.en) := cells_at (Pc.b2 HP.out) rfl
      have l7 : x1.cell? ⟨w.heap.size + 2, 7, none⟩ = some (l.set) := cells_at (Pc.b2 HP.out) rfl
      go_wp2_with fail
      refine cc.mono ?_
      rintro e x2 ⟨rfl, hb2⟩
      have HP2 : Hid (Pc w c s l x2) := HP.out.below hb2
      clear cc hb2 HP
      clear c0 c1 c2 c3 c4 c5 c6 c7 s0 s1 s2 s3 s4 s5 s6 s7 l0 l1 l2 l3 l4 l5 l6 l7
      have HP : Hid (Pc w c s l x2) := HP2.out
      clear HP2
      have c0 : x2.cell? ⟨w.heap.size, 0, none⟩ = some (.int .i64 c.nodes) := cells_at (Pc.b0 HP.out) rfl
      have c1 : x2.cell? ⟨w.heap.size, 1, none⟩ = some (.int .i64 c.queue) := cells_at (Pc.b0 HP.out) rfl
      have c2 : x2.cell? ⟨w.heap.size, 2, none⟩ = some (.int .i64 c.limit) := cells_at (Pc.b0 HP.out) rfl
      have c3 : x2.cell? ⟨w.heap.size, 3, none⟩ = some (.int .i64 c.age) := cells_at (Pc.b0 HP.out) rfl
      have c4 : x2.cell? ⟨w.heap.size, 4, none⟩ = some (.int .i64 c.fair) := cells_at (Pc.b0 HP.out) rfl
      have c5 : x2.cell? ⟨w.heap.size, 5, none⟩ = some (.int .i64 c.size) := cells_at (Pc.b0 HP.out) rfl
      have c6 : x2.cell? ⟨w.heap.size, 6, none⟩ = some (.int .i64 c.period) := cells_at (Pc.b0 HP.out) rfl
      have c7 : x2.cell? ⟨w.heap.size, 7, none⟩ = some (.int .i64 c.half) := cells_at (Pc.b0 HP.out) rfl
      have s0 : x2.cell? ⟨w.heap.size + 1, 0, none⟩ = some (.int .i64 s.ac) := cells_at (Pc.b1 HP.out) rfl
      have s1 : x2.cell? ⟨w.heap.size + 1, 1, none⟩ = some (.int .i64 s.nd) := cells_at (Pc.b1 HP.out) rfl
      have s2 : x2.cell? ⟨w.heap.size + 1, 2, none⟩ = some (.int .i64 s.lm) := cells_at (Pc.b1 HP.out) rfl
      have s3 : x2.cell? ⟨w.heap.size + 1, 3, none⟩ = some (.int .i64 s.sb) := cells_at (Pc.b1 HP.out) rfl
      have s4 : x2.cell? ⟨w.heap.size + 1, 4, none⟩ = some (.int .i64 s.st) := cells_at (Pc.b1 HP.out) rfl
      have s5 : x2.cell? ⟨w.heap.size + 1, 5, none⟩ = some (.int .i64 s.sr) := cells_at (Pc.b1 HP.out) rfl
      have s6 : x2.cell? ⟨w.heap.size + 1, 6, none⟩ = some (.int .i64 s.en) := cells_at (Pc.b1 HP.out) rfl
      have s7 : x2.cell? ⟨w.heap.size + 1, 7, none⟩ = some (s.set) := cells_at (Pc.b1 HP.out) rfl
      have l0 : x2.cell? ⟨w.heap.size + 2, 0, none⟩ = some (.int .i64 l.ac) := cells_at (Pc.b2 HP.out) rfl
      have l1 : x2.cell? ⟨w.heap.size + 2, 1, none⟩ = some (.int .i64 l.nd) := cells_at (Pc.b2 HP.out) rfl
      have l2 : x2.cell? ⟨w.heap.size + 2, 2, none⟩ = some (.int .i64 l.lm) := cells_at (Pc.b2 HP.out) rfl
      have l3 : x2.cell? ⟨w.heap.size + 2, 3, none⟩ = some (.int .i64 l.sb) := cells_at (Pc.b2 HP.out) rfl
      have l4 : x2.cell? ⟨w.heap.size + 2, 4, none⟩ = some (.int .i64 l.st) := cells_at (Pc.b2 HP.out) rfl
      have l5 : x2.cell? ⟨w.heap.size + 2, 5, none⟩ = some (.int .i64 l.sr) := cells_at (Pc.b2 HP.out) rfl
      have l6 : x2.cell? ⟨w.heap.size + 2, 6, none⟩ = some (.int .i64 l.en) := cells_at (Pc.b2 HP.out) rfl
      have l7 : x2.cell? ⟨w.heap.size + 2, 7, none⟩ = some (l.set) := cells_at (Pc.b2 HP.out) rfl
      have HBB : Hid (Below w.heap.size w x2) := HP.out.bel
      go_wp2
      go_ret
      exact ⟨rfl, HBB.out⟩
    by_cases k7 : l.nd < 1
    · skip
      go_enter Try.func5, Try.ntmps5
      go_wp2_with fail
      refine hs.mono ?_
      rintro e x1 ⟨rfl, hb1⟩
      have HP : Hid (Pc w c s l x1) := HP0.out.below hb1
      clear hs hb1 HP0 hw0
      have cc := HCK.out x1
      have c0 : x1.cell? ⟨w.heap.size, 0, none⟩ = some (.int .i64 c.nodes) := cells_at (Pc.b0 HP.out) rfl
      have c1 : x1.cell? ⟨w.heap.size, 1, none⟩ = some (.int .i64 c.queue) := cells_at (Pc.b0 HP.out) rfl
      have c2 : x1.cell? ⟨w.heap.size, 2, none⟩ = some (.int .i64 c.limit) := cells_at (Pc.b0 HP.out) rfl
      have c3 : x1.cell? ⟨w.heap.size, 3, none⟩ = some (.int .i64 c.age) := cells_at (Pc.b0 HP.out) rfl
      have c4 : x1.cell? ⟨w.heap.size, 4, none⟩ = some (.int .i64 c.fair) := cells_at (Pc.b0 HP.out) rfl
      have c5 : x1.cell? ⟨w.heap.size, 5, none⟩ = some (.int .i64 c.size) := cells_at (Pc.b0 HP.out) rfl
      have c6 : x1.cell? ⟨w.heap.size, 6, none⟩ = some (.int .i64 c.period) := cells_at (Pc.b0 HP.out) rfl
      have c7 : x1.cell? ⟨w.heap.size, 7, none⟩ = some (.int .i64 c.half) := cells_at (Pc.b0 HP.out) rfl
      have s0 : x1.cell? ⟨w.heap.size + 1, 0, none⟩ = some (.int .i64 s.ac) := cells_at (Pc.b1 HP.out) rfl
      have s1 : x1.cell? ⟨w.heap.size + 1, 1, none⟩ = some (.int .i64 s.nd) := cells_at (Pc.b1 HP.out) rfl
      have s2 : x1.cell? ⟨w.heap.size + 1, 2, none⟩ = some (.int .i64 s.lm) := cells_at (Pc.b1 HP.out) rfl
      have s3 : x1.cell? ⟨w.heap.size + 1, 3, none⟩ = some (.int .i64 s.sb) := cells_at (Pc.b1 HP.out) rfl
      have s4 : x1.cell? ⟨w.heap.size + 1, 4, none⟩ = some (.int .i64 s.st) := cells_at (Pc.b1 HP.out) rfl
      have s5 : x1.cell? ⟨w.heap.size + 1, 5, none⟩ = some (.int .i64 s.sr) := cells_at (Pc.b1 HP.out) rfl
      have s6 : x1.cell? ⟨w.heap.size + 1, 6, none⟩ = some (.int .i64 s.en) := cells_at (Pc.b1 HP.out) rfl
      have s7 : x1.cell? ⟨w.heap.size + 1, 7, none⟩ = some (s.set) := cells_at (Pc.b1 HP.out) rfl
      have l0 : x1.cell? ⟨w.heap.size + 2, 0, none⟩ = some (.int .i64 l.ac) := cells_at (Pc.b2 HP.out) rfl
      have l1 : x1.cell? ⟨w.heap.size + 2, 1, none⟩ = some (.int .i64 l.nd) := cells_at (Pc.b2 HP.out) rfl
      have l2 : x1.cell? ⟨w.heap.size + 2, 2, none⟩ = some (.int .i64 l.lm) := cells_at (Pc.b2 HP.out) rfl
      have l3 : x1.cell? ⟨w.heap.size + 2, 3, none⟩ = some (.int .i64 l.sb) := cells_at (Pc.b2 HP.out) rfl
      have l4 : x1.cell? ⟨w.heap.size + 2, 4, none⟩ = some (.int .i64 l.st) := cells_at (Pc.b2 HP.out) rfl
      have l5 : x1.cell? ⟨w.heap.size + 2, 5, none⟩ = some (.int .i64 l.sr) := cells_at (Pc.b2 HP.out) rfl
      have l6 : x1.cell? ⟨w.heap.size + 2, 6, none⟩ = some (.int .i64 l.en) := cells_at (Pc.b2 HP.out) rfl
      have l7 : x1.cell? ⟨w.heap.size + 2, 7, none⟩ = some (l.set) := cells_at (Pc.b2 HP.out) rfl
      go_wp2_with fail
      refine cc.mono ?_
      rintro e x2 ⟨rfl, hb2⟩
      have HP2 : Hid (Pc w c s l x2) := HP.out.below hb2
      clear cc hb2 HP
      clear c0 c1 c2 c3 c4 c5 c6 c7 s0 s1 s2 s3 s4 s5 s6 s7 l0 l1 l2 l3 l4 l5 l6 l7
      have HP : Hid (Pc w c s l x2) := HP2.out
      clear HP2
      have c0 : x2.cell? ⟨w.heap.size, 0, none⟩ = some (.int .i64 c.nodes) := cells_at (Pc.b0 HP.out) rfl
      have c1 : x2.cell? ⟨w.heap.size, 1, none⟩ = some (.int .i64 c.queue) := cells_at (Pc.b0 HP.out) rfl
      have c2 : x2.cell? ⟨w.heap.size, 2, none⟩ = some (.int .i64 c.limit) := cells_at (Pc.b0 HP.out) rfl
      have c3 : x2.cell? ⟨w.heap.size, 3, none⟩ = some (.int .i64 c.age) := cells_at (Pc.b0 HP.out) rfl
      have c4 : x2.cell? ⟨w.heap.size, 4, none⟩ = some (.int .i64 c.fair) := cells_at (Pc.b0 HP.out) rfl
      have c5 : x2.cell? ⟨w.heap.size, 5, none⟩ = some (.int .i64 c.size) := cells_at (Pc.b0 HP.out) rfl
      have c6 : x2.cell? ⟨w.heap.size, 6, none⟩ = some (.int .i64 c.period) := cells_at (Pc.b0 HP.out) rfl
      have c7 : x2.cell? ⟨w.heap.size, 7, none⟩ = some (.int .i64 c.half) := cells_at (Pc.b0 HP.out) rfl
      have s0 : x2.cell? ⟨w.heap.size + 1, 0, none⟩ = some (.int .i64 s.ac) := cells_at (Pc.b1 HP.out) rfl
      have s1 : x2.cell? ⟨w.heap.size + 1, 1, none⟩ = some (.int .i64 s.nd) := cells_at (Pc.b1 HP.out) rfl
      have s2 : x2.cell? ⟨w.heap.size + 1, 2, none⟩ = some (.int .i64 s.lm) := cells_at (Pc.b1 HP.out) rfl
      have s3 : x2.cell? ⟨w.heap.size + 1, 3, none⟩ = some (.int .i64 s.sb) := cells_at (Pc.b1 HP.out) rfl
      have s4 : x2.cell? ⟨w.heap.size + 1, 4, none⟩ = some (.int .i64 s.st) := cells_at (Pc.b1 HP.out) rfl
      have s5 : x2.cell? ⟨w.heap.size + 1, 5, none⟩ = some (.int .i64 s.sr) := cells_at (Pc.b1 HP.out) rfl
      have s6 : x2.cell? ⟨w.heap.size + 1, 6, none⟩ = some (.int .i64 s.en) := cells_at (Pc.b1 HP.out) rfl
      have s7 : x2.cell? ⟨w.heap.size + 1, 7, none⟩ = some (s.set) := cells_at (Pc.b1 HP.out) rfl
      have l0 : x2.cell? ⟨w.heap.size + 2, 0, none⟩ = some (.int .i64 l.ac) := cells_at (Pc.b2 HP.out) rfl
      have l1 : x2.cell? ⟨w.heap.size + 2, 1, none⟩ = some (.int .i64 l.nd) := cells_at (Pc.b2 HP.out) rfl
      have l2 : x2.cell? ⟨w.heap.size + 2, 2, none⟩ = some (.int .i64 l.lm) := cells_at (Pc.b2 HP.out) rfl
      have l3 : x2.cell? ⟨w.heap.size + 2, 3, none⟩ = some (.int .i64 l.sb) := cells_at (Pc.b2 HP.out) rfl
      have l4 : x2.cell? ⟨w.heap.size + 2, 4, none⟩ = some (.int .i64 l.st) := cells_at (Pc.b2 HP.out) rfl
      have l5 : x2.cell? ⟨w.heap.size + 2, 5, none⟩ = some (.int .i64 l.sr) := cells_at (Pc.b2 HP.out) rfl
      have l6 : x2.cell? ⟨w.heap.size + 2, 6, none⟩ = some (.int .i64 l.en) := cells_at (Pc.b2 HP.out) rfl
      have l7 : x2.cell? ⟨w.heap.size + 2, 7, none⟩ = some (l.set) := cells_at (Pc.b2 HP.out) rfl
      have HBB : Hid (Below w.heap.size w x2) := HP.out.bel
      go_wp2
      go_ret
      exact ⟨rfl, HBB.out⟩
    by_cases k8 : c.nodes < l.nd
    · skip
      go_enter Try.func5, Try.ntmps5
      go_wp2_with fail
      refine hs.mono ?_
      rintro e x1 ⟨rfl, hb1⟩
      have HP : Hid (Pc w c s l x1) := HP0.out.below hb1
      clear hs hb1 HP0 hw0
      have cc := HCK.out x1
      have c0 : x1.cell? ⟨w.heap.size, 0, none⟩ = some (.int .i64 c.nodes) := cells_at (Pc.b0 HP.out) rfl
      have c1 : x1.cell? ⟨w.heap.size, 1, none⟩ = some (.int .i64 c.queue) := cells_at (Pc.b0 HP.out) rfl
      have c2 : x1.cell? ⟨w.heap.size, 2, none⟩ = some (.int .i64 c.limit) := cells_at (Pc.b0 HP.out) rfl
      have c3 : x1.cell? ⟨w.heap.size, 3, none⟩ = some (.int .i64 c.age) := cells_at (Pc.b0 HP.out) rfl
      have c4 : x1.cell? ⟨w.heap.size, 4, none⟩ = some (.int .i64 c.fair) := cells_at (Pc.b0 HP.out) rfl
      have c5 : x1.cell? ⟨w.heap.size, 5, none⟩ = some (.int .i64 c.size) := cells_at (Pc.b0 HP.out) rfl
      have c6 : x1.cell? ⟨w.heap.size, 6, none⟩ = some (.int .i64 c.period) := cells_at (Pc.b0 HP.out) rfl
      have c7 : x1.cell? ⟨w.heap.size, 7, none⟩ = some (.int .i64 c.half) := cells_at (Pc.b0 HP.out) rfl
      have s0 : x1.cell? ⟨w.heap.size + 1, 0, none⟩ = some (.int .i64 s.ac) := cells_at (Pc.b1 HP.out) rfl
      have s1 : x1.cell? ⟨w.heap.size + 1, 1, none⟩ = some (.int .i64 s.nd) := cells_at (Pc.b1 HP.out) rfl
      have s2 : x1.cell? ⟨w.heap.size + 1, 2, none⟩ = some (.int .i64 s.lm) := cells_at (Pc.b1 HP.out) rfl
      have s3 : x1.cell? ⟨w.heap.size + 1, 3, none⟩ = some (.int .i64 s.sb) := cells_at (Pc.b1 HP.out) rfl
      have s4 : x1.cell? ⟨w.heap.size + 1, 4, none⟩ = some (.int .i64 s.st) := cells_at (Pc.b1 HP.out) rfl
      have s5 : x1.cell? ⟨w.heap.size + 1, 5, none⟩ = some (.int .i64 s.sr) := cells_at (Pc.b1 HP.out) rfl
      have s6 : x1.cell? ⟨w.heap.size + 1, 6, none⟩ = some (.int .i64 s.en) := cells_at (Pc.b1 HP.out) rfl
      have s7 : x1.cell? ⟨w.heap.size + 1, 7, none⟩ = some (s.set) := cells_at (Pc.b1 HP.out) rfl
      have l0 : x1.cell? ⟨w.heap.size + 2, 0, none⟩ = some (.int .i64 l.ac) := cells_at (Pc.b2 HP.out) rfl
      have l1 : x1.cell? ⟨w.heap.size + 2, 1, none⟩ = some (.int .i64 l.nd) := cells_at (Pc.b2 HP.out) rfl
      have l2 : x1.cell? ⟨w.heap.size + 2, 2, none⟩ = some (.int .i64 l.lm) := cells_at (Pc.b2 HP.out) rfl
      have l3 : x1.cell? ⟨w.heap.size + 2, 3, none⟩ = some (.int .i64 l.sb) := cells_at (Pc.b2 HP.out) rfl
      have l4 : x1.cell? ⟨w.heap.size + 2, 4, none⟩ = some (.int .i64 l.st) := cells_at (Pc.b2 HP.out) rfl
      have l5 : x1.cell? ⟨w.heap.size + 2, 5, none⟩ = some (.int .i64 l.sr) := cells_at (Pc.b2 HP.out) rfl
      have l6 : x1.cell? ⟨w.heap.size + 2, 6, none⟩ = some (.int .i64 l.en) := cells_at (Pc.b2 HP.out) rfl
      have l7 : x1.cell? ⟨w.heap.size + 2, 7, none⟩ = some (l.set) := cells_at (Pc.b2 HP.out) rfl
      go_wp2_with fail
      refine cc.mono ?_
      rintro e x2 ⟨rfl, hb2⟩
      have HP2 : Hid (Pc w c s l x2) := HP.out.below hb2
      clear cc hb2 HP
      clear c0 c1 c2 c3 c4 c5 c6 c7 s0 s1 s2 s3 s4 s5 s6 s7 l0 l1 l2 l3 l4 l5 l6 l7
      have HP : Hid (Pc w c s l x2) := HP2.out
      clear HP2
      have c0 : x2.cell? ⟨w.heap.size, 0, none⟩ = some (.int .i64 c.nodes) := cells_at (Pc.b0 HP.out) rfl
      have c1 : x2.cell? ⟨w.heap.size, 1, none⟩ = some (.int .i64 c.queue) := cells_at (Pc.b0 HP.out) rfl
      have c2 : x2.cell? ⟨w.heap.size, 2, none⟩ = some (.int .i64 c.limit) := cells_at (Pc.b0 HP.out) rfl
      have c3 : x2.cell? ⟨w.heap.size, 3, none⟩ = some (.int .i64 c.age) := cells_at (Pc.b0 HP.out) rfl
      have c4 : x2.cell? ⟨w.heap.size, 4, none⟩ = some (.int .i64 c.fair) := cells_at (Pc.b0 HP.out) rfl
      have c5 : x2.cell? ⟨w.heap.size, 5, none⟩ = some (.int .i64 c.size) := cells_at (Pc.b0 HP.out) rfl
      have c6 : x2.cell? ⟨w.heap.size, 6, none⟩ = some (.int .i64 c.period) := cells_at (Pc.b0 HP.out) rfl
      have c7 : x2.cell? ⟨w.heap.size, 7, none⟩ = some (.int .i64 c.half) := cells_at (Pc.b0 HP.out) rfl
      have s0 : x2.cell? ⟨w.heap.size + 1, 0, none⟩ = some (.int .i64 s.ac) := cells_at (Pc.b1 HP.out) rfl
      have s1 : x2.cell? ⟨w.heap.size + 1, 1, none⟩ = some (.int .i64 s.nd) := cells_at (Pc.b1 HP.out) rfl
      have s2 : x2.cell? ⟨w.heap.size + 1, 2, none⟩ = some (.int .i64 s.lm) := cells_at (Pc.b1 HP.out) rfl
      have s3 : x2.cell? ⟨w.heap.size + 1, 3, none⟩ = some (.int .i64 s.sb) := cells_at (Pc.b1 HP.out) rfl
      have s4 : x2.cell? ⟨w.heap.size + 1, 4, none⟩ = some (.int .i64 s.st) := cells_at (Pc.b1 HP.out) rfl
      have s5 : x2.cell? ⟨w.heap.size + 1, 5, none⟩ = some (.int .i64 s.sr) := cells_at (Pc.b1 HP.out) rfl
      have s6 : x2.cell? ⟨w.heap.size + 1, 6, none⟩ = some (.int .i64 s.en) := cells_at (Pc.b1 HP.out) rfl
      have s7 : x2.cell? ⟨w.heap.size + 1, 7, none⟩ = some (s.set) := cells_at (Pc.b1 HP.out) rfl
      have l0 : x2.cell? ⟨w.heap.size + 2, 0, none⟩ = some (.int .i64 l.ac) := cells_at (Pc.b2 HP.out) rfl
      have l1 : x2.cell? ⟨w.heap.size + 2, 1, none⟩ = some (.int .i64 l.nd) := cells_at (Pc.b2 HP.out) rfl
      have l2 : x2.cell? ⟨w.heap.size + 2, 2, none⟩ = some (.int .i64 l.lm) := cells_at (Pc.b2 HP.out) rfl
      have l3 : x2.cell? ⟨w.heap.size + 2, 3, none⟩ = some (.int .i64 l.sb) := cells_at (Pc.b2 HP.out) rfl
      have l4 : x2.cell? ⟨w.heap.size + 2, 4, none⟩ = some (.int .i64 l.st) := cells_at (Pc.b2 HP.out) rfl
      have l5 : x2.cell? ⟨w.heap.size + 2, 5, none⟩ = some (.int .i64 l.sr) := cells_at (Pc.b2 HP.out) rfl
      have l6 : x2.cell? ⟨w.heap.size + 2, 6, none⟩ = some (.int .i64 l.en) := cells_at (Pc.b2 HP.out) rfl
      have l7 : x2.cell? ⟨w.heap.size + 2, 7, none⟩ = some (l.set) := cells_at (Pc.b2 HP.out) rfl
      have HBB : Hid (Below w.heap.size w x2) := HP.out.bel
      go_wp2
      go_ret
      exact ⟨rfl, HBB.out⟩
    by_cases k9 : high < low
    · skip
      go_enter Try.func5, Try.ntmps5
      go_wp2_with fail
      refine hs.mono ?_
      rintro e x1 ⟨rfl, hb1⟩
      have HP : Hid (Pc w c s l x1) := HP0.out.below hb1
      clear hs hb1 HP0 hw0
      have cc := HCK.out x1
      have c0 : x1.cell? ⟨w.heap.size, 0, none⟩ = some (.int .i64 c.nodes) := cells_at (Pc.b0 HP.out) rfl
      have c1 : x1.cell? ⟨w.heap.size, 1, none⟩ = some (.int .i64 c.queue) := cells_at (Pc.b0 HP.out) rfl
      have c2 : x1.cell? ⟨w.heap.size, 2, none⟩ = some (.int .i64 c.limit) := cells_at (Pc.b0 HP.out) rfl
      have c3 : x1.cell? ⟨w.heap.size, 3, none⟩ = some (.int .i64 c.age) := cells_at (Pc.b0 HP.out) rfl
      have c4 : x1.cell? ⟨w.heap.size, 4, none⟩ = some (.int .i64 c.fair) := cells_at (Pc.b0 HP.out) rfl
      have c5 : x1.cell? ⟨w.heap.size, 5, none⟩ = some (.int .i64 c.size) := cells_at (Pc.b0 HP.out) rfl
      have c6 : x1.cell? ⟨w.heap.size, 6, none⟩ = some (.int .i64 c.period) := cells_at (Pc.b0 HP.out) rfl
      have c7 : x1.cell? ⟨w.heap.size, 7, none⟩ = some (.int .i64 c.half) := cells_at (Pc.b0 HP.out) rfl
      have s0 : x1.cell? ⟨w.heap.size + 1, 0, none⟩ = some (.int .i64 s.ac) := cells_at (Pc.b1 HP.out) rfl
      have s1 : x1.cell? ⟨w.heap.size + 1, 1, none⟩ = some (.int .i64 s.nd) := cells_at (Pc.b1 HP.out) rfl
      have s2 : x1.cell? ⟨w.heap.size + 1, 2, none⟩ = some (.int .i64 s.lm) := cells_at (Pc.b1 HP.out) rfl
      have s3 : x1.cell? ⟨w.heap.size + 1, 3, none⟩ = some (.int .i64 s.sb) := cells_at (Pc.b1 HP.out) rfl
      have s4 : x1.cell? ⟨w.heap.size + 1, 4, none⟩ = some (.int .i64 s.st) := cells_at (Pc.b1 HP.out) rfl
      have s5 : x1.cell? ⟨w.heap.size + 1, 5, none⟩ = some (.int .i64 s.sr) := cells_at (Pc.b1 HP.out) rfl
      have s6 : x1.cell? ⟨w.heap.size + 1, 6, none⟩ = some (.int .i64 s.en) := cells_at (Pc.b1 HP.out) rfl
      have s7 : x1.cell? ⟨w.heap.size + 1, 7, none⟩ = some (s.set) := cells_at (Pc.b1 HP.out) rfl
      have l0 : x1.cell? ⟨w.heap.size + 2, 0, none⟩ = some (.int .i64 l.ac) := cells_at (Pc.b2 HP.out) rfl
      have l1 : x1.cell? ⟨w.heap.size + 2, 1, none⟩ = some (.int .i64 l.nd) := cells_at (Pc.b2 HP.out) rfl
      have l2 : x1.cell? ⟨w.heap.size + 2, 2, none⟩ = some (.int .i64 l.lm) := cells_at (Pc.b2 HP.out) rfl
      have l3 : x1.cell? ⟨w.heap.size + 2, 3, none⟩ = some (.int .i64 l.sb) := cells_at (Pc.b2 HP.out) rfl
      have l4 : x1.cell? ⟨w.heap.size + 2, 4, none⟩ = some (.int .i64 l.st) := cells_at (Pc.b2 HP.out) rfl
      have l5 : x1.cell? ⟨w.heap.size + 2, 5, none⟩ = some (.int .i64 l.sr) := cells_at (Pc.b2 HP.out) rfl
      have l6 : x1.cell? ⟨w.heap.size + 2, 6, none⟩ = some (.int .i64 l.en) := cells_at (Pc.b2 HP.out) rfl
      have l7 : x1.cell? ⟨w.heap.size + 2, 7, none⟩ = some (l.set) := cells_at (Pc.b2 HP.out) rfl
      go_wp2_with fail
      refine cc.mono ?_
      rintro e x2 ⟨rfl, hb2⟩
      have HP2 : Hid (Pc w c s l x2) := HP.out.below hb2
      clear cc hb2 HP
      clear c0 c1 c2 c3 c4 c5 c6 c7 s0 s1 s2 s3 s4 s5 s6 s7 l0 l1 l2 l3 l4 l5 l6 l7
      have HP : Hid (Pc w c s l x2) := HP2.out
      clear HP2
      have c0 : x2.cell? ⟨w.heap.size, 0, none⟩ = some (.int .i64 c.nodes) := cells_at (Pc.b0 HP.out) rfl
      have c1 : x2.cell? ⟨w.heap.size, 1, none⟩ = some (.int .i64 c.queue) := cells_at (Pc.b0 HP.out) rfl
      have c2 : x2.cell? ⟨w.heap.size, 2, none⟩ = some (.int .i64 c.limit) := cells_at (Pc.b0 HP.out) rfl
      have c3 : x2.cell? ⟨w.heap.size, 3, none⟩ = some (.int .i64 c.age) := cells_at (Pc.b0 HP.out) rfl
      have c4 : x2.cell? ⟨w.heap.size, 4, none⟩ = some (.int .i64 c.fair) := cells_at (Pc.b0 HP.out) rfl
      have c5 : x2.cell? ⟨w.heap.size, 5, none⟩ = some (.int .i64 c.size) := cells_at (Pc.b0 HP.out) rfl
      have c6 : x2.cell? ⟨w.heap.size, 6, none⟩ = some (.int .i64 c.period) := cells_at (Pc.b0 HP.out) rfl
      have c7 : x2.cell? ⟨w.heap.size, 7, none⟩ = some (.int .i64 c.half) := cells_at (Pc.b0 HP.out) rfl
      have s0 : x2.cell? ⟨w.heap.size + 1, 0, none⟩ = some (.int .i64 s.ac) := cells_at (Pc.b1 HP.out) rfl
      have s1 : x2.cell? ⟨w.heap.size + 1, 1, none⟩ = some (.int .i64 s.nd) := cells_at (Pc.b1 HP.out) rfl
      have s2 : x2.cell? ⟨w.heap.size + 1, 2, none⟩ = some (.int .i64 s.lm) := cells_at (Pc.b1 HP.out) rfl
      have s3 : x2.cell? ⟨w.heap.size + 1, 3, none⟩ = some (.int .i64 s.sb) := cells_at (Pc.b1 HP.out) rfl
      have s4 : x2.cell? ⟨w.heap.size + 1, 4, none⟩ = some (.int .i64 s.st) := cells_at (Pc.b1 HP.out) rfl
      have s5 : x2.cell? ⟨w.heap.size + 1, 5, none⟩ = some (.int .i64 s.sr) := cells_at (Pc.b1 HP.out) rfl
      have s6 : x2.cell? ⟨w.heap.size + 1, 6, none⟩ = some (.int .i64 s.en) := cells_at (Pc.b1 HP.out) rfl
      have s7 : x2.cell? ⟨w.heap.size + 1, 7, none⟩ = some (s.set) := cells_at (Pc.b1 HP.out) rfl
      have l0 : x2.cell? ⟨w.heap.size + 2, 0, none⟩ = some (.int .i64 l.ac) := cells_at (Pc.b2 HP.out) rfl
      have l1 : x2.cell? ⟨w.heap.size + 2, 1, none⟩ = some (.int .i64 l.nd) := cells_at (Pc.b2 HP.out) rfl
      have l2 : x2.cell? ⟨w.heap.size + 2, 2, none⟩ = some (.int .i64 l.lm) := cells_at (Pc.b2 HP.out) rfl
      have l3 : x2.cell? ⟨w.heap.size + 2, 3, none⟩ = some (.int .i64 l.sb) := cells_at (Pc.b2 HP.out) rfl
      have l4 : x2.cell? ⟨w.heap.size + 2, 4, none⟩ = some (.int .i64 l.st) := cells_at (Pc.b2 HP.out) rfl
      have l5 : x2.cell? ⟨w.heap.size + 2, 5, none⟩ = some (.int .i64 l.sr) := cells_at (Pc.b2 HP.out) rfl
      have l6 : x2.cell? ⟨w.heap.size + 2, 6, none⟩ = some (.int .i64 l.en) := cells_at (Pc.b2 HP.out) rfl
      have l7 : x2.cell? ⟨w.heap.size + 2, 7, none⟩ = some (l.set) := cells_at (Pc.b2 HP.out) rfl
      have HBB : Hid (Below w.heap.size w x2) := HP.out.bel
      go_wp2
      go_ret
      exact ⟨rfl, HBB.out⟩
    by_cases k10 : 9223372036854775808 < high
    · skip
      go_enter Try.func5, Try.ntmps5
      go_wp2_with fail
      refine hs.mono ?_
      rintro e x1 ⟨rfl, hb1⟩
      have HP : Hid (Pc w c s l x1) := HP0.out.below hb1
      clear hs hb1 HP0 hw0
      have cc := HCK.out x1
      have c0 : x1.cell? ⟨w.heap.size, 0, none⟩ = some (.int .i64 c.nodes) := cells_at (Pc.b0 HP.out) rfl
      have c1 : x1.cell? ⟨w.heap.size, 1, none⟩ = some (.int .i64 c.queue) := cells_at (Pc.b0 HP.out) rfl
      have c2 : x1.cell? ⟨w.heap.size, 2, none⟩ = some (.int .i64 c.limit) := cells_at (Pc.b0 HP.out) rfl
      have c3 : x1.cell? ⟨w.heap.size, 3, none⟩ = some (.int .i64 c.age) := cells_at (Pc.b0 HP.out) rfl
      have c4 : x1.cell? ⟨w.heap.size, 4, none⟩ = some (.int .i64 c.fair) := cells_at (Pc.b0 HP.out) rfl
      have c5 : x1.cell? ⟨w.heap.size, 5, none⟩ = some (.int .i64 c.size) := cells_at (Pc.b0 HP.out) rfl
      have c6 : x1.cell? ⟨w.heap.size, 6, none⟩ = some (.int .i64 c.period) := cells_at (Pc.b0 HP.out) rfl
      have c7 : x1.cell? ⟨w.heap.size, 7, none⟩ = some (.int .i64 c.half) := cells_at (Pc.b0 HP.out) rfl
      have s0 : x1.cell? ⟨w.heap.size + 1, 0, none⟩ = some (.int .i64 s.ac) := cells_at (Pc.b1 HP.out) rfl
      have s1 : x1.cell? ⟨w.heap.size + 1, 1, none⟩ = some (.int .i64 s.nd) := cells_at (Pc.b1 HP.out) rfl
      have s2 : x1.cell? ⟨w.heap.size + 1, 2, none⟩ = some (.int .i64 s.lm) := cells_at (Pc.b1 HP.out) rfl
      have s3 : x1.cell? ⟨w.heap.size + 1, 3, none⟩ = some (.int .i64 s.sb) := cells_at (Pc.b1 HP.out) rfl
      have s4 : x1.cell? ⟨w.heap.size + 1, 4, none⟩ = some (.int .i64 s.st) := cells_at (Pc.b1 HP.out) rfl
      have s5 : x1.cell? ⟨w.heap.size + 1, 5, none⟩ = some (.int .i64 s.sr) := cells_at (Pc.b1 HP.out) rfl
      have s6 : x1.cell? ⟨w.heap.size + 1, 6, none⟩ = some (.int .i64 s.en) := cells_at (Pc.b1 HP.out) rfl
      have s7 : x1.cell? ⟨w.heap.size + 1, 7, none⟩ = some (s.set) := cells_at (Pc.b1 HP.out) rfl
      have l0 : x1.cell? ⟨w.heap.size + 2, 0, none⟩ = some (.int .i64 l.ac) := cells_at (Pc.b2 HP.out) rfl
      have l1 : x1.cell? ⟨w.heap.size + 2, 1, none⟩ = some (.int .i64 l.nd) := cells_at (Pc.b2 HP.out) rfl
      have l2 : x1.cell? ⟨w.heap.size + 2, 2, none⟩ = some (.int .i64 l.lm) := cells_at (Pc.b2 HP.out) rfl
      have l3 : x1.cell? ⟨w.heap.size + 2, 3, none⟩ = some (.int .i64 l.sb) := cells_at (Pc.b2 HP.out) rfl
      have l4 : x1.cell? ⟨w.heap.size + 2, 4, none⟩ = some (.int .i64 l.st) := cells_at (Pc.b2 HP.out) rfl
      have l5 : x1.cell? ⟨w.heap.size + 2, 5, none⟩ = some (.int .i64 l.sr) := cells_at (Pc.b2 HP.out) rfl
      have l6 : x1.cell? ⟨w.heap.size + 2, 6, none⟩ = some (.int .i64 l.en) := cells_at (Pc.b2 HP.out) rfl
      have l7 : x1.cell? ⟨w.heap.size + 2, 7, none⟩ = some (l.set) := cells_at (Pc.b2 HP.out) rfl
      go_wp2_with fail
      refine cc.mono ?_
      rintro e x2 ⟨rfl, hb2⟩
      have HP2 : Hid (Pc w c s l x2) := HP.out.below hb2
      clear cc hb2 HP
      clear c0 c1 c2 c3 c4 c5 c6 c7 s0 s1 s2 s3 s4 s5 s6 s7 l0 l1 l2 l3 l4 l5 l6 l7
      have HP : Hid (Pc w c s l x2) := HP2.out
      clear HP2
      have c0 : x2.cell? ⟨w.heap.size, 0, none⟩ = some (.int .i64 c.nodes) := cells_at (Pc.b0 HP.out) rfl
      have c1 : x2.cell? ⟨w.heap.size, 1, none⟩ = some (.int .i64 c.queue) := cells_at (Pc.b0 HP.out) rfl
      have c2 : x2.cell? ⟨w.heap.size, 2, none⟩ = some (.int .i64 c.limit) := cells_at (Pc.b0 HP.out) rfl
      have c3 : x2.cell? ⟨w.heap.size, 3, none⟩ = some (.int .i64 c.age) := cells_at (Pc.b0 HP.out) rfl
      have c4 : x2.cell? ⟨w.heap.size, 4, none⟩ = some (.int .i64 c.fair) := cells_at (Pc.b0 HP.out) rfl
      have c5 : x2.cell? ⟨w.heap.size, 5, none⟩ = some (.int .i64 c.size) := cells_at (Pc.b0 HP.out) rfl
      have c6 : x2.cell? ⟨w.heap.size, 6, none⟩ = some (.int .i64 c.period) := cells_at (Pc.b0 HP.out) rfl
      have c7 : x2.cell? ⟨w.heap.size, 7, none⟩ = some (.int .i64 c.half) := cells_at (Pc.b0 HP.out) rfl
      have s0 : x2.cell? ⟨w.heap.size + 1, 0, none⟩ = some (.int .i64 s.ac) := cells_at (Pc.b1 HP.out) rfl
      have s1 : x2.cell? ⟨w.heap.size + 1, 1, none⟩ = some (.int .i64 s.nd) := cells_at (Pc.b1 HP.out) rfl
      have s2 : x2.cell? ⟨w.heap.size + 1, 2, none⟩ = some (.int .i64 s.lm) := cells_at (Pc.b1 HP.out) rfl
      have s3 : x2.cell? ⟨w.heap.size + 1, 3, none⟩ = some (.int .i64 s.sb) := cells_at (Pc.b1 HP.out) rfl
      have s4 : x2.cell? ⟨w.heap.size + 1, 4, none⟩ = some (.int .i64 s.st) := cells_at (Pc.b1 HP.out) rfl
      have s5 : x2.cell? ⟨w.heap.size + 1, 5, none⟩ = some (.int .i64 s.sr) := cells_at (Pc.b1 HP.out) rfl
      have s6 : x2.cell? ⟨w.heap.size + 1, 6, none⟩ = some (.int .i64 s.en) := cells_at (Pc.b1 HP.out) rfl
      have s7 : x2.cell? ⟨w.heap.size + 1, 7, none⟩ = some (s.set) := cells_at (Pc.b1 HP.out) rfl
      have l0 : x2.cell? ⟨w.heap.size + 2, 0, none⟩ = some (.int .i64 l.ac) := cells_at (Pc.b2 HP.out) rfl
      have l1 : x2.cell? ⟨w.heap.size + 2, 1, none⟩ = some (.int .i64 l.nd) := cells_at (Pc.b2 HP.out) rfl
      have l2 : x2.cell? ⟨w.heap.size + 2, 2, none⟩ = some (.int .i64 l.lm) := cells_at (Pc.b2 HP.out) rfl
      have l3 : x2.cell? ⟨w.heap.size + 2, 3, none⟩ = some (.int .i64 l.sb) := cells_at (Pc.b2 HP.out) rfl
      have l4 : x2.cell? ⟨w.heap.size + 2, 4, none⟩ = some (.int .i64 l.st) := cells_at (Pc.b2 HP.out) rfl
      have l5 : x2.cell? ⟨w.heap.size + 2, 5, none⟩ = some (.int .i64 l.sr) := cells_at (Pc.b2 HP.out) rfl
      have l6 : x2.cell? ⟨w.heap.size + 2, 6, none⟩ = some (.int .i64 l.en) := cells_at (Pc.b2 HP.out) rfl
      have l7 : x2.cell? ⟨w.heap.size + 2, 7, none⟩ = some (l.set) := cells_at (Pc.b2 HP.out) rfl
      have HBB : Hid (Below w.heap.size w x2) := HP.out.bel
      go_wp2
      go_ret
      exact ⟨rfl, HBB.out⟩
    exact HM.out h1 k0 k1 k2 k3 k4 k5 k6 k7 k8 k9 k10
  · have HCK : Hid (∀ x, Calls Try.prog 14 #[cfV c] x fun e w' => e = .returned (.int .i64 (chkZ c)) ∧ Below x.heap.size x w') := fun x => rcheck_any c x
    have hne : (chkZ c != 0) = true := by simpa using h1
    unfold cfV at HCK
    unfold cfV jbV
    clear h1 HM
    generalize chkZ c = e0 at *
    go_enter Try.func5, Try.ntmps5
    go_wp2_with fail
    refine hs.mono ?_
    rintro e x1 ⟨rfl, hb1⟩
    have HP : Hid (Pc w c s l x1) := HP0.out.below hb1
    clear hs hb1 HP0 hw0
    have cc := HCK.out x1
    have c0 : x1.cell? ⟨w.heap.size, 0, none⟩ = some (.int .i64 c.nodes) := cells_at (Pc.b0 HP.out) rfl
    have c1 : x1.cell? ⟨w.heap.size, 1, none⟩ = some (.int .i64 c.queue) := cells_at (Pc.b0 HP.out) rfl
    have c2 : x1.cell? ⟨w.heap.size, 2, none⟩ = some (.int .i64 c.limit) := cells_at (Pc.b0 HP.out) rfl
    have c3 : x1.cell? ⟨w.heap.size, 3, none⟩ = some (.int .i64 c.age) := cells_at (Pc.b0 HP.out) rfl
    have c4 : x1.cell? ⟨w.heap.size, 4, none⟩ = some (.int .i64 c.fair) := cells_at (Pc.b0 HP.out) rfl
    have c5 : x1.cell? ⟨w.heap.size, 5, none⟩ = some (.int .i64 c.size) := cells_at (Pc.b0 HP.out) rfl
    have c6 : x1.cell? ⟨w.heap.size, 6, none⟩ = some (.int .i64 c.period) := cells_at (Pc.b0 HP.out) rfl
    have c7 : x1.cell? ⟨w.heap.size, 7, none⟩ = some (.int .i64 c.half) := cells_at (Pc.b0 HP.out) rfl
    have s0 : x1.cell? ⟨w.heap.size + 1, 0, none⟩ = some (.int .i64 s.ac) := cells_at (Pc.b1 HP.out) rfl
    have s1 : x1.cell? ⟨w.heap.size + 1, 1, none⟩ = some (.int .i64 s.nd) := cells_at (Pc.b1 HP.out) rfl
    have s2 : x1.cell? ⟨w.heap.size + 1, 2, none⟩ = some (.int .i64 s.lm) := cells_at (Pc.b1 HP.out) rfl
    have s3 : x1.cell? ⟨w.heap.size + 1, 3, none⟩ = some (.int .i64 s.sb) := cells_at (Pc.b1 HP.out) rfl
    have s4 : x1.cell? ⟨w.heap.size + 1, 4, none⟩ = some (.int .i64 s.st) := cells_at (Pc.b1 HP.out) rfl
    have s5 : x1.cell? ⟨w.heap.size + 1, 5, none⟩ = some (.int .i64 s.sr) := cells_at (Pc.b1 HP.out) rfl
    have s6 : x1.cell? ⟨w.heap.size + 1, 6, none⟩ = some (.int .i64 s.en) := cells_at (Pc.b1 HP.out) rfl
    have s7 : x1.cell? ⟨w.heap.size + 1, 7, none⟩ = some (s.set) := cells_at (Pc.b1 HP.out) rfl
    have l0 : x1.cell? ⟨w.heap.size + 2, 0, none⟩ = some (.int .i64 l.ac) := cells_at (Pc.b2 HP.out) rfl
    have l1 : x1.cell? ⟨w.heap.size + 2, 1, none⟩ = some (.int .i64 l.nd) := cells_at (Pc.b2 HP.out) rfl
    have l2 : x1.cell? ⟨w.heap.size + 2, 2, none⟩ = some (.int .i64 l.lm) := cells_at (Pc.b2 HP.out) rfl
    have l3 : x1.cell? ⟨w.heap.size + 2, 3, none⟩ = some (.int .i64 l.sb) := cells_at (Pc.b2 HP.out) rfl
    have l4 : x1.cell? ⟨w.heap.size + 2, 4, none⟩ = some (.int .i64 l.st) := cells_at (Pc.b2 HP.out) rfl
    have l5 : x1.cell? ⟨w.heap.size + 2, 5, none⟩ = some (.int .i64 l.sr) := cells_at (Pc.b2 HP.out) rfl
    have l6 : x1.cell? ⟨w.heap.size + 2, 6, none⟩ = some (.int .i64 l.en) := cells_at (Pc.b2 HP.out) rfl
    have l7 : x1.cell? ⟨w.heap.size + 2, 7, none⟩ = some (l.set) := cells_at (Pc.b2 HP.out) rfl
    go_wp2_with fail
    refine cc.mono ?_
    rintro e x2 ⟨rfl, hb2⟩
    have HP2 : Hid (Pc w c s l x2) := HP.out.below hb2
    clear cc hb2 HP
    clear c0 c1 c2 c3 c4 c5 c6 c7 s0 s1 s2 s3 s4 s5 s6 s7 l0 l1 l2 l3 l4 l5 l6 l7
    have HP : Hid (Pc w c s l x2) := HP2.out
    clear HP2
    have c0 : x2.cell? ⟨w.heap.size, 0, none⟩ = some (.int .i64 c.nodes) := cells_at (Pc.b0 HP.out) rfl
    have c1 : x2.cell? ⟨w.heap.size, 1, none⟩ = some (.int .i64 c.queue) := cells_at (Pc.b0 HP.out) rfl
    have c2 : x2.cell? ⟨w.heap.size, 2, none⟩ = some (.int .i64 c.limit) := cells_at (Pc.b0 HP.out) rfl
    have c3 : x2.cell? ⟨w.heap.size, 3, none⟩ = some (.int .i64 c.age) := cells_at (Pc.b0 HP.out) rfl
    have c4 : x2.cell? ⟨w.heap.size, 4, none⟩ = some (.int .i64 c.fair) := cells_at (Pc.b0 HP.out) rfl
    have c5 : x2.cell? ⟨w.heap.size, 5, none⟩ = some (.int .i64 c.size) := cells_at (Pc.b0 HP.out) rfl
    have c6 : x2.cell? ⟨w.heap.size, 6, none⟩ = some (.int .i64 c.period) := cells_at (Pc.b0 HP.out) rfl
    have c7 : x2.cell? ⟨w.heap.size, 7, none⟩ = some (.int .i64 c.half) := cells_at (Pc.b0 HP.out) rfl
    have s0 : x2.cell? ⟨w.heap.size + 1, 0, none⟩ = some (.int .i64 s.ac) := cells_at (Pc.b1 HP.out) rfl
    have s1 : x2.cell? ⟨w.heap.size + 1, 1, none⟩ = some (.int .i64 s.nd) := cells_at (Pc.b1 HP.out) rfl
    have s2 : x2.cell? ⟨w.heap.size + 1, 2, none⟩ = some (.int .i64 s.lm) := cells_at (Pc.b1 HP.out) rfl
    have s3 : x2.cell? ⟨w.heap.size + 1, 3, none⟩ = some (.int .i64 s.sb) := cells_at (Pc.b1 HP.out) rfl
    have s4 : x2.cell? ⟨w.heap.size + 1, 4, none⟩ = some (.int .i64 s.st) := cells_at (Pc.b1 HP.out) rfl
    have s5 : x2.cell? ⟨w.heap.size + 1, 5, none⟩ = some (.int .i64 s.sr) := cells_at (Pc.b1 HP.out) rfl
    have s6 : x2.cell? ⟨w.heap.size + 1, 6, none⟩ = some (.int .i64 s.en) := cells_at (Pc.b1 HP.out) rfl
    have s7 : x2.cell? ⟨w.heap.size + 1, 7, none⟩ = some (s.set) := cells_at (Pc.b1 HP.out) rfl
    have l0 : x2.cell? ⟨w.heap.size + 2, 0, none⟩ = some (.int .i64 l.ac) := cells_at (Pc.b2 HP.out) rfl
    have l1 : x2.cell? ⟨w.heap.size + 2, 1, none⟩ = some (.int .i64 l.nd) := cells_at (Pc.b2 HP.out) rfl
    have l2 : x2.cell? ⟨w.heap.size + 2, 2, none⟩ = some (.int .i64 l.lm) := cells_at (Pc.b2 HP.out) rfl
    have l3 : x2.cell? ⟨w.heap.size + 2, 3, none⟩ = some (.int .i64 l.sb) := cells_at (Pc.b2 HP.out) rfl
    have l4 : x2.cell? ⟨w.heap.size + 2, 4, none⟩ = some (.int .i64 l.st) := cells_at (Pc.b2 HP.out) rfl
    have l5 : x2.cell? ⟨w.heap.size + 2, 5, none⟩ = some (.int .i64 l.sr) := cells_at (Pc.b2 HP.out) rfl
    have l6 : x2.cell? ⟨w.heap.size + 2, 6, none⟩ = some (.int .i64 l.en) := cells_at (Pc.b2 HP.out) rfl
    have l7 : x2.cell? ⟨w.heap.size + 2, 7, none⟩ = some (l.set) := cells_at (Pc.b2 HP.out) rfl
    have HBB : Hid (Below w.heap.size w x2) := HP.out.bel
    go_wp2
    go_ret
    exact ⟨rfl, HBB.out⟩
end Go.Proofs.Ytjgllfpnmmopdaa
