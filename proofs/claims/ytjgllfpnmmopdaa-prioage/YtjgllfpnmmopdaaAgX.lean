/-
  PrioAge walked where all is well.
-/
import Derived.Test.YtjgllfpnmmopdaaAgW
namespace Go.Proofs.Ytjgllfpnmmopdaa
open Go.RowKit Wd Tr Cg
set_option maxHeartbeats 4000000 in
set_option maxRecDepth 20000 in
theorem age_walk (c : Cf) (now elder later : Int) (s l : Jb) {low high : Int} (hlo : Word low) (hhi : Word high) (w : World) : Calls Try.prog 5 #[cfV c, .int .i64 now, .int .i64 elder, .int .i64 later, jbV s, jbV l, .int .u64 low, .int .u64 high] w fun e w' => e = .returned (.bool true) ∧ Below w.heap.size w w' := by
  refine age_cases c now elder later s l w (fun h1 k0 k1 k2 k3 k4 k5 k6 k7 k8 k9 k10 => ?_)
  obtain ⟨w0, hw0⟩ : ∃ w0, ((w.alloc (.cells #[.int .i64 c.nodes, .int .i64 c.queue, .int .i64 c.limit, .int .i64 c.age, .int .i64 c.fair, .int .i64 c.size, .int .i64 c.period, .int .i64 c.half] 31)).alloc (.cells #[.int .i64 s.ac, .int .i64 s.nd, .int .i64 s.lm, .int .i64 s.sb, .int .i64 s.st, .int .i64 s.sr, .int .i64 s.en, s.set] 34)).alloc (.cells #[.int .i64 l.ac, .int .i64 l.nd, .int .i64 l.lm, .int .i64 l.sb, .int .i64 l.st, .int .i64 l.sr, .int .i64 l.en, l.set] 34) = w0 := ⟨_, rfl⟩
  have hp := Pc.new w c s l
  rw [hw0] at hp
  have hs := shown_any w0
  have HP0 : Hid (Pc w c s l w0) := hp
  clear hp
  have HCK : Hid (∀ x, Calls Try.prog 14 #[cfV c] x fun e w' => e = .returned (.int .i64 0) ∧ Below x.heap.size x w') := fun x => by have h := rcheck_any c x; rw [h1] at h; exact h
  unfold cfV at HCK
  unfold cfV jbV
  have r := chk_rng h1
  have t1 : Wts c now elder s.nd := ⟨by omega, by omega, by omega, by omega, by omega⟩
  have t2 : Wts c now later l.nd := ⟨by omega, by omega, by omega, by omega, by omega⟩
  obtain ⟨A, hA⟩ : ∃ A, prioF c now elder s.nd low = A := ⟨_, rfl⟩
  obtain ⟨B, hB⟩ : ∃ B, prioF c now later l.nd high = B := ⟨_, rfl⟩
  obtain ⟨A1, hA1⟩ : ∃ A1, prioF c now elder s.nd high = A1 := ⟨_, rfl⟩
  obtain ⟨A2, hA2⟩ : ∃ A2, prioF c (now + 1) elder s.nd low = A2 := ⟨_, rfl⟩
  have e1 : A ≤ A1 := by rw [← hA, ← hA1]; exact prio_factor r (by omega)
  have e2 : A < A2 := by rw [← hA, ← hA2]; exact prio_clock r
  have HLB : Hid (leadZ c < later - elder → B < A) := fun h => by rw [← hA, ← hB]; exact prio_lead r t1 t2 hlo.1 (by omega) (by omega) h
  have HQ1 : Hid (∀ x, Calls Try.prog 12 #[cfV c, .int .i64 now, jbV { s with sb := elder }, .int .u64 low] x fun e w' => e = .returned (.int .i64 A) ∧ Below x.heap.size x w') := fun x => by
    have h := prio_any c now { s with sb := elder } hlo x
    rw [prioV_yes h1 t1 (by omega)] at h
    rw [← hA]; exact h
  have HQ2 : Hid (∀ x, Calls Try.prog 12 #[cfV c, .int .i64 now, jbV { l with sb := later }, .int .u64 high] x fun e w' => e = .returned (.int .i64 B) ∧ Below x.heap.size x w') := fun x => by
    have h := prio_any c now { l with sb := later } hhi x
    rw [prioV_yes h1 t2 (by omega)] at h
    rw [← hB]; exact h
  have HQ3 : Hid (∀ x, Calls Try.prog 12 #[cfV c, .int .i64 now, jbV { s with sb := elder }, .int .u64 high] x fun e w' => e = .returned (.int .i64 A1) ∧ Below x.heap.size x w') := fun x => by
    have h := prio_any c now { s with sb := elder } hhi x
    rw [prioV_yes h1 t1 (by omega)] at h
    rw [← hA1]; exact h
  have HQ4 : Hid (¬ now = 1099511627776 → ∀ x, Calls Try.prog 12 #[cfV c, .int .i64 (now + 1), jbV { s with sb := elder }, .int .u64 low] x fun e w' => e = .returned (.int .i64 A2) ∧ Below x.heap.size x w') := fun hn x => by
    have h := prio_any c (now + 1) { s with sb := elder } hlo x
    rw [prioV_yes h1 ⟨t1.w0, by have := t1.w1; show elder ≤ now + 1; omega, by omega, t1.w3, t1.w4⟩ (by omega)] at h
    rw [← hA2]; exact h
  have HQ5 : Hid (∀ x, Calls Try.prog 15 #[cfV c] x fun e w' => e = .returned (.int .i64 (leadZ c)) ∧ Below x.heap.size x w') := fun x => rLead_yes h1 x
  have HWR : Hid (IntKind.i64.wrap (later - elder) = later - elder ∧ wrap64 (later - elder) = later - elder ∧ (¬ now = 1099511627776 → wrap64 (now + 1) = now + 1 ∧ IntKind.i64.wrap (now + 1) = now + 1)) := by
    have a1 := t1.w0; have a2 := t1.w1; have a3 := t1.w2; have a4 := t2.w1
    refine ⟨iwrap_in (by omega), ?_, fun _ => ⟨?_, iwrap_in (by omega)⟩⟩ <;> (unfold wrap64; omega)
  unfold cfV jbV at HQ1 HQ2 HQ3 HQ4
  unfold cfV at HQ5
  simp only at HQ1 HQ2 HQ3 HQ4
  clear r t1 t2 hA hB hA1 hA2 hlo hhi h1
  go_enter Try.func5, Try.ntmps5
  go_wp2_with fail
  refine hs.mono ?_
  rintro e x1 ⟨rfl, hb1⟩
  have HP : Hid (Pc w c s l x1) := HP0.out.below hb1
  clear hs hb1 HP0 hw0
  have cc := HCK.out x1
  have c0 : x1.cell? ⟨w.heap.size, 0, none⟩ = some (.int .i64 c.nodes) := cells_at (Pc.b0 HP.out) rfl
  have c1 : x1.cell? ⟨w.heap.size, 1, none⟩ = some (.int .i64 c.queue) := cells_at (Pc.b0 HP.out) rfl
  have c2 : x1.cell? ⟨w.heap.size, 2, none⟩ = some (.int .i64 c.limit) := cells_at (Pc.b0 HP.out) rfl
  have c3 : x1.cell? ⟨w.heap.size, 3, none⟩ = some (.int .i64 c.age) := cells_at (Pc.b0 HP.out) rfl
  have c4 : x1.cell? ⟨w.heap.size, 4, none⟩ = some (.int .i64 c.fair) := cells_at (Pc.b0 HP.out) rfl
  have c5 : x1.cell? ⟨w.heap.size, 5, none⟩ = some (.int .i64 c.size) := cells_at (Pc.b0 HP.out) rfl
  have c6 : x1.cell? ⟨w.heap.size, 6, none⟩ = some (.int .i64 c.period) := cells_at (Pc.b0 HP.out) rfl
  have c7 : x1.cell? ⟨w.heap.size, 7, none⟩ = some (.int .i64 c.half) := cells_at (Pc.b0 HP.out) rfl
  have s0 : x1.cell? ⟨w.heap.size + 1, 0, none⟩ = some (.int .i64 s.ac) := cells_at (Pc.b1 HP.out) rfl
  have s1 : x1.cell? ⟨w.heap.size + 1, 1, none⟩ = some (.int .i64 s.nd) := cells_at (Pc.b1 HP.out) rfl
  have s2 : x1.cell? ⟨w.heap.size + 1, 2, none⟩ = some (.int .i64 s.lm) := cells_at (Pc.b1 HP.out) rfl
  have s3 : x1.cell? ⟨w.heap.size + 1, 3, none⟩ = some (.int .i64 s.sb) := cells_at (Pc.b1 HP.out) rfl
  have s4 : x1.cell? ⟨w.heap.size + 1, 4, none⟩ = some (.int .i64 s.st) := cells_at (Pc.b1 HP.out) rfl
  have s5 : x1.cell? ⟨w.heap.size + 1, 5, none⟩ = some (.int .i64 s.sr) := cells_at (Pc.b1 HP.out) rfl
  have s6 : x1.cell? ⟨w.heap.size + 1, 6, none⟩ = some (.int .i64 s.en) := cells_at (Pc.b1 HP.out) rfl
  have s7 : x1.cell? ⟨w.heap.size + 1, 7, none⟩ = some (s.set) := cells_at (Pc.b1 HP.out) rfl
  have l0 : x1.cell? ⟨w.heap.size + 2, 0, none⟩ = some (.int .i64 l.ac) := cells_at (Pc.b2 HP.out) rfl
  have l1 : x1.cell? ⟨w.heap.size + 2, 1, none⟩ = some (.int .i64 l.nd) := cells_at (Pc.b2 HP.out) rfl
  have l2 : x1.cell? ⟨w.heap.size + 2, 2, none⟩ = some (.int .i64 l.lm) := cells_at (Pc.b2 HP.out) rfl
  have l3 : x1.cell? ⟨w.heap.size + 2, 3, none⟩ = some (.int .i64 l.sb) := cells_at (Pc.b2 HP.out) rfl
  have l4 : x1.cell? ⟨w.heap.size + 2, 4, none⟩ = some (.int .i64 l.st) := cells_at (Pc.b2 HP.out) rfl
  have l5 : x1.cell? ⟨w.heap.size + 2, 5, none⟩ = some (.int .i64 l.sr) := cells_at (Pc.b2 HP.out) rfl
  have l6 : x1.cell? ⟨w.heap.size + 2, 6, none⟩ = some (.int .i64 l.en) := cells_at (Pc.b2 HP.out) rfl
  have l7 : x1.cell? ⟨w.heap.size + 2, 7, none⟩ = some (l.set) := cells_at (Pc.b2 HP.out) rfl
  go_wp2_with fail
  refine cc.mono ?_
  rintro e x2 ⟨rfl, hb2⟩
  have HP2 : Hid (Pc w c s l x2) := HP.out.below hb2
  clear cc hb2 HP
  clear c0 c1 c2 c3 c4 c5 c6 c7 s0 s1 s2 s3 s4 s5 s6 s7 l0 l1 l2 l3 l4 l5 l6 l7
  have HP : Hid (Pc w c s l x2) := HP2.out
  clear HP2
  have c0 : x2.cell? ⟨w.heap.size, 0, none⟩ = some (.int .i64 c.nodes) := cells_at (Pc.b0 HP.out) rfl
  have c1 : x2.cell? ⟨w.heap.size, 1, none⟩ = some (.int .i64 c.queue) := cells_at (Pc.b0 HP.out) rfl
  have c2 : x2.cell? ⟨w.heap.size, 2, none⟩ = some (.int .i64 c.limit) := cells_at (Pc.b0 HP.out) rfl
  have c3 : x2.cell? ⟨w.heap.size, 3, none⟩ = some (.int .i64 c.age) := cells_at (Pc.b0 HP.out) rfl
  have c4 : x2.cell? ⟨w.heap.size, 4, none⟩ = some (.int .i64 c.fair) := cells_at (Pc.b0 HP.out) rfl
  have c5 : x2.cell? ⟨w.heap.size, 5, none⟩ = some (.int .i64 c.size) := cells_at (Pc.b0 HP.out) rfl
  have c6 : x2.cell? ⟨w.heap.size, 6, none⟩ = some (.int .i64 c.period) := cells_at (Pc.b0 HP.out) rfl
  have c7 : x2.cell? ⟨w.heap.size, 7, none⟩ = some (.int .i64 c.half) := cells_at (Pc.b0 HP.out) rfl
  have s0 : x2.cell? ⟨w.heap.size + 1, 0, none⟩ = some (.int .i64 s.ac) := cells_at (Pc.b1 HP.out) rfl
  have s1 : x2.cell? ⟨w.heap.size + 1, 1, none⟩ = some (.int .i64 s.nd) := cells_at (Pc.b1 HP.out) rfl
  have s2 : x2.cell? ⟨w.heap.size + 1, 2, none⟩ = some (.int .i64 s.lm) := cells_at (Pc.b1 HP.out) rfl
  have s3 : x2.cell? ⟨w.heap.size + 1, 3, none⟩ = some (.int .i64 s.sb) := cells_at (Pc.b1 HP.out) rfl
  have s4 : x2.cell? ⟨w.heap.size + 1, 4, none⟩ = some (.int .i64 s.st) := cells_at (Pc.b1 HP.out) rfl
  have s5 : x2.cell? ⟨w.heap.size + 1, 5, none⟩ = some (.int .i64 s.sr) := cells_at (Pc.b1 HP.out) rfl
  have s6 : x2.cell? ⟨w.heap.size + 1, 6, none⟩ = some (.int .i64 s.en) := cells_at (Pc.b1 HP.out) rfl
  have s7 : x2.cell? ⟨w.heap.size + 1, 7, none⟩ = some (s.set) := cells_at (Pc.b1 HP.out) rfl
  have l0 : x2.cell? ⟨w.heap.size + 2, 0, none⟩ = some (.int .i64 l.ac) := cells_at (Pc.b2 HP.out) rfl
  have l1 : x2.cell? ⟨w.heap.size + 2, 1, none⟩ = some (.int .i64 l.nd) := cells_at (Pc.b2 HP.out) rfl
  have l2 : x2.cell? ⟨w.heap.size + 2, 2, none⟩ = some (.int .i64 l.lm) := cells_at (Pc.b2 HP.out) rfl
  have l3 : x2.cell? ⟨w.heap.size + 2, 3, none⟩ = some (.int .i64 l.sb) := cells_at (Pc.b2 HP.out) rfl
  have l4 : x2.cell? ⟨w.heap.size + 2, 4, none⟩ = some (.int .i64 l.st) := cells_at (Pc.b2 HP.out) rfl
  have l5 : x2.cell? ⟨w.heap.size + 2, 5, none⟩ = some (.int .i64 l.sr) := cells_at (Pc.b2 HP.out) rfl
  have l6 : x2.cell? ⟨w.heap.size + 2, 6, none⟩ = some (.int .i64 l.en) := cells_at (Pc.b2 HP.out) rfl
  have l7 : x2.cell? ⟨w.heap.size + 2, 7, none⟩ = some (l.set) := cells_at (Pc.b2 HP.out) rfl
  have HU5 : Hid (Pc w c { s with sb := elder } { l with sb := later } ((x2.setCell ⟨w.heap.size + 1, 3, none⟩ (.int .i64 elder)).setCell ⟨w.heap.size + 2, 3, none⟩ (.int .i64 later))) := HP.out.set2 elder later
  have g1 := frozen_at (k := 3) (Pc.b1 HP.out)
  have g2 := frozen_at (k := 3) (Pc.b2 HP.out)
  have q1 := HQ1.out ((x2.setCell ⟨w.heap.size + 1, 3, none⟩ (.int .i64 elder)).setCell ⟨w.heap.size + 2, 3, none⟩ (.int .i64 later))
  go_wp2_with fail
  refine q1.mono ?_
  rintro e x3 ⟨rfl, hb3⟩
  have HP3 : Hid (Pc w c { s with sb := elder } { l with sb := later } x3) := HU5.out.below hb3
  clear q1 hb3 HU5 g1 g2 HP
  clear c0 c1 c2 c3 c4 c5 c6 c7 s0 s1 s2 s3 s4 s5 s6 s7 l0 l1 l2 l3 l4 l5 l6 l7
  have HP : Hid (Pc w c { s with sb := elder } { l with sb := later } x3) := HP3.out
  clear HP3
  have c0 : x3.cell? ⟨w.heap.size, 0, none⟩ = some (.int .i64 c.nodes) := cells_at (Pc.b0 HP.out) rfl
  have c1 : x3.cell? ⟨w.heap.size, 1, none⟩ = some (.int .i64 c.queue) := cells_at (Pc.b0 HP.out) rfl
  have c2 : x3.cell? ⟨w.heap.size, 2, none⟩ = some (.int .i64 c.limit) := cells_at (Pc.b0 HP.out) rfl
  have c3 : x3.cell? ⟨w.heap.size, 3, none⟩ = some (.int .i64 c.age) := cells_at (Pc.b0 HP.out) rfl
  have c4 : x3.cell? ⟨w.heap.size, 4, none⟩ = some (.int .i64 c.fair) := cells_at (Pc.b0 HP.out) rfl
  have c5 : x3.cell? ⟨w.heap.size, 5, none⟩ = some (.int .i64 c.size) := cells_at (Pc.b0 HP.out) rfl
  have c6 : x3.cell? ⟨w.heap.size, 6, none⟩ = some (.int .i64 c.period) := cells_at (Pc.b0 HP.out) rfl
  have c7 : x3.cell? ⟨w.heap.size, 7, none⟩ = some (.int .i64 c.half) := cells_at (Pc.b0 HP.out) rfl
  have s0 : x3.cell? ⟨w.heap.size + 1, 0, none⟩ = some (.int .i64 s.ac) := cells_at (Pc.b1 HP.out) rfl
  have s1 : x3.cell? ⟨w.heap.size + 1, 1, none⟩ = some (.int .i64 s.nd) := cells_at (Pc.b1 HP.out) rfl
  have s2 : x3.cell? ⟨w.heap.size + 1, 2, none⟩ = some (.int .i64 s.lm) := cells_at (Pc.b1 HP.out) rfl
  have s3 : x3.cell? ⟨w.heap.size + 1, 3, none⟩ = some (.int .i64 elder) := cells_at (Pc.b1 HP.out) rfl
  have s4 : x3.cell? ⟨w.heap.size + 1, 4, none⟩ = some (.int .i64 s.st) := cells_at (Pc.b1 HP.out) rfl
  have s5 : x3.cell? ⟨w.heap.size + 1, 5, none⟩ = some (.int .i64 s.sr) := cells_at (Pc.b1 HP.out) rfl
  have s6 : x3.cell? ⟨w.heap.size + 1, 6, none⟩ = some (.int .i64 s.en) := cells_at (Pc.b1 HP.out) rfl
  have s7 : x3.cell? ⟨w.heap.size + 1, 7, none⟩ = some (s.set) := cells_at (Pc.b1 HP.out) rfl
  have l0 : x3.cell? ⟨w.heap.size + 2, 0, none⟩ = some (.int .i64 l.ac) := cells_at (Pc.b2 HP.out) rfl
  have l1 : x3.cell? ⟨w.heap.size + 2, 1, none⟩ = some (.int .i64 l.nd) := cells_at (Pc.b2 HP.out) rfl
  have l2 : x3.cell? ⟨w.heap.size + 2, 2, none⟩ = some (.int .i64 l.lm) := cells_at (Pc.b2 HP.out) rfl
  have l3 : x3.cell? ⟨w.heap.size + 2, 3, none⟩ = some (.int .i64 later) := cells_at (Pc.b2 HP.out) rfl
  have l4 : x3.cell? ⟨w.heap.size + 2, 4, none⟩ = some (.int .i64 l.st) := cells_at (Pc.b2 HP.out) rfl
  have l5 : x3.cell? ⟨w.heap.size + 2, 5, none⟩ = some (.int .i64 l.sr) := cells_at (Pc.b2 HP.out) rfl
  have l6 : x3.cell? ⟨w.heap.size + 2, 6, none⟩ = some (.int .i64 l.en) := cells_at (Pc.b2 HP.out) rfl
  have l7 : x3.cell? ⟨w.heap.size + 2, 7, none⟩ = some (l.set) := cells_at (Pc.b2 HP.out) rfl
  have qq := HQ2.out x3
  go_wp2_with fail
  refine qq.mono ?_
  rintro e x4 ⟨rfl, hbb⟩
  have HP3 : Hid (Pc w c { s with sb := elder } { l with sb := later } x4) := HP.out.below hbb
  clear qq hbb HP
  clear c0 c1 c2 c3 c4 c5 c6 c7 s0 s1 s2 s3 s4 s5 s6 s7 l0 l1 l2 l3 l4 l5 l6 l7
  have hwd := HWR.out.2.1
  have HP : Hid (Pc w c { s with sb := elder } { l with sb := later } x4) := HP3.out
  clear HP3
  have c0 : x4.cell? ⟨w.heap.size, 0, none⟩ = some (.int .i64 c.nodes) := cells_at (Pc.b0 HP.out) rfl
  have c1 : x4.cell? ⟨w.heap.size, 1, none⟩ = some (.int .i64 c.queue) := cells_at (Pc.b0 HP.out) rfl
  have c2 : x4.cell? ⟨w.heap.size, 2, none⟩ = some (.int .i64 c.limit) := cells_at (Pc.b0 HP.out) rfl
  have c3 : x4.cell? ⟨w.heap.size, 3, none⟩ = some (.int .i64 c.age) := cells_at (Pc.b0 HP.out) rfl
  have c4 : x4.cell? ⟨w.heap.size, 4, none⟩ = some (.int .i64 c.fair) := cells_at (Pc.b0 HP.out) rfl
  have c5 : x4.cell? ⟨w.heap.size, 5, none⟩ = some (.int .i64 c.size) := cells_at (Pc.b0 HP.out) rfl
  have c6 : x4.cell? ⟨w.heap.size, 6, none⟩ = some (.int .i64 c.period) := cells_at (Pc.b0 HP.out) rfl
  have c7 : x4.cell? ⟨w.heap.size, 7, none⟩ = some (.int .i64 c.half) := cells_at (Pc.b0 HP.out) rfl
  have s0 : x4.cell? ⟨w.heap.size + 1, 0, none⟩ = some (.int .i64 s.ac) := cells_at (Pc.b1 HP.out) rfl
  have s1 : x4.cell? ⟨w.heap.size + 1, 1, none⟩ = some (.int .i64 s.nd) := cells_at (Pc.b1 HP.out) rfl
  have s2 : x4.cell? ⟨w.heap.size + 1, 2, none⟩ = some (.int .i64 s.lm) := cells_at (Pc.b1 HP.out) rfl
  have s3 : x4.cell? ⟨w.heap.size + 1, 3, none⟩ = some (.int .i64 elder) := cells_at (Pc.b1 HP.out) rfl
  have s4 : x4.cell? ⟨w.heap.size + 1, 4, none⟩ = some (.int .i64 s.st) := cells_at (Pc.b1 HP.out) rfl
  have s5 : x4.cell? ⟨w.heap.size + 1, 5, none⟩ = some (.int .i64 s.sr) := cells_at (Pc.b1 HP.out) rfl
  have s6 : x4.cell? ⟨w.heap.size + 1, 6, none⟩ = some (.int .i64 s.en) := cells_at (Pc.b1 HP.out) rfl
  have s7 : x4.cell? ⟨w.heap.size + 1, 7, none⟩ = some (s.set) := cells_at (Pc.b1 HP.out) rfl
  have l0 : x4.cell? ⟨w.heap.size + 2, 0, none⟩ = some (.int .i64 l.ac) := cells_at (Pc.b2 HP.out) rfl
  have l1 : x4.cell? ⟨w.heap.size + 2, 1, none⟩ = some (.int .i64 l.nd) := cells_at (Pc.b2 HP.out) rfl
  have l2 : x4.cell? ⟨w.heap.size + 2, 2, none⟩ = some (.int .i64 l.lm) := cells_at (Pc.b2 HP.out) rfl
  have l3 : x4.cell? ⟨w.heap.size + 2, 3, none⟩ = some (.int .i64 later) := cells_at (Pc.b2 HP.out) rfl
  have l4 : x4.cell? ⟨w.heap.size + 2, 4, none⟩ = some (.int .i64 l.st) := cells_at (Pc.b2 HP.out) rfl
  have l5 : x4.cell? ⟨w.heap.size + 2, 5, none⟩ = some (.int .i64 l.sr) := cells_at (Pc.b2 HP.out) rfl
  have l6 : x4.cell? ⟨w.heap.size + 2, 6, none⟩ = some (.int .i64 l.en) := cells_at (Pc.b2 HP.out) rfl
  have l7 : x4.cell? ⟨w.heap.size + 2, 7, none⟩ = some (l.set) := cells_at (Pc.b2 HP.out) rfl
  have qq := HQ5.out x4
  go_wp2_with fail
  refine qq.mono ?_
  rintro e x5 ⟨rfl, hbb⟩
  have HP3 : Hid (Pc w c { s with sb := elder } { l with sb := later } x5) := HP.out.below hbb
  clear qq hbb HP
  clear c0 c1 c2 c3 c4 c5 c6 c7 s0 s1 s2 s3 s4 s5 s6 s7 l0 l1 l2 l3 l4 l5 l6 l7
  by_cases kl : leadZ c < later - elder
  · have kb := HLB.out kl
    have kb' : ¬ A ≤ B := by omega
    have HP : Hid (Pc w c { s with sb := elder } { l with sb := later } x5) := HP3.out
    clear HP3
    have c0 : x5.cell? ⟨w.heap.size, 0, none⟩ = some (.int .i64 c.nodes) := cells_at (Pc.b0 HP.out) rfl
    have c1 : x5.cell? ⟨w.heap.size, 1, none⟩ = some (.int .i64 c.queue) := cells_at (Pc.b0 HP.out) rfl
    have c2 : x5.cell? ⟨w.heap.size, 2, none⟩ = some (.int .i64 c.limit) := cells_at (Pc.b0 HP.out) rfl
    have c3 : x5.cell? ⟨w.heap.size, 3, none⟩ = some (.int .i64 c.age) := cells_at (Pc.b0 HP.out) rfl
    have c4 : x5.cell? ⟨w.heap.size, 4, none⟩ = some (.int .i64 c.fair) := cells_at (Pc.b0 HP.out) rfl
    have c5 : x5.cell? ⟨w.heap.size, 5, none⟩ = some (.int .i64 c.size) := cells_at (Pc.b0 HP.out) rfl
    have c6 : x5.cell? ⟨w.heap.size, 6, none⟩ = some (.int .i64 c.period) := cells_at (Pc.b0 HP.out) rfl
    have c7 : x5.cell? ⟨w.heap.size, 7, none⟩ = some (.int .i64 c.half) := cells_at (Pc.b0 HP.out) rfl
    have s0 : x5.cell? ⟨w.heap.size + 1, 0, none⟩ = some (.int .i64 s.ac) := cells_at (Pc.b1 HP.out) rfl
    have s1 : x5.cell? ⟨w.heap.size + 1, 1, none⟩ = some (.int .i64 s.nd) := cells_at (Pc.b1 HP.out) rfl
    have s2 : x5.cell? ⟨w.heap.size + 1, 2, none⟩ = some (.int .i64 s.lm) := cells_at (Pc.b1 HP.out) rfl
    have s3 : x5.cell? ⟨w.heap.size + 1, 3, none⟩ = some (.int .i64 elder) := cells_at (Pc.b1 HP.out) rfl
    have s4 : x5.cell? ⟨w.heap.size + 1, 4, none⟩ = some (.int .i64 s.st) := cells_at (Pc.b1 HP.out) rfl
    have s5 : x5.cell? ⟨w.heap.size + 1, 5, none⟩ = some (.int .i64 s.sr) := cells_at (Pc.b1 HP.out) rfl
    have s6 : x5.cell? ⟨w.heap.size + 1, 6, none⟩ = some (.int .i64 s.en) := cells_at (Pc.b1 HP.out) rfl
    have s7 : x5.cell? ⟨w.heap.size + 1, 7, none⟩ = some (s.set) := cells_at (Pc.b1 HP.out) rfl
    have l0 : x5.cell? ⟨w.heap.size + 2, 0, none⟩ = some (.int .i64 l.ac) := cells_at (Pc.b2 HP.out) rfl
    have l1 : x5.cell? ⟨w.heap.size + 2, 1, none⟩ = some (.int .i64 l.nd) := cells_at (Pc.b2 HP.out) rfl
    have l2 : x5.cell? ⟨w.heap.size + 2, 2, none⟩ = some (.int .i64 l.lm) := cells_at (Pc.b2 HP.out) rfl
    have l3 : x5.cell? ⟨w.heap.size + 2, 3, none⟩ = some (.int .i64 later) := cells_at (Pc.b2 HP.out) rfl
    have l4 : x5.cell? ⟨w.heap.size + 2, 4, none⟩ = some (.int .i64 l.st) := cells_at (Pc.b2 HP.out) rfl
    have l5 : x5.cell? ⟨w.heap.size + 2, 5, none⟩ = some (.int .i64 l.sr) := cells_at (Pc.b2 HP.out) rfl
    have l6 : x5.cell? ⟨w.heap.size + 2, 6, none⟩ = some (.int .i64 l.en) := cells_at (Pc.b2 HP.out) rfl
    have l7 : x5.cell? ⟨w.heap.size + 2, 7, none⟩ = some (l.set) := cells_at (Pc.b2 HP.out) rfl
    have qq := HQ3.out x5
    go_wp2_with fail
    refine qq.mono ?_
    rintro e x6 ⟨rfl, hbb⟩
    have HP3 : Hid (Pc w c { s with sb := elder } { l with sb := later } x6) := HP.out.below hbb
    clear qq hbb HP
    clear c0 c1 c2 c3 c4 c5 c6 c7 s0 s1 s2 s3 s4 s5 s6 s7 l0 l1 l2 l3 l4 l5 l6 l7
    by_cases kn : now = 1099511627776
    · subst kn
      have HBB : Hid (Below w.heap.size w x6) := HP3.out.bel
      go_wp2
      go_ret
      exact ⟨rfl, HBB.out⟩
    · have hwn := (HWR.out.2.2 kn).1
      have HQ6 : Hid _ := HQ4.out kn
      have HP : Hid (Pc w c { s with sb := elder } { l with sb := later } x6) := HP3.out
      clear HP3
      have c0 : x6.cell? ⟨w.heap.size, 0, none⟩ = some (.int .i64 c.nodes) := cells_at (Pc.b0 HP.out) rfl
      have c1 : x6.cell? ⟨w.heap.size, 1, none⟩ = some (.int .i64 c.queue) := cells_at (Pc.b0 HP.out) rfl
      have c2 : x6.cell? ⟨w.heap.size, 2, none⟩ = some (.int .i64 c.limit) := cells_at (Pc.b0 HP.out) rfl
      have c3 : x6.cell? ⟨w.heap.size, 3, none⟩ = some (.int .i64 c.age) := cells_at (Pc.b0 HP.out) rfl
      have c4 : x6.cell? ⟨w.heap.size, 4, none⟩ = some (.int .i64 c.fair) := cells_at (Pc.b0 HP.out) rfl
      have c5 : x6.cell? ⟨w.heap.size, 5, none⟩ = some (.int .i64 c.size) := cells_at (Pc.b0 HP.out) rfl
      have c6 : x6.cell? ⟨w.heap.size, 6, none⟩ = some (.int .i64 c.period) := cells_at (Pc.b0 HP.out) rfl
      have c7 : x6.cell? ⟨w.heap.size, 7, none⟩ = some (.int .i64 c.half) := cells_at (Pc.b0 HP.out) rfl
      have s0 : x6.cell? ⟨w.heap.size + 1, 0, none⟩ = some (.int .i64 s.ac) := cells_at (Pc.b1 HP.out) rfl
      have s1 : x6.cell? ⟨w.heap.size + 1, 1, none⟩ = some (.int .i64 s.nd) := cells_at (Pc.b1 HP.out) rfl
      have s2 : x6.cell? ⟨w.heap.size + 1, 2, none⟩ = some (.int .i64 s.lm) := cells_at (Pc.b1 HP.out) rfl
      have s3 : x6.cell? ⟨w.heap.size + 1, 3, none⟩ = some (.int .i64 elder) := cells_at (Pc.b1 HP.out) rfl
      have s4 : x6.cell? ⟨w.heap.size + 1, 4, none⟩ = some (.int .i64 s.st) := cells_at (Pc.b1 HP.out) rfl
      have s5 : x6.cell? ⟨w.heap.size + 1, 5, none⟩ = some (.int .i64 s.sr) := cells_at (Pc.b1 HP.out) rfl
      have s6 : x6.cell? ⟨w.heap.size + 1, 6, none⟩ = some (.int .i64 s.en) := cells_at (Pc.b1 HP.out) rfl
      have s7 : x6.cell? ⟨w.heap.size + 1, 7, none⟩ = some (s.set) := cells_at (Pc.b1 HP.out) rfl
      have l0 : x6.cell? ⟨w.heap.size + 2, 0, none⟩ = some (.int .i64 l.ac) := cells_at (Pc.b2 HP.out) rfl
      have l1 : x6.cell? ⟨w.heap.size + 2, 1, none⟩ = some (.int .i64 l.nd) := cells_at (Pc.b2 HP.out) rfl
      have l2 : x6.cell? ⟨w.heap.size + 2, 2, none⟩ = some (.int .i64 l.lm) := cells_at (Pc.b2 HP.out) rfl
      have l3 : x6.cell? ⟨w.heap.size + 2, 3, none⟩ = some (.int .i64 later) := cells_at (Pc.b2 HP.out) rfl
      have l4 : x6.cell? ⟨w.heap.size + 2, 4, none⟩ = some (.int .i64 l.st) := cells_at (Pc.b2 HP.out) rfl
      have l5 : x6.cell? ⟨w.heap.size + 2, 5, none⟩ = some (.int .i64 l.sr) := cells_at (Pc.b2 HP.out) rfl
      have l6 : x6.cell? ⟨w.heap.size + 2, 6, none⟩ = some (.int .i64 l.en) := cells_at (Pc.b2 HP.out) rfl
      have l7 : x6.cell? ⟨w.heap.size + 2, 7, none⟩ = some (l.set) := cells_at (Pc.b2 HP.out) rfl
      have qq := HQ6.out x6
      go_wp2_with fail
      refine qq.mono ?_
      rintro e x7 ⟨rfl, hbb⟩
      have HP3 : Hid (Pc w c { s with sb := elder } { l with sb := later } x7) := HP.out.below hbb
      clear qq hbb HP
      clear c0 c1 c2 c3 c4 c5 c6 c7 s0 s1 s2 s3 s4 s5 s6 s7 l0 l1 l2 l3 l4 l5 l6 l7
      have HBB : Hid (Below w.heap.size w x7) := HP3.out.bel
      go_wp2
      go_ret
      exact ⟨rfl, HBB.out⟩
  · skip
    have HP : Hid (Pc w c { s with sb := elder } { l with sb := later } x5) := HP3.out
    clear HP3
    have c0 : x5.cell? ⟨w.heap.size, 0, none⟩ = some (.int .i64 c.nodes) := cells_at (Pc.b0 HP.out) rfl
    have c1 : x5.cell? ⟨w.heap.size, 1, none⟩ = some (.int .i64 c.queue) := cells_at (Pc.b0 HP.out) rfl
    have c2 : x5.cell? ⟨w.heap.size, 2, none⟩ = some (.int .i64 c.limit) := cells_at (Pc.b0 HP.out) rfl
    have c3 : x5.cell? ⟨w.heap.size, 3, none⟩ = some (.int .i64 c.age) := cells_at (Pc.b0 HP.out) rfl
    have c4 : x5.cell? ⟨w.heap.size, 4, none⟩ = some (.int .i64 c.fair) := cells_at (Pc.b0 HP.out) rfl
    have c5 : x5.cell? ⟨w.heap.size, 5, none⟩ = some (.int .i64 c.size) := cells_at (Pc.b0 HP.out) rfl
    have c6 : x5.cell? ⟨w.heap.size, 6, none⟩ = some (.int .i64 c.period) := cells_at (Pc.b0 HP.out) rfl
    have c7 : x5.cell? ⟨w.heap.size, 7, none⟩ = some (.int .i64 c.half) := cells_at (Pc.b0 HP.out) rfl
    have s0 : x5.cell? ⟨w.heap.size + 1, 0, none⟩ = some (.int .i64 s.ac) := cells_at (Pc.b1 HP.out) rfl
    have s1 : x5.cell? ⟨w.heap.size + 1, 1, none⟩ = some (.int .i64 s.nd) := cells_at (Pc.b1 HP.out) rfl
    have s2 : x5.cell? ⟨w.heap.size + 1, 2, none⟩ = some (.int .i64 s.lm) := cells_at (Pc.b1 HP.out) rfl
    have s3 : x5.cell? ⟨w.heap.size + 1, 3, none⟩ = some (.int .i64 elder) := cells_at (Pc.b1 HP.out) rfl
    have s4 : x5.cell? ⟨w.heap.size + 1, 4, none⟩ = some (.int .i64 s.st) := cells_at (Pc.b1 HP.out) rfl
    have s5 : x5.cell? ⟨w.heap.size + 1, 5, none⟩ = some (.int .i64 s.sr) := cells_at (Pc.b1 HP.out) rfl
    have s6 : x5.cell? ⟨w.heap.size + 1, 6, none⟩ = some (.int .i64 s.en) := cells_at (Pc.b1 HP.out) rfl
    have s7 : x5.cell? ⟨w.heap.size + 1, 7, none⟩ = some (s.set) := cells_at (Pc.b1 HP.out) rfl
    have l0 : x5.cell? ⟨w.heap.size + 2, 0, none⟩ = some (.int .i64 l.ac) := cells_at (Pc.b2 HP.out) rfl
    have l1 : x5.cell? ⟨w.heap.size + 2, 1, none⟩ = some (.int .i64 l.nd) := cells_at (Pc.b2 HP.out) rfl
    have l2 : x5.cell? ⟨w.heap.size + 2, 2, none⟩ = some (.int .i64 l.lm) := cells_at (Pc.b2 HP.out) rfl
    have l3 : x5.cell? ⟨w.heap.size + 2, 3, none⟩ = some (.int .i64 later) := cells_at (Pc.b2 HP.out) rfl
    have l4 : x5.cell? ⟨w.heap.size + 2, 4, none⟩ = some (.int .i64 l.st) := cells_at (Pc.b2 HP.out) rfl
    have l5 : x5.cell? ⟨w.heap.size + 2, 5, none⟩ = some (.int .i64 l.sr) := cells_at (Pc.b2 HP.out) rfl
    have l6 : x5.cell? ⟨w.heap.size + 2, 6, none⟩ = some (.int .i64 l.en) := cells_at (Pc.b2 HP.out) rfl
    have l7 : x5.cell? ⟨w.heap.size + 2, 7, none⟩ = some (l.set) := cells_at (Pc.b2 HP.out) rfl
    have qq := HQ3.out x5
    go_wp2_with fail
    refine qq.mono ?_
    rintro e x6 ⟨rfl, hbb⟩
    have HP3 : Hid (Pc w c { s with sb := elder } { l with sb := later } x6) := HP.out.below hbb
    clear qq hbb HP
    clear c0 c1 c2 c3 c4 c5 c6 c7 s0 s1 s2 s3 s4 s5 s6 s7 l0 l1 l2 l3 l4 l5 l6 l7
    by_cases kn : now = 1099511627776
    · subst kn
      have HBB : Hid (Below w.heap.size w x6) := HP3.out.bel
      go_wp2
      go_ret
      exact ⟨rfl, HBB.out⟩
    · have hwn := (HWR.out.2.2 kn).1
      have HQ6 : Hid _ := HQ4.out kn
      have HP : Hid (Pc w c { s with sb := elder } { l with sb := later } x6) := HP3.out
      clear HP3
      have c0 : x6.cell? ⟨w.heap.size, 0, none⟩ = some (.int .i64 c.nodes) := cells_at (Pc.b0 HP.out) rfl
      have c1 : x6.cell? ⟨w.heap.size, 1, none⟩ = some (.int .i64 c.queue) := cells_at (Pc.b0 HP.out) rfl
      have c2 : x6.cell? ⟨w.heap.size, 2, none⟩ = some (.int .i64 c.limit) := cells_at (Pc.b0 HP.out) rfl
      have c3 : x6.cell? ⟨w.heap.size, 3, none⟩ = some (.int .i64 c.age) := cells_at (Pc.b0 HP.out) rfl
      have c4 : x6.cell? ⟨w.heap.size, 4, none⟩ = some (.int .i64 c.fair) := cells_at (Pc.b0 HP.out) rfl
      have c5 : x6.cell? ⟨w.heap.size, 5, none⟩ = some (.int .i64 c.size) := cells_at (Pc.b0 HP.out) rfl
      have c6 : x6.cell? ⟨w.heap.size, 6, none⟩ = some (.int .i64 c.period) := cells_at (Pc.b0 HP.out) rfl
      have c7 : x6.cell? ⟨w.heap.size, 7, none⟩ = some (.int .i64 c.half) := cells_at (Pc.b0 HP.out) rfl
      have s0 : x6.cell? ⟨w.heap.size + 1, 0, none⟩ = some (.int .i64 s.ac) := cells_at (Pc.b1 HP.out) rfl
      have s1 : x6.cell? ⟨w.heap.size + 1, 1, none⟩ = some (.int .i64 s.nd) := cells_at (Pc.b1 HP.out) rfl
      have s2 : x6.cell? ⟨w.heap.size + 1, 2, none⟩ = some (.int .i64 s.lm) := cells_at (Pc.b1 HP.out) rfl
      have s3 : x6.cell? ⟨w.heap.size + 1, 3, none⟩ = some (.int .i64 elder) := cells_at (Pc.b1 HP.out) rfl
      have s4 : x6.cell? ⟨w.heap.size + 1, 4, none⟩ = some (.int .i64 s.st) := cells_at (Pc.b1 HP.out) rfl
      have s5 : x6.cell? ⟨w.heap.size + 1, 5, none⟩ = some (.int .i64 s.sr) := cells_at (Pc.b1 HP.out) rfl
      have s6 : x6.cell? ⟨w.heap.size + 1, 6, none⟩ = some (.int .i64 s.en) := cells_at (Pc.b1 HP.out) rfl
      have s7 : x6.cell? ⟨w.heap.size + 1, 7, none⟩ = some (s.set) := cells_at (Pc.b1 HP.out) rfl
      have l0 : x6.cell? ⟨w.heap.size + 2, 0, none⟩ = some (.int .i64 l.ac) := cells_at (Pc.b2 HP.out) rfl
      have l1 : x6.cell? ⟨w.heap.size + 2, 1, none⟩ = some (.int .i64 l.nd) := cells_at (Pc.b2 HP.out) rfl
      have l2 : x6.cell? ⟨w.heap.size + 2, 2, none⟩ = some (.int .i64 l.lm) := cells_at (Pc.b2 HP.out) rfl
      have l3 : x6.cell? ⟨w.heap.size + 2, 3, none⟩ = some (.int .i64 later) := cells_at (Pc.b2 HP.out) rfl
      have l4 : x6.cell? ⟨w.heap.size + 2, 4, none⟩ = some (.int .i64 l.st) := cells_at (Pc.b2 HP.out) rfl
      have l5 : x6.cell? ⟨w.heap.size + 2, 5, none⟩ = some (.int .i64 l.sr) := cells_at (Pc.b2 HP.out) rfl
      have l6 : x6.cell? ⟨w.heap.size + 2, 6, none⟩ = some (.int .i64 l.en) := cells_at (Pc.b2 HP.out) rfl
      have l7 : x6.cell? ⟨w.heap.size + 2, 7, none⟩ = some (l.set) := cells_at (Pc.b2 HP.out) rfl
      have qq := HQ6.out x6
      go_wp2_with fail
      refine qq.mono ?_
      rintro e x7 ⟨rfl, hbb⟩
      have HP3 : Hid (Pc w c { s with sb := elder } { l with sb := later } x7) := HP.out.below hbb
      clear qq hbb HP
      clear c0 c1 c2 c3 c4 c5 c6 c7 s0 s1 s2 s3 s4 s5 s6 s7 l0 l1 l2 l3 l4 l5 l6 l7
      have HBB : Hid (Below w.heap.size w x7) := HP3.out.bel
      go_wp2
      go_ret
      exact ⟨rfl, HBB.out⟩
end Go.Proofs.Ytjgllfpnmmopdaa
