/-
  PrioTells walked.
-/
import Derived.Test.YtjgllfpnmmopdaaShw
namespace Go.Proofs.Ytjgllfpnmmopdaa
open Go.RowKit Wd Tr Cg
theorem Pb.all {w x : World} {c : Cf} {j : Jb} (h : Pb w c j x) : x.cell? ⟨w.heap.size, 0, none⟩ = some (.int .i64 c.nodes) ∧ x.cell? ⟨w.heap.size, 1, none⟩ = some (.int .i64 c.queue) ∧ x.cell? ⟨w.heap.size, 2, none⟩ = some (.int .i64 c.limit) ∧ x.cell? ⟨w.heap.size, 3, none⟩ = some (.int .i64 c.age) ∧ x.cell? ⟨w.heap.size, 4, none⟩ = some (.int .i64 c.fair) ∧ x.cell? ⟨w.heap.size, 5, none⟩ = some (.int .i64 c.size) ∧ x.cell? ⟨w.heap.size, 6, none⟩ = some (.int .i64 c.period) ∧ x.cell? ⟨w.heap.size, 7, none⟩ = some (.int .i64 c.half) ∧ x.cell? ⟨w.heap.size + 1, 0, none⟩ = some (.int .i64 j.ac) ∧ x.cell? ⟨w.heap.size + 1, 1, none⟩ = some (.int .i64 j.nd) ∧ x.cell? ⟨w.heap.size + 1, 2, none⟩ = some (.int .i64 j.lm) ∧ x.cell? ⟨w.heap.size + 1, 3, none⟩ = some (.int .i64 j.sb) ∧ x.cell? ⟨w.heap.size + 1, 4, none⟩ = some (.int .i64 j.st) ∧ x.cell? ⟨w.heap.size + 1, 5, none⟩ = some (.int .i64 j.sr) ∧ x.cell? ⟨w.heap.size + 1, 6, none⟩ = some (.int .i64 j.en) ∧ x.cell? ⟨w.heap.size + 1, 7, none⟩ = some j.set := ⟨h.c0, h.c1, h.c2, h.c3, h.c4, h.c5, h.c6, h.c7, h.j0, h.j1, h.j2, h.j3, h.j4, h.j5, h.j6, h.j7⟩
set_option maxHeartbeats 1000000 in
set_option maxRecDepth 20000 in
theorem tells_walk (c : Cf) (now : Int) (j : Jb) {f : Int} (hf : Word f) (w : World) : Calls Try.prog 4 #[cfV c, .int .i64 now, jbV j, .int .u64 f] w fun e w' => e = .returned (.bool true) ∧ Below w.heap.size w w' := by
  obtain ⟨w1, hw1⟩ : ∃ w1, (w.alloc (.cells #[.int .i64 c.nodes, .int .i64 c.queue, .int .i64 c.limit, .int .i64 c.age, .int .i64 c.fair, .int .i64 c.size, .int .i64 c.period, .int .i64 c.half] 31)).alloc (.cells #[.int .i64 j.ac, .int .i64 j.nd, .int .i64 j.lm, .int .i64 j.sb, .int .i64 j.st, .int .i64 j.sr, .int .i64 j.en, j.set] 34) = w1 := ⟨_, rfl⟩
  have hp := Pb.new w c j
  rw [hw1] at hp
  have hs := shown_any w1
  have HP1 : Hid (Pb w c j w1) := hp
  obtain ⟨V, hV⟩ : ∃ V, prioV c now j.sb j.nd f = V := ⟨_, rfl⟩
  have HA : Hid (∀ x, Calls Try.prog 12 #[cfV c, .int .i64 now, jbV j, .int .u64 f] x fun e w' => e = .returned (.int .i64 V) ∧ Below x.heap.size x w') := fun x => hV ▸ prio_any c now j hf x
  have HB : Hid (∀ x, Calls Try.prog 13 #[cfV c, .int .i64 now, jbV j, .int .u64 f] x fun e w' => e = .returned (.int .i64 V) ∧ Below x.heap.size x w') := fun x => hV ▸ rprio_any c now j hf x
  have hVV : (V == V) = true := by simp
  clear hV hf hp
  unfold cfV jbV at *
  go_enter Try.func4, Try.ntmps4
  go_wp2_with fail
  refine hs.mono ?_
  rintro e w2 ⟨rfl, hb2⟩
  have HP2 : Hid (Pb w c j w2) := HP1.out.below hb2
  have HP3 : Hid (Pb w c j w2.drew) := HP2.out.below ((Below.refl _ w2).drew)
  have c1 := HA.out w2.drew
  clear hs hb2 HP1 hw1
  go_upto_region 3 with fail
  go_region_held3 (fun x => x.cell? ⟨w.heap.size, 0, none⟩ = some (.int .i64 c.nodes) ∧ x.cell? ⟨w.heap.size, 1, none⟩ = some (.int .i64 c.queue) ∧ x.cell? ⟨w.heap.size, 2, none⟩ = some (.int .i64 c.limit) ∧ x.cell? ⟨w.heap.size, 3, none⟩ = some (.int .i64 c.age) ∧ x.cell? ⟨w.heap.size, 4, none⟩ = some (.int .i64 c.fair) ∧ x.cell? ⟨w.heap.size, 5, none⟩ = some (.int .i64 c.size) ∧ x.cell? ⟨w.heap.size, 6, none⟩ = some (.int .i64 c.period) ∧ x.cell? ⟨w.heap.size, 7, none⟩ = some (.int .i64 c.half) ∧ x.cell? ⟨w.heap.size + 1, 0, none⟩ = some (.int .i64 j.ac) ∧ x.cell? ⟨w.heap.size + 1, 1, none⟩ = some (.int .i64 j.nd) ∧ x.cell? ⟨w.heap.size + 1, 2, none⟩ = some (.int .i64 j.lm) ∧ x.cell? ⟨w.heap.size + 1, 3, none⟩ = some (.int .i64 j.sb) ∧ x.cell? ⟨w.heap.size + 1, 4, none⟩ = some (.int .i64 j.st) ∧ x.cell? ⟨w.heap.size + 1, 5, none⟩ = some (.int .i64 j.sr) ∧ x.cell? ⟨w.heap.size + 1, 6, none⟩ = some (.int .i64 j.en) ∧ x.cell? ⟨w.heap.size + 1, 7, none⟩ = some j.set) (first | exact HP3.out.all | exact HP5.out.all | exact HP6.out.all) (first
    | (go_at_call 13; refine c2.mono ?_; rintro e x6 ⟨rfl, hb6⟩; have HP6 : Hid (Pb w c j x6) := HP5.out.below hb6)
    | (go_at_call 12; refine c1.mono ?_; rintro e x5 ⟨rfl, hb5⟩; have HP5 : Hid (Pb w c j x5) := HP3.out.below hb5; have c2 := HB.out x5))
  have HE : Hid (Below w.heap.size w x6) := HP6.out.bel
  clear HP6 HP5 c1 c2 hb5 hb6
  go_wp2
  go_ret
  exact ⟨rfl, HE.out⟩
end Go.Proofs.Ytjgllfpnmmopdaa
