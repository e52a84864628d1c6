/-
  The priority: the package's, the reference's.
-/
import Derived.Test.YtjgllfpnmmopdaaPmB
import Derived.Test.YtjgllfpnmmopdaaCpE
namespace Go.Proofs.Ytjgllfpnmmopdaa
open Go.RowKit Wd Cg
structure Jb where
  ac : Int
  nd : Int
  lm : Int
  sb : Int
  st : Int
  sr : Int
  en : Int
  set : Value
def jbV (j : Jb) : Value := .agg #[.int .i64 j.ac, .int .i64 j.nd, .int .i64 j.lm, .int .i64 j.sb, .int .i64 j.st, .int .i64 j.sr, .int .i64 j.en, j.set]
theorem waits_any (c : Cf) (now : Int) (j : Jb) (w : World) : Calls Try.prog 23 #[cfV c, .int .i64 now, jbV j] w fun e w' => e = .returned (.bool (decide (Wts c now j.sb j.nd))) ∧ Below w.heap.size w w' := by
  unfold cfV jbV
  by_cases k0 : 0 ≤ j.sb
  · skip
    by_cases k1 : j.sb ≤ now
    · skip
      by_cases k2 : now ≤ 1099511627776
      · skip
        by_cases k3 : 1 ≤ j.nd
        · skip
          by_cases k4 : j.nd ≤ c.nodes
          · skip
            have HD : Hid (decide (Wts c now j.sb j.nd) = true) := decide_eq_true ⟨k0, k1, k2, k3, k4⟩
            go_enter Try.func23, Try.ntmps23
            go_wp2
            go_ret
            exact ⟨by rw [HD.out]; rfl, ((Below.refl _ _).alloc (Nat.le_refl _) _).alloc (by simp) _⟩
          · have HD : Hid (decide (Wts c now j.sb j.nd) = false) := decide_eq_false (fun h => k4 h.w4)
            go_enter Try.func23, Try.ntmps23
            go_wp2
            go_ret
            exact ⟨by rw [HD.out]; rfl, ((Below.refl _ _).alloc (Nat.le_refl _) _).alloc (by simp) _⟩
        · have HD : Hid (decide (Wts c now j.sb j.nd) = false) := decide_eq_false (fun h => k3 h.w3)
          go_enter Try.func23, Try.ntmps23
          go_wp2
          go_ret
          exact ⟨by rw [HD.out]; rfl, ((Below.refl _ _).alloc (Nat.le_refl _) _).alloc (by simp) _⟩
      · have HD : Hid (decide (Wts c now j.sb j.nd) = false) := decide_eq_false (fun h => k2 h.w2)
        go_enter Try.func23, Try.ntmps23
        go_wp2
        go_ret
        exact ⟨by rw [HD.out]; rfl, ((Below.refl _ _).alloc (Nat.le_refl _) _).alloc (by simp) _⟩
    · have HD : Hid (decide (Wts c now j.sb j.nd) = false) := decide_eq_false (fun h => k1 h.w1)
      go_enter Try.func23, Try.ntmps23
      go_wp2
      go_ret
      exact ⟨by rw [HD.out]; rfl, ((Below.refl _ _).alloc (Nat.le_refl _) _).alloc (by simp) _⟩
  · have HD : Hid (decide (Wts c now j.sb j.nd) = false) := decide_eq_false (fun h => k0 h.w0)
    go_enter Try.func23, Try.ntmps23
    go_wp2
    go_ret
    exact ⟨by rw [HD.out]; rfl, ((Below.refl _ _).alloc (Nat.le_refl _) _).alloc (by simp) _⟩
theorem wfld1 (a b : Value) (w : World) : (Instr.field 69 (.agg #[a, b]) 1).run Try.prog w = .ok b w := by
  simp [Instr.field, run_underlying Try.underlying69, asAgg, part, isAgg, run_underlying Try.underlying35]
theorem part_shr {a f : Int} (a0 : 0 ≤ a) (a1 : a ≤ 1048576) (f0 : 0 ≤ f) (f1 : f ≤ 9223372036854775808) : loW (shrV (val (hiW (a * f)) (loW (a * f))) 63) = partF a f := by
  have h1 := mul_box a0 f0 a1 f1
  have h2 : val (hiW (a * f)) (loW (a * f)) = a * f := by unfold val hiW loW; omega
  rw [h2]
  unfold shrV loW partF
  rw [if_neg (by omega), show (2 : Int) ^ (63 : Int).toNat = 9223372036854775808 by decide]
  omega
set_option maxRecDepth 20000 in
theorem ppart_any {a f : Int} (a0 : 0 ≤ a) (a1 : a ≤ 1048576) (f0 : 0 ≤ f) (f1 : f ≤ 9223372036854775808) (w : World) : Calls Try.prog 24 #[.int .i64 a, .int .u64 f] w fun e w' => e = .returned (.int .i64 (partF a f)) ∧ Below w.heap.size w w' := by
  have hb := part_box a0 f0 f1
  have h1 := mul_box a0 f0 a1 f1
  have hwa : Word a := ⟨a0, by omega⟩
  have hwf : Word f := ⟨f0, by omega⟩
  have w1 : Word (hiW (a * f)) := by unfold Word hiW; omega
  have w2 : Word (loW (a * f)) := by unfold Word loW; omega
  have HP : Hid (loW (shrV (val (hiW (a * f)) (loW (a * f))) 63) = partF a f) := part_shr a0 a1 f0 f1
  have HB : Hid (0 ≤ partF a f ∧ partF a f ≤ 1048576) := ⟨hb.1, by omega⟩
  have cm := mul_any a f hwa hwf w
  have HS : Hid (∀ x, Calls Try.prog 40 #[.agg #[.int .u64 (hiW (a * f)), .int .u64 (loW (a * f))], .int .i64 63] x fun e w' => e = .returned (.agg #[.int .u64 (hiW (shrV (val (hiW (a * f)) (loW (a * f))) 63)), .int .u64 (loW (shrV (val (hiW (a * f)) (loW (a * f))) 63))]) ∧ Below x.heap.size x w') := fun x => shr_any _ _ 63 w1 w2 (by decide) x
  have a2 : a < 9223372036854775808 := by omega
  clear hb h1 w1 w2 f0 f1 a1
  go_enter Try.func24, Try.ntmps24
  go_wp2_with fail
  refine cm.mono ?_
  rintro e x1 ⟨rfl, hb1⟩
  have c2 := HS.out x1
  clear cm
  go_wp2_with fail
  refine c2.mono ?_
  rintro e x2 ⟨rfl, hb2⟩
  rw [HP.out]
  have hf := wfld1 (.int .u64 (hiW (shrV (val (hiW (a * f)) (loW (a * f))) 63))) (.int .u64 (partF a f)) x2
  have HB2 : Hid (Below w.heap.size w x2) := hb1.trans (hb2.mono hb1.size)
  generalize hiW (shrV (val (hiW (a * f)) (loW (a * f))) 63) = X at *
  clear c2 hb1 hb2 HP HS
  obtain ⟨p0, p1⟩ := HB.out
  have p2 : partF a f < 9223372036854775808 := by omega
  clear p1 HB
  obtain ⟨Y, hY⟩ : ∃ Y, partF a f = Y := ⟨_, rfl⟩
  have HY : Hid (partF a f = Y) := hY
  rw [hY] at hf p0 p2 ⊢
  clear hY
  generalize hiW (a * f) = X1 at *
  generalize loW (a * f) = X2 at *
  go_wp2
  go_ret
  exact ⟨by rw [HY.out]; rfl, HB2.out⟩

/-- The two boxes: a config, a job. -/
structure Pb (w : World) (c : Cf) (j : Jb) (x : World) : Prop where
  c0 : x.cell? ⟨w.heap.size, 0, none⟩ = some (.int .i64 c.nodes)
  c1 : x.cell? ⟨w.heap.size, 1, none⟩ = some (.int .i64 c.queue)
  c2 : x.cell? ⟨w.heap.size, 2, none⟩ = some (.int .i64 c.limit)
  c3 : x.cell? ⟨w.heap.size, 3, none⟩ = some (.int .i64 c.age)
  c4 : x.cell? ⟨w.heap.size, 4, none⟩ = some (.int .i64 c.fair)
  c5 : x.cell? ⟨w.heap.size, 5, none⟩ = some (.int .i64 c.size)
  c6 : x.cell? ⟨w.heap.size, 6, none⟩ = some (.int .i64 c.period)
  c7 : x.cell? ⟨w.heap.size, 7, none⟩ = some (.int .i64 c.half)
  j0 : x.cell? ⟨w.heap.size + 1, 0, none⟩ = some (.int .i64 j.ac)
  j1 : x.cell? ⟨w.heap.size + 1, 1, none⟩ = some (.int .i64 j.nd)
  j2 : x.cell? ⟨w.heap.size + 1, 2, none⟩ = some (.int .i64 j.lm)
  j3 : x.cell? ⟨w.heap.size + 1, 3, none⟩ = some (.int .i64 j.sb)
  j4 : x.cell? ⟨w.heap.size + 1, 4, none⟩ = some (.int .i64 j.st)
  j5 : x.cell? ⟨w.heap.size + 1, 5, none⟩ = some (.int .i64 j.sr)
  j6 : x.cell? ⟨w.heap.size + 1, 6, none⟩ = some (.int .i64 j.en)
  j7 : x.cell? ⟨w.heap.size + 1, 7, none⟩ = some j.set
  bel : Below w.heap.size w x
  siz : w.heap.size + 2 ≤ x.heap.size
theorem Pb.below {w x y : World} {c : Cf} {j : Jb} (h : Pb w c j x) (b : Below x.heap.size x y) : Pb w c j y :=
  ⟨keepC b h.c0, keepC b h.c1, keepC b h.c2, keepC b h.c3, keepC b h.c4, keepC b h.c5, keepC b h.c6, keepC b h.c7, keepC b h.j0, keepC b h.j1, keepC b h.j2, keepC b h.j3, keepC b h.j4, keepC b h.j5, keepC b h.j6, keepC b h.j7, h.bel.trans (b.mono h.bel.size), by have := b.size; have := h.siz; omega⟩
theorem Pb.new (w : World) (c : Cf) (j : Jb) : Pb w c j ((w.alloc (.cells #[.int .i64 c.nodes, .int .i64 c.queue, .int .i64 c.limit, .int .i64 c.age, .int .i64 c.fair, .int .i64 c.size, .int .i64 c.period, .int .i64 c.half] 31)).alloc (.cells #[.int .i64 j.ac, .int .i64 j.nd, .int .i64 j.lm, .int .i64 j.sb, .int .i64 j.st, .int .i64 j.sr, .int .i64 j.en, j.set] 34)) := by
  constructor <;> first | (simp [go_sem]; done) | exact ((Below.refl _ _).alloc (Nat.le_refl _) _).alloc (by simp) _

end Go.Proofs.Ytjgllfpnmmopdaa
