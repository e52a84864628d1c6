/-
  The priority: as a number, and what follows of it.
  The priority: the package's, the reference's.
-/
import Derived.Test.YtjgllfpnmmopdaaGreatDoorCfEq
import Derived.Test.YtjgllfpnmmopdaaGreatDoorCpEq
namespace Go.Proofs.YtjgllfpnmmopdaaGreatDoor.Cg

/-- What the factor adds. -/
def partF (a f : Int) : Int := a * f / 9223372036854775808
def prioF (c : Cf) (now sub nodes f : Int) : Int := c.age * (now - sub) + partF c.fair f + c.size * nodes
structure Wts (c : Cf) (now sub nodes : Int) : Prop where
  w0 : 0 ≤ sub
  w1 : sub ≤ now
  w2 : now ≤ 1099511627776
  w3 : 1 ≤ nodes
  w4 : nodes ≤ c.nodes
instance (c : Cf) (now sub nodes : Int) : Decidable (Wts c now sub nodes) := decidable_of_iff (0 ≤ sub ∧ sub ≤ now ∧ now ≤ 1099511627776 ∧ 1 ≤ nodes ∧ nodes ≤ c.nodes) ⟨fun h => ⟨h.1, h.2.1, h.2.2.1, h.2.2.2.1, h.2.2.2.2⟩, fun h => ⟨h.w0, h.w1, h.w2, h.w3, h.w4⟩⟩
noncomputable def prioV (c : Cf) (now sub nodes f : Int) : Int := if chkZ c = 0 ∧ Wts c now sub nodes ∧ f ≤ 9223372036854775808 then prioF c now sub nodes f else 0
theorem prioV_yes {c : Cf} {now sub nodes f : Int} (h1 : chkZ c = 0) (h2 : Wts c now sub nodes) (h3 : f ≤ 9223372036854775808) : prioV c now sub nodes f = prioF c now sub nodes f := if_pos ⟨h1, h2, h3⟩
theorem chk_rng {c : Cf} (h : chkZ c = 0) : Rng c := by
  unfold chkZ at h
  by_cases hr : Rng c
  · exact hr
  · rw [if_pos hr] at h; omega
theorem part_box {a f : Int} (a0 : 0 ≤ a) (f0 : 0 ≤ f) (f1 : f ≤ 9223372036854775808) : 0 ≤ partF a f ∧ partF a f ≤ a := by
  unfold partF
  have h1 := mul_box a0 f0 (Int.le_refl a) f1
  omega
theorem part_mono {a f g : Int} (a0 : 0 ≤ a) (h : f ≤ g) : partF a f ≤ partF a g := by
  unfold partF
  have h1 := Int.mul_le_mul_of_nonneg_left h a0
  omega
theorem prio_box {c : Cf} {now sub nodes f : Int} (r : Rng c) (h : Wts c now sub nodes) (f0 : 0 ≤ f) (f1 : f ≤ 9223372036854775808) :
    (0 ≤ now - sub ∧ now - sub ≤ 1099511627776) ∧ (0 ≤ c.age * (now - sub) ∧ c.age * (now - sub) ≤ 1152921504606846976) ∧ (0 ≤ partF c.fair f ∧ partF c.fair f ≤ 1048576) ∧ (0 ≤ c.size * nodes ∧ c.size * nodes ≤ 268435456) := by
  have := r.a0; have := r.a1; have := r.f0; have := r.f1; have := r.s0; have := r.s1; have := r.n1
  have := h.w0; have := h.w1; have := h.w2; have := h.w3; have := h.w4
  have h1 := mul_box (a := c.age) (b := now - sub) (A := 1048576) (B := 1099511627776) (by omega) (by omega) (by omega) (by omega)
  have h2 := mul_box (a := c.size) (b := nodes) (A := 1048576) (B := 256) (by omega) (by omega) (by omega) (by omega)
  have h3 := part_box (a := c.fair) (by omega) f0 f1
  omega
/-- The reference's way to the same part. -/
theorem part_halves {a f : Int} : (a * (f / 4294967296) + a * (f % 4294967296) / 4294967296) / 2147483648 = partF a f := by
  unfold partF
  have h1 : a * f = a * (f / 4294967296) * 4294967296 + a * (f % 4294967296) := by
    have h2 := Int.mul_ediv_add_emod f 4294967296
    calc a * f = a * (4294967296 * (f / 4294967296) + f % 4294967296) := by rw [h2]
      _ = a * (f / 4294967296) * 4294967296 + a * (f % 4294967296) := by rw [Int.mul_add]; congr 1; rw [Int.mul_comm 4294967296, ← Int.mul_assoc]
  rw [h1]
  generalize a * (f / 4294967296) = X
  generalize a * (f % 4294967296) = Y
  omega
theorem half_words {a f : Int} (a0 : 0 ≤ a) (a1 : a ≤ 1048576) (f0 : 0 ≤ f) (f1 : f ≤ 9223372036854775808) :
    (0 ≤ a * (f / 4294967296) ∧ a * (f / 4294967296) ≤ 2251799813685248) ∧ (0 ≤ a * (f % 4294967296) ∧ a * (f % 4294967296) ≤ 4503599627370496) := by
  have h1 := mul_box (a := a) (b := f / 4294967296) (A := 1048576) (B := 2147483648) a0 (by omega) a1 (by omega)
  have h2 := mul_box (a := a) (b := f % 4294967296) (A := 1048576) (B := 4294967296) a0 (by omega) a1 (by omega)
  omega

/-- Whoever came more than Lead ahead is ahead. -/
theorem prio_lead {c : Cf} {now elder later n1 n2 low high : Int} (r : Rng c) (h1 : Wts c now elder n1) (h2 : Wts c now later n2) (l0 : 0 ≤ low) (hl : low ≤ high) (hh : high ≤ 9223372036854775808)
    (h : leadZ c < later - elder) : prioF c now later n2 high < prioF c now elder n1 low := by
  have b1 := prio_box r h1 l0 (by omega)
  have hs : c.size * n2 ≤ c.size * c.nodes := Int.mul_le_mul_of_nonneg_left h2.w4 r.s0
  have hp := part_box (a := c.fair) r.f0 (by omega : (0:Int) ≤ high) hh
  have ha := r.a0
  have e1 : aheadZ c < c.age * (leadZ c + 1) := by
    unfold leadZ
    have h3 := Int.lt_mul_ediv_self_add (x := aheadZ c) (k := c.age) (by omega)
    rw [Int.mul_add, Int.mul_one]; exact h3
  have e2 : c.age * (leadZ c + 1) ≤ c.age * (later - elder) := Int.mul_le_mul_of_nonneg_left (by omega) (by omega)
  have e3 : c.age * (now - elder) = c.age * (now - later) + c.age * (later - elder) := by rw [← Int.mul_add]; congr 1; omega
  unfold prioF
  unfold aheadZ at e1
  omega
theorem prio_factor {c : Cf} {now sub n low high : Int} (r : Rng c) (hl : low ≤ high) : prioF c now sub n low ≤ prioF c now sub n high := by
  have := part_mono (a := c.fair) r.f0 hl
  unfold prioF; omega
theorem prio_clock {c : Cf} {now sub n f : Int} (r : Rng c) : prioF c now sub n f < prioF c (now + 1) sub n f := by
  have ha := r.a0
  have e : c.age * (now + 1 - sub) = c.age * (now - sub) + c.age := by
    rw [show now + 1 - sub = (now - sub) + 1 by omega, Int.mul_add, Int.mul_one]
  unfold prioF; omega
end Go.Proofs.YtjgllfpnmmopdaaGreatDoor.Cg
namespace Go.Proofs.YtjgllfpnmmopdaaGreatDoor
open Go.RowKit Wd Cg
structure Jb where
  ac : Int
  nd : Int
  lm : Int
  sb : Int
  st : Int
  sr : Int
  en : Int
  set : Value
def jbV (j : Jb) : Value := .agg #[.int .i64 j.ac, .int .i64 j.nd, .int .i64 j.lm, .int .i64 j.sb, .int .i64 j.st, .int .i64 j.sr, .int .i64 j.en, j.set]
theorem waits_any (c : Cf) (now : Int) (j : Jb) (w : World) : Calls Tryz.prog 31 #[cfV c, .int .i64 now, jbV j] w fun e w' => e = .returned (.bool (decide (Wts c now j.sb j.nd))) ∧ Below w.heap.size w w' := by
  unfold cfV jbV
  by_cases k0 : 0 ≤ j.sb
  · skip
    by_cases k1 : j.sb ≤ now
    · skip
      by_cases k2 : now ≤ 1099511627776
      · skip
        by_cases k3 : 1 ≤ j.nd
        · skip
          by_cases k4 : j.nd ≤ c.nodes
          · skip
            have HD : Hid (decide (Wts c now j.sb j.nd) = true) := decide_eq_true ⟨k0, k1, k2, k3, k4⟩
            go_enter Tryz.func31, Tryz.ntmps31
            go_wp2
            go_ret
            exact ⟨by rw [HD.out]; rfl, ((Below.refl _ _).alloc (Nat.le_refl _) _).alloc (by simp) _⟩
          · have HD : Hid (decide (Wts c now j.sb j.nd) = false) := decide_eq_false (fun h => k4 h.w4)
            go_enter Tryz.func31, Tryz.ntmps31
            go_wp2
            go_ret
            exact ⟨by rw [HD.out]; rfl, ((Below.refl _ _).alloc (Nat.le_refl _) _).alloc (by simp) _⟩
        · have HD : Hid (decide (Wts c now j.sb j.nd) = false) := decide_eq_false (fun h => k3 h.w3)
          go_enter Tryz.func31, Tryz.ntmps31
          go_wp2
          go_ret
          exact ⟨by rw [HD.out]; rfl, ((Below.refl _ _).alloc (Nat.le_refl _) _).alloc (by simp) _⟩
      · have HD : Hid (decide (Wts c now j.sb j.nd) = false) := decide_eq_false (fun h => k2 h.w2)
        go_enter Tryz.func31, Tryz.ntmps31
        go_wp2
        go_ret
        exact ⟨by rw [HD.out]; rfl, ((Below.refl _ _).alloc (Nat.le_refl _) _).alloc (by simp) _⟩
    · have HD : Hid (decide (Wts c now j.sb j.nd) = false) := decide_eq_false (fun h => k1 h.w1)
      go_enter Tryz.func31, Tryz.ntmps31
      go_wp2
      go_ret
      exact ⟨by rw [HD.out]; rfl, ((Below.refl _ _).alloc (Nat.le_refl _) _).alloc (by simp) _⟩
  · have HD : Hid (decide (Wts c now j.sb j.nd) = false) := decide_eq_false (fun h => k0 h.w0)
    go_enter Tryz.func31, Tryz.ntmps31
    go_wp2
    go_ret
    exact ⟨by rw [HD.out]; rfl, ((Below.refl _ _).alloc (Nat.le_refl _) _).alloc (by simp) _⟩
theorem wfld1 (a b : Value) (w : World) : (Instr.field 99 (.agg #[a, b]) 1).run Tryz.prog w = .ok b w := by
  simp [Instr.field, run_underlying Tryz.underlying99, asAgg, part, isAgg, run_underlying Tryz.underlying29]
theorem part_shr {a f : Int} (a0 : 0 ≤ a) (a1 : a ≤ 1048576) (f0 : 0 ≤ f) (f1 : f ≤ 9223372036854775808) : loW (shrV (val (hiW (a * f)) (loW (a * f))) 63) = partF a f := by
  have h1 := mul_box a0 f0 a1 f1
  have h2 : val (hiW (a * f)) (loW (a * f)) = a * f := by unfold val hiW loW; omega
  rw [h2]
  unfold shrV loW partF
  rw [if_neg (by omega), show (2 : Int) ^ (63 : Int).toNat = 9223372036854775808 by decide]
  omega
set_option maxRecDepth 20000 in
theorem ppart_any {a f : Int} (a0 : 0 ≤ a) (a1 : a ≤ 1048576) (f0 : 0 ≤ f) (f1 : f ≤ 9223372036854775808) (w : World) : Calls Tryz.prog 32 #[.int .i64 a, .int .u64 f] w fun e w' => e = .returned (.int .i64 (partF a f)) ∧ Below w.heap.size w w' := by
  have hb := part_box a0 f0 f1
  have h1 := mul_box a0 f0 a1 f1
  have hwa : Word a := ⟨a0, by omega⟩
  have hwf : Word f := ⟨f0, by omega⟩
  have w1 : Word (hiW (a * f)) := by unfold Word hiW; omega
  have w2 : Word (loW (a * f)) := by unfold Word loW; omega
  have HP : Hid (loW (shrV (val (hiW (a * f)) (loW (a * f))) 63) = partF a f) := part_shr a0 a1 f0 f1
  have HB : Hid (0 ≤ partF a f ∧ partF a f ≤ 1048576) := ⟨hb.1, by omega⟩
  have cm := mul_any a f hwa hwf w
  have HS : Hid (∀ x, Calls Tryz.prog 64 #[.agg #[.int .u64 (hiW (a * f)), .int .u64 (loW (a * f))], .int .i64 63] x fun e w' => e = .returned (.agg #[.int .u64 (hiW (shrV (val (hiW (a * f)) (loW (a * f))) 63)), .int .u64 (loW (shrV (val (hiW (a * f)) (loW (a * f))) 63))]) ∧ Below x.heap.size x w') := fun x => shr_any _ _ 63 w1 w2 (by decide) x
  have a2 : a < 9223372036854775808 := by omega
  clear hb h1 w1 w2 f0 f1 a1
  go_enter Tryz.func32, Tryz.ntmps32
  go_wp2_with fail
  refine cm.mono ?_
  rintro e x1 ⟨rfl, hb1⟩
  have c2 := HS.out x1
  clear cm
  go_wp2_with fail
  refine c2.mono ?_
  rintro e x2 ⟨rfl, hb2⟩
  rw [HP.out]
  have hf := wfld1 (.int .u64 (hiW (shrV (val (hiW (a * f)) (loW (a * f))) 63))) (.int .u64 (partF a f)) x2
  have HB2 : Hid (Below w.heap.size w x2) := hb1.trans (hb2.mono hb1.size)
  generalize hiW (shrV (val (hiW (a * f)) (loW (a * f))) 63) = X at *
  clear c2 hb1 hb2 HP HS
  obtain ⟨p0, p1⟩ := HB.out
  have p2 : partF a f < 9223372036854775808 := by omega
  clear p1 HB
  obtain ⟨Y, hY⟩ : ∃ Y, partF a f = Y := ⟨_, rfl⟩
  have HY : Hid (partF a f = Y) := hY
  rw [hY] at hf p0 p2 ⊢
  clear hY
  generalize hiW (a * f) = X1 at *
  generalize loW (a * f) = X2 at *
  go_wp2
  go_ret
  exact ⟨by rw [HY.out]; rfl, HB2.out⟩

/-- The two boxes: a config, a job. -/
structure Pb (w : World) (c : Cf) (j : Jb) (x : World) : Prop where
  c0 : x.cell? ⟨w.heap.size, 0, none⟩ = some (.int .i64 c.nodes)
  c1 : x.cell? ⟨w.heap.size, 1, none⟩ = some (.int .i64 c.queue)
  c2 : x.cell? ⟨w.heap.size, 2, none⟩ = some (.int .i64 c.limit)
  c3 : x.cell? ⟨w.heap.size, 3, none⟩ = some (.int .i64 c.age)
  c4 : x.cell? ⟨w.heap.size, 4, none⟩ = some (.int .i64 c.fair)
  c5 : x.cell? ⟨w.heap.size, 5, none⟩ = some (.int .i64 c.size)
  c6 : x.cell? ⟨w.heap.size, 6, none⟩ = some (.int .i64 c.period)
  c7 : x.cell? ⟨w.heap.size, 7, none⟩ = some (.int .i64 c.half)
  j0 : x.cell? ⟨w.heap.size + 1, 0, none⟩ = some (.int .i64 j.ac)
  j1 : x.cell? ⟨w.heap.size + 1, 1, none⟩ = some (.int .i64 j.nd)
  j2 : x.cell? ⟨w.heap.size + 1, 2, none⟩ = some (.int .i64 j.lm)
  j3 : x.cell? ⟨w.heap.size + 1, 3, none⟩ = some (.int .i64 j.sb)
  j4 : x.cell? ⟨w.heap.size + 1, 4, none⟩ = some (.int .i64 j.st)
  j5 : x.cell? ⟨w.heap.size + 1, 5, none⟩ = some (.int .i64 j.sr)
  j6 : x.cell? ⟨w.heap.size + 1, 6, none⟩ = some (.int .i64 j.en)
  j7 : x.cell? ⟨w.heap.size + 1, 7, none⟩ = some j.set
  bel : Below w.heap.size w x
  siz : w.heap.size + 2 ≤ x.heap.size
theorem Pb.below {w x y : World} {c : Cf} {j : Jb} (h : Pb w c j x) (b : Below x.heap.size x y) : Pb w c j y :=
  ⟨keepC b h.c0, keepC b h.c1, keepC b h.c2, keepC b h.c3, keepC b h.c4, keepC b h.c5, keepC b h.c6, keepC b h.c7, keepC b h.j0, keepC b h.j1, keepC b h.j2, keepC b h.j3, keepC b h.j4, keepC b h.j5, keepC b h.j6, keepC b h.j7, h.bel.trans (b.mono h.bel.size), by have := b.size; have := h.siz; omega⟩
theorem Pb.new (w : World) (c : Cf) (j : Jb) : Pb w c j ((w.alloc (.cells #[.int .i64 c.nodes, .int .i64 c.queue, .int .i64 c.limit, .int .i64 c.age, .int .i64 c.fair, .int .i64 c.size, .int .i64 c.period, .int .i64 c.half] 23)).alloc (.cells #[.int .i64 j.ac, .int .i64 j.nd, .int .i64 j.lm, .int .i64 j.sb, .int .i64 j.st, .int .i64 j.sr, .int .i64 j.en, j.set] 34)) := by
  constructor <;> first | (simp [go_sem]; done) | exact ((Below.refl _ _).alloc (Nat.le_refl _) _).alloc (by simp) _

end Go.Proofs.YtjgllfpnmmopdaaGreatDoor
