/-
  LAYER 11: ref01's calls over numbers that fit; the reference's off (backfillref11).
-/
import Derived.Test.YtjgllfpnmmopdaaCfB
namespace Go.Proofs.Ytjgllfpnmmopdaa
open Go.RowKit Wd Cg

abbrev nu (v : Int) : Value := .agg #[.int .u64 (hiW v), .int .u64 (loW v)]
theorem radd_fit {u v : Int} (hu : 0 ≤ u) (hv : 0 ≤ v) (h : u + v ≤ top) (w : World) :
    Calls Try.prog 48 #[nu u, nu v] w fun e w' => e = .returned (.tuple #[nu (u + v), .bool true]) ∧ Below w.heap.size w w' := by
  have c := radd_any (hiW u) (loW u) (hiW v) (loW v) (hi_word ⟨hu, by omega⟩) (lo_word u) (hi_word ⟨hv, by omega⟩) (lo_word v) w
  rw [val_words, val_words, show addV u v = u + v by unfold addV; rw [if_pos h], show addB u v = true by unfold addB; exact decide_eq_true h] at c
  exact c
theorem rtimes_fit {u b : Int} (hu : Num u) (hb : Word b) (h : u * b ≤ top) (w : World) :
    Calls Try.prog 29 #[nu u, .int .u64 b] w fun e w' => e = .returned (.tuple #[nu (u * b), .bool true]) ∧ Below w.heap.size w w' := by
  have c := rtimes_any (hiW u) (loW u) b (hi_word hu) (lo_word u) hb w
  rw [val_words, show timV u b = u * b by unfold timV; rw [if_pos h], show timB u b = true by unfold timB; exact decide_eq_true h] at c
  exact c
theorem rcmp_num (u v : Int) (w : World) : Calls Try.prog 31 #[nu u, nu v] w fun e w' => e = .returned (.int .i64 (cmpV u v)) ∧ Below w.heap.size w w' := by
  have c := rcmp_any (hiW u) (loW u) (hiW v) (loW v) (lo_word u) (lo_word v) w
  rw [val_words, val_words] at c
  exact c
theorem rof_nu {n : Int} (hn : Word n) (w : World) : Calls Try.prog 45 #[.int .u64 n] w fun e w' => e = .returned (nu n) ∧ Below w.heap.size w w' := rof_num n hn w
theorem rmul_nu {x y : Int} (hx : Word x) (hy : Word y) (w : World) : Calls Try.prog 46 #[.int .u64 x, .int .u64 y] w fun e w' => e = .returned (nu (x * y)) ∧ Below w.heap.size w w' := rmul_any x y hx hy w

/-- A number of two words that lies in a block of its own, and may be written. -/
structure Two (w : World) (k : Nat) (v : Int) : Prop where
  c0 : w.cell? ⟨k, 0, none⟩ = some (.int .u64 (hiW v))
  c1 : w.cell? ⟨k, 1, none⟩ = some (.int .u64 (loW v))
  f0 : w.frozen? ⟨k, 0, none⟩ = false
  f1 : w.frozen? ⟨k, 1, none⟩ = false
theorem Two.keep {w w' : World} {k : Nat} {v : Int} (h : Two w k v) (b : Below w.heap.size w w') : Two w' k v :=
  ⟨keepC b h.c0, keepC b h.c1, keepF b h.c0 h.f0, keepF b h.c1 h.f1⟩
theorem Two.new (w : World) (v : Int) : Two (w.alloc (.cells #[.int .u64 (hiW v), .int .u64 (loW v)] 55)) w.heap.size v :=
  ⟨by simp, by simp, by simp [go_sem], by simp [go_sem]⟩
theorem roff_none {c : Cf} (h0 : c.fair = 0) (w : World) : Calls Try.prog 28 #[cfV c] w fun e w' => e = .returned (.tuple #[nu (offN c), nu (offD c)]) ∧ Below w.heap.size w w' := by
  have e1 : offN c = 0 := by unfold offN; rw [if_pos h0]
  have e2 : offD c = 1 := by unfold offD; rw [if_pos h0]
  rw [e1, e2]
  have c1 := rof_nu (n := 1) ⟨by omega, by omega⟩
  rw [show nu 0 = .agg #[.int .u64 0, .int .u64 0] from rfl]
  rw [show nu 1 = .agg #[.int .u64 0, .int .u64 1] from rfl] at *
  unfold cfV
  rw [h0]
  go_enter Try.func28, Try.ntmps28
  go_wp2_with fail
  obtain ⟨v0, hv0⟩ : ∃ v0 : World, v0 = ((w.alloc (.cells #[.int .i64 c.nodes, .int .i64 c.queue, .int .i64 c.limit, .int .i64 c.age, .int .i64 0, .int .i64 c.size, .int .i64 c.period, .int .i64 c.half] 31)).alloc (.cells #[.int .u64 0, .int .u64 0] 55)).alloc (.cells #[.int .u64 0, .int .u64 0] 55) := ⟨_, rfl⟩
  have B0 : Below w.heap.size w v0 := by rw [hv0]; exact (((Below.refl _ _).alloc (Nat.le_refl _) _).alloc (by simp) _).alloc (by simp; omega) _
  have t2 : Two v0 (w.heap.size + 1) 0 := by rw [hv0]; exact ⟨by simp [go_sem]; rfl, by simp [go_sem]; rfl, by simp [go_sem], by simp [go_sem]⟩
  have t3 : Two v0 (w.heap.size + 1 + 1) 0 := by rw [hv0]; exact ⟨by simp [go_sem]; rfl, by simp [go_sem]; rfl, by simp [go_sem], by simp [go_sem]⟩
  rw [← hv0]
  clear hv0
  refine (c1 _).mono ?_
  rintro e w1 ⟨rfl, b1⟩
  obtain ⟨p0, p1, p2, p3⟩ := t2.keep b1
  obtain ⟨q0, q1, q2, q3⟩ := t3.keep b1
  have B1 := B0.trans (b1.mono B0.size)
  clear t2 t3 b1 B0 c1
  go_wp2
  refine bodyPost_ret (v := .tuple #[.agg #[.int .u64 0, .int .u64 0], .agg #[.int .u64 0, .int .u64 1]]) (by simp [results, Try.results28, go_sem, p0, p1, q0, q1]) rfl ⟨rfl, ?_⟩
  exact (((B1.setCell (by simp) _).setCell (by simp) _).setCell (by simp; omega) _).setCell (by simp; omega) _
def put (w : World) (k : Nat) (v : Int) : World := (w.setCell ⟨k, 0, none⟩ (.int .u64 (hiW v))).setCell ⟨k, 1, none⟩ (.int .u64 (loW v))
theorem put_new (w : World) (v : Int) : Two (put (w.alloc (.cells #[.int .u64 0, .int .u64 0] 55)) w.heap.size v) w.heap.size v ∧ Below w.heap.size w (put (w.alloc (.cells #[.int .u64 0, .int .u64 0] 55)) w.heap.size v) := by
  unfold put
  refine ⟨⟨by simp [go_sem], by simp [go_sem], by simp [go_sem], by simp [go_sem]⟩, ?_⟩
  exact (((Below.refl _ _).alloc (Nat.le_refl _) _).setCell (by simp) _).setCell (by simp) _
theorem Two.put {w : World} {k : Nat} {u : Int} (h : Two w k u) (v : Int) : Two (put w k v) k v := by
  obtain ⟨a, b, c, d⟩ := h
  unfold Go.Proofs.Ytjgllfpnmmopdaa.put
  exact ⟨by simp [go_sem, *], by simp [go_sem, *], by simp [go_sem, *], by simp [go_sem, *]⟩
theorem Two.far {w : World} {k j : Nat} {u : Int} (h : Two w k u) (hj : k ≠ j) (v : Int) : Two (Go.Proofs.Ytjgllfpnmmopdaa.put w j v) k u := by
  obtain ⟨a, b, c, d⟩ := h
  unfold Go.Proofs.Ytjgllfpnmmopdaa.put
  exact ⟨by simp [go_sem, *], by simp [go_sem, *], by simp [go_sem, *], by simp [go_sem, *]⟩
theorem St.far {w x : World} {g j : Nat} {c : Cf} (h : St w g c x) (hj : g ≠ j) (hw : w.heap.size ≤ j) (v : Int) : St w g c (put x j v) := by
  obtain ⟨a0, a1, a2, a3, a4, a5, a6, a7, b, z⟩ := h
  unfold put
  refine ⟨by simp [go_sem, *], by simp [go_sem, *], by simp [go_sem, *], by simp [go_sem, *], by simp [go_sem, *], by simp [go_sem, *], by simp [go_sem, *], by simp [go_sem, *], ?_, by simp; omega⟩
  exact (b.setCell hw _).setCell hw _
end Go.Proofs.Ytjgllfpnmmopdaa
