/-
  LAYER 12, the statements: acts; ledgers side by side; what was charged.
-/
import Derived.Test.YtegpamoglifojaaDoorLwA
import Derived.Test.YtegpamoglifojaaDoorLgG
namespace Go.Proofs.YtegpamoglifojaaDoor
open Go.RowKit Wd Ld Cg Lg

structure Ax where
  kd : Int
  wh : Int
  ac : Int
  nd : Int
structure AxAt (W : World) (g o : Nat) (x : Ax) : Prop where
  kd : W.cell? ⟨g, o, none⟩ = some (.int .i64 x.kd)
  wh : W.cell? ⟨g, o + 1, none⟩ = some (.int .i64 x.wh)
  ac : W.cell? ⟨g, o + 2, none⟩ = some (.int .i64 x.ac)
  nd : W.cell? ⟨g, o + 3, none⟩ = some (.int .i64 x.nd)
theorem AxAt.below {W W' : World} {g o : Nat} {x : Ax} (h : AxAt W g o x) (b : Below W.heap.size W W') : AxAt W' g o x := ⟨cellB b h.kd, cellB b h.wh, cellB b h.ac, cellB b h.nd⟩
def AxsAt (W : World) (ao : Option Addr) (l : List Ax) : Prop := ∃ g o, (0 < l.length → ao = some ⟨g, o, none⟩) ∧ ∀ k x, l[k]? = some x → AxAt W g (o + k * 4) x
theorem AxsAt.below {W W' : World} {ao : Option Addr} {l : List Ax} (h : AxsAt W ao l) (b : Below W.heap.size W W') : AxsAt W' ao l := by
  obtain ⟨g, o, h1, h2⟩ := h
  exact ⟨g, o, h1, fun k x hx => (h2 k x hx).below b⟩
def axV (x : Ax) : Value := .agg #[.int .i64 x.kd, .int .i64 x.wh, .int .i64 x.ac, .int .i64 x.nd]
/-- An act's own copy. -/
def AxB (b : Nat) (x : Ax) (W : World) : Prop := W.heap[b]? = some (.cells #[.int .i64 x.kd, .int .i64 x.wh, .int .i64 x.ac, .int .i64 x.nd] 40 (0, 0))
section
variable {b : Nat} {x : Ax} {W W' : World} {K : Nat → Prop}
theorem AxB.kept (h : AxB b x W) (c : Chg K W W') (hK : ¬ K b) : AxB b x W' := (c.block _ (Array.getElem?_eq_some_iff.1 h).1 hK).trans h
theorem AxB.below (h : AxB b x W) (c : Below W.heap.size W W') : AxB b x W' := (c.block _ (Array.getElem?_eq_some_iff.1 h).1).trans h
theorem AxB.lt (h : AxB b x W) : b < W.heap.size := (Array.getElem?_eq_some_iff.1 h).1
theorem AxB.c0 (h : AxB b x W) : W.cell? ⟨b, 0, none⟩ = some (.int .i64 x.kd) := cells_at h rfl
theorem AxB.c1 (h : AxB b x W) : W.cell? ⟨b, 1, none⟩ = some (.int .i64 x.wh) := cells_at h rfl
theorem AxB.c2 (h : AxB b x W) : W.cell? ⟨b, 2, none⟩ = some (.int .i64 x.ac) := cells_at h rfl
theorem AxB.c3 (h : AxB b x W) : W.cell? ⟨b, 3, none⟩ = some (.int .i64 x.nd) := cells_at h rfl
end
/-- Two ledgers share no block. -/
def Apt (d : Nat) (v : Value) (d' : Nat) (v' : Value) : Prop := ∀ k, LK d v k → ¬ LK d' v' k
theorem Apt.symm {d d' : Nat} {v v' : Value} (h : Apt d v d' v') : Apt d' v' d v := fun k h1 h2 => h k h2 h1
theorem Lg1.apt {T T' : TypeId} {hd hd' : Value → Array Value} {B B' : Nat} {W W' : World} {d d' : Nat} {v v' : Value} {l l' : List Int} (h : Lg1 T hd B W d v l) (h' : Lg1 T' hd' B' W' d' v' l') (hB : W.heap.size ≤ B') : Apt d v d' v' := fun k h1 h2 => by
  have := h.lk_lt k h1
  have := h'.lk_lo k h2
  omega
theorem Lg1.other {T : TypeId} {hd : Value → Array Value} {B : Nat} {W W' : World} {d d' : Nat} {v v' : Value} {l : List Int} (h : Lg1 T hd B W d v l) (c : Chg (LK d' v') W W') (ha : Apt d v d' v') : Lg1 T hd B W' d v l := h.chg c ha
/-- What an act charges: which account, how many nodes. -/
def px (N : Int) (x : Ax) : Nat × Int := ((amgV x.ac 3).toNat, amgV x.nd (N + 1))
theorem px_in {N : Int} (hN : 1 ≤ N) (x : Ax) : (px N x).1 < 3 ∧ (((px N x).1 : Nat) : Int) = amgV x.ac 3 ∧ 0 ≤ (px N x).2 ∧ (px N x).2 ≤ N := by
  have h1 := amgV_in x.ac (n := 3) (by omega)
  have h2 := amgV_in x.nd (n := N + 1) (by omega)
  unfold px
  simp only
  omega
theorem px_all {N : Int} (hN : 1 ≤ N) (l : List Ax) : ∀ p, p ∈ l.map (px N) → 0 ≤ p.2 := fun p hp => by
  obtain ⟨x, _, rfl⟩ := List.mem_map.1 hp
  exact (px_in hN x).2.2.1
theorem take_all {P : List (Nat × Int)} (h : ∀ p, p ∈ P → 0 ≤ p.2) (i k : Nat) : 0 ≤ tot k (P.take i) := tot_nonneg k _ (fun x hx => h x (List.mem_of_mem_take hx))
theorem step_tri {P : List (Nat × Int)} {i : Nat} {p : Nat × Int} {N : Int} (hP : ∀ p, p ∈ P → 0 ≤ p.2) (h : P[i]? = some p) (h3 : p.1 < 3) (h0 : 0 ≤ p.2) (hN : p.2 ≤ N) :
    chgL (tri fun k => tot k (P.take i)) N p.1 p.2 = tri fun k => tot k (P.take (i + 1)) := by
  rw [tri_chg (fun k => take_all hP i k) h3 h0 hN]
  congr 1
  funext k
  rw [tot_take h]
  by_cases e : k = p.1
  · rw [if_pos e, if_pos e.symm]
  · rw [if_neg e, if_neg (Ne.symm e), Int.add_zero]
def oneS (P : List (Nat × Int)) (i : Nat) : Nat → Int := fun k => if k = 1 then tot 1 (P.take i) else 0
theorem oneS_nonneg {P : List (Nat × Int)} (hP : ∀ p, p ∈ P → 0 ≤ p.2) (i k : Nat) : 0 ≤ oneS P i k := by
  unfold oneS
  split
  · exact take_all hP i 1
  · omega
theorem step_one {P : List (Nat × Int)} {i : Nat} {p : Nat × Int} {N : Int} (hP : ∀ p, p ∈ P → 0 ≤ p.2) (h : P[i]? = some p) (h1 : p.1 = 1) (h0 : 0 ≤ p.2) (hN : p.2 ≤ N) : chgL (tri (oneS P i)) N 1 p.2 = tri (oneS P (i + 1)) := by
  have := tri_chg (fun k => oneS_nonneg hP i k) (N := N) (n := p.2) (k := 1) (by omega) h0 hN
  simp only [Int.natCast_one] at this
  rw [this]
  congr 1
  funext k
  unfold oneS
  rw [tot_take h, if_pos h1]
  by_cases e : k = 1
  · rw [if_pos e, if_pos e, if_pos e]
  · rw [if_neg e, if_neg e, if_neg e]
theorem same_one {P : List (Nat × Int)} {i : Nat} {p : Nat × Int} (h : P[i]? = some p) (h1 : ¬ p.1 = 1) : tri (oneS P i) = tri (oneS P (i + 1)) := by
  congr 1
  funext k
  unfold oneS
  rw [tot_take h, if_neg h1, Int.add_zero]
theorem tri_zero {s : Nat → Int} (h : ∀ k, s k = 0) : [0, 0, 0] = tri s := by simp [tri, h, narV]
theorem zero3 (w : World) : WdsAt (w.alloc (.cells #[.int .u64 0, .int .u64 0, .int .u64 0] 28)) (some ⟨w.heap.size, 0, none⟩) [0, 0, 0] := ⟨w.heap.size, 0, fun _ => rfl, fun k n hn => by
  rw [Nat.zero_add]
  refine cells_at (heap_alloc_new _ _) ?_
  have hk : k < 3 := by simpa using (List.getElem?_eq_some_iff.1 hn).1
  have h3 : k = 0 ∨ k = 1 ∨ k = 2 := by omega
  rcases h3 with rfl | rfl | rfl <;> (simp at hn; subst hn; rfl)⟩
theorem wds3 : Wds [0, 0, 0] := fun u hu => by
  have : u = 0 := by simpa using hu
  subst this
  exact wd0
theorem own_fade {s : Nat → Int} {F : Int} {k : Nat} (hk : k < 3) : ownV (fadeL F (tri s)) k = partV (narV (s k * 4294967296)) F := by
  have hc : k = 0 ∨ k = 1 ∨ k = 2 := by omega
  rcases hc with rfl | rfl | rfl <;> simp [ownV, okA, fadeL, tri]
/-- Three ledgers side by side, and a config's nodes. -/
structure Ap3 (N F : Int) (w3 : World) (cb da : Nat) (va : Value) (db : Nat) (vb : Value) (dd : Nat) (vd : Value) (la lb ld : List Int) (W : World) : Prop where
  a : Led N F w3.heap.size W da va la
  b : Led N F w3.heap.size W db vb lb
  d : Led N F w3.heap.size W dd vd ld
  bel : Below w3.heap.size w3 W
  n : W.cell? ⟨cb, 0, none⟩ = some (.int .i64 N)
section
variable {N F : Int} {w3 : World} {cb da : Nat} {va : Value} {db : Nat} {vb : Value} {dd : Nat} {vd : Value} {la lb ld l' : List Int} {W W' : World}
theorem Ap3.below (h : Ap3 N F w3 cb da va db vb dd vd la lb ld W) (b : Below W.heap.size W W') : Ap3 N F w3 cb da va db vb dd vd la lb ld W' :=
  ⟨h.a.below b, h.b.below b, h.d.below b, h.bel.trans (b.mono h.bel.size), cellB b h.n⟩
theorem Ap3.stepA (h : Ap3 N F w3 cb da va db vb dd vd la lb ld W) (hcb : cb < w3.heap.size) (ab : Apt da va db vb) (ad : Apt da va dd vd) (L : Led N F w3.heap.size W' da va l') (c : Chg (LK da va) W W') : Ap3 N F w3 cb da va db vb dd vd l' lb ld W' :=
  ⟨L, h.b.chg c ab.symm, h.d.chg c ad.symm, h.a.bel c h.bel h.bel.size, c.cell h.n (fun e => by have := h.a.lk_lo _ e; simp only at this; omega)⟩
theorem Ap3.stepB (h : Ap3 N F w3 cb da va db vb dd vd la lb ld W) (hcb : cb < w3.heap.size) (ab : Apt da va db vb) (bd : Apt db vb dd vd) (L : Led N F w3.heap.size W' db vb l') (c : Chg (LK db vb) W W') : Ap3 N F w3 cb da va db vb dd vd la l' ld W' :=
  ⟨h.a.chg c ab, L, h.d.chg c bd.symm, h.b.bel c h.bel h.bel.size, c.cell h.n (fun e => by have := h.b.lk_lo _ e; simp only at this; omega)⟩
theorem Ap3.stepD (h : Ap3 N F w3 cb da va db vb dd vd la lb ld W) (hcb : cb < w3.heap.size) (ad : Apt da va dd vd) (bd : Apt db vb dd vd) (L : Led N F w3.heap.size W' dd vd l') (c : Chg (LK dd vd) W W') : Ap3 N F w3 cb da va db vb dd vd la lb l' W' :=
  ⟨h.a.chg c ad, h.b.chg c bd, L, h.d.bel c h.bel h.bel.size, c.cell h.n (fun e => by have := h.d.lk_lo _ e; simp only at this; omega)⟩
end
theorem AxB.led {T : TypeId} {hd : Value → Array Value} {B b : Nat} {x : Ax} {w0 W W' : World} {d : Nat} {v : Value} {l : List Int} (h : AxB b x W) (hL : Lg1 T hd B w0 d v l) (hb : w0.heap.size ≤ b) (c : Chg (LK d v) W W') : AxB b x W' := h.kept c (fun e => by have := hL.lk_lt _ e; omega)
end Go.Proofs.YtegpamoglifojaaDoor
