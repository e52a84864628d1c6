/-
  Ranks: the list that is ranked; jobs, factors, states in memory.
  The package's Ranks walked.
  PrioOrder: what has been seen; what the ranks say of the jobs.
  A state that came in.
-/
import Derived.Test.YtjgllfpnmmopdaaGreatDoorShwq
import Derived.Test.YtjgllfpnmmopdaaGreatDoorXsr
import Derived.Test.YtjgllfpnmmopdaaGreatDoorXrf
import Derived.Deep.RegionHeld3
import Derived.Maps.AppendAt
import Derived.Deep.QuietTactic
namespace Go.Proofs.YtjgllfpnmmopdaaGreatDoor
open Go.RowKit Wd Tr Cg Ld

/-- Is it a pending one, whose account has a factor? -/
def pendB (F : Nat) (j : Jb) : Bool := decide (j.st = 1) && (decide (0 ≤ j.ac) && decide (j.ac < (F : Int)))
theorem pend_iff {F : Nat} {j : Jb} : pendB F j = true ↔ j.st = 1 ∧ 0 ≤ j.ac ∧ j.ac < (F : Int) := by simp [pendB]
/-- The ranks, in the order of the jobs. -/
noncomputable def rkF (F : Nat) (f : Nat → Int) (c : Cf) (now : Int) : List Jb → Nat → List Pr
  | [], _ => []
  | j :: l, k => if pendB F j = true then ⟨(k : Int), prioV c now j.sb j.nd (f j.ac.toNat)⟩ :: rkF F f c now l (k + 1) else rkF F f c now l (k + 1)
section
variable {F : Nat} {f : Nat → Int} {c : Cf} {now : Int}
theorem rkF_app : ∀ (l m : List Jb) (k : Nat), rkF F f c now (l ++ m) k = rkF F f c now l k ++ rkF F f c now m (k + l.length)
  | [], m, k => by simp [rkF]
  | j :: l, m, k => by
    simp only [List.cons_append, rkF, rkF_app l m (k + 1), List.length_cons]
    rw [show k + 1 + l.length = k + (l.length + 1) by omega]
    split <;> rfl
theorem rkF_yes {l : List Jb} {k : Nat} {j : Jb} (h : l[k]? = some j) (hp : pendB F j = true) : rkF F f c now (l.take (k + 1)) 0 = rkF F f c now (l.take k) 0 ++ [⟨(k : Int), prioV c now j.sb j.nd (f j.ac.toNat)⟩] := by
  have hk := (List.getElem?_eq_some_iff.1 h).1
  rw [List.take_add_one, h, Option.toList_some, rkF_app]
  simp only [rkF, hp, if_true, List.length_take, Nat.zero_add]
  rw [show min k l.length = k by omega]
theorem rkF_no {l : List Jb} {k : Nat} {j : Jb} (h : l[k]? = some j) (hp : pendB F j = false) : rkF F f c now (l.take (k + 1)) 0 = rkF F f c now (l.take k) 0 := by
  rw [List.take_add_one, h, Option.toList_some, rkF_app]
  simp [rkF, hp]
theorem rkF_len : ∀ (l : List Jb) (k : Nat), (rkF F f c now l k).length ≤ l.length
  | [], _ => Nat.le_refl _
  | j :: l, k => by
    have := rkF_len l (k + 1)
    simp only [rkF]
    split
    · simp only [List.length_cons]; omega
    · simp only [List.length_cons]; omega
theorem rkF_mem : ∀ (l : List Jb) (k : Nat) (p : Pr), p ∈ rkF F f c now l k → ∃ (i : Nat) (j : Jb), l[i]? = some j ∧ pendB F j = true ∧ p = ⟨((k + i : Nat) : Int), prioV c now j.sb j.nd (f j.ac.toNat)⟩
  | [], _, p, h => by simp [rkF] at h
  | j :: l, k, p, h => by
    have rest : p ∈ rkF F f c now l (k + 1) → ∃ (i : Nat) (j' : Jb), (j :: l)[i]? = some j' ∧ pendB F j' = true ∧ p = ⟨((k + i : Nat) : Int), prioV c now j'.sb j'.nd (f j'.ac.toNat)⟩ := fun h => by
      obtain ⟨i, j', h1, h2, h3⟩ := rkF_mem l (k + 1) p h
      exact ⟨i + 1, j', by simpa using h1, h2, by rw [h3]; congr 2; omega⟩
    simp only [rkF] at h
    by_cases hp : pendB F j = true
    · rw [if_pos hp] at h
      rcases List.mem_cons.1 h with h | h
      · exact ⟨0, j, rfl, hp, by rw [h]; rfl⟩
      · exact rest h
    · rw [if_neg hp] at h
      exact rest h
theorem rkF_up : ∀ (l : List Jb) (k : Nat), (rkF F f c now l k).Pairwise (fun a b => a.a < b.a)
  | [], _ => List.Pairwise.nil
  | j :: l, k => by
    simp only [rkF]
    split
    · refine List.pairwise_cons.2 ⟨fun q hq => ?_, rkF_up l (k + 1)⟩
      obtain ⟨i, j', _, _, h3⟩ := rkF_mem l (k + 1) q hq
      rw [h3]
      show (k : Int) < ((k + 1 + i : Nat) : Int)
      omega
    · exact rkF_up l (k + 1)
end
/-- Ranked. -/
noncomputable def rankL (F : Nat) (f : Nat → Int) (c : Cf) (now : Int) (l : List Jb) : List Pr := sortV (fun a b => decide (b.b < a.b)) (rkF F f c now l 0)
def keyR (p : Pr) : Int := -p.b
theorem rank_lt : (fun a b : Pr => decide (b.b < a.b)) = (fun a b => decide (keyR a < keyR b)) := by
  funext a b
  unfold keyR
  exact decide_eq_decide.2 (by omega)
theorem rank_sorted (F : Nat) (f : Nat → Int) (c : Cf) (now : Int) (l : List Jb) : (rankL F f c now l).Pairwise (Ahd keyR Pr.a) := by
  unfold rankL
  rw [rank_lt]
  exact sort_sorted keyR Pr.a (rkF_up l 0)
theorem rank_perm (F : Nat) (f : Nat → Int) (c : Cf) (now : Int) (l : List Jb) : (rankL F f c now l).Perm (rkF F f c now l 0) := sort_perm _ _

/-! ## Memory -/
structure JbAt (W : World) (g o : Nat) (j : Jb) : Prop where
  j0 : W.cell? ⟨g, o, none⟩ = some (.int .i64 j.ac)
  j1 : W.cell? ⟨g, o + 1, none⟩ = some (.int .i64 j.nd)
  j2 : W.cell? ⟨g, o + 2, none⟩ = some (.int .i64 j.lm)
  j3 : W.cell? ⟨g, o + 3, none⟩ = some (.int .i64 j.sb)
  j4 : W.cell? ⟨g, o + 4, none⟩ = some (.int .i64 j.st)
  j5 : W.cell? ⟨g, o + 5, none⟩ = some (.int .i64 j.sr)
  j6 : W.cell? ⟨g, o + 6, none⟩ = some (.int .i64 j.en)
  j7 : W.cell? ⟨g, o + 7, none⟩ = some j.set
theorem JbAt.below {W W' : World} {g o : Nat} {j : Jb} (b : Below W.heap.size W W') (h : JbAt W g o j) : JbAt W' g o j := ⟨cellB b h.j0, cellB b h.j1, cellB b h.j2, cellB b h.j3, cellB b h.j4, cellB b h.j5, cellB b h.j6, cellB b h.j7⟩
/-- Jobs in a row. -/
def Jbs (W : World) (g o : Nat) (l : List Jb) : Prop := ∀ k j, l[k]? = some j → JbAt W g (o + k * 8) j
theorem Jbs.below {W W' : World} {g o : Nat} {l : List Jb} (b : Below W.heap.size W W') (h : Jbs W g o l) : Jbs W' g o l := fun k j hj => (h k j hj).below b
/-- Factors in a row. -/
def Fcs (W : World) (g F : Nat) (f : Nat → Int) : Prop := ∀ j, j < F → W.cell? ⟨g, j, none⟩ = some (.int .u64 (f j))
theorem Fcs.below {W W' : World} {g F : Nat} {f : Nat → Int} (b : Below W.heap.size W W') (h : Fcs W g F f) : Fcs W' g F f := fun j hj => cellB b (h j hj)
/-- A state, by value: its twelve cells. -/
def stC (c : Cf) (now : Int) (av jv : Value) (hd : Int) : Array Value := #[.int .i64 c.nodes, .int .i64 c.queue, .int .i64 c.limit, .int .i64 c.age, .int .i64 c.fair, .int .i64 c.size, .int .i64 c.period, .int .i64 c.half, .int .i64 now, av, jv, .int .i64 hd]
/-- Its block. -/
def StB (W : World) (b : Nat) (c : Cf) (now : Int) (av jv : Value) (hd : Int) : Prop := W.heap[b]? = some (.cells (stC c now av jv hd) 27 (0, 0))
section
variable {W W' : World} {b : Nat} {c : Cf} {now hd : Int} {av jv : Value}
theorem StB.lt (h : StB W b c now av jv hd) : b < W.heap.size := (Array.getElem?_eq_some_iff.1 (show W.heap[b]? = _ from h)).1
theorem StB.chg {K : Nat → Prop} (k : Chg K W W') (h : StB W b c now av jv hd) (hK : ¬ K b) : StB W' b c now av jv hd := (k.block b h.lt hK).trans h
theorem StB.below (k : Below W.heap.size W W') (h : StB W b c now av jv hd) : StB W' b c now av jv hd := (k.block b h.lt).trans h
theorem StB.cell (h : StB W b c now av jv hd) {k : Nat} {v : Value} (hv : (stC c now av jv hd)[k]? = some v) : W.cell? ⟨b, k, none⟩ = some v := cells_at (show W.heap[b]? = _ from h) hv
end
/-- What share.Factors answers. -/
theorem facs_in {w w' : World} {cf : Cf} {l : List Ac} {e : Ending} (h : FacP w cf l e w') : ∃ fo g, e = .returned (.slice fo (lenE cf l) (lenE cf l)) ∧ (0 < lenE cf l → fo = some ⟨g, 0, none⟩) ∧ Fcs w' g (lenE cf l) (facV l (wV l (flZ cf))) ∧ Below w.heap.size w w' := by
  obtain ⟨h1, h2, h3⟩ := h
  by_cases hc : loadE l = 0 ∧ chkZ cf = 0
  · obtain ⟨ub, e1, _, e3⟩ := h1 hc
    have hl : lenE cf l = l.length := if_pos hc
    rw [hl]
    exact ⟨_, ub, e1, fun _ => rfl, fun j hj => e3.cell hj, h3⟩
  · have hl : lenE cf l = 0 := if_neg hc
    rw [hl]
    exact ⟨none, 0, h2 hc, fun h => absurd h (Nat.lt_irrefl 0), fun j hj => absurd hj (Nat.not_lt_zero j), h3⟩
end Go.Proofs.YtjgllfpnmmopdaaGreatDoor
namespace Go.Proofs.YtjgllfpnmmopdaaGreatDoor
open Go.RowKit Wd Tr Cg Ld
theorem pend_no {F : Nat} {j : Jb} (h : ¬ (j.st = 1 ∧ 0 ≤ j.ac ∧ j.ac < (F : Int))) : pendB F j = false := Bool.eq_false_iff.2 (fun e => h (pend_iff.1 e))
theorem facs_word {cf : Cf} {l : List Ac} (hus : UsOk l) {j : Nat} (hj : j < lenE cf l) : Word (facV l (wV l (flZ cf)) j) := by
  unfold lenE at hj
  by_cases hc : loadE l = 0 ∧ chkZ cf = 0
  · rw [if_pos hc] at hj
    have hwu := wf_load hc.1
    exact fac_word hwu hus (wOk hwu hus (fl_word hc.2)) hj
  · rw [if_neg hc] at hj
    exact absurd hj (Nat.not_lt_zero j)
/-- A row of ranks that is being filled; nothing that was there has turned. -/
structure RkO (w2 : World) (v : Value) (M : List Pr) (x : World) : Prop where
  row : x.ownsRow w2.heap.size 40 2 v M.length (flatP M)
  bel : Below w2.heap.size w2 x
theorem RkO.below {w2 x y : World} {v : Value} {M : List Pr} (h : RkO w2 v M x) (b : Below x.heap.size x y) : RkO w2 v M y :=
  ⟨h.row.kept (Bk.gr_below b none) (by cases hv : v.ownBlock <;> simp), h.bel.trans (b.mono h.bel.size)⟩
theorem RkO.next {w2 x y : World} {v v' : Value} {M : List Pr} {p : Pr} {o : Obj} (h : RkO w2 v M x) (hr : y.ownsRow w2.heap.size 40 2 v' (M.length + 1) (flatP M ++ [.int .i64 p.a, .int .i64 p.b])) (hg : (x.alloc o).grownBy y v.ownBlock) : RkO w2 v' (M ++ [p]) y := by
  refine ⟨?_, ?_⟩
  · rw [List.length_append, flatP_app]; exact hr
  · exact Below.grown (h.bel.alloc h.bel.size _) hg (by have := h.bel.size; simp; omega) (fun k e => (h.row.lt k e).1)
theorem own_shape {x : World} {B : Nat} {v : Value} {M : List Pr} (h : x.ownsRow B 40 2 v M.length (flatP M)) : ∃ mo mc, v = .slice mo M.length mc ∧ (mo = none → M.length = 0) ∧ ∀ ad, mo = some ad → ∀ j u, (flatP M)[j]? = some u → x.cell? (ad.add j) = some u := by
  rcases h.2 with ⟨h1, h2⟩ | ⟨g, cap, cur, e, hb, hg, h1, _⟩
  · exact ⟨none, 0, by rw [h1, h2], (fun _ => h2), (fun ad e => by cases e)⟩
  · exact ⟨_, cap, e, (fun h => by cases h), (fun ad e2 j u hj => by cases e2; exact h.cells (by rw [e]; rfl) j u hj)⟩
theorem two_newR (w : World) (x y : Int) : ∀ j u, [Value.int .i64 x, .int .i64 y][j]? = some u → (w.alloc (.cells #[.int .i64 x, .int .i64 y] 40)).cell? ((⟨w.heap.size, 0, none⟩ : Addr).add j) = some u := by
  intro j u hj
  rw [Addr.add_lit, Nat.zero_add]
  exact cells_at (heap_alloc_new w _) (by simpa using hj)
theorem two_oneR {x y : Int} : ∀ u ∈ [Value.int .i64 x, .int .i64 y], u.oneCell' = true := by
  intro u hu
  simp only [List.mem_cons, List.not_mem_nil, or_false] at hu
  rcases hu with rfl | rfl <;> rfl
/-- The cells that a round reads. -/
theorem round_cells {w x : World} {cf : Cf} {now hd : Int} {av jv : Value} {jb gf F sl sc : Nat} {sa : Option Addr} {j : Jb} {st : Int} {f : Nat → Int} (h1 : StB x w.heap.size cf now av jv hd) (h2 : x.heap[jb]? = some (.cells #[.int .i64 j.ac, .int .i64 j.nd, .int .i64 j.lm, .int .i64 j.sb, .int .i64 st, .int .i64 j.sr, .int .i64 j.en, .slice sa sl sc] 34 (0, 0))) (h3 : Fcs x gf F f) (h4 : j.ac.toNat < F) :
    x.cell? ⟨w.heap.size, 0, none⟩ = some (.int .i64 cf.nodes) ∧ x.cell? ⟨w.heap.size, 1, none⟩ = some (.int .i64 cf.queue) ∧ x.cell? ⟨w.heap.size, 2, none⟩ = some (.int .i64 cf.limit) ∧ x.cell? ⟨w.heap.size, 3, none⟩ = some (.int .i64 cf.age) ∧ x.cell? ⟨w.heap.size, 4, none⟩ = some (.int .i64 cf.fair) ∧ x.cell? ⟨w.heap.size, 5, none⟩ = some (.int .i64 cf.size) ∧ x.cell? ⟨w.heap.size, 6, none⟩ = some (.int .i64 cf.period) ∧ x.cell? ⟨w.heap.size, 7, none⟩ = some (.int .i64 cf.half) ∧ x.cell? ⟨w.heap.size, 8, none⟩ = some (.int .i64 now) ∧ x.cell? ⟨jb, 0, none⟩ = some (.int .i64 j.ac) ∧ x.cell? ⟨jb, 1, none⟩ = some (.int .i64 j.nd) ∧ x.cell? ⟨jb, 2, none⟩ = some (.int .i64 j.lm) ∧ x.cell? ⟨jb, 3, none⟩ = some (.int .i64 j.sb) ∧ x.cell? ⟨jb, 4, none⟩ = some (.int .i64 st) ∧ x.cell? ⟨jb, 5, none⟩ = some (.int .i64 j.sr) ∧ x.cell? ⟨jb, 6, none⟩ = some (.int .i64 j.en) ∧ x.cell? ⟨jb, 7, none⟩ = some (.slice sa sl sc) ∧ x.cell? ⟨gf, j.ac.toNat, none⟩ = some (.int .u64 (f j.ac.toNat)) :=
  ⟨h1.cell rfl, h1.cell rfl, h1.cell rfl, h1.cell rfl, h1.cell rfl, h1.cell rfl, h1.cell rfl, h1.cell rfl, h1.cell rfl, cells_at h2 rfl, cells_at h2 rfl, cells_at h2 rfl, cells_at h2 rfl, cells_at h2 rfl, cells_at h2 rfl, cells_at h2 rfl, cells_at h2 rfl, h3 _ h4⟩
theorem round_keep {K : Nat → Prop} {w x y : World} {cf : Cf} {now : Int} {jb gf sl sc : Nat} {sa : Option Addr} {j : Jb} {st : Int} {f : Nat → Int} (c : Chg K x y) (n1 : ¬ K w.heap.size) (n2 : ¬ K jb) (n3 : ¬ K gf) (h : x.cell? ⟨w.heap.size, 0, none⟩ = some (.int .i64 cf.nodes) ∧ x.cell? ⟨w.heap.size, 1, none⟩ = some (.int .i64 cf.queue) ∧ x.cell? ⟨w.heap.size, 2, none⟩ = some (.int .i64 cf.limit) ∧ x.cell? ⟨w.heap.size, 3, none⟩ = some (.int .i64 cf.age) ∧ x.cell? ⟨w.heap.size, 4, none⟩ = some (.int .i64 cf.fair) ∧ x.cell? ⟨w.heap.size, 5, none⟩ = some (.int .i64 cf.size) ∧ x.cell? ⟨w.heap.size, 6, none⟩ = some (.int .i64 cf.period) ∧ x.cell? ⟨w.heap.size, 7, none⟩ = some (.int .i64 cf.half) ∧ x.cell? ⟨w.heap.size, 8, none⟩ = some (.int .i64 now) ∧ x.cell? ⟨jb, 0, none⟩ = some (.int .i64 j.ac) ∧ x.cell? ⟨jb, 1, none⟩ = some (.int .i64 j.nd) ∧ x.cell? ⟨jb, 2, none⟩ = some (.int .i64 j.lm) ∧ x.cell? ⟨jb, 3, none⟩ = some (.int .i64 j.sb) ∧ x.cell? ⟨jb, 4, none⟩ = some (.int .i64 st) ∧ x.cell? ⟨jb, 5, none⟩ = some (.int .i64 j.sr) ∧ x.cell? ⟨jb, 6, none⟩ = some (.int .i64 j.en) ∧ x.cell? ⟨jb, 7, none⟩ = some (.slice sa sl sc) ∧ x.cell? ⟨gf, j.ac.toNat, none⟩ = some (.int .u64 (f j.ac.toNat))) :
    y.cell? ⟨w.heap.size, 0, none⟩ = some (.int .i64 cf.nodes) ∧ y.cell? ⟨w.heap.size, 1, none⟩ = some (.int .i64 cf.queue) ∧ y.cell? ⟨w.heap.size, 2, none⟩ = some (.int .i64 cf.limit) ∧ y.cell? ⟨w.heap.size, 3, none⟩ = some (.int .i64 cf.age) ∧ y.cell? ⟨w.heap.size, 4, none⟩ = some (.int .i64 cf.fair) ∧ y.cell? ⟨w.heap.size, 5, none⟩ = some (.int .i64 cf.size) ∧ y.cell? ⟨w.heap.size, 6, none⟩ = some (.int .i64 cf.period) ∧ y.cell? ⟨w.heap.size, 7, none⟩ = some (.int .i64 cf.half) ∧ y.cell? ⟨w.heap.size, 8, none⟩ = some (.int .i64 now) ∧ y.cell? ⟨jb, 0, none⟩ = some (.int .i64 j.ac) ∧ y.cell? ⟨jb, 1, none⟩ = some (.int .i64 j.nd) ∧ y.cell? ⟨jb, 2, none⟩ = some (.int .i64 j.lm) ∧ y.cell? ⟨jb, 3, none⟩ = some (.int .i64 j.sb) ∧ y.cell? ⟨jb, 4, none⟩ = some (.int .i64 st) ∧ y.cell? ⟨jb, 5, none⟩ = some (.int .i64 j.sr) ∧ y.cell? ⟨jb, 6, none⟩ = some (.int .i64 j.en) ∧ y.cell? ⟨jb, 7, none⟩ = some (.slice sa sl sc) ∧ y.cell? ⟨gf, j.ac.toNat, none⟩ = some (.int .u64 (f j.ac.toNat)) := by
  obtain ⟨h0, h1, h2, h3, h4, h5, h6, h7, h8, h9, h10, h11, h12, h13, h14, h15, h16, h17⟩ := h
  exact ⟨c.cell h0 n1, c.cell h1 n1, c.cell h2 n1, c.cell h3 n1, c.cell h4 n1, c.cell h5 n1, c.cell h6 n1, c.cell h7 n1, c.cell h8 n1, c.cell h9 n2, c.cell h10 n2, c.cell h11 n2, c.cell h12 n2, c.cell h13 n2, c.cell h14 n2, c.cell h15 n2, c.cell h16 n2, c.cell h17 n3⟩
/-- What a round needs to stand. -/
structure RkS (w : World) (cf : Cf) (now hd : Int) (av jv : Value) (gf F : Nat) (f : Nat → Int) (gj oj : Nat) (jl : List Jb) (w2 : World) : Prop where
  st : StB w2 w.heap.size cf now av jv hd
  fc : Fcs w2 gf F f
  jb : Jbs w2 gj oj jl
  bel : Below w.heap.size w w2
theorem RkS.below {w w2 x : World} {cf : Cf} {now hd : Int} {av jv : Value} {gf F : Nat} {f : Nat → Int} {gj oj : Nat} {jl : List Jb} (h : RkS w cf now hd av jv gf F f gj oj jl w2) (b : Below w2.heap.size w2 x) : RkS w cf now hd av jv gf F f gj oj jl x :=
  ⟨h.st.below b, h.fc.below b, h.jb.below b, h.bel.trans (b.mono h.bel.size)⟩
theorem RkS.below' {w w2 x : World} {cf : Cf} {now hd : Int} {av jv : Value} {gf F : Nat} {f : Nat → Int} {gj oj : Nat} {jl : List Jb} (h : RkS w cf now hd av jv gf F f gj oj jl w2) (b : Below w2.heap.size w2 x) : RkS w cf now hd av jv gf F f gj oj jl x := h.below b
set_option maxHeartbeats 4000000 in
set_option maxRecDepth 20000 in
theorem ranks_any {w : World} {cf : Cf} {now hd : Int} {ao jo : Option Addr} {la : List Ac} {jl : List Jb} {ca cj gj oj : Nat} (hT : Tab w) (hA : AcsAt w ao la) (hs : ∀ a ∈ la, a.nm.size ≤ maxLen) (hus : UsOk la) (hn : la.length * 48 ≤ 140737488355328) (hc : la.length ≤ ca)
    (hjo : 0 < jl.length → jo = some ⟨gj, oj, none⟩) (hJ : Jbs w gj oj jl) (hjn : jl.length * 80 ≤ 140737488355328) (hsl : ∀ j ∈ jl, ∃ sa sl sc, j.set = .slice sa sl sc) :
    Calls Tryz.prog 6 #[.agg (stC cf now (.slice ao la.length ca) (.slice jo jl.length cj) hd)] w fun e w' => ∃ g n, e = .returned (.slice (some ⟨g, 0, none⟩) n n) ∧ n = (rankL (lenE cf la) (facV la (wV la (flZ cf))) cf now jl).length ∧ w.heap.size ≤ g ∧ RwR w' g (rankL (lenE cf la) (facV la (wV la (flZ cf))) cf now jl) ∧ Below w.heap.size w w' := by
  obtain ⟨w1, hw1⟩ : ∃ w1, w.alloc (.cells (stC cf now (.slice ao la.length ca) (.slice jo jl.length cj) hd) 27) = w1 := ⟨_, rfl⟩
  have b1 : Below w.heap.size w w1 := by rw [← hw1]; exact (Below.refl _ _).alloc (Nat.le_refl _) _
  have hst : StB w1 w.heap.size cf now (.slice ao la.length ca) (.slice jo jl.length cj) hd := by rw [← hw1]; exact heap_alloc_new w _
  have c1 := factors_any (w := w1) (cf := cf) (c := ca) (Tab.below b1 hT) (hA.below b1) hs hus hn hc
  have HW : Hid (∀ j, j < lenE cf la → Word (facV la (wV la (flZ cf)) j)) := fun j hj => facs_word hus hj
  have HJO : Hid (0 < jl.length → jo = some ⟨gj, oj, none⟩) := hjo
  have HS1 : Hid (StB w1 w.heap.size cf now (.slice ao la.length ca) (.slice jo jl.length cj) hd ∧ Jbs w1 gj oj jl ∧ Below w.heap.size w w1) := ⟨hst, hJ.below b1, b1⟩
  have HSL : Hid (∀ j ∈ jl, ∃ sa sl sc, j.set = .slice sa sl sc) := hsl
  have HJN : Hid (jl.length * 80 ≤ 140737488355328) := hjn
  have HF1 : Hid (∀ e w', FacP w1 cf la e w' → ∃ fo g, e = .returned (.slice fo (lenE cf la) (lenE cf la)) ∧ (0 < lenE cf la → fo = some ⟨g, 0, none⟩) ∧ Fcs w' g (lenE cf la) (facV la (wV la (flZ cf))) ∧ Below w1.heap.size w1 w') := fun e w' h => facs_in h
  obtain ⟨N, hN⟩ : ∃ N, jl.length = N := ⟨_, rfl⟩
  have HN : Hid (jl.length = N) := hN
  obtain ⟨L, hL⟩ : ∃ L, la.length = L := ⟨_, rfl⟩
  obtain ⟨F, hF⟩ : ∃ F, lenE cf la = F := ⟨_, rfl⟩
  obtain ⟨f, hf⟩ : ∃ f, facV la (wV la (flZ cf)) = f := ⟨_, rfl⟩
  rw [hF, hf] at HW HF1 ⊢
  rw [hN] at HJO HJN HS1 hw1 ⊢
  rw [hL] at HS1 hw1 c1 ⊢
  have k0 : w1.cell? ⟨w.heap.size, 0, none⟩ = some (.int .i64 cf.nodes) := HS1.out.1.cell rfl
  have k1 : w1.cell? ⟨w.heap.size, 1, none⟩ = some (.int .i64 cf.queue) := HS1.out.1.cell rfl
  have k2 : w1.cell? ⟨w.heap.size, 2, none⟩ = some (.int .i64 cf.limit) := HS1.out.1.cell rfl
  have k3 : w1.cell? ⟨w.heap.size, 3, none⟩ = some (.int .i64 cf.age) := HS1.out.1.cell rfl
  have k4 : w1.cell? ⟨w.heap.size, 4, none⟩ = some (.int .i64 cf.fair) := HS1.out.1.cell rfl
  have k5 : w1.cell? ⟨w.heap.size, 5, none⟩ = some (.int .i64 cf.size) := HS1.out.1.cell rfl
  have k6 : w1.cell? ⟨w.heap.size, 6, none⟩ = some (.int .i64 cf.period) := HS1.out.1.cell rfl
  have k7 : w1.cell? ⟨w.heap.size, 7, none⟩ = some (.int .i64 cf.half) := HS1.out.1.cell rfl
  have k9 : w1.cell? ⟨w.heap.size, 9, none⟩ = some (.slice ao L ca) := HS1.out.1.cell rfl
  unfold stC at hw1 ⊢
  unfold cfV at c1
  clear hT hA hs hus hn hc hjo hJ hjn hsl b1 hst hF hf hN hL
  go_enter Tryz.func6, Tryz.ntmps6
  go_wp2_with fail
  refine c1.mono ?_
  rintro e w2 hfp
  obtain ⟨fo, gf, rfl, hfo, hfc, hb2⟩ := HF1.out e w2 hfp
  have HS2 : Hid (RkS w cf now hd (.slice ao L ca) (.slice jo N cj) gf F f gj oj jl w2) := ⟨HS1.out.1.below hb2, hfc, HS1.out.2.1.below hb2, HS1.out.2.2.trans (hb2.mono HS1.out.2.2.size)⟩
  have HFO : Hid (0 < F → fo = some ⟨gf, 0, none⟩) := hfo
  have k10 : w2.cell? ⟨w.heap.size, 10, none⟩ = some (.slice jo N cj) := HS2.out.st.cell rfl
  clear c1 hfp hfo hfc hb2 HF1 HS1 k0 k1 k2 k3 k4 k5 k6 k7 k9 hw1
  have HO2 : Hid (RkO w2 (.slice none 0 0) (rkF F f cf now (jl.take 0) 0) w2) := ⟨by simp only [List.take_zero, rkF]; exact World.ownsRow_nil _ _ _ _, Below.refl _ _⟩
  go_wp2
  clear k10
  go_loopg [4, 15] N (fun gk v x wr => ∃ k : Nat, k + gk = N ∧ x = .int .i64 k ∧ RkO w2 v (rkF F f cf now (jl.take k) 0) wr)
  case atStart => exact ⟨0, by omega, rfl, HO2.out⟩
  case round =>
    obtain ⟨k, hk, rfl, hro⟩ := hrel
    have HRO : Hid (RkO w2 u4 (rkF F f cf now (jl.take k) 0) wr) := hro
    have HRS : Hid (RkS w cf now hd (.slice ao L ca) (.slice jo N cj) gf F f gj oj jl wr) := HS2.out.below' hro.bel
    clear hro HO2
    by_cases hlt : k < N
    · obtain ⟨j, hj⟩ : ∃ j, jl[k]? = some j := ⟨_, List.getElem?_eq_getElem (by have := HN.out; omega)⟩
      obtain ⟨r0, r1, r2, r3, r4, r5, r6, r7⟩ := HRS.out.jb k j hj
      obtain rfl := HJO.out (by omega)
      obtain ⟨sa, sl, sc, hset⟩ := HSL.out j (List.mem_of_getElem? hj)
      rw [hset] at r7
      have HSET : Hid (j.set = .slice sa sl sc) := hset
      have HPN : Hid (pendB F j = false → rkF F f cf now (jl.take (k + 1)) 0 = rkF F f cf now (jl.take k) 0) := fun h => rkF_no hj h
      have HPY : Hid (pendB F j = true → rkF F f cf now (jl.take (k + 1)) 0 = rkF F f cf now (jl.take k) 0 ++ [⟨(k : Int), prioV cf now j.sb j.nd (f j.ac.toNat)⟩]) := fun h => rkF_yes hj h
      have HWK : Hid (wrap64 ((k : Int) + 1) = ((k + 1 : Nat) : Int)) := wrap64_nat (h := k + 1) (by have := HJN.out; omega)
      have hlt' : (k : Int) < N := by omega
      clear hj hset
      go_upto_region 6 with fail
      obtain ⟨jb, hjb⟩ : ∃ jb, wr.heap.size = jb := ⟨_, rfl⟩
      obtain ⟨w3, hw3⟩ : ∃ w3, wr.alloc (.cells #[.int .i64 j.ac, .int .i64 j.nd, .int .i64 j.lm, .int .i64 j.sb, .int .i64 j.st, .int .i64 j.sr, .int .i64 j.en, .slice sa sl sc] 34) = w3 := ⟨_, rfl⟩
      have b3 : Below wr.heap.size wr w3 := by rw [← hw3]; exact (Below.refl _ _).alloc (Nat.le_refl _) _
      have HO3 : Hid (RkO w2 u4 (rkF F f cf now (jl.take k) 0) w3) := HRO.out.below b3
      have HR3 : Hid (RkS w cf now hd (.slice ao L ca) (.slice (some ⟨gj, oj, none⟩) N cj) gf F f gj oj jl w3) := HRS.out.below b3
      have HJ3 : Hid (w3.heap[jb]? = some (.cells #[.int .i64 j.ac, .int .i64 j.nd, .int .i64 j.lm, .int .i64 j.sb, .int .i64 j.st, .int .i64 j.sr, .int .i64 j.en, .slice sa sl sc] 34 (0, 0))) := by rw [← hw3, ← hjb]; exact heap_alloc_new wr _
      have HOL : Hid (∀ i, u4.ownBlock = some i → w2.heap.size ≤ i ∧ i < jb) := fun i e => by have h := HRO.out.row.lt i e; exact ⟨h.1, by rw [← hjb]; exact h.2⟩
      rw [hw3, hjb]
      clear hw3 b3 r0 r1 r2 r3 r4 r5 r6 r7 HRO HRS hjb
      have s0 : w3.cell? ⟨jb, 0, none⟩ = some (.int .i64 j.ac) := cells_at HJ3.out rfl
      have s4 : w3.cell? ⟨jb, 4, none⟩ = some (.int .i64 j.st) := cells_at HJ3.out rfl
      by_cases p1 : j.st = 1
      · by_cases p2 : 0 ≤ j.ac
        · by_cases p3 : j.ac < (F : Int)
          · have hpb : pendB F j = true := pend_iff.2 ⟨p1, p2, p3⟩
            have HRY : Hid (rkF F f cf now (jl.take (k + 1)) 0 = rkF F f cf now (jl.take k) 0 ++ [⟨(k : Int), prioV cf now j.sb j.nd (f j.ac.toNat)⟩]) := HPY.out hpb
            rw [p1] at HJ3 s4
            have hq : j.ac.toNat < F := by omega
            obtain rfl := HFO.out (by omega)
            obtain ⟨V, hV⟩ : ∃ V, prioV cf now j.sb j.nd (f j.ac.toNat) = V := ⟨_, rfl⟩
            have cP : ∀ x, Calls Tryz.prog 12 #[.agg #[.int .i64 cf.nodes, .int .i64 cf.queue, .int .i64 cf.limit, .int .i64 cf.age, .int .i64 cf.fair, .int .i64 cf.size, .int .i64 cf.period, .int .i64 cf.half], .int .i64 now, .agg #[.int .i64 j.ac, .int .i64 j.nd, .int .i64 j.lm, .int .i64 j.sb, .int .i64 1, .int .i64 j.sr, .int .i64 j.en, .slice sa sl sc], .int .u64 (f j.ac.toNat)] x fun e w' => e = .returned (.int .i64 V) ∧ Below x.heap.size x w' := fun x => by
              have h := prio_any cf now j (HW.out _ hq) x
              rw [hV] at h
              unfold cfV jbV at h
              rw [HSET.out, p1] at h
              exact h
            rw [hV] at HRY
            obtain ⟨M, hM⟩ : ∃ M, rkF F f cf now (jl.take k) 0 = M := ⟨_, rfl⟩
            have HML : Hid (M.length ≤ N) := by
              rw [← hM]
              have h1 := rkF_len (F := F) (f := f) (c := cf) (now := now) (jl.take k) 0
              simp only [List.length_take] at h1
              show _ ≤ N
              omega
            rw [hM] at HRY HO3
            have HC : Hid (∀ x, Below w3.heap.size w3 x → x.cell? ⟨w.heap.size, 0, none⟩ = some (.int .i64 cf.nodes) ∧ x.cell? ⟨w.heap.size, 1, none⟩ = some (.int .i64 cf.queue) ∧ x.cell? ⟨w.heap.size, 2, none⟩ = some (.int .i64 cf.limit) ∧ x.cell? ⟨w.heap.size, 3, none⟩ = some (.int .i64 cf.age) ∧ x.cell? ⟨w.heap.size, 4, none⟩ = some (.int .i64 cf.fair) ∧ x.cell? ⟨w.heap.size, 5, none⟩ = some (.int .i64 cf.size) ∧ x.cell? ⟨w.heap.size, 6, none⟩ = some (.int .i64 cf.period) ∧ x.cell? ⟨w.heap.size, 7, none⟩ = some (.int .i64 cf.half) ∧ x.cell? ⟨w.heap.size, 8, none⟩ = some (.int .i64 now) ∧ x.cell? ⟨jb, 0, none⟩ = some (.int .i64 j.ac) ∧ x.cell? ⟨jb, 1, none⟩ = some (.int .i64 j.nd) ∧ x.cell? ⟨jb, 2, none⟩ = some (.int .i64 j.lm) ∧ x.cell? ⟨jb, 3, none⟩ = some (.int .i64 j.sb) ∧ x.cell? ⟨jb, 4, none⟩ = some (.int .i64 1) ∧ x.cell? ⟨jb, 5, none⟩ = some (.int .i64 j.sr) ∧ x.cell? ⟨jb, 6, none⟩ = some (.int .i64 j.en) ∧ x.cell? ⟨jb, 7, none⟩ = some (.slice sa sl sc) ∧ x.cell? ⟨gf, j.ac.toNat, none⟩ = some (.int .u64 (f j.ac.toNat))) := fun x hx => round_cells (HR3.out.st.below hx) ((hx.block jb (Array.getElem?_eq_some_iff.1 HJ3.out).1).trans HJ3.out) (HR3.out.fc.below hx) hq
            have HC1 : Hid (w3.drew.cell? ⟨w.heap.size, 0, none⟩ = some (.int .i64 cf.nodes) ∧ w3.drew.cell? ⟨w.heap.size, 1, none⟩ = some (.int .i64 cf.queue) ∧ w3.drew.cell? ⟨w.heap.size, 2, none⟩ = some (.int .i64 cf.limit) ∧ w3.drew.cell? ⟨w.heap.size, 3, none⟩ = some (.int .i64 cf.age) ∧ w3.drew.cell? ⟨w.heap.size, 4, none⟩ = some (.int .i64 cf.fair) ∧ w3.drew.cell? ⟨w.heap.size, 5, none⟩ = some (.int .i64 cf.size) ∧ w3.drew.cell? ⟨w.heap.size, 6, none⟩ = some (.int .i64 cf.period) ∧ w3.drew.cell? ⟨w.heap.size, 7, none⟩ = some (.int .i64 cf.half) ∧ w3.drew.cell? ⟨w.heap.size, 8, none⟩ = some (.int .i64 now) ∧ w3.drew.cell? ⟨jb, 0, none⟩ = some (.int .i64 j.ac) ∧ w3.drew.cell? ⟨jb, 1, none⟩ = some (.int .i64 j.nd) ∧ w3.drew.cell? ⟨jb, 2, none⟩ = some (.int .i64 j.lm) ∧ w3.drew.cell? ⟨jb, 3, none⟩ = some (.int .i64 j.sb) ∧ w3.drew.cell? ⟨jb, 4, none⟩ = some (.int .i64 1) ∧ w3.drew.cell? ⟨jb, 5, none⟩ = some (.int .i64 j.sr) ∧ w3.drew.cell? ⟨jb, 6, none⟩ = some (.int .i64 j.en) ∧ w3.drew.cell? ⟨jb, 7, none⟩ = some (.slice sa sl sc) ∧ w3.drew.cell? ⟨gf, j.ac.toNat, none⟩ = some (.int .u64 (f j.ac.toNat))) := HC.out w3.drew ((Below.refl _ w3).drew)
            have HB3 : Hid (w2.heap.size ≤ w3.heap.size) := HO3.out.bel.size
            have HJB : Hid (jb < w3.heap.size) := (Array.getElem?_eq_some_iff.1 HJ3.out).1
            have HOB : Hid (¬ u4.ownBlock = some w.heap.size ∧ ¬ u4.ownBlock = some jb ∧ ¬ u4.ownBlock = some gf) := by
              have g1 := World.block_lt_of_cell? w2 _ (HS2.out.fc _ hq)
              have g2 := HS2.out.st.lt
              have g3 : gf < w2.heap.size := g1
              exact ⟨fun e => by have := (HOL.out _ e).1; omega, fun e => by have := (HOL.out _ e).2; omega, fun e => by have := (HOL.out _ e).1; omega⟩
            clear hpb HPN HPY hV hM HJ3 HSL
            obtain ⟨i3, hi3, hz30, hz31, hz32⟩ := info_parts Tryz.soRa
            go_upto_region 7 with fail
            go_region_held3 (fun x => x.cell? ⟨w.heap.size, 0, none⟩ = some (.int .i64 cf.nodes) ∧ x.cell? ⟨w.heap.size, 1, none⟩ = some (.int .i64 cf.queue) ∧ x.cell? ⟨w.heap.size, 2, none⟩ = some (.int .i64 cf.limit) ∧ x.cell? ⟨w.heap.size, 3, none⟩ = some (.int .i64 cf.age) ∧ x.cell? ⟨w.heap.size, 4, none⟩ = some (.int .i64 cf.fair) ∧ x.cell? ⟨w.heap.size, 5, none⟩ = some (.int .i64 cf.size) ∧ x.cell? ⟨w.heap.size, 6, none⟩ = some (.int .i64 cf.period) ∧ x.cell? ⟨w.heap.size, 7, none⟩ = some (.int .i64 cf.half) ∧ x.cell? ⟨w.heap.size, 8, none⟩ = some (.int .i64 now) ∧ x.cell? ⟨jb, 0, none⟩ = some (.int .i64 j.ac) ∧ x.cell? ⟨jb, 1, none⟩ = some (.int .i64 j.nd) ∧ x.cell? ⟨jb, 2, none⟩ = some (.int .i64 j.lm) ∧ x.cell? ⟨jb, 3, none⟩ = some (.int .i64 j.sb) ∧ x.cell? ⟨jb, 4, none⟩ = some (.int .i64 1) ∧ x.cell? ⟨jb, 5, none⟩ = some (.int .i64 j.sr) ∧ x.cell? ⟨jb, 6, none⟩ = some (.int .i64 j.en) ∧ x.cell? ⟨jb, 7, none⟩ = some (.slice sa sl sc) ∧ x.cell? ⟨gf, j.ac.toNat, none⟩ = some (.int .u64 (f j.ac.toNat))) (first | exact HC1.out | exact HC.out _ BY.out | exact HC.out _ (BY.out.alloc BY.out.size _) | exact HCZ.out) (first
              | (go_at_call 12; refine (cP _).mono ?_; rintro e y ⟨rfl, hy⟩; have BY : Hid (Below w3.heap.size w3 y) := ((Below.refl _ w3).drew).trans hy; have HOY : Hid (RkO w2 u4 M y) := HO3.out.below BY.out)
              | (refine step_appB rfl (.tmp 35) (.tmp 49) 35 rfl w2.heap.size 40 i3 _ 2 16 Tryz.underlying35 hi3 hz30 hz31 hz32 rfl (by decide) u4 M.length (flatP M) (by simp [Act.eval]) (HOY.out.row.alloc _) ⟨y.heap.size, 0, none⟩ 1 1 [.int .i64 k, .int .i64 V] (by simp [Act.eval]) rfl (two_newR _ _ _) two_oneR (by have := HML.out; have := HJN.out; unfold maxLen; omega) (by have := HML.out; have := HJN.out; omega) (by have := HOY.out.bel.size; simp; omega) ?_; intro v' w6 r1 g1 r4; have HO6 : Hid (RkO w2 v' (M ++ [⟨(k : Int), V⟩]) w6) := HOY.out.next (p := ⟨(k : Int), V⟩) r1 g1; have HCZ : Hid (w6.cell? ⟨w.heap.size, 0, none⟩ = some (.int .i64 cf.nodes) ∧ w6.cell? ⟨w.heap.size, 1, none⟩ = some (.int .i64 cf.queue) ∧ w6.cell? ⟨w.heap.size, 2, none⟩ = some (.int .i64 cf.limit) ∧ w6.cell? ⟨w.heap.size, 3, none⟩ = some (.int .i64 cf.age) ∧ w6.cell? ⟨w.heap.size, 4, none⟩ = some (.int .i64 cf.fair) ∧ w6.cell? ⟨w.heap.size, 5, none⟩ = some (.int .i64 cf.size) ∧ w6.cell? ⟨w.heap.size, 6, none⟩ = some (.int .i64 cf.period) ∧ w6.cell? ⟨w.heap.size, 7, none⟩ = some (.int .i64 cf.half) ∧ w6.cell? ⟨w.heap.size, 8, none⟩ = some (.int .i64 now) ∧ w6.cell? ⟨jb, 0, none⟩ = some (.int .i64 j.ac) ∧ w6.cell? ⟨jb, 1, none⟩ = some (.int .i64 j.nd) ∧ w6.cell? ⟨jb, 2, none⟩ = some (.int .i64 j.lm) ∧ w6.cell? ⟨jb, 3, none⟩ = some (.int .i64 j.sb) ∧ w6.cell? ⟨jb, 4, none⟩ = some (.int .i64 1) ∧ w6.cell? ⟨jb, 5, none⟩ = some (.int .i64 j.sr) ∧ w6.cell? ⟨jb, 6, none⟩ = some (.int .i64 j.en) ∧ w6.cell? ⟨jb, 7, none⟩ = some (.slice sa sl sc) ∧ w6.cell? ⟨gf, j.ac.toNat, none⟩ = some (.int .u64 (f j.ac.toNat))) := round_keep (K := fun i => u4.ownBlock = some i) (Chg.of_gr g1 (fun k e => .inl e)) HOB.out.1 HOB.out.2.1 HOB.out.2.2 (HC.out _ (BY.out.alloc BY.out.size _))))
            all_goals
              have HO7 : Hid (RkO w2 v' (M ++ [⟨(k : Int), V⟩]) w6) := HO6.out
              clear HC1 HCZ HO6 HOY r1 g1 r4 cP HC BY
              go_wp2
              go_roundg (N - (k + 1))
              case measure => omega
              case rel => exact ⟨k + 1, by omega, by first | rfl | (rw [HWK.out]), by rw [HRY.out]; exact HO7.out⟩
          · have hpb : pendB F j = false := pend_no (fun h => by exact p3 h.2.2)
            have HRN : Hid (rkF F f cf now (jl.take (k + 1)) 0 = rkF F f cf now (jl.take k) 0) := HPN.out hpb
            have pq : (j.st == 1) = true := by simp [p1]
            clear HPN hpb
            go_wp2
            go_roundg (N - (k + 1))
            case measure => omega
            case rel => exact ⟨k + 1, by omega, by first | rfl | (rw [HWK.out]), by rw [HRN.out]; exact HO3.out⟩
        · have hpb : pendB F j = false := pend_no (fun h => by exact p2 h.2.1)
          have HRN : Hid (rkF F f cf now (jl.take (k + 1)) 0 = rkF F f cf now (jl.take k) 0) := HPN.out hpb
          have pq : (j.st == 1) = true := by simp [p1]
          clear HPN hpb
          go_wp2
          go_roundg (N - (k + 1))
          case measure => omega
          case rel => exact ⟨k + 1, by omega, by first | rfl | (rw [HWK.out]), by rw [HRN.out]; exact HO3.out⟩
      · have hpb : pendB F j = false := pend_no (fun h => by exact p1 h.1)
        have HRN : Hid (rkF F f cf now (jl.take (k + 1)) 0 = rkF F f cf now (jl.take k) 0) := HPN.out hpb
        have pq : (j.st == 1) = false := by simp [p1]
        clear HPN hpb
        go_wp2
        go_roundg (N - (k + 1))
        case measure => omega
        case rel => exact ⟨k + 1, by omega, by first | rfl | (rw [HWK.out]), by rw [HRN.out]; exact HO3.out⟩
    · have e : k = N := by omega
      have hge : ¬ (k : Int) < N := by omega
      obtain ⟨M, hM⟩ : ∃ M, rkF F f cf now (jl.take k) 0 = M := ⟨_, rfl⟩
      have HML : Hid (M.length * 16 ≤ 140737488355328) := by
        rw [← hM]
        have h1 := rkF_len (F := F) (f := f) (c := cf) (now := now) (jl.take k) 0
        simp only [List.length_take] at h1
        have h2 := HJN.out
        show _ * 16 ≤ _
        omega
      have HRK : Hid (sortV (fun a b => decide (b.b < a.b)) M = rankL F f cf now jl) := by
        rw [← hM]
        unfold rankL
        rw [List.take_of_length_le (by have := HN.out; omega)]
        exact rfl
      rw [hM] at HRO
      have hrow := HRO.out.row
      obtain ⟨mo, mc, rfl, hmn, hms⟩ := own_shape hrow
      have c9 := Sort_Ra clo_Ra (w := wr) (n := M.length) (c := mc) (ao := mo) (l := M) HML.out rfl hmn hms trivial
      have HMM : Hid (M.length = (rankL F f cf now jl).length) := by rw [← HRK.out, sort_length]; exact rfl
      clear hM e hlt hmn hms hrow
      generalize M.length = m at *
      go_wp2_with fail
      refine c9.mono ?_
      rintro e w9 ⟨rfl, r9, k9, _⟩
      rw [HRK.out] at r9
      have HE : Hid (RwR w9 wr.heap.size (rankL F f cf now jl) ∧ Below w.heap.size w w9 ∧ w.heap.size ≤ wr.heap.size) := ⟨r9, k9.below HRS.out.bel HRS.out.bel.size (fun _ e => e.elim), HRS.out.bel.size⟩
      clear r9 k9 c9
      go_wp2
      go_ret
      exact ⟨wr.heap.size, m, rfl, HMM.out, HE.out.2.2, HE.out.1, HE.out.2.1⟩
end Go.Proofs.YtjgllfpnmmopdaaGreatDoor
namespace Go.Proofs.YtjgllfpnmmopdaaGreatDoor
open Go.RowKit Wd Tr Cg Ld
/-- What has been seen. -/
def seenA (A : List Pr) (i : Nat) (j : Nat) : Bool := (A.take i).any (fun p => decide (p.a = (j : Int)))
theorem seenA_no {A : List Pr} (h : A.Pairwise (fun a b => a.a ≠ b.a)) {i k : Nat} {p : Pr} (hp : A[i]? = some p) (hk : p.a = (k : Int)) : seenA A i k = false := by
  unfold seenA
  rw [List.any_eq_false]
  intro q hq
  obtain ⟨j, hj, e⟩ := List.mem_iff_getElem.1 hq
  simp only [List.length_take] at hj
  rw [List.getElem_take] at e
  obtain ⟨hi, ep⟩ := List.getElem?_eq_some_iff.1 hp
  have h1 := (List.pairwise_iff_getElem.1 h) j i (by omega) hi (by omega)
  rw [e, ep] at h1
  simp only [decide_eq_true_eq]
  intro e2
  exact h1 (by rw [e2, hk])
theorem seenA_put {A : List Pr} {i k : Nat} {p : Pr} (hp : A[i]? = some p) (hk : p.a = (k : Int)) (j : Nat) : seenA A (i + 1) j = if j = k then true else seenA A i j := by
  unfold seenA
  rw [List.take_add_one, hp]
  simp only [Option.toList_some, List.any_append, List.any_cons, List.any_nil, Bool.or_false]
  by_cases e : j = k
  · subst e; simp [hk]
  · rw [if_neg e]
    have : decide (p.a = (j : Int)) = false := decide_eq_false (fun h => e (by rw [hk] at h; omega))
    rw [this, Bool.or_false]
/-- A row of marks. -/
def RowB (W : World) (b L : Nat) (f : Nat → Bool) : Prop := ∃ cur, W.heap[b]? = some (.cells cur 4 (0, 0)) ∧ cur.size = L ∧ ∀ j, j < L → cur[j]? = some (.bool (f j))
section
variable {W W' : World} {b L : Nat} {f g : Nat → Bool}
theorem RowB.cell (h : RowB W b L f) {j : Nat} (hj : j < L) : W.cell? ⟨b, j, none⟩ = some (.bool (f j)) := by
  obtain ⟨cur, h1, _, h3⟩ := h
  exact cells_at h1 (h3 j hj)
theorem RowB.free (h : RowB W b L f) (k : Nat) : W.frozen? ⟨b, k, none⟩ = false := by
  obtain ⟨cur, h1, _, _⟩ := h
  exact frozen_at h1
theorem RowB.lt (h : RowB W b L f) : b < W.heap.size := by
  obtain ⟨cur, h1, _, _⟩ := h
  exact (Array.getElem?_eq_some_iff.1 h1).1
theorem RowB.below (h : RowB W b L f) (c : Below W.heap.size W W') : RowB W' b L f := by
  obtain ⟨cur, h1, h2, h3⟩ := h
  exact ⟨cur, (c.block b (Array.getElem?_eq_some_iff.1 h1).1).trans h1, h2, h3⟩
theorem RowB.set (h : RowB W b L f) {k : Nat} (hk : k < L) {v : Bool} (hg : ∀ j, j < L → g j = if j = k then v else f j) : RowB (W.setCell ⟨b, k, none⟩ (.bool v)) b L g := by
  obtain ⟨cur, h1, h2, h3⟩ := h
  refine ⟨cur.setIfInBounds k (.bool v), ?_, by simpa using h2, fun j hj => ?_⟩
  · have := heap_setCell_same W b k cur 4 (.bool v) h1
    rw [this]
  · rw [hg j hj]
    by_cases e : j = k
    · subst e; rw [if_pos rfl]; simp [h2, hk]
    · rw [if_neg e]
      rw [Array.getElem?_setIfInBounds_ne (fun x => e x.symm)]
      exact h3 j hj
end
theorem Tryz.soBa : (Tryz.prog.info? 4).map (fun i => (i.zero, i.size, i.bytes)) = some (some (.bool false), 1, 1) := by kernel_rfl
theorem make_B (w : World) {n : Nat} (hn : n ≤ 140737488355328) : ∃ w', (Instr.makeSlice 46 (.int .i64 (n : Int)) (.int .i64 (n : Int))).run Tryz.prog w = .ok (.slice (some ⟨w.heap.size, 0, none⟩) n n) w' ∧ RowB w' w.heap.size n (fun _ => false) ∧ Below w.heap.size w w' ∧ w'.heap.size = w.heap.size + 1 := by
  obtain ⟨i0, hi0, hz0, hz1, hz2⟩ := info_parts Tryz.soBa
  have hmk := run_make (P := Tryz.prog) w 46 4 i0 _ Tryz.underlying46 hi0 hz0 .i64 .i64 (n : Int) (n : Int) (by omega) (Int.le_refl _) (by rw [hz2]; omega) (by omega)
  rw [show ((n : Int)).toNat = n by omega, hz1] at hmk
  refine ⟨_, hmk, ?_, (Below.refl _ _).alloc (Nat.le_refl _) _, by simp⟩
  refine ⟨_, heap_alloc_new w _, by simp [madeCells], fun j hj => ?_⟩
  simp [madeCells, hj]
  show (#[Value.bool false] : Array Value)[j % 1]! = _
  simp [Nat.mod_one]
/-- One rank: whose, and what of it is so. -/
structure RkOk (F : Nat) (f : Nat → Int) (c : Cf) (now : Int) (jl : List Jb) (RK : List Pr) (i : Nat) (p : Pr) (q : Nat) (j : Jb) : Prop where
  job : jl[q]? = some j
  st : j.st = 1
  a0 : 0 ≤ j.ac
  a1 : j.ac < (F : Int)
  e1 : p.a = (q : Int)
  e2 : p.b = prioV c now j.sb j.nd (f j.ac.toNat)
  new : seenA RK i q = false
theorem rk_ok {F : Nat} {f : Nat → Int} {c : Cf} {now : Int} {jl : List Jb} {i : Nat} {p : Pr} (hp : (rankL F f c now jl)[i]? = some p) : ∃ q j, RkOk F f c now jl (rankL F f c now jl) i p q j := by
  have hpm := rank_perm F f c now jl
  obtain ⟨q, j, h1, h2, h3⟩ := rkF_mem jl 0 p (hpm.mem_iff.1 (List.mem_of_getElem? hp))
  obtain ⟨p1, p2, p3⟩ := pend_iff.1 h2
  have hap : (rankL F f c now jl).Pairwise (fun a b => a.a ≠ b.a) := (hpm.pairwise_iff (fun e => e.symm)).2 ((rkF_up jl 0).imp (fun e => by omega))
  have e1 : p.a = (q : Int) := by rw [h3]; simp
  exact ⟨q, j, h1, p1, p2, p3, e1, by rw [h3], seenA_no hap hp e1⟩
theorem rank_none {f : Nat → Int} {c : Cf} {now : Int} : ∀ (jl : List Jb) (k : Nat), rkF 0 f c now jl k = []
  | [], _ => rfl
  | j :: l, k => by
    have h : pendB 0 j = false := pend_no (fun h => by have := h.2.1; have := h.2.2; omega)
    simp only [rkF, h, rank_none l (k + 1)]
    simp
theorem rank_len0 (f : Nat → Int) (c : Cf) (now : Int) (jl : List Jb) : (rankL 0 f c now jl).length = 0 := by
  rw [(rank_perm 0 f c now jl).length_eq, rank_none]; rfl
/-- What the reference's factors answer. -/
theorem rfacs_in {w w' : World} {N : Nat} {f : Nat → Int} {e : Ending} (h : REf w N (firstN f N) e w') : ∃ g c, e = .returned (.slice (some ⟨g, 0, none⟩) N c) ∧ Fcs w' g N f ∧ Below w.heap.size w w' := by
  obtain ⟨g, c, h1, h2, _, h4⟩ := h
  exact ⟨g, c, h1, wds_own h2, h4⟩
/-- What stands while the ranks are looked through. -/
structure Po (w : World) (cf : Cf) (now hd : Int) (av jv : Value) (gf F : Nat) (f : Nat → Int) (gj oj : Nat) (jl : List Jb) (g : Nat) (RK : List Pr) (x : World) : Prop where
  st : StB x w.heap.size cf now av jv hd
  fc : Fcs x gf F f
  jb : Jbs x gj oj jl
  rk : RwR x g RK
  bel : Below w.heap.size w x
theorem Po.below {w x y : World} {cf : Cf} {now hd : Int} {av jv : Value} {gf F : Nat} {f : Nat → Int} {gj oj : Nat} {jl : List Jb} {g : Nat} {RK : List Pr} (h : Po w cf now hd av jv gf F f gj oj jl g RK x) (b : Below x.heap.size x y) : Po w cf now hd av jv gf F f gj oj jl g RK y :=
  ⟨h.st.below b, h.fc.below b, h.jb.below b, h.rk.below b, h.bel.trans (b.mono h.bel.size)⟩
end Go.Proofs.YtjgllfpnmmopdaaGreatDoor
namespace Go.Proofs.YtjgllfpnmmopdaaGreatDoor
open Go.RowKit Wd Tr Cg Ld
/-- A state that came in. -/
structure StIn (w : World) (ao jo : Option Addr) (la : List Ac) (jl : List Jb) (ca gj oj : Nat) : Prop where
  tab : Tab w
  acs : AcsAt w ao la
  nms : ∀ a ∈ la, a.nm.size ≤ maxLen
  us : UsOk la
  an : la.length * 48 ≤ 140737488355328
  ac : la.length ≤ ca
  jo : 0 < jl.length → jo = some ⟨gj, oj, none⟩
  jb : Jbs w gj oj jl
  jn : jl.length * 80 ≤ 140737488355328
  sl : ∀ j ∈ jl, ∃ sa sl sc, j.set = .slice sa sl sc
theorem StIn.below {w x : World} {ao jo : Option Addr} {la : List Ac} {jl : List Jb} {ca gj oj : Nat} (h : StIn w ao jo la jl ca gj oj) (b : Below w.heap.size w x) : StIn x ao jo la jl ca gj oj :=
  ⟨Tab.below b h.tab, h.acs.below b, h.nms, h.us, h.an, h.ac, h.jo, h.jb.below b, h.jn, h.sl⟩
end Go.Proofs.YtjgllfpnmmopdaaGreatDoor
