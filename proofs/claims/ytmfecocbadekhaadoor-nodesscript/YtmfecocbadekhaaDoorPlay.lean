/-
  NodesScript: what stands while a script is played.
-/
import Derived.Test.YtmfecocbadekhaaDoorStep
namespace Go.Proofs.YtmfecocbadekhaaDoor
open Go.RowKit Nd

/-- The two machines, their roles changed. -/
def St.swap (s : St) : St := { s with b1 := s.b2, d1 := s.d2, g1 := s.g2, c1 := s.c2, n1 := s.n2, F1 := s.F2, G1 := s.F2, b2 := s.b1, d2 := s.d1, g2 := s.g1, c2 := s.c1, n2 := s.n1, F2 := s.F1 }
theorem swap_blks (s : St) (H : Nat) : (s.swap.blks H).Perm (s.blks H) := List.perm_append_comm_assoc [s.b2, s.d2, s.g2] [s.b1, s.d1, s.g1] (H :: s.feet)
theorem Two.swap {w : World} {H : Nat} {s : St} (h : Two w H s) (hFG : s.G1 = s.F1) : Two w H s.swap := by
  have hr := h.r1
  rw [hFG] at hr
  exact ⟨h.s2, h.r2, h.s1, hr, h.nums, h.full, (swap_blks s H).nodup_iff.2 h.apart, fun i hi => h.pos i ((swap_blks s H).mem_iff.1 hi)⟩

structure Play (w : World) (P Q H : Nat) (s : St) (wr : World) : Prop where
  two : Two wr H s
  same : s.G1 = s.F1
  few : s.es.length ≤ 302
  p0 : wr.cell? ⟨P, 0, none⟩ = some (.pointer (some ⟨s.b1, 0, none⟩))
  p1 : wr.cell? ⟨P, 1, none⟩ = some (.pointer (some ⟨s.d1, 0, none⟩))
  q0 : wr.cell? ⟨Q, 0, none⟩ = some (.pointer (some ⟨s.b2, 0, none⟩))
  q1 : wr.cell? ⟨Q, 1, none⟩ = some (.pointer (some ⟨s.d2, 0, none⟩))
  fp0 : wr.frozen? ⟨P, 0, none⟩ = false
  fp1 : wr.frozen? ⟨P, 1, none⟩ = false
  fq0 : wr.frozen? ⟨Q, 0, none⟩ = false
  fq1 : wr.frozen? ⟨Q, 1, none⟩ = false
  pn : P ∉ s.blks H
  qn : Q ∉ s.blks H
  ne : P ≠ Q
  pb : w.heap.size ≤ P
  qb : w.heap.size ≤ Q
  nb : ∀ i ∈ s.blks H, w.heap.size ≤ i
  zero : 0 < w.heap.size
  below : Below w.heap.size w wr

section
variable {w wr w1 : World} {P Q H : Nat} {s s' : St}
theorem Play.swap (h : Play w P Q H s wr) : Play w Q P H s.swap wr :=
  ⟨h.two.swap h.same, rfl, h.few, h.q0, h.q1, h.p0, h.p1, h.fq0, h.fq1, h.fp0, h.fp1, fun e => h.qn ((swap_blks s H).mem_iff.1 e), fun e => h.pn ((swap_blks s H).mem_iff.1 e), h.ne.symm, h.qb, h.pb, fun i hi => h.nb i ((swap_blks s H).mem_iff.1 hi), h.zero, h.below⟩
theorem Play.plt (h : Play w P Q H s wr) : P < wr.heap.size := World.block_lt_of_cell? wr _ h.p0
theorem Play.qlt (h : Play w P Q H s wr) : Q < wr.heap.size := World.block_lt_of_cell? wr _ h.q0
/-- Something else was made. -/
theorem Play.on (h : Play w P Q H s wr) (hb : Below wr.heap.size wr w1) : Play w P Q H s w1 := by
  have c := Chg.of_below hb (fun _ => False)
  have no : ∀ i : Nat, ¬ (fun _ : Nat => False) i := fun _ h => h
  exact ⟨h.two.chg c (no 0) (fun i _ => no i), h.same, h.few, c.cell h.p0 (no 0), c.cell h.p1 (no 0), c.cell h.q0 (no 0), c.cell h.q1 (no 0), chg_fr c h.p0 (no 0) h.fp0, chg_fr c h.p1 (no 0) h.fp1, chg_fr c h.q0 (no 0) h.fq0, chg_fr c h.q1 (no 0) h.fq1, h.pn, h.qn, h.ne, h.pb, h.qb, h.nb, h.zero, below_on h.below hb h.below.size⟩
/-- A step of the first machine, and its pair laid back. -/
theorem Play.step (h : Play w P Q H s wr) (g : Mv wr H s 2 w1 s') (hG : s'.G1 = s'.F1) (hfew : s.es.length ≤ 300) :
    Play w P Q H s' ((w1.setCell ⟨P, 0, none⟩ (.pointer (some ⟨s'.b1, 0, none⟩))).setCell ⟨P, 1, none⟩ (.pointer (some ⟨s'.d1, 0, none⟩))) := by
  have hp := h.plt
  have hq := h.qlt
  have hne := h.ne
  have hz := h.zero
  have hpb := h.pb
  have hzr := h.below.size
  have c := chg_pair w1 P (.pointer (some ⟨s'.b1, 0, none⟩)) (.pointer (some ⟨s'.d1, 0, none⟩))
  have np : ∀ o, ¬ s.may H (⟨P, o, none⟩ : Addr).block := fun _ e => h.pn (St.may_in e)
  have nq : ∀ o, ¬ s.may H (⟨Q, o, none⟩ : Addr).block := fun _ e => h.qn (St.may_in e)
  have pc := pair_cells2 (g.chg.cell h.p0 (np 0)) (g.chg.cell h.p1 (np 1)) (.pointer (some ⟨s'.b1, 0, none⟩)) (.pointer (some ⟨s'.d1, 0, none⟩))
  have pn' : P ∉ s'.blks H := fun e => by
    rcases g.new P e with h1 | h1
    · exact h.pn h1
    · omega
  have qn' : Q ∉ s'.blks H := fun e => by
    rcases g.new Q e with h1 | h1
    · exact h.qn h1
    · omega
  obtain ⟨o1, o2, _⟩ := g.other
  have hqP : ¬ (Q = P) := fun e => hne e.symm
  refine ⟨g.two.chg c (fun e => by omega) (fun i hi e => pn' (e ▸ hi)), hG, by have := g.few; omega, pc.1, pc.2, ?_, ?_, ?_, ?_, chg_fr c (g.chg.cell h.q0 (nq 0)) hqP (chg_fr g.chg h.q0 (nq 0) h.fq0), chg_fr c (g.chg.cell h.q1 (nq 1)) hqP (chg_fr g.chg h.q1 (nq 1) h.fq1), pn', qn', hne, h.pb, h.qb, fun i hi => ?_, h.zero, ?_⟩
  · rw [o1]; exact c.cell (g.chg.cell h.q0 (nq 0)) hqP
  · rw [o2]; exact c.cell (g.chg.cell h.q1 (nq 1)) hqP
  · simpa using chg_fr g.chg h.p0 (np 0) h.fp0
  · simpa using chg_fr g.chg h.p1 (np 1) h.fp1
  · rcases g.new i hi with h1 | h1
    · exact h.nb i h1
    · omega
  · exact c.below (g.chg.below h.below hzr (fun i hi => h.nb i (St.may_in hi))) (by have := g.chg.size; omega) (fun i hi => by omega)
/-- The lists that were handed out are marked and left, a new box for those to come. -/
theorem Play.fresh (h : Play w P Q H s wr) (c : Chg (fun i => i = H ∨ i ∈ foot s.ao s.aw s.es) wr w1) :
    Play w P Q w1.heap.size { s with ao := none, aw := none, co := 0, cw := 0, es := [] } (w1.alloc (.cells #[.slice none 0 0, .slice none 0 0] 34)) := by
  have T := h.two
  have hlt := T.lt
  have hz := c.size
  have hp := h.plt
  have hq := h.qlt
  have hzr := h.below.size
  have hzz := h.zero
  have hnd := T.apart
  simp only [St.blks, List.nodup_cons, List.mem_cons, not_or] at hnd
  obtain ⟨⟨x1, x2, x3, x4, x5, x6, x7⟩, ⟨y2, y3, y4, y5, y6, y7⟩, ⟨z3, z4, z5, z6, z7⟩, ⟨u4, u5, u6, u7⟩, ⟨v5, v6, v7⟩, ⟨t6, t7⟩, _⟩ := hnd
  have mem : ∀ a, a ∈ s.blks H ↔ a = s.b1 ∨ a = s.d1 ∨ a = s.g1 ∨ a = s.b2 ∨ a = s.d2 ∨ a = s.g2 ∨ a = H ∨ a ∈ s.feet := fun a => by simp only [St.blks, List.mem_cons]
  have in' : ∀ i, (i = H ∨ i ∈ foot s.ao s.aw s.es) → i ∈ s.blks H := fun i hi => by
    rw [mem]
    rcases hi with h1 | h1
    · simp [h1]
    · exact .inr (.inr (.inr (.inr (.inr (.inr (.inr h1))))))
  have h0 : ¬ ((0 : Nat) = H ∨ 0 ∈ foot s.ao s.aw s.es) := fun e => by have := T.pos 0 (in' 0 e); omega
  have a1 : Chg (fun _ => False) w1 (w1.alloc (.cells #[.slice none 0 0, .slice none 0 0] 34)) := Chg.of_below (Below.alloc1 _ _) _
  have c2 : Chg (fun i => i = H ∨ i ∈ foot s.ao s.aw s.es) wr (w1.alloc (.cells #[.slice none 0 0, .slice none 0 0] 34)) := c.trans a1 (fun _ _ h => h.elim)
  have np : ∀ o, ¬ ((⟨P, o, none⟩ : Addr).block = H ∨ (⟨P, o, none⟩ : Addr).block ∈ foot s.ao s.aw s.es) := fun _ e => h.pn (in' P e)
  have nq : ∀ o, ¬ ((⟨Q, o, none⟩ : Addr).block = H ∨ (⟨Q, o, none⟩ : Addr).block ∈ foot s.ao s.aw s.es) := fun _ e => h.qn (in' Q e)
  have l1 := hlt s.b1 (by rw [mem]; simp)
  have l2 := hlt s.d1 (by rw [mem]; simp)
  have l3 := hlt s.g1 (by rw [mem]; simp)
  have l4 := hlt s.b2 (by rw [mem]; simp)
  have l5 := hlt s.d2 (by rw [mem]; simp)
  have l6 := hlt s.g2 (by rw [mem]; simp)
  have hN : Nums (w1.alloc (.cells #[.slice none 0 0, .slice none 0 0] 34)) w1.heap.size none none 0 0 [] :=
    ⟨by rw [heap_alloc_new]; rfl, World.ownsRow_nil _ _ _ _, World.ownsRow_nil _ _ _ _, fun e he => by simp at he, by simp [foot, ablk], by simp⟩
  have mem' : ∀ a, a ∈ ({ s with ao := none, aw := none, co := 0, cw := 0, es := [] } : St).blks w1.heap.size → a ∈ s.blks H ∨ a = w1.heap.size := fun a ha => by
    simp only [St.blks, St.feet, foot, ablk, List.mem_cons] at ha
    rw [mem]
    rcases ha with e | e | e | e | e | e | e | e
    · simp [e]
    · simp [e]
    · simp [e]
    · simp [e]
    · simp [e]
    · simp [e]
    · exact .inr e
    · simp at e
  refine ⟨⟨c2.set T.s1 h0 (fun e => e.elim x6 x7), c2.ref T.r1 (fun e => e.elim y6 y7) (fun e => e.elim z6 z7), c2.set T.s2 h0 (fun e => e.elim u6 u7), c2.ref T.r2 (fun e => e.elim v6 v7) (fun e => e.elim t6 t7), hN, fun e he => by simp at he, ?_, ?_⟩, h.same, by simp, c2.cell h.p0 (np 0), c2.cell h.p1 (np 1), c2.cell h.q0 (nq 0), c2.cell h.q1 (nq 1), chg_fr c2 h.p0 (np 0) h.fp0, chg_fr c2 h.p1 (np 1) h.fp1, chg_fr c2 h.q0 (nq 0) h.fq0, chg_fr c2 h.q1 (nq 1) h.fq1, ?_, ?_, h.ne, h.pb, h.qb, ?_, h.zero, ?_⟩
  · simp only [St.blks, St.feet, foot, ablk, List.nodup_cons, List.mem_cons, not_or]
    exact ⟨⟨x1, x2, x3, x4, x5, by omega, by simp⟩, ⟨y2, y3, y4, y5, by omega, by simp⟩, ⟨z3, z4, z5, by omega, by simp⟩, ⟨u4, u5, by omega, by simp⟩, ⟨v5, by omega, by simp⟩, ⟨by omega, by simp⟩, by simp, by simp⟩
  · intro a ha
    rcases mem' a ha with e | e
    · exact T.pos a e
    · omega
  · intro e
    rcases mem' P e with e | e
    · exact h.pn e
    · omega
  · intro e
    rcases mem' Q e with e | e
    · exact h.qn e
    · omega
  · intro a ha
    rcases mem' a ha with e | e
    · exact h.nb a e
    · omega
  · exact c2.below h.below hzr (fun i hi => h.nb i (in' i hi))
end
end Go.Proofs.YtmfecocbadekhaaDoor
