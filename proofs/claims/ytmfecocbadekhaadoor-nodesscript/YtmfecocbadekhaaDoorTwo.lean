/-
  Two machines, of the program and of the document, and the lists that were handed out: what a step may turn.
-/
import Derived.Test.YtmfecocbadekhaaDoorLent
namespace Go.Proofs.YtmfecocbadekhaaDoor
open Go.RowKit Nd

structure St where
  b1 : Nat
  d1 : Nat
  g1 : Nat
  c1 : Nat
  n1 : Nat
  F1 : Nat
  G1 : Nat
  b2 : Nat
  d2 : Nat
  g2 : Nat
  c2 : Nat
  n2 : Nat
  F2 : Nat
  ao : Option Addr
  aw : Option Addr
  co : Nat
  cw : Nat
  es : List Ent
def St.feet (s : St) : List Nat := foot s.ao s.aw s.es
def St.blks (s : St) (H : Nat) : List Nat := s.b1 :: s.d1 :: s.g1 :: s.b2 :: s.d2 :: s.g2 :: H :: s.feet
structure Two (w : World) (H : Nat) (s : St) : Prop where
  s1 : SetIn w s.b1 s.n1 s.F1
  r1 : RefIn w s.d1 s.g1 s.c1 s.n1 s.G1
  s2 : SetIn w s.b2 s.n2 s.F2
  r2 : RefIn w s.d2 s.g2 s.c2 s.n2 s.F2
  nums : Nums w H s.ao s.aw s.co s.cw s.es
  full : Full s.es
  apart : (s.blks H).Nodup
  pos : ∀ i ∈ s.blks H, 0 < i
/-- The blocks that a step may turn. -/
def St.may (s : St) (H i : Nat) : Prop := i = s.b1 ∨ i = s.g1 ∨ i = H ∨ i ∈ s.feet
theorem St.may_in {s : St} {H i : Nat} (h : s.may H i) : i ∈ s.blks H := by
  unfold St.blks
  rcases h with rfl | rfl | rfl | h
  · simp
  · simp
  · simp
  · simp [h]
theorem Two.lt {w : World} {H : Nat} {s : St} (h : Two w H s) : ∀ i ∈ s.blks H, i < w.heap.size := by
  intro i hi
  simp only [St.blks, List.mem_cons] at hi
  rcases hi with rfl | rfl | rfl | rfl | rfl | rfl | rfl | hi
  · exact h.s1.lt
  · exact h.r1.dlt
  · exact h.r1.glt
  · exact h.s2.lt
  · exact h.r2.dlt
  · exact h.r2.glt
  · exact h.nums.lt
  · exact h.nums.foot_lt i hi
theorem Two.chg {K : Nat → Prop} {w w' : World} {H : Nat} {s : St} (c : Chg K w w') (h : Two w H s) (h0 : ¬ K 0) (hK : ∀ i ∈ s.blks H, ¬ K i) : Two w' H s := by
  have m : ∀ i, i ∈ s.blks H → ¬ K i := hK
  simp only [St.blks, List.mem_cons] at m
  exact ⟨c.set h.s1 h0 (m _ (by simp)), c.ref h.r1 (m _ (by simp)) (m _ (by simp)), c.set h.s2 h0 (m _ (by simp)), c.ref h.r2 (m _ (by simp)) (m _ (by simp)), Nums.chg c h.nums (m _ (by simp)) (fun i hi => m i (by simp [St.feet, hi])), h.full, h.apart, h.pos⟩

/-- From one state to another: the other machine stands; what may turn, what is new. -/
structure Mv (w : World) (H : Nat) (s : St) (k : Nat) (w' : World) (s' : St) : Prop where
  two : Two w' H s'
  chg : Chg (fun i => s.may H i) w w'
  new : ∀ i ∈ s'.blks H, i ∈ s.blks H ∨ w.heap.size ≤ i
  kk : ∀ i, s'.may H i → s.may H i ∨ w.heap.size ≤ i
  other : s'.b2 = s.b2 ∧ s'.d2 = s.d2 ∧ s'.g2 = s.g2 ∧ s'.c2 = s.c2 ∧ s'.n2 = s.n2 ∧ s'.F2 = s.F2
  few : s'.es.length ≤ s.es.length + k
theorem Mv.refl {w : World} {H : Nat} {s : St} (h : Two w H s) : Mv w H s 0 w s := ⟨h, Chg.refl _ _, fun _ hi => .inl hi, fun _ hi => .inl hi, ⟨rfl, rfl, rfl, rfl, rfl, rfl⟩, by omega⟩
theorem Mv.trans {w w1 w2 : World} {H k k' : Nat} {s s1 s2 : St} (h : Mv w H s k w1 s1) (g : Mv w1 H s1 k' w2 s2) : Mv w H s (k + k') w2 s2 := by
  have hz := h.chg.size
  refine ⟨g.two, h.chg.trans g.chg (fun i hi hh => ?_), fun i hi => ?_, fun i hi => ?_, ?_, ?_⟩
  · rcases h.kk i hh with h1 | h1
    · exact h1
    · omega
  · rcases g.new i hi with h1 | h1
    · exact h.new i h1
    · exact .inr (by omega)
  · rcases g.kk i hi with h1 | h1
    · exact h.kk i h1
    · exact .inr (by omega)
  · obtain ⟨a1, a2, a3, a4, a5, a6⟩ := h.other
    obtain ⟨b1, b2, b3, b4, b5, b6⟩ := g.other
    exact ⟨b1.trans a1, b2.trans a2, b3.trans a3, b4.trans a4, b5.trans a5, b6.trans a6⟩
  · have := h.few; have := g.few; omega
theorem Mv.below {w w' : World} {H : Nat} {s : St} (h : Two w H s) (hb : Below w.heap.size w w') : Mv w H s 0 w' s :=
  ⟨h.chg (Chg.of_below hb (fun _ => False)) (fun h => h) (fun _ _ h => h), Chg.of_below hb _, fun _ hi => .inl hi, fun _ hi => .inl hi, ⟨rfl, rfl, rfl, rfl, rfl, rfl⟩, by omega⟩
theorem Mv.step {w w1 w2 : World} {H k : Nat} {s s1 : St} (h : Mv w H s k w1 s1) (hb : Below w1.heap.size w1 w2) : Mv w H s k w2 s1 := h.trans (Mv.below h.two hb)

/-- Of the first machine the program's set is turned. -/
theorem Mv.set1 {w w' : World} {H F' : Nat} {s : St} (h : Two w H s) (hg : w.grownBy w' (some s.b1)) (hs : SetIn w' s.b1 s.n1 F') : Mv w H s 0 w' { s with F1 := F' } := by
  have hnd := h.apart
  simp only [St.blks, List.nodup_cons, List.mem_cons, not_or] at hnd
  have c : Chg (fun i => i = s.b1) w w' := Chg.of_gr hg (fun k hk => .inl (Option.some.inj hk).symm)
  have hb0 := h.pos s.b1 (by simp [St.blks])
  have e0 : ¬ ((0 : Nat) = s.b1) := by omega
  obtain ⟨⟨x1, x2, x3, x4, x5, x6, x7⟩, _⟩ := hnd
  refine ⟨⟨hs, c.ref h.r1 (fun e => x1 e.symm) (fun e => x2 e.symm), c.set h.s2 e0 (fun e => x3 e.symm), c.ref h.r2 (fun e => x4 e.symm) (fun e => x5 e.symm), Nums.chg c h.nums (fun e => x6 e.symm) (fun i hi e => x7 (e ▸ hi)), h.full, h.apart, h.pos⟩, c.mono (fun i _ hi => .inl hi), fun i hi => .inl hi, fun i hi => .inl hi, ⟨rfl, rfl, rfl, rfl, rfl, rfl⟩, by simp⟩
/-- .. the document's. -/
theorem Mv.ref1 {w w' : World} {H G' : Nat} {s : St} (h : Two w H s) (hg : w.grownBy w' (some s.g1)) (hr : RefIn w' s.d1 s.g1 s.c1 s.n1 G') : Mv w H s 0 w' { s with G1 := G' } := by
  have hnd := h.apart
  simp only [St.blks, List.nodup_cons, List.mem_cons, not_or] at hnd
  have c : Chg (fun i => i = s.g1) w w' := Chg.of_gr hg (fun k hk => .inl (Option.some.inj hk).symm)
  have hb0 := h.pos s.g1 (by simp [St.blks])
  have e0 : ¬ ((0 : Nat) = s.g1) := by omega
  obtain ⟨⟨x1, x2, x3, x4, x5, x6, x7⟩, ⟨y2, y3, y4, y5, y6, y7⟩, ⟨z3, z4, z5, z6, z7⟩, _⟩ := hnd
  refine ⟨⟨c.set h.s1 e0 x2, hr, c.set h.s2 e0 (fun e => z3 e.symm), c.ref h.r2 (fun e => z4 e.symm) (fun e => z5 e.symm), Nums.chg c h.nums (fun e => z6 e.symm) (fun i hi e => z7 (e ▸ hi)), h.full, h.apart, h.pos⟩, c.mono (fun i _ hi => .inr (.inl hi)), fun i hi => .inl hi, fun i hi => .inl hi, ⟨rfl, rfl, rfl, rfl, rfl, rfl⟩, by simp⟩
/-- The lists that were handed out are others. -/
theorem Mv.kept {w w1 w2 : World} {H k k' : Nat} {s s1 : St} {ao aw : Option Addr} {co cw : Nat} {es : List Ent} {X : List Nat} (h : Mv w H s k w1 s1) (hN : Nums w2 H ao aw co cw es) (hfull : Full es)
    (hfoot : ∀ i ∈ foot ao aw es, i ∈ s1.feet ∨ i ∈ X ∨ w1.heap.size ≤ i) (c : Chg (fun i => i = H ∨ i ∈ s1.feet) w1 w2) (hX : ∀ i ∈ X, w.heap.size ≤ i ∧ i ∉ s1.blks H) (hz0 : 0 < w.heap.size) (hk : es.length ≤ s1.es.length + k') :
    Mv w H s (k + k') w2 { s1 with ao := ao, aw := aw, co := co, cw := cw, es := es } := by
  have T := h.two
  have hlt := T.lt
  have hz := h.chg.size
  have hnd := T.apart
  simp only [St.blks, List.nodup_cons, List.mem_cons, not_or] at hnd
  obtain ⟨⟨x1, x2, x3, x4, x5, x6, x7⟩, ⟨y2, y3, y4, y5, y6, y7⟩, ⟨z3, z4, z5, z6, z7⟩, ⟨u4, u5, u6, u7⟩, ⟨v5, v6, v7⟩, ⟨t6, t7⟩, _⟩ := hnd
  have h0 : ¬ ((0 : Nat) = H ∨ 0 ∈ s1.feet) := fun e => by
    rcases e with e | e
    · have := T.pos H (by simp [St.blks]); omega
    · have := T.pos 0 (by simp [St.blks, e]); omega
  have out : ∀ a, a ∈ s1.blks H → a ≠ H → a ∉ s1.feet → a ∉ foot ao aw es := fun a ha _ hf hh => by
    rcases hfoot a hh with h1 | h1 | h1
    · exact hf h1
    · exact (hX a h1).2 ha
    · have := hlt a ha; omega
  have nd := hN.nodup
  rw [List.nodup_cons] at nd
  have mem : ∀ a, a ∈ s1.blks H ↔ a = s1.b1 ∨ a = s1.d1 ∨ a = s1.g1 ∨ a = s1.b2 ∨ a = s1.d2 ∨ a = s1.g2 ∨ a = H ∨ a ∈ s1.feet := fun a => by simp only [St.blks, List.mem_cons]
  have mem' : ∀ a, a ∈ ({ s1 with ao := ao, aw := aw, co := co, cw := cw, es := es } : St).blks H → (a ∈ s1.blks H) ∨ a ∈ foot ao aw es := fun a ha => by
    simp only [St.blks, St.feet, List.mem_cons] at ha
    rw [mem]
    rcases ha with h | h | h | h | h | h | h | h
    · exact .inl (.inl h)
    · exact .inl (.inr (.inl h))
    · exact .inl (.inr (.inr (.inl h)))
    · exact .inl (.inr (.inr (.inr (.inl h))))
    · exact .inl (.inr (.inr (.inr (.inr (.inl h)))))
    · exact .inl (.inr (.inr (.inr (.inr (.inr (.inl h))))))
    · exact .inl (.inr (.inr (.inr (.inr (.inr (.inr (.inl h)))))))
    · exact .inr h
  have new1 : ∀ a, a ∈ foot ao aw es → a ∈ s1.feet ∨ w.heap.size ≤ a := fun a ha => by
    rcases hfoot a ha with h1 | h1 | h1
    · exact .inl h1
    · exact .inr (hX a h1).1
    · exact .inr (by omega)
  have feetIn : ∀ a, a ∈ s1.feet → a ∈ s1.blks H := fun a ha => by rw [mem]; simp [ha]
  refine ⟨⟨c.set T.s1 h0 (fun e => e.elim x6 x7), c.ref T.r1 (fun e => e.elim y6 y7) (fun e => e.elim z6 z7), c.set T.s2 h0 (fun e => e.elim u6 u7), c.ref T.r2 (fun e => e.elim v6 v7) (fun e => e.elim t6 t7), hN, hfull, ?_, ?_⟩, h.chg.trans c (fun i hi e => ?_), ?_, ?_, h.other, by have := h.few; simp; omega⟩
  · simp only [St.blks, St.feet, List.nodup_cons, List.mem_cons, not_or]
    exact ⟨⟨x1, x2, x3, x4, x5, x6, out _ (by rw [mem]; simp) x6 x7⟩, ⟨y2, y3, y4, y5, y6, out _ (by rw [mem]; simp) y6 y7⟩, ⟨z3, z4, z5, z6, out _ (by rw [mem]; simp) z6 z7⟩, ⟨u4, u5, u6, out _ (by rw [mem]; simp) u6 u7⟩, ⟨v5, v6, out _ (by rw [mem]; simp) v6 v7⟩, ⟨t6, out _ (by rw [mem]; simp) t6 t7⟩, nd.1, nd.2⟩
  · intro a ha
    rcases mem' a ha with h1 | h1
    · exact T.pos a h1
    · rcases new1 a h1 with h2 | h2
      · exact T.pos a (feetIn a h2)
      · omega
  · have : s1.may H i := by
      rcases e with e | e
      · exact .inr (.inr (.inl e))
      · exact .inr (.inr (.inr e))
    rcases h.kk i this with h1 | h1
    · exact h1
    · omega
  · intro a ha
    rcases mem' a ha with h1 | h1
    · exact h.new a h1
    · rcases new1 a h1 with h2 | h2
      · exact h.new a (feetIn a h2)
      · exact .inr h2
  · intro a ha
    rcases ha with h1 | h1 | h1 | h1
    · exact h.kk a (.inl h1)
    · exact h.kk a (.inr (.inl h1))
    · exact h.kk a (.inr (.inr (.inl h1)))
    · rcases new1 a h1 with h2 | h2
      · exact h.kk a (.inr (.inr (.inr h2)))
      · exact .inr h2
/-- The first machine becomes another one, all new. -/
theorem Mv.fresh {w w1 : World} {H : Nat} {s : St} {b d g c : Nat} (h : Two w H s) (hb : Below w.heap.size w w1) (h1 : SetIn w1 b s.n2 s.F2) (h2 : RefIn w1 d g c s.n2 s.F2) (hb1 : w.heap.size ≤ b) (hd1 : w.heap.size ≤ d) (hg1 : w.heap.size ≤ g) (hbd : b ≠ d) (hbg : b ≠ g) :
    Mv w H s 0 w1 { s with b1 := b, d1 := d, g1 := g, c1 := c, n1 := s.n2, F1 := s.F2, G1 := s.F2 } := by
  have T := h.chg (Chg.of_below hb (fun _ => False)) (fun h => h) (fun _ _ h => h)
  have hlt := h.lt
  have hnd := h.apart
  simp only [St.blks, List.nodup_cons, List.mem_cons, not_or] at hnd
  obtain ⟨_, _, _, ⟨u4, u5, u6, u7⟩, ⟨v5, v6, v7⟩, ⟨t6, t7⟩, nH⟩ := hnd
  have mem : ∀ a, a ∈ s.blks H ↔ a = s.b1 ∨ a = s.d1 ∨ a = s.g1 ∨ a = s.b2 ∨ a = s.d2 ∨ a = s.g2 ∨ a = H ∨ a ∈ s.feet := fun a => by simp only [St.blks, List.mem_cons]
  have l2 := hlt s.b2 (by rw [mem]; simp)
  have l3 := hlt s.d2 (by rw [mem]; simp)
  have l4 := hlt s.g2 (by rw [mem]; simp)
  have l5 := hlt H (by rw [mem]; simp)
  have l6 : ∀ a, a ∈ s.feet → a < w.heap.size := fun a ha => hlt a (by rw [mem]; simp [ha])
  have hdg := h2.dg
  have hz0 : 0 < w.heap.size := by omega
  refine ⟨⟨h1, h2, T.s2, T.r2, T.nums, T.full, ?_, ?_⟩, Chg.of_below hb _, ?_, ?_, ⟨rfl, rfl, rfl, rfl, rfl, rfl⟩, by simp⟩
  · simp only [St.blks, List.nodup_cons, List.mem_cons, not_or]
    exact ⟨⟨hbd, hbg, by omega, by omega, by omega, by omega, fun e => by have := l6 _ e; omega⟩, ⟨hdg, by omega, by omega, by omega, by omega, fun e => by have := l6 _ e; omega⟩, ⟨by omega, by omega, by omega, by omega, fun e => by have := l6 _ e; omega⟩, ⟨u4, u5, u6, u7⟩, ⟨v5, v6, v7⟩, ⟨t6, t7⟩, nH⟩
  · intro a ha
    simp only [St.blks, List.mem_cons] at ha
    rcases ha with h | h | h | hh
    · omega
    · omega
    · omega
    · exact h.pos a (by rw [mem]; exact .inr (.inr (.inr hh)))
  · intro a ha
    simp only [St.blks, List.mem_cons] at ha
    rcases ha with h | h | h | h
    · exact .inr (by omega)
    · exact .inr (by omega)
    · exact .inr (by omega)
    · exact .inl (by rw [mem]; exact .inr (.inr (.inr h)))
  · intro a ha
    rcases ha with h | h | h | h
    · exact .inr (by simp at h; omega)
    · exact .inr (by simp at h; omega)
    · exact .inl (.inr (.inr (.inl h)))
    · exact .inl (.inr (.inr (.inr h)))
end Go.Proofs.YtmfecocbadekhaaDoor
