/-
  LAYER 12: ledgers in memory; what a call may turn.
-/
import Derived.Test.YtegpamoglifojaaDoorLgM
import Derived.Test.YtegpamoglifojaaDoorDcy
import Derived.Test.YtegpamoglifojaaDoorCpE
import Derived.WalkSpells
import Derived.WalkLawsBesides
import Derived.Deep.LoopGhost
import Derived.Deep.RegionHeld3
import Derived.Deep.QuietTactic
import Derived.Deep.CutBlock
import Derived.Deep.DeepCutAuto
import Derived.BigQuiet
import Derived.Maps.AppendAt
import Derived.Laws.Rows
import Derived.Laws.OwnMore
import Derived.Laws.AppendOwnNone
import Derived.Deep.DeepAppendWide
namespace Go.Proofs.YtegpamoglifojaaDoor
open Go.RowKit Wd Ld Cg Lg

theorem cells_at {w : World} {b k : Nat} {cs : Array Value} {e : TypeId} {f : Nat × Nat} {v : Value} (h : w.heap[b]? = some (.cells cs e f)) (hv : cs[k]? = some v) : w.cell? ⟨b, k, none⟩ = some v := by
  unfold World.cell?
  rw [h]
  simpa using hv
theorem frozen_at {w : World} {b k : Nat} {cs : Array Value} {e : TypeId} (h : w.heap[b]? = some (.cells cs e (0, 0))) : w.frozen? ⟨b, k, none⟩ = false := by
  unfold World.frozen?
  rw [h]
  simp
theorem cellB {w w' : World} (b : Below w.heap.size w w') {a : Addr} {v : Value} (h : w.cell? a = some v) : w'.cell? a = some v := (b.cell (World.block_lt_of_cell? w _ h)).trans h
theorem new_cells (w : World) (l : List Value) (t : TypeId) : ∀ j u, l[j]? = some u → (w.alloc (.cells l.toArray t)).cell? ((⟨w.heap.size, 0, none⟩ : Addr).add j) = some u := by
  intro j u hu
  have ha : (⟨w.heap.size, 0, none⟩ : Addr).add j = ⟨w.heap.size, j, none⟩ := by unfold Addr.add; split <;> simp_all
  rw [ha]
  exact cells_at (heap_alloc_new w _) (by simpa using hu)
theorem add_at (g j : Nat) : (⟨g, 0, none⟩ : Addr).add j = ⟨g, j, none⟩ := by unfold Addr.add; split <;> simp_all
theorem add_off (g o j : Nat) : (⟨g, o, none⟩ : Addr).add j = ⟨g, o + j, none⟩ := by unfold Addr.add; split <;> simp_all

/-! ## What may turn -/
/-- Of the blocks that were there only those of K may have turned. -/
structure Chg (K : Nat → Prop) (w w' : World) : Prop where
  os : w'.os = w.os
  tape : w'.tape = w.tape
  output : w'.output = w.output
  size : w.heap.size ≤ w'.heap.size
  block : ∀ k, k < w.heap.size → ¬ K k → w'.heap[k]? = w.heap[k]?
theorem Chg.refl (K : Nat → Prop) (w : World) : Chg K w w := ⟨rfl, rfl, rfl, Nat.le_refl _, fun _ _ _ => rfl⟩
theorem Chg.of_gr {w w' : World} {r : Option Nat} (h : w.grownBy w' r) {K : Nat → Prop} (hK : ∀ k, r = some k → K k ∨ w.heap.size ≤ k) : Chg K w w' :=
  ⟨h.os, h.tape, h.output, h.size, fun k hk hn => h.block k hk (fun e => by rcases hK k e.symm with h | h; exact hn h; omega)⟩
theorem Chg.of_below {w w' : World} (h : Below w.heap.size w w') (K : Nat → Prop) : Chg K w w' := ⟨h.os, h.tape, h.output, h.size, fun k hk _ => h.block k hk⟩
theorem Chg.trans {K K' : Nat → Prop} {w w1 w2 : World} (h : Chg K w w1) (k : Chg K' w1 w2) (hK : ∀ i, i < w.heap.size → K' i → K i) : Chg K w w2 :=
  ⟨k.os.trans h.os, k.tape.trans h.tape, k.output.trans h.output, Nat.le_trans h.size k.size, fun i hi hn => (k.block i (Nat.lt_of_lt_of_le hi h.size) (fun e => hn (hK i hi e))).trans (h.block i hi hn)⟩
theorem Chg.mono {K K' : Nat → Prop} {w w1 : World} (h : Chg K w w1) (hK : ∀ i, i < w.heap.size → K i → K' i) : Chg K' w w1 := ⟨h.os, h.tape, h.output, h.size, fun i hi hn => h.block i hi (fun e => hn (hK i hi e))⟩
theorem Chg.cell {K : Nat → Prop} {w w1 : World} (h : Chg K w w1) {a : Addr} {v : Value} (hc : w.cell? a = some v) (hK : ¬ K a.block) : w1.cell? a = some v :=
  (World.cell?_of_block (h.block a.block (World.block_lt_of_cell? w a hc) hK)).trans hc
theorem Chg.setCell {K : Nat → Prop} {w w1 : World} (h : Chg K w w1) (p : Addr) (v : Value) (hK : K p.block ∨ w.heap.size ≤ p.block) : Chg K w (w1.setCell p v) :=
  ⟨h.os, h.tape, h.output, by rw [World.size_setCell]; exact h.size, fun i hi hn => by
    rw [Below.heap_setCell _ _ _ _ (fun e => by subst e; rcases hK with k | k; exact hn k; omega)]
    exact h.block i hi hn⟩
theorem Chg.alloc {K : Nat → Prop} {w w1 : World} (h : Chg K w w1) (o : Obj) : Chg K w (w1.alloc o) :=
  ⟨h.os, h.tape, h.output, by rw [World.size_alloc]; have := h.size; omega, fun i hi hn => (Below.heap_alloc _ _ _ (Nat.lt_of_lt_of_le hi h.size)).trans (h.block i hi hn)⟩
theorem Chg.drew {K : Nat → Prop} {w w1 : World} (h : Chg K w w1) : Chg K w w1.drew := ⟨h.os, h.tape, h.output, h.size, h.block⟩
theorem Chg.below {K : Nat → Prop} {w0 w w1 : World} {B : Nat} (h : Chg K w w1) (hb : Below B w0 w) (hB : B ≤ w.heap.size) (hK : ∀ i, K i → B ≤ i) : Below B w0 w1 :=
  hb.trans ⟨h.os, h.tape, h.output, h.size, fun k hk => h.block k (by omega) (fun e => by have := hK k e; omega)⟩
theorem drew_below (w : World) : Below w.heap.size w w.drew := ⟨rfl, rfl, rfl, Nat.le_refl _, fun _ _ => rfl⟩

/-! ## Rows -/
theorem row_kept {w w1 : World} {B e sz n : Nat} {v : Value} {vs : List Value} (h : w.ownsRow B e sz v n vs) (b : Below w.heap.size w w1) : w1.ownsRow B e sz v n vs := by
  refine ⟨h.1, ?_⟩
  rcases h.2 with h0 | ⟨g, cap, cur, rfl, hb, hg, r⟩
  · exact .inl h0
  · exact .inr ⟨g, cap, cur, rfl, hb, (b.block g (Array.getElem?_eq_some_iff.1 hg).1).trans hg, r⟩
theorem below_gr {w w1 w2 : World} {v : Value} {vs : List Value} {n B e sz : Nat} (h : Below w.heap.size w w1) (hr : w1.ownsRow B e sz v n vs) (hB : w.heap.size ≤ B) (hg : w1.grownBy w2 v.ownBlock) : Below w.heap.size w w2 :=
  h.grown hg h.size (fun k e => by have := (hr.lt k e).1; omega)
theorem own_base {w : World} {B B' e sz n : Nat} {v : Value} {vs : List Value} (h : w.ownsRow B e sz v n vs) (hb : B' ≤ B) : w.ownsRow B' e sz v n vs := by
  refine ⟨h.1, ?_⟩
  rcases h.2 with h0 | ⟨g, cap, cur, rfl, hg, r⟩
  · exact .inl h0
  · exact .inr ⟨g, cap, cur, rfl, Nat.le_trans hb hg, r⟩
theorem row_same {W W' : World} {B e sz n : Nat} {v : Value} {us : List Value} (h : W.ownsRow B e sz v n us) (hg : ∀ k, v.ownBlock = some k → W'.heap[k]? = W.heap[k]?) : W'.ownsRow B e sz v n us := by
  refine ⟨h.1, ?_⟩
  rcases h.2 with h0 | ⟨g, cap, cur, rfl, hb, hgg, r⟩
  · exact .inl h0
  · exact .inr ⟨g, cap, cur, rfl, hb, (hg g rfl).trans hgg, r⟩
theorem own_tag {W : World} {B e sz n : Nat} {v : Value} {vs : List Value} (h : W.ownsRow B e sz v n vs) : ∀ j, v.ownBlock = some j → ∃ cs, W.heap[j]? = some (.cells cs e (0, 0)) := by
  intro j hj
  rcases h.2 with ⟨rfl, _⟩ | ⟨g, cap, cur, rfl, hb, hg, r⟩
  · simp [Value.ownBlock] at hj
  · simp [Value.ownBlock] at hj
    subst hj
    exact ⟨cur, hg⟩
theorem sl_shape {w : World} {B e sz n : Nat} {v : Value} {vs : List Value} (h : w.ownsRow B e sz v n vs) : ∃ ao c, v = .slice ao n c := by
  rcases h.2 with ⟨rfl, rfl⟩ | ⟨g, cap, cur, rfl, r⟩
  · exact ⟨none, 0, rfl⟩
  · exact ⟨_, cap, rfl⟩
theorem own_some {W : World} {B e n : Nat} {v : Value} {vs : List Value} (h : W.ownsRow B e 1 v (n + 1) vs) : ∃ b cap, v = .slice (some ⟨b, 0, none⟩) (n + 1) cap ∧ n + 1 ≤ cap := by
  rcases h.2 with ⟨_, h0⟩ | ⟨b, cap, cur, h1, _, _, hc, _⟩
  · omega
  · exact ⟨b, cap, h1, hc⟩
theorem made0 (w : World) (te sz : Nat) : (w.alloc (.cells #[] te)).ownsRow w.heap.size te sz (.slice (some ⟨w.heap.size, 0, none⟩) 0 0) 0 [] := ⟨by simp, .inr ⟨w.heap.size, 0, #[], rfl, Nat.le_refl _, heap_alloc_new w _, Nat.le_refl _, by decide, by simp, by simp⟩⟩
theorem wpList_append_any {P : Program} {w : World} {ops : Array Oper} {rest : List Oper} {o : Oper} {a : Act} {Q : Exit → Act → World → Prop} (hgd : o.guard = none) (s x : Operand) (t : TypeId)
    (ho : o.op = .call { callee := .builtin .append, args := #[s, x], argTypes := #[t, t] })
    (base : Nat) (e : TypeId) (i : TypeInfo) (z : Value) (size bytes : Nat) (ht : P.underlying t = some (.slice e)) (hi : P.info? e = some i) (hz : i.zero = some z)
    (hsize : i.size = size) (hby : i.bytes = bytes) (hzs : z.cells.size = size) (hsz : 0 < size)
    (v : Value) (n : Nat) (xs : List Value) (hs : a.eval s = v) (hown : w.ownsRow base e size v n xs)
    (ao : Option Addr) (m c : Nat) (news : List Value) (hx : a.eval x = .slice ao m c) (hnil : ao = none → m = 0 ∧ c = 0) (hl : news.length = m * size) (hnews : ∀ ad, ao = some ad → ∀ j u, news[j]? = some u → w.cell? (ad.add j) = some u) (h1 : ∀ u ∈ news, u.oneCell' = true)
    (h63 : n + m ≤ maxLen) (hbytes : ((n + m) + (n + m) / 4 + 192) * bytes ≤ 281474976710656) (hbase : base ≤ w.heap.size)
    (h : ∀ v' w', w'.ownsRow base e size v' (n + m) (xs ++ news) → w.grownBy w' v.ownBlock → wpList P ops Q rest (a.put o.dst v') w') :
    wpList P ops Q (o :: rest) a w := by
  cases ao with
  | none =>
    obtain ⟨rfl, rfl⟩ := hnil rfl
    have hn0 : news = [] := List.length_eq_zero_iff.1 (by rw [hl]; omega)
    subst hn0
    exact wpList_append_own_none hgd s x t ho base e i size ht hi v n xs hs hown hx (h v w (by simpa using hown) ⟨rfl, rfl, rfl, Nat.le_refl _, fun _ _ _ => rfl⟩)
  | some ad => exact wpList_append_own_wide _ hgd s x t ho base e i z size bytes ht hi hz hsize hby hzs hsz v n xs hs hown ad m c news hx hl (hnews ad rfl) h1 h63 hbytes hbase (fun v' w' g1 g2 _ => h v' w' g1 g2)

/-! ## Lists that came in -/
def IntsAt (W : World) (ao : Option Addr) (l : List Int) : Prop := ∃ g o, (0 < l.length → ao = some ⟨g, o, none⟩) ∧ ∀ k n, l[k]? = some n → W.cell? ⟨g, o + k, none⟩ = some (.int .i64 n)
theorem IntsAt.below {W W' : World} {ao : Option Addr} {l : List Int} (h : IntsAt W ao l) (b : Below W.heap.size W W') : IntsAt W' ao l := by
  obtain ⟨g, o, h1, h2⟩ := h
  exact ⟨g, o, h1, fun k n hn => cellB b (h2 k n hn)⟩
/-- Words as cells. -/
def u64s (l : List Int) : List Value := l.map (Value.int .u64)
theorem u64s_len (l : List Int) : (u64s l).length = l.length := by simp [u64s]
theorem u64s_one (l : List Int) : ∀ u ∈ u64s l, u.oneCell' = true := by
  intro u hu
  obtain ⟨x, _, rfl⟩ := List.mem_map.1 hu
  rfl
theorem u64s_app (a b : List Int) : u64s a ++ u64s b = u64s (a ++ b) := by simp [u64s]
theorem u64s_at {l : List Int} {k : Nat} {u : Int} (h : l[k]? = some u) : (u64s l)[k]? = some (.int .u64 u) := by simp [u64s, h]
def WdsAt (W : World) (ao : Option Addr) (l : List Int) : Prop := ∃ g o, (0 < l.length → ao = some ⟨g, o, none⟩) ∧ ∀ k n, l[k]? = some n → W.cell? ⟨g, o + k, none⟩ = some (.int .u64 n)
theorem WdsAt.below {W W' : World} {ao : Option Addr} {l : List Int} (h : WdsAt W ao l) (b : Below W.heap.size W W') : WdsAt W' ao l := by
  obtain ⟨g, o, h1, h2⟩ := h
  exact ⟨g, o, h1, fun k n hn => cellB b (h2 k n hn)⟩
theorem WdsAt.cells {W : World} {ao : Option Addr} {l : List Int} (h : WdsAt W ao l) : ∀ ad, ao = some ad → ∀ j u, (u64s l)[j]? = some u → W.cell? (ad.add j) = some u := by
  obtain ⟨g, o, h1, h2⟩ := h
  intro ad had j u hu
  have hj : j < l.length := by have := (List.getElem?_eq_some_iff.1 hu).1; rwa [u64s_len] at this
  rw [h1 (by omega)] at had
  cases had
  rw [add_off]
  obtain ⟨x, hx⟩ : ∃ x, l[j]? = some x := ⟨_, List.getElem?_eq_getElem hj⟩
  rw [u64s_at hx] at hu
  cases hu
  exact h2 j x hx
theorem WdsAt.of_row {W : World} {B : Nat} {v : Value} {l : List Int} (h : W.ownsRow B 28 1 v l.length (u64s l)) : ∃ ao c, v = .slice ao l.length c ∧ WdsAt W ao l ∧ (ao = none → l.length = 0 ∧ c = 0) := by
  rcases h.2 with ⟨rfl, h0⟩ | ⟨g, cap, cur, rfl, hb, hg, hnc, hcm, hcs, htake⟩
  · exact ⟨none, 0, by rw [h0], ⟨0, 0, fun h => by omega, fun k n hn => by have := (List.getElem?_eq_some_iff.1 hn).1; omega⟩, fun _ => ⟨h0, rfl⟩⟩
  · refine ⟨_, cap, rfl, ⟨g, 0, fun _ => rfl, fun k n hn => ?_⟩, fun h => by cases h⟩
    have hk := (List.getElem?_eq_some_iff.1 hn).1
    rw [Nat.zero_add, h.cellAt k (by omega), u64s_at hn]

/-! ## Ledgers -/
/-- A ledger: its head at d (of type T), its usages in a row of its own. -/
structure Lg1 (T : TypeId) (hd : Value → Array Value) (B : Nat) (W : World) (d : Nat) (v : Value) (l : List Int) : Prop where
  blk : W.heap[d]? = some (.cells (hd v) T (0, 0))
  row : W.ownsRow B 28 1 v l.length (u64s l)
  lo : B ≤ d
  wds : Wds l
  few : l.length ≤ 1000000
/-- The blocks of a ledger. -/
def LK (d : Nat) (v : Value) (j : Nat) : Prop := j = d ∨ v.ownBlock = some j
/-- What a package's ledger's head holds, and what the reference's. -/
def pH (n f : Int) (v : Value) : Array Value := #[v, .int .i64 n, .int .u64 f]
def rH (c : Cf) (f : Int) (v : Value) : Array Value := #[.int .i64 c.nodes, .int .i64 c.queue, .int .i64 c.limit, .int .i64 c.age, .int .i64 c.fair, .int .i64 c.size, .int .i64 c.period, .int .i64 c.half, .int .u64 f, v]
abbrev Led (n f : Int) := Lg1 50 (pH n f)
abbrev RLed (c : Cf) (f : Int) := Lg1 73 (rH c f)
section
variable {T : TypeId} {hd : Value → Array Value} {B : Nat} {W W' : World} {d : Nat} {v : Value} {l : List Int} {K : Nat → Prop}
theorem Lg1.lk_lt (h : Lg1 T hd B W d v l) : ∀ k, LK d v k → k < W.heap.size := fun k hk => by
  rcases hk with rfl | hk
  · exact (Array.getElem?_eq_some_iff.1 h.blk).1
  · exact (h.row.lt k hk).2
theorem Lg1.lk_lo (h : Lg1 T hd B W d v l) : ∀ k, LK d v k → B ≤ k := fun k hk => by
  rcases hk with rfl | hk
  · exact h.lo
  · exact (h.row.lt k hk).1
theorem Lg1.below (h : Lg1 T hd B W d v l) (b : Below W.heap.size W W') : Lg1 T hd B W' d v l :=
  ⟨(b.block d (Array.getElem?_eq_some_iff.1 h.blk).1).trans h.blk, row_kept h.row b, h.lo, h.wds, h.few⟩
theorem Lg1.chg (h : Lg1 T hd B W d v l) (c : Chg K W W') (hK : ∀ k, LK d v k → ¬ K k) : Lg1 T hd B W' d v l :=
  ⟨(c.block d (h.lk_lt d (.inl rfl)) (hK d (.inl rfl))).trans h.blk, row_same h.row (fun k hk => c.block k (h.lk_lt k (.inr hk)) (hK k (.inr hk))), h.lo, h.wds, h.few⟩
theorem Lg1.base {B' : Nat} (h : Lg1 T hd B W d v l) (hb : B' ≤ B) : Lg1 T hd B' W d v l := ⟨h.blk, own_base h.row hb, Nat.le_trans hb h.lo, h.wds, h.few⟩
theorem Lg1.bel {w : World} (h : Lg1 T hd B W d v l) (c : Chg (LK d v) W W') (hb : Below B w W) (hB : B ≤ W.heap.size) : Below B w W' := c.below hb hB h.lk_lo
theorem Lg1.shape (h : Lg1 T hd B W d v l) : ∃ ao c, v = .slice ao l.length c ∧ WdsAt W ao l ∧ (ao = none → l.length = 0 ∧ c = 0) := WdsAt.of_row h.row
theorem Lg1.at (h : Lg1 T hd B W d v l) {k : Nat} {u : Int} (hk : l[k]? = some u) : ∃ g c, v = .slice (some ⟨g, 0, none⟩) l.length c ∧ W.cell? ⟨g, k, none⟩ = some (.int .u64 u) ∧ W.frozen? ⟨g, k, none⟩ = false := by
  have hlt := (List.getElem?_eq_some_iff.1 hk).1
  rcases h.row.2 with ⟨_, h0⟩ | ⟨g, cap, cur, rfl, r⟩
  · omega
  · exact ⟨g, cap, rfl, by rw [h.row.cellAt k (by omega), u64s_at hk], h.row.frozenAt k⟩
/-- One usage is written. -/
theorem Lg1.set (h : Lg1 T hd B W d v l) (hT : T ≠ 28) {g k : Nat} {x : Int} (hx : Word x) (hg : v.ownBlock = some g) : Lg1 T hd B (W.setCell ⟨g, k, none⟩ (.int .u64 x)) d v (l.set k x) ∧ Chg (LK d v) W (W.setCell ⟨g, k, none⟩ (.int .u64 x)) := by
  rcases h.row.2 with ⟨rfl, _⟩ | ⟨g', cap, cur, rfl, hb, hgg, r⟩
  · simp [Value.ownBlock] at hg
  · simp [Value.ownBlock] at hg
    subst hg
    have hne : d ≠ g' := fun e => by subst e; have := h.blk; rw [hgg] at this; cases this; exact hT rfl
    have hs := h.row.stored k (.int .u64 x)
    refine ⟨⟨?_, ?_, h.lo, ?_, by simpa using h.few⟩, (Chg.refl _ W).setCell _ _ (.inl (.inr rfl))⟩
    · rw [Below.heap_setCell _ _ _ _ (by simpa using hne)]; exact h.blk
    · have e : (u64s l).set k (.int .u64 x) = u64s (l.set k x) := by simp [u64s, List.map_set]
      rw [← e, List.length_set]
      exact hs.1
    · intro u hu
      rcases List.mem_or_eq_of_mem_set hu with y | rfl
      · exact h.wds u y
      · exact hx
end
theorem Led.c0 {n f : Int} {B : Nat} {W : World} {d : Nat} {v : Value} {l : List Int} (h : Led n f B W d v l) : W.cell? ⟨d, 0, none⟩ = some v := cells_at h.blk rfl
theorem Led.c1 {n f : Int} {B : Nat} {W : World} {d : Nat} {v : Value} {l : List Int} (h : Led n f B W d v l) : W.cell? ⟨d, 1, none⟩ = some (.int .i64 n) := cells_at h.blk rfl
theorem Led.c2 {n f : Int} {B : Nat} {W : World} {d : Nat} {v : Value} {l : List Int} (h : Led n f B W d v l) : W.cell? ⟨d, 2, none⟩ = some (.int .u64 f) := cells_at h.blk rfl
theorem RLed.c0 {c : Cf} {f : Int} {B : Nat} {W : World} {d : Nat} {v : Value} {l : List Int} (h : RLed c f B W d v l) : W.cell? ⟨d, 0, none⟩ = some (.int .i64 c.nodes) := cells_at h.blk rfl
theorem RLed.c8 {c : Cf} {f : Int} {B : Nat} {W : World} {d : Nat} {v : Value} {l : List Int} (h : RLed c f B W d v l) : W.cell? ⟨d, 8, none⟩ = some (.int .u64 f) := cells_at h.blk rfl
theorem RLed.c9 {c : Cf} {f : Int} {B : Nat} {W : World} {d : Nat} {v : Value} {l : List Int} (h : RLed c f B W d v l) : W.cell? ⟨d, 9, none⟩ = some v := cells_at h.blk rfl
theorem Tryd.inf28 : (Tryd.prog.info? 28).map (fun i => (i.zero, i.size, i.bytes)) = some (some (.int .u64 0), 1, 8) := by kernel_rfl
end Go.Proofs.YtegpamoglifojaaDoor
