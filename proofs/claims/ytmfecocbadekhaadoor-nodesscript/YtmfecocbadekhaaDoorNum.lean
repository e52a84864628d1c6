/-
  Frames; the statements' lists that were handed out ('numbers'), in memory; holds.
-/
import Derived.Test.YtmfecocbadekhaaDoorRefD
import Derived.Test.YtmfecocbadekhaaDoorClone
import Derived.Deep.QuietTactic
import Derived.BigQuiet
namespace Go.Proofs.YtmfecocbadekhaaDoor
open Go.RowKit Nd

/-- Of the blocks that were there only those of K may have turned. -/
structure Chg (K : Nat → Prop) (w w' : World) : Prop where
  os : w'.os = w.os
  tape : w'.tape = w.tape
  output : w'.output = w.output
  size : w.heap.size ≤ w'.heap.size
  block : ∀ k, k < w.heap.size → ¬ K k → w'.heap[k]? = w.heap[k]?
theorem Chg.refl (K : Nat → Prop) (w : World) : Chg K w w := ⟨rfl, rfl, rfl, Nat.le_refl _, fun _ _ _ => rfl⟩
theorem Chg.of_gr {w w' : World} {r : Option Nat} (h : w.grownBy w' r) {K : Nat → Prop} (hK : ∀ k, r = some k → K k ∨ w.heap.size ≤ k) : Chg K w w' :=
  ⟨h.os, h.tape, h.output, h.size, fun k hk hn => h.block k hk (fun e => by rcases hK k e.symm with h | h; exact hn h; omega)⟩
theorem Chg.of_below {w w' : World} (h : Below w.heap.size w w') (K : Nat → Prop) : Chg K w w' := ⟨h.os, h.tape, h.output, h.size, fun k hk _ => h.block k hk⟩
theorem Chg.trans {K K' : Nat → Prop} {w w1 w2 : World} (h : Chg K w w1) (k : Chg K' w1 w2) (hK : ∀ i, i < w.heap.size → K' i → K i) : Chg K w w2 :=
  ⟨k.os.trans h.os, k.tape.trans h.tape, k.output.trans h.output, Nat.le_trans h.size k.size, fun i hi hn => (k.block i (Nat.lt_of_lt_of_le hi h.size) (fun e => hn (hK i hi e))).trans (h.block i hi hn)⟩
theorem Chg.mono {K K' : Nat → Prop} {w w1 : World} (h : Chg K w w1) (hK : ∀ i, i < w.heap.size → K i → K' i) : Chg K' w w1 := ⟨h.os, h.tape, h.output, h.size, fun i hi hn => h.block i hi (fun e => hn (hK i hi e))⟩
theorem Chg.below {K : Nat → Prop} {w0 w w1 : World} {B : Nat} (h : Chg K w w1) (hb : Below B w0 w) (hB : B ≤ w.heap.size) (hK : ∀ i, K i → B ≤ i) : Below B w0 w1 :=
  hb.trans ⟨h.os, h.tape, h.output, h.size, fun k hk => h.block k (by omega) (fun e => by have := hK k e; omega)⟩
theorem own_lt {w : World} {base e n cap g : Nat} {xs : List Value} (h : w.ownsRow base e 1 (.slice (some ⟨g, 0, none⟩) n cap) n xs) : g < w.heap.size := by
  rcases h.2 with ⟨hv, _⟩ | ⟨g', cap', cur, hv, _, hg, _⟩
  · simp at hv
  · simp at hv
    obtain ⟨rfl, _⟩ := hv
    exact (Array.getElem?_eq_some_iff.1 hg).1
/-- The blocks of a slice's address. -/
def ablk (ao : Option Addr) : List Nat := (ao.map (·.block)).toList
theorem Chg.own {K : Nat → Prop} {w w1 : World} (h : Chg K w w1) {base e n cap : Nat} {ao : Option Addr} {xs : List Value} (ho : w.ownsRow base e 1 (.slice ao n cap) n xs) (hK : ∀ i ∈ ablk ao, ¬ K i) : w1.ownsRow base e 1 (.slice ao n cap) n xs := by
  refine ⟨ho.1, ?_⟩
  rcases ho.2 with hv | ⟨g, cap', cur, hv, hb, hg, rest⟩
  · exact .inl hv
  · refine .inr ⟨g, cap', cur, hv, hb, ?_, rest⟩
    simp at hv
    rw [h.block g (Array.getElem?_eq_some_iff.1 hg).1 (hK g (by simp [ablk, hv.1]))]
    exact hg
theorem Chg.set {K : Nat → Prop} {w w1 : World} (h : Chg K w w1) {b n F : Nat} (hs : SetIn w b n F) (h0 : ¬ K 0) (hb : ¬ K b) : SetIn w1 b n F :=
  ⟨fun j hj => by
    have hc := hs.tab j hj
    have hlt := World.block_lt_of_cell? w _ hc
    rw [World.cell?_of_block (h.block 0 hlt h0)]
    exact hc, hs.nz, by rw [h.block b hs.lt hb]; exact hs.blk, hs.lo, hs.hi, hs.top⟩
theorem Chg.ref {K : Nat → Prop} {w w1 : World} (h : Chg K w w1) {d g cap n F : Nat} (hs : RefIn w d g cap n F) (hd : ¬ K d) (hg : ¬ K g) : RefIn w1 d g cap n F :=
  ⟨hs.dg, by rw [h.block d hs.dlt hd]; exact hs.blk, h.own hs.row (fun i hi => by simp [ablk] at hi; rw [hi]; exact hg), hs.hi, hs.top⟩
theorem Chg.cell {K : Nat → Prop} {w w1 : World} (h : Chg K w w1) {a : Addr} {v : Value} (hc : w.cell? a = some v) (hK : ¬ K a.block) : w1.cell? a = some v :=
  (World.cell?_of_block (h.block a.block (World.block_lt_of_cell? w a hc) hK)).trans hc

def ints (xs : List Int) : List Value := xs.map (Value.int .i64)
theorem ints_len (xs : List Int) : (ints xs).length = xs.length := by simp [ints]
/-- A list that was handed out, and what it must read as. -/
structure Ent where
  ao : Option Addr
  co : Nat
  gw : Nat
  cw : Nat
  xs : List Int
def Ent.o (e : Ent) : Value := .slice e.ao e.xs.length e.co
def Ent.w (e : Ent) : Value := .slice (some ⟨e.gw, 0, none⟩) e.xs.length e.cw
def Ent.blk (e : Ent) : List Nat := ablk e.ao ++ [e.gw]
structure EntIn (w : World) (e : Ent) : Prop where
  out : w.ownsRow 0 3 1 (.slice e.ao e.xs.length e.co) e.xs.length (ints e.xs)
  want : w.ownsRow 0 3 1 (.slice (some ⟨e.gw, 0, none⟩) e.xs.length e.cw) e.xs.length (ints e.xs)
  small : e.xs.length ≤ 1000
/-- All blocks of the lists that were handed out. -/
def foot (ao aw : Option Addr) (es : List Ent) : List Nat := ablk ao ++ (ablk aw ++ es.flatMap Ent.blk)
structure Nums (w : World) (H : Nat) (ao aw : Option Addr) (co cw : Nat) (es : List Ent) : Prop where
  blk : w.heap[H]? = some (.cells #[.slice ao es.length co, .slice aw es.length cw] 34 (0, 0))
  out : w.ownsRow 0 37 1 (.slice ao es.length co) es.length (es.map Ent.o)
  want : w.ownsRow 0 37 1 (.slice aw es.length cw) es.length (es.map Ent.w)
  ent : ∀ e ∈ es, EntIn w e
  nodup : (H :: foot ao aw es).Nodup
  few : es.length ≤ 1000

theorem own_read {w : World} {ao : Option Addr} {n cap : Nat} {xs : List Int} (h : w.ownsRow 0 3 1 (.slice ao n cap) n (ints xs)) : ∃ g, (0 < n → ao = some ⟨g, 0, none⟩) ∧ ∀ j, j < n → w.cell? ⟨g, 0 + j, none⟩ = some (.int .i64 (nthI xs j)) := by
  have hl : xs.length = n := by have := h.1; simpa [ints] using this
  rcases owns_shape h with ⟨hv, h0⟩ | ⟨g, cap', hv, _, _⟩
  · exact ⟨0, fun h => by omega, fun j hj => by omega⟩
  · simp at hv
    obtain ⟨rfl, rfl⟩ := hv
    refine ⟨g, fun _ => rfl, fun j hj => ?_⟩
    have := h.cells (g := g) rfl j (.int .i64 (nthI xs j)) (by simp [ints, nthI, hl, hj])
    have ha : (⟨g, 0, none⟩ : Addr).add j = ⟨g, 0 + j, none⟩ := by unfold Addr.add; split <;> simp_all
    rwa [ha] at this
theorem row_at {w : World} {ao : Option Addr} {n cap e : Nat} {vs : List Value} (h : w.ownsRow 0 e 1 (.slice ao n cap) n vs) (k : Nat) (hk : k < n) : ∃ g, ao = some ⟨g, 0, none⟩ ∧ ∀ v, vs[k]? = some v → w.cell? ⟨g, k, none⟩ = some v := by
  rcases owns_shape h with ⟨hv, h0⟩ | ⟨g, cap', hv, _, _⟩
  · omega
  · simp at hv
    obtain ⟨rfl, rfl⟩ := hv
    refine ⟨g, rfl, fun v hv => ?_⟩
    have := h.cells (g := g) rfl k v hv
    have ha : (⟨g, 0, none⟩ : Addr).add k = ⟨g, k, none⟩ := by unfold Addr.add; split <;> simp_all
    rwa [ha] at this

section
variable {w : World} {H : Nat} {ao aw : Option Addr} {co cw : Nat} {es : List Ent}
theorem Nums.c0 (h : Nums w H ao aw co cw es) : w.cell? ⟨H, 0, none⟩ = some (.slice ao es.length co) := by simp [World.cell?, h.blk]
theorem Nums.c1 (h : Nums w H ao aw co cw es) : w.cell? ⟨H, 1, none⟩ = some (.slice aw es.length cw) := by simp [World.cell?, h.blk]
theorem Nums.lt (h : Nums w H ao aw co cw es) : H < w.heap.size := (Array.getElem?_eq_some_iff.1 h.blk).1
end

theorem same_yes (g o m cap g' o' m' cap' : Nat) (ao ao' : Option Addr) (f f' : Nat → Int) (w : World) (hao : 0 < m → ao = some ⟨g, o, none⟩) (hao' : 0 < m' → ao' = some ⟨g', o', none⟩) (hm : m ≤ 140737488355328) (hm' : m' ≤ 140737488355328)
    (hc : ∀ j, j < m → w.cell? ⟨g, o + j, none⟩ = some (.int .i64 (f j))) (hc' : ∀ j, j < m' → w.cell? ⟨g', o' + j, none⟩ = some (.int .i64 (f' j))) (hs : sameB m m' f f' = true) :
    Calls Tryd.prog 13 #[.slice ao m cap, .slice ao' m' cap'] w fun e w' => e = .returned (.bool true) ∧ ∃ q, w' = w.drewN q := by
  have := same_any g o m cap g' o' m' cap' ao ao' f f' w hao hao' hm hm' hc hc'
  rwa [hs] at this

set_option maxHeartbeats 1000000 in
theorem holds_any (H : Nat) (ao aw : Option Addr) (co cw : Nat) (es : List Ent) (w : World) (h : Nums w H ao aw co cw es) :
    Calls Tryd.prog 10 #[.pointer (some ⟨H, 0, none⟩)] w fun e w' => e = .returned (.bool true) ∧ ∃ q, w' = w.drewN q := by
  have c0 := h.c0
  have c1 := h.c1
  have hfew := h.few
  obtain ⟨n, hn⟩ : ∃ n, es.length = n := ⟨_, rfl⟩
  have HN : Hid (es.length = n) := hn
  rw [hn] at c0 c1 hfew
  clear hn
  go_enter Tryd.func10, Tryd.ntmps10
  go_wp2
  go_loopg [3] n (fun gk c wr => ∃ k q : Nat, k + gk = n ∧ c = .int .i64 k ∧ wr = w.drewN q)
  case atStart => exact ⟨0, 0, by omega, rfl, rfl⟩
  case round =>
    obtain ⟨k, q, hk, rfl, rfl⟩ := hrel
    by_cases hlt : k < n
    · have hke : k < es.length := by rw [HN.out]; exact hlt
      have hE := h.ent es[k] (List.getElem_mem hke)
      obtain ⟨go, hgo, hco'⟩ := row_at h.out k hke
      obtain ⟨gw, hgw, hcw'⟩ := row_at h.want k hke
      have hco := hco' es[k].o (by simp [hke])
      have hcw := hcw' es[k].w (by simp [hke])
      clear hco' hcw'
      subst hgo
      subst hgw
      obtain ⟨e, he⟩ : ∃ e, es[k] = e := ⟨_, rfl⟩
      rw [he] at hE hco hcw
      clear he
      obtain ⟨g1, a1, r1⟩ := own_read hE.out
      obtain ⟨g2, a2, r2⟩ := own_read hE.want
      have hsm := hE.small
      unfold Ent.o at hco
      unfold Ent.w at hcw
      have d0 : (w.drewN q).cell? ⟨H, 0, none⟩ = _ := c0
      have d1 : (w.drewN q).cell? ⟨H, 1, none⟩ = _ := c1
      have do' : (w.drewN q).cell? ⟨go, k, none⟩ = _ := hco
      have dw : (w.drewN q).cell? ⟨gw, k, none⟩ = _ := hcw
      have s1 : ∀ j, j < e.xs.length → (w.drewN q).cell? ⟨g1, 0 + j, none⟩ = some (.int .i64 (nthI e.xs j)) := r1
      have s2 : ∀ j, j < e.xs.length → (w.drewN q).cell? ⟨g2, 0 + j, none⟩ = some (.int .i64 (nthI e.xs j)) := r2
      obtain ⟨W, hW⟩ : ∃ W, w.drewN q = W := ⟨_, rfl⟩
      have HW : Hid (w.drewN q = W) := hW
      rw [hW] at d0 d1 do' dw s1 s2 ⊢
      clear hW c0 c1 hco hcw r1 r2 hE
      have S1 : Hid (∀ j, j < e.xs.length → W.cell? ⟨g1, 0 + j, none⟩ = some (.int .i64 (nthI e.xs j))) := s1
      have S2 : Hid (∀ j, j < e.xs.length → W.cell? ⟨g2, 0 + j, none⟩ = some (.int .i64 (nthI e.xs j))) := s2
      clear s1 s2
      go_wp2
      go_quiet ((go_at_call 13; refine Calls.quiet_of (same_yes g1 0 _ _ g2 0 _ _ _ _ (nthI e.xs) (nthI e.xs) _ a1 a2 (by omega) (by omega) ?_ ?_ (same_self _ _ _ (fun _ _ => rfl))); (exact S1.out); (exact S2.out)))
      go_wp2
      go_roundg (n - (k + 1))
      case measure => omega
      case rel => exact ⟨k + 1, q + nq, by omega, by go_num, by rw [← HW.out]; simp⟩
    · go_wp2
      go_ret
      exact ⟨rfl, q, rfl⟩
end Go.Proofs.YtmfecocbadekhaaDoor
