/-
 LAYER 16: an Ideal in memory; has, Open, Charge, Fade, Clone.
 LAYER 16: package ideal: Open, Charge, Fade, Clone.
 LAYER 16: package ideal: Fade, Clone.
 LAYER 16: package ideal: Clone, New.
-/
import Derived.Test.YtdkbmligaodpmaaGreatDoorXiez
import Derived.Test.YtdkbmligaodpmaaGreatDoorBndXqz
import Derived.Test.YtdkbmligaodpmaaGreatDoorXcqz
import Derived.Deep.LoopGhost
import Derived.Maps.AppendAt
import Derived.Lib.SliceRun
namespace Go.Proofs.YtdkbmligaodpmaaGreatDoor
open Go.RowKit Wd Tr Cg

/- ROWS OF BOUNDS. -/
def en4 (b : Bd) : List Value := [.int .u64 (hiW b.lo), .int .u64 (loW b.lo), .int .u64 (hiW b.hi), .int .u64 (loW b.hi)]
def flat4 : List Bd → List Value
 | [] => []
 | b :: L => en4 b ++ flat4 L
theorem flat4_len : ∀ L : List Bd, (flat4 L).length = L.length * 4
 | [] => rfl
 | b :: L => by simp only [flat4, en4, List.length_append, List.length_cons, List.length_nil, flat4_len L]; omega
theorem flat4_app : ∀ L M : List Bd, flat4 (L ++ M) = flat4 L ++ flat4 M
 | [], _ => rfl
 | b :: L, M => by simp only [List.cons_append, flat4, flat4_app L M, List.append_assoc]
theorem flat4_one : ∀ L : List Bd, ∀ u ∈ flat4 L, u.oneCell' = true
 | [], u, h => by cases h
 | b :: L, u, h => by
  rcases List.mem_append.1 h with h | h
  ·simp only [en4, List.mem_cons, List.not_mem_nil, or_false] at h
   rcases h with rfl | rfl | rfl | rfl <;> rfl
  ·exact flat4_one L u h
theorem flat4_at : ∀ {L : List Bd} {k : Nat} {b : Bd}, L[k]? = some b → (flat4 L)[k * 4]? = some (.int .u64 (hiW b.lo)) ∧ (flat4 L)[k * 4 + 1]? = some (.int .u64 (loW b.lo)) ∧ (flat4 L)[k * 4 + 2]? = some (.int .u64 (hiW b.hi)) ∧ (flat4 L)[k * 4 + 2 + 1]? = some (.int .u64 (loW b.hi))
 | [], k, b, h => by simp at h
 | c :: L, 0, b, h => by
  simp only [List.getElem?_cons_zero, Option.some.injEq] at h
  subst h
  exact ⟨rfl, rfl, rfl, rfl⟩
 | c :: L, k + 1, b, h => by
  simp only [List.getElem?_cons_succ] at h
  obtain ⟨h0, h1, h2, h3⟩ := flat4_at h
  have e : (k + 1) * 4 = k * 4 + 4 := by omega
  rw [e]
  exact ⟨h0, h1, h2, h3⟩
theorem flat4_set : ∀ {L : List Bd} {k : Nat}, k < L.length → ∀ b : Bd, ((((flat4 L).set (k * 4) (.int .u64 (hiW b.lo))).set (k * 4 + 1) (.int .u64 (loW b.lo))).set (k * 4 + 2) (.int .u64 (hiW b.hi))).set (k * 4 + 2 + 1) (.int .u64 (loW b.hi)) = flat4 (L.set k b)
 | [], k, h, _ => by simp at h
 | c :: L, 0, _, b => rfl
 | c :: L, k + 1, h, b => by
  have ih := flat4_set (L := L) (k := k) (by simpa using h) b
  have e : (k + 1) * 4 = k * 4 + 4 := by omega
  rw [e, List.set_cons_succ]
  show en4 c ++ _ = en4 c ++ _
  rw [← ih]
  rfl
theorem row_bd {W : World} {B g cap : Nat} {L : List Bd} (h : W.ownsRow B 100 4 (.slice (some ⟨g, 0, none⟩) L.length cap) L.length (flat4 L)) {k : Nat} {b : Bd} (hk : L[k]? = some b) :
  ∃ cs, W.heap[g]? = some (.cells cs 100 (0, 0)) ∧ BdAt cs (k * 4) b ∧ ∀ (W' : World) (b' : Bd), W'.heap[g]? = some (.cells (put4 cs (k * 4) b') 100 (0, 0)) → W'.ownsRow B 100 4 (.slice (some ⟨g, 0, none⟩) L.length cap) (L.set k b').length (flat4 (L.set k b')) := by
 have hlt := (List.getElem?_eq_some_iff.1 hk).1
 rcases h.2 with ⟨h0, _⟩ | ⟨g', cap', cs, hv, hb, hg, hnc, hcm, hcs, htake⟩
 ·cases h0
 ·cases hv
  have key : ∀ j v, j < L.length * 4 → (flat4 L)[j]? = some v → cs[j]? = some v := fun j v hj hv => by
   rw [← htake, List.getElem?_take, if_pos hj] at hv
   simpa using hv
  obtain ⟨a0, a1, a2, a3⟩ := flat4_at hk
  refine ⟨cs, hg, ⟨key _ _ (by omega) a0, key _ _ (by omega) a1, key _ _ (by omega) a2, key _ _ (by omega) a3⟩, fun W' b' hW => ?_⟩
  rw [List.length_set]
  refine ⟨by rw [flat4_len, List.length_set], .inr ⟨g, cap, _, rfl, hb, hW, hnc, hcm, by simpa [put4, put2] using hcs, ?_⟩⟩
  rw [← flat4_set hlt b', ← htake]
  simp only [put4, put2, Array.toList_setIfInBounds, List.take_set]

/- AN IDEAL. -/
def flo (c : Cf) : Int := cZ c * 4294967296
def idH (c : Cf) (v : Value) : Array Value := #[v, .int .i64 c.nodes, .int .i64 c.age, .int .i64 c.fair, .int .i64 c.size, .int .u64 (flo c), .int .u64 (frs c), .int .u64 (snd c)]
structure Idl (c : Cf) (B : Nat) (W : World) (d : Nat) (v : Value) (L : List Bd) : Prop where
 blk : W.heap[d]? = some (.cells (idH c v) 96 (0, 0))
 row : W.ownsRow B 100 4 v L.length (flat4 L)
 lo : B ≤ d
 ok : ∀ b ∈ L, b.Ok
 few : L.length ≤ 1000000
def IK (d : Nat) (v : Value) (j : Nat) : Prop := j = d ∨ v.ownBlock = some j
section
variable {c : Cf} {B : Nat} {W W' : World} {d : Nat} {v : Value} {L : List Bd} {K : Nat → Prop}
theorem Idl.lt (h : Idl c B W d v L) : ∀ k, IK d v k → k < W.heap.size := fun k hk => by
 rcases hk with rfl | hk
 ·exact (Array.getElem?_eq_some_iff.1 h.blk).1
 ·exact (h.row.lt k hk).2
theorem Idl.low (h : Idl c B W d v L) : ∀ k, IK d v k → B ≤ k := fun k hk => by
 rcases hk with rfl | hk
 ·exact h.lo
 ·exact (h.row.lt k hk).1
theorem Idl.below (h : Idl c B W d v L) (b : Below W.heap.size W W') : Idl c B W' d v L :=
 ⟨heapK h.blk b, row_kept h.row b, h.lo, h.ok, h.few⟩
theorem Idl.chg (h : Idl c B W d v L) (x : Chg K W W') (hK : ∀ k, IK d v k → ¬ K k) : Idl c B W' d v L :=
 ⟨(x.block d (h.lt d (.inl rfl)) (hK d (.inl rfl))).trans h.blk, row_same h.row (fun k hk => x.block k (h.lt k (.inr hk)) (hK k (.inr hk))), h.lo, h.ok, h.few⟩
theorem Idl.base {B' : Nat} (h : Idl c B W d v L) (hb : B' ≤ B) : Idl c B' W d v L := ⟨h.blk, own_base h.row hb, Nat.le_trans hb h.lo, h.ok, h.few⟩
theorem Idl.shape (h : Idl c B W d v L) : ∃ ao cp, v = .slice ao L.length cp := sl_shape h.row
theorem Idl.apart (h : Idl c B W d v L) : ¬ v.ownBlock = some d := fun e => by
 obtain ⟨cs, hcs⟩ := own_tag h.row d e
 rw [h.blk] at hcs
 cases hcs
theorem Idl.c0 (h : Idl c B W d v L) : W.cell? ⟨d, 0, none⟩ = some v := (cell_of h.blk rfl).1
theorem Idl.c1 (h : Idl c B W d v L) : W.cell? ⟨d, 1, none⟩ = some (.int .i64 c.nodes) := (cell_of h.blk rfl).1
theorem Idl.c2 (h : Idl c B W d v L) : W.cell? ⟨d, 2, none⟩ = some (.int .i64 c.age) := (cell_of h.blk rfl).1
theorem Idl.c3 (h : Idl c B W d v L) : W.cell? ⟨d, 3, none⟩ = some (.int .i64 c.fair) := (cell_of h.blk rfl).1
theorem Idl.c4 (h : Idl c B W d v L) : W.cell? ⟨d, 4, none⟩ = some (.int .i64 c.size) := (cell_of h.blk rfl).1
theorem Idl.c5 (h : Idl c B W d v L) : W.cell? ⟨d, 5, none⟩ = some (.int .u64 (flo c)) := (cell_of h.blk rfl).1
theorem Idl.c6 (h : Idl c B W d v L) : W.cell? ⟨d, 6, none⟩ = some (.int .u64 (frs c)) := (cell_of h.blk rfl).1
theorem Idl.c7 (h : Idl c B W d v L) : W.cell? ⟨d, 7, none⟩ = some (.int .u64 (snd c)) := (cell_of h.blk rfl).1
theorem Idl.wrote (h : Idl c B W d v L) {k : Nat} {b : Bd} (hk : L[k]? = some b) : ∃ g cp cs, v = .slice (some ⟨g, 0, none⟩) L.length cp ∧ W.heap[g]? = some (.cells cs 100 (0, 0)) ∧ BdAt cs (k * 4) b ∧
  ∀ (W' : World) (b' : Bd), b'.Ok → W'.heap[g]? = some (.cells (put4 cs (k * 4) b') 100 (0, 0)) → Chg (fun j => j = g) W W' → Idl c B W' d v (L.set k b') ∧ Chg (IK d v) W W' := by
 have hlt := (List.getElem?_eq_some_iff.1 hk).1
 have hap := h.apart
 rcases h.row.2 with ⟨_, h0⟩ | ⟨g, cp, cur, rfl, r⟩
 ·omega
 ·obtain ⟨cs, hg, hbd, hput⟩ := row_bd h.row hk
  refine ⟨g, cp, cs, rfl, hg, hbd, fun W' b' hok' hW hC => ⟨⟨?_, ?_, h.lo, fun x hx => ?_, by simpa using h.few⟩, hC.mono (fun i _ e => .inr (by rw [e]; rfl))⟩⟩
  ·exact (hC.block d (h.lt d (.inl rfl)) (fun e => hap (by rw [e]; rfl))).trans h.blk
  ·exact hput W' b' hW
  ·rcases List.mem_or_eq_of_mem_set hx with y | rfl
   ·exact h.ok x y
   ·exact hok'
end
def okA (L : List Bd) (a : Int) : Bool := decide (0 ≤ a) && decide (a < L.length)
theorem okA_iff {L : List Bd} {a : Int} : okA L a = true ↔ 0 ≤ a ∧ a < L.length := by simp [okA]
theorem okA_of {l : List Bd} {a : Int} (h0 : 0 ≤ a) (h1 : a < l.length) : okA l a = true := okA_iff.2 ⟨h0, h1⟩
theorem okA_lo {l : List Bd} {a : Int} (h0 : ¬ 0 ≤ a) : okA l a = false := by simp [okA]; omega
theorem okA_hi {l : List Bd} {a : Int} (h1 : ¬ a < l.length) : okA l a = false := by simp [okA]; omega
theorem ihas_any {c : Cf} {B : Nat} {w : World} {d : Nat} {v : Value} {L : List Bd} (h : Idl c B w d v L) (a : Int) :
  Calls Tryz.prog 41 #[.pointer (some ⟨d, 0, none⟩), .int .i64 a] w fun e w' => e = .returned (.bool (okA L a)) ∧ w' = w := by
 obtain ⟨ao, cp, rfl⟩ := h.shape
 have c0 := h.c0
 clear h
 by_cases h0 : 0 ≤ a
 ·by_cases h1 : a < L.length
  ·rw [okA_of h0 h1]
   go_enter Tryz.func41, Tryz.ntmps41
   go_wp2
   go_ret
   exact ⟨rfl, rfl⟩
  ·rw [okA_hi h1]
   go_enter Tryz.func41, Tryz.ntmps41
   go_wp2
   go_ret
   exact ⟨rfl, rfl⟩
 ·rw [okA_lo h0]
  go_enter Tryz.func41, Tryz.ntmps41
  go_wp2
  go_ret
  exact ⟨rfl, rfl⟩
end Go.Proofs.YtdkbmligaodpmaaGreatDoor
namespace Go.Proofs.YtdkbmligaodpmaaGreatDoor
open Go.RowKit Wd Tr Cg

theorem Tryz.infUs : (Tryz.prog.info? 100).map (fun i => (i.zero, i.size, i.bytes)) = some (some (.agg #[.int .u64 0, .int .u64 0, .int .u64 0, .int .u64 0]), 4, 32) := by kernel_rfl
theorem own_slice {W : World} {B e sz n : Nat} {v : Value} {vs : List Value} (h : W.ownsRow B e sz v (n + 1) vs) : ∃ b cap, v = .slice (some ⟨b, 0, none⟩) (n + 1) cap ∧ n + 1 ≤ cap := by
 rcases h.2 with ⟨_, h0⟩ | ⟨b, cap, cur, h1, _, _, hc, _⟩
 ·omega
 ·exact ⟨b, cap, h1, hc⟩
theorem Idl.opened {c : Cf} {B : Nat} {W w1 : World} {d : Nat} {v v' : Value} {L : List Bd} (h : Idl c B W d v L) (hf : L.length < 1000000)
  (hrow : w1.ownsRow B 100 4 v' (L.length + 1) (flat4 L ++ en4 zeB)) (hg : (W.alloc (.cells #[.int .u64 0, .int .u64 0, .int .u64 0, .int .u64 0] 100)).grownBy w1 v.ownBlock)
  (hat : v'.ownBlock = v.ownBlock ∨ v'.ownBlock = some (W.alloc (.cells #[.int .u64 0, .int .u64 0, .int .u64 0, .int .u64 0] 100)).heap.size) :
  w1.heap[d]? = some (.cells (idH c v) 96 (0, 0)) ∧ Idl c B (w1.setCell ⟨d, 0, none⟩ v') d v' (L ++ [zeB]) ∧ Chg (IK d v) W (w1.setCell ⟨d, 0, none⟩ v') ∧ (v'.ownBlock = v.ownBlock ∨ ∃ k, W.heap.size ≤ k ∧ v'.ownBlock = some k) := by
 have hdl := h.lt d (.inl rfl)
 have c1 : Chg (IK d v) W w1 := ((Chg.refl (IK d v) W).alloc _).trans (⟨hg.os, hg.tape, hg.output, hg.size, fun k hk hn => hg.block k hk (fun e => hn (.inr e.symm))⟩ : Chg (IK d v) _ w1) (fun _ _ e => e)
 have hdv := h.apart
 have hblk : w1.heap[d]? = some (.cells (idH c v) 96 (0, 0)) := (hg.block d (by simp; omega) (fun e => hdv e.symm)).trans ((Below.heap_alloc _ _ _ hdl).trans h.blk)
 have hdv' : ¬ v'.ownBlock = some d := fun e => by
  obtain ⟨cs, hcs⟩ := own_tag hrow d e
  rw [hblk] at hcs
  cases hcs
 refine ⟨hblk, ⟨?_, ?_, h.lo, ?_, by simp; omega⟩, c1.setCell _ _ (.inl (.inl rfl)), ?_⟩
 ·exact heap_setCell_same w1 d 0 _ 96 v' hblk
 ·have e : flat4 L ++ en4 zeB = flat4 (L ++ [zeB]) := by rw [flat4_app]; simp [flat4]
  rw [e] at hrow
  have hl : (L ++ [zeB]).length = L.length + 1 := by simp
  rw [hl]
  exact row_same hrow (fun k hk => Below.heap_setCell _ _ _ _ (fun e => hdv' (by rw [hk, e])))
 ·intro u hu
  rcases List.mem_append.1 hu with x | x
  ·exact h.ok u x
  ·simp at x
   subst x
   exact ze_ok
 ·rcases hat with e | e
  ·exact .inl e
  ·exact .inr ⟨_, by simp, e⟩
set_option maxRecDepth 20000 in
set_option maxHeartbeats 1000000 in
theorem iopen_any {c : Cf} {B : Nat} {w : World} {d : Nat} {v : Value} {L : List Bd} (h : Idl c B w d v L) (hB : B ≤ w.heap.size) (hf : L.length < 1000000) :
  Calls Tryz.prog 11 #[.pointer (some ⟨d, 0, none⟩)] w fun e w' => e = .returned (.int .i64 L.length) ∧ ∃ v', Idl c B w' d v' (L ++ [zeB]) ∧ Chg (IK d v) w w' ∧ (v'.ownBlock = v.ownBlock ∨ ∃ k, w.heap.size ≤ k ∧ v'.ownBlock = some k) := by
 obtain ⟨i0, hi0, hz0, hz1, hz2⟩ := info_parts Tryz.infUs
 obtain ⟨q, hq⟩ : ∃ q, L.length = q := ⟨_, rfl⟩
 have hrow := h.row
 have hdl := h.lt d (.inl rfl)
 obtain ⟨ao, cp, hv⟩ := h.shape
 have c0 := h.c0
 have HH : Hid (Idl c B w d v L) := h
 subst hv
 rw [hq] at hrow hf c0 HH ⊢
 have HQ : Hid (L.length = q) := hq
 clear h hq
 go_enter Tryz.func11, Tryz.ntmps11
 go_wp2_with (at_builtin; refine wpList_append_own_at _ rfl (.tmp 7) (.tmp 9) 94 rfl B 100 i0 _ 4 32 Tryz.underlying94 hi0 hz0 hz1 hz2 rfl (by decide) _ q (flat4 L) rfl (hrow.alloc _) ⟨w.heap.size, 0, none⟩ 1 1 (en4 zeB) rfl rfl (new_cells w (en4 zeB) 100) (flat4_one [zeB]) (Nat.le_trans (m := 35184372088832) (by omega) (by decide)) (by omega) (by simp; omega) ?_; intro v' w1 hown hgr _ hat; obtain ⟨b', c', e', l'⟩ := own_slice hown; subst e'; have hfin := Idl.opened HH.out (by rw [HQ.out]; omega) (by rw [HQ.out]; exact hown) hgr hat; have z0 := (cell_of (o := 0) hfin.1 rfl).1; have z1 := (cell_of (o := 0) hfin.1 rfl).2; have HF : Hid _ := hfin.2; clear hfin hown hgr hat)
 go_ret
 exact ⟨by simp, _, HF.out⟩
def chgE (N : Int) (L : List Bd) (a n : Int) : Int := if okA L a = true ∧ 0 ≤ n ∧ n ≤ N then 0 else 160
def chgL (N : Int) (L : List Bd) (a n : Int) : List Bd := if okA L a = true ∧ 0 ≤ n ∧ n ≤ N then L.set a.toNat (chB (L.getD a.toNat zeB) n) else L
theorem chg_no {N : Int} {L : List Bd} {a n : Int} (h : ¬ (okA L a = true ∧ 0 ≤ n ∧ n ≤ N)) : chgE N L a n = 160 ∧ chgL N L a n = L := ⟨if_neg h, if_neg h⟩
theorem chg_yes {N : Int} {L : List Bd} {k : Nat} {b : Bd} {n : Int} (hk : L[k]? = some b) (h0 : 0 ≤ n) (h1 : n ≤ N) : chgE N L k n = 0 ∧ chgL N L k n = L.set k (chB b n) := by
 have hlt := (List.getElem?_eq_some_iff.1 hk).1
 have h : okA L k = true ∧ 0 ≤ n ∧ n ≤ N := ⟨okA_of (by omega) (by omega), h0, h1⟩
 refine ⟨if_pos h, ?_⟩
 unfold chgL
 rw [if_pos h, List.getD_eq_getElem?_getD, Int.toNat_natCast, hk]
 rfl
set_option maxRecDepth 20000 in
set_option maxHeartbeats 1000000 in
theorem icharge_any {c : Cf} (r : Rng c) {B : Nat} {w : World} {d : Nat} {v : Value} {L : List Bd} (h : Idl c B w d v L) (a n : Int) :
  Calls Tryz.prog 13 #[.pointer (some ⟨d, 0, none⟩), .int .i64 a, .int .i64 n] w fun e w' => e = .returned (.int .i64 (chgE c.nodes L a n)) ∧ Idl c B w' d v (chgL c.nodes L a n) ∧ Chg (IK d v) w w' := by
 have hh := ihas_any h a
 cases hb : okA L a with
 | false =>
  obtain ⟨e1, e2⟩ := chg_no (N := c.nodes) (L := L) (a := a) (n := n) (by simp [hb])
  rw [e1, e2]
  rw [hb] at hh
  have HL : Hid (Idl c B w d v L) := h
  clear h
  go_enter Tryz.func13, Tryz.ntmps13
  go_wp2_with fail
  refine hh.mono ?_
  rintro e w1 ⟨rfl, rfl⟩
  go_wp2
  go_ret
  exact ⟨rfl, HL.out, Chg.refl _ _⟩
 | true =>
  rw [hb] at hh
  have c1 := h.c1
  by_cases hx0 : n < 0
  ·obtain ⟨e1, e2⟩ := chg_no (N := c.nodes) (L := L) (a := a) (n := n) (by omega)
   rw [e1, e2]
   have HL : Hid (Idl c B w d v L) := h
   clear h
   go_enter Tryz.func13, Tryz.ntmps13
   go_wp2_with fail
   refine hh.mono ?_
   rintro e w1 ⟨rfl, rfl⟩
   go_wp2
   go_ret
   exact ⟨rfl, HL.out, Chg.refl _ _⟩
  ·by_cases hx1 : c.nodes < n
   ·obtain ⟨e1, e2⟩ := chg_no (N := c.nodes) (L := L) (a := a) (n := n) (by omega)
    rw [e1, e2]
    have HL : Hid (Idl c B w d v L) := h
    clear h
    go_enter Tryz.func13, Tryz.ntmps13
    go_wp2_with fail
    refine hh.mono ?_
    rintro e w1 ⟨rfl, rfl⟩
    go_wp2
    go_ret
    exact ⟨rfl, HL.out, Chg.refl _ _⟩
   ·obtain ⟨h0, h1⟩ := okA_iff.1 hb
    obtain ⟨k, rfl⟩ : ∃ k : Nat, a = k := ⟨a.toNat, by omega⟩
    obtain ⟨u, hu⟩ : ∃ u, L[k]? = some u := ⟨_, List.getElem?_eq_getElem (by omega)⟩
    obtain ⟨e1, e2⟩ := chg_yes (N := c.nodes) (n := n) hu (by omega) (by omega)
    rw [e1, e2]
    have hok := h.ok u (List.mem_of_getElem? hu)
    obtain ⟨g, cp, cs, rfl, hg, hbd, hput⟩ := h.wrote hu
    have hn1 := r.n1
    have hcc := charge_any hg hbd hok (n := n) (by omega) (by omega)
    have hok2 := ch_ok hok (n := n) (by omega)
    have c0 := h.c0
    have HP : Hid _ := fun W' x y => hput W' (chB u n) hok2 x y
    clear h hu hput hg hbd hok hok2 hn1 r
    go_enter Tryz.func13, Tryz.ntmps13
    go_wp2_with fail
    refine hh.mono ?_
    rintro e w1 ⟨rfl, rfl⟩
    go_wp2_with fail
    refine hcc.mono ?_
    rintro e w1 ⟨rfl, hW, hC⟩
    have HPP : Hid _ := HP.out w1 hW hC
    clear hW hC hcc
    go_wp2
    go_ret
    exact ⟨rfl, HPP.out.1, HPP.out.2⟩
end Go.Proofs.YtdkbmligaodpmaaGreatDoor
namespace Go.Proofs.YtdkbmligaodpmaaGreatDoor
open Go.RowKit Wd Tr Cg Ld

def fdJ (f s : Int) (L : List Bd) (j : Nat) : List Bd := (L.take j).map (fdB f s) ++ L.drop j
theorem fdJ_len (f s : Int) (L : List Bd) (j : Nat) : (fdJ f s L j).length = L.length := by simp [fdJ]; omega
theorem fdJ_at {f s : Int} {L : List Bd} {j : Nat} {u : Bd} (h : L[j]? = some u) : (fdJ f s L j)[j]? = some u := by
 have hj := (List.getElem?_eq_some_iff.1 h).1
 unfold fdJ
 rw [List.getElem?_append_right (by simp; omega)]
 simp [Nat.min_eq_left (Nat.le_of_lt hj), h]
theorem fdJ_set {f s : Int} {L : List Bd} {j : Nat} {u : Bd} (h : L[j]? = some u) : (fdJ f s L j).set j (fdB f s u) = fdJ f s L (j + 1) := by
 obtain ⟨hj, rfl⟩ := List.getElem?_eq_some_iff.1 h
 unfold fdJ
 have hl : ((L.take j).map (fdB f s)).length = j := by simp; omega
 rw [List.set_append_right _ _ (by omega), hl, Nat.sub_self, List.drop_eq_getElem_cons hj, List.take_succ_eq_append_getElem hj]
 simp only [List.set_cons_zero, List.map_append, List.map_cons, List.map_nil, List.append_assoc, List.singleton_append]
theorem fdJ_zero (f s : Int) (L : List Bd) : fdJ f s L 0 = L := by simp [fdJ]
theorem fdJ_all {f s : Int} {L : List Bd} : fdJ f s L L.length = L.map (fdB f s) := by simp [fdJ]
theorem frs_box (c : Cf) : 0 ≤ frs c ∧ frs c ≤ 9223372036854775808 ∧ 0 ≤ snd c ∧ snd c ≤ 9223372036854775808 ∧ frs c ≤ snd c := by
 have h1 := half_top (eZ c).toNat
 have h2 := upp_top (eZ c).toNat
 have h3 := half_upper (eZ c).toNat
 unfold frs snd
 omega
set_option maxRecDepth 20000 in
set_option maxHeartbeats 2000000 in
theorem ifade_any {c : Cf} {B : Nat} {w : World} {d : Nat} {v : Value} {L : List Bd} (h : Idl c B w d v L) :
  Calls Tryz.prog 15 #[.pointer (some ⟨d, 0, none⟩)] w fun e w' => e = .returned (.tuple #[]) ∧ Idl c B w' d v (L.map (fdB (frs c) (snd c))) ∧ Chg (IK d v) w w' := by
 obtain ⟨q, hq⟩ : ∃ q, L.length = q := ⟨_, rfl⟩
 obtain ⟨f0, f1, s0, s1, fs⟩ := frs_box c
 have hokl := h.ok
 have hfew := h.few
 rw [← fdJ_all]
 obtain ⟨ao, cp, hv⟩ := h.shape
 have c0 := h.c0
 rw [← fdJ_zero (frs c) (snd c) L] at h
 subst hv
 rw [hq] at h c0 hfew ⊢
 have HH : Hid _ := h
 have HOK : Hid _ := hokl
 clear h hokl
 go_enter Tryz.func15, Tryz.ntmps15
 go_wp2
 clear c0
 go_loopg [8] q (fun gk pj wr => ∃ j : Nat, j + gk = q ∧ pj = .int .i64 j ∧ Idl c B wr d (.slice ao q cp) (fdJ (frs c) (snd c) L j) ∧ Chg (IK d (.slice ao q cp)) w wr)
 case atStart => exact ⟨0, by omega, rfl, HH.out, Chg.refl _ _⟩
 case round =>
  obtain ⟨j, hj, rfl, hL, hC⟩ := hrel
  by_cases hlt : j < q
  ·have hlt' : (j : Int) < q := by omega
   obtain ⟨u, hu⟩ : ∃ u, L[j]? = some u := ⟨_, List.getElem?_eq_getElem (by omega)⟩
   have hok := HOK.out u (List.mem_of_getElem? hu)
   have hju := fdJ_at (f := frs c) (s := snd c) hu
   have hset := fdJ_set (f := frs c) (s := snd c) hu
   obtain ⟨g, cp', cs, hv, hg, hbd, hput⟩ := hL.wrote hju
   rw [fdJ_len, hq] at hv
   cases hv
   have c0 := hL.c0
   have c6 := hL.c6
   have c7 := hL.c7
   have hcc := fun (W : World) (hW : W.heap[g]? = some (.cells cs 100 (0, 0))) => bfade_any hW hbd hok f0 f1 s0 s1
   have hok2 := fd_ok hok f0 fs s1
   have HG : Hid (wr.drew.heap[g]? = some (.cells cs 100 (0, 0))) := hg
   have HP : Hid _ := fun W' x y => hput W' (fdB (frs c) (snd c) u) hok2 x y
   have HC : Hid _ := hC
   have HS : Hid _ := hset
   clear hL hC hset hok hok2 hju hu HH hput hg hbd HOK
   go_wp2_with fail
   go_region_with (first
    | (go_at_call 43; refine (hcc _ HG.out).mono ?_; rintro e w2 ⟨rfl, hW2, hC2⟩; have HW2 : Hid _ := HP.out w2 hW2 ((Chg.of_below (drew_belowI wr) _).trans hC2 (fun _ _ e => e)); clear hW2 hC2))
   all_goals
    have hwr := HW2.out
    rw [HS.out] at hwr
    have HWR : Hid _ := hwr
    clear hwr HW2
    go_wp2
    go_roundg (q - (j + 1))
    case measure => omega
    case rel => exact ⟨j + 1, by omega, rfl, HWR.out.1, HC.out.trans HWR.out.2 (fun _ _ e => e)⟩
  ·obtain rfl : j = q := by omega
   have HL : Hid (Idl c B wr d (.slice ao j cp) (fdJ (frs c) (snd c) L j)) := hL
   have HC : Hid _ := hC
   clear hL hC
   go_wp2
   go_end0
   exact ⟨rfl, HL.out, HC.out⟩
end Go.Proofs.YtdkbmligaodpmaaGreatDoor
namespace Go.Proofs.YtdkbmligaodpmaaGreatDoor
open Go.RowKit Wd Tr Cg Ld

theorem flat4_cells {W : World} {B : Nat} {v : Value} {L : List Bd} (h : W.ownsRow B 100 4 v L.length (flat4 L)) : ∃ ao c, v = .slice ao L.length c ∧ (ao = none → L.length = 0 ∧ c = 0) ∧ ∀ ad, ao = some ad → ∀ j u, (flat4 L)[j]? = some u → W.cell? (ad.add j) = some u := by
 rcases h.2 with ⟨rfl, h0⟩ | ⟨g, cap, cur, rfl, r⟩
 ·exact ⟨none, 0, by rw [h0], fun _ => ⟨h0, rfl⟩, fun ad e => by cases e⟩
 ·refine ⟨_, cap, rfl, (fun e => by cases e), fun ad e j u hu => ?_⟩
  cases e
  exact h.cells rfl j u hu
set_option maxRecDepth 20000 in
set_option maxHeartbeats 1000000 in
theorem uclone_any {w : World} {B : Nat} {v : Value} {L : List Bd} (h : w.ownsRow B 100 4 v L.length (flat4 L)) (hf : L.length ≤ 1000000) :
  Calls Tryz.prog 50 #[v] w fun e w' => ∃ v', e = .returned v' ∧ w'.ownsRow w.heap.size 100 4 v' L.length (flat4 L) ∧ Below w.heap.size w w' := by
 obtain ⟨ao, c, rfl, hn, h2⟩ := flat4_cells h
 cases ao with
 | none =>
  obtain ⟨h0, rfl⟩ := hn rfl
  have hl : L = [] := List.eq_nil_of_length_eq_zero h0
  subst hl
  simp only [List.length_nil]
  have hq := fun w => Lib.run_eql_slice_nil (P := Tryz.prog) w 94 100 none 0 0 0 0 Tryz.underlying94
  go_enter Tryz.func50, Tryz.ntmps50
  go_wp2
  go_ret
  exact ⟨_, rfl, World.ownsRow_nil _ _ _ _, Below.refl _ _⟩
 | some ad =>
  obtain ⟨i0, hi0, hz0, hz1, hz2⟩ := info_parts Tryz.infUs
  have b0 : Below w.heap.size w (w.alloc (.cells #[] 100)) := (Below.refl _ w).alloc (Nat.le_refl _) _
  have hcell : ∀ a, some ad = some a → ∀ j u, (flat4 L)[j]? = some u → (w.alloc (.cells #[] 100)).cell? (a.add j) = some u := fun a e j u hu => cellB b0 (h2 a e j u hu)
  have hfl := flat4_len L
  obtain ⟨q, hq⟩ : ∃ q, L.length = q := ⟨_, rfl⟩
  rw [hq] at hf hfl ⊢
  have hq := fun w => Lib.run_eql_slice_nil (P := Tryz.prog) w 94 100 (some ad) q c 0 0 Tryz.underlying94
  have HFL : Hid ((flat4 L).length = q * 4) := hfl
  have HC : Hid _ := hcell
  have HM : Hid _ := made0 w 100 4
  clear h h2 hfl hcell hn
  go_enter Tryz.func50, Tryz.ntmps50
  go_wp2_with (at_builtin; refine wpList_append_any rfl (.tmp 5) (.tmp 6) 94 rfl w.heap.size 100 i0 _ 4 32 Tryz.underlying94 hi0 hz0 hz1 hz2 rfl (by decide) (.slice (some ⟨w.heap.size, 0, none⟩) 0 0) 0 [] rfl HM.out (some ad) q c (flat4 L) rfl (fun h => by cases h) HFL.out HC.out (flat4_one L) ?_ ?_ ?_ ?_; exact (Nat.le_trans (m := 35184372088832) (by omega) (by decide)); omega; (simp); intro v' w5 hown hgr)
  go_ret
  refine ⟨_, rfl, by simpa using hown, ?_⟩
  exact b0.grown hgr (by simp) (fun k e => by simp [Value.ownBlock] at e; omega)
theorem Idl.eight {c : Cf} {B : Nat} {W : World} {d : Nat} {v : Value} {L : List Bd} (h : Idl c B W d v L) :
  W.cell? ⟨d, 0, none⟩ = some v ∧ W.cell? ⟨d, 1, none⟩ = some (.int .i64 c.nodes) ∧ W.cell? ⟨d, 2, none⟩ = some (.int .i64 c.age) ∧ W.cell? ⟨d, 3, none⟩ = some (.int .i64 c.fair) ∧ W.cell? ⟨d, 4, none⟩ = some (.int .i64 c.size) ∧ W.cell? ⟨d, 5, none⟩ = some (.int .u64 (flo c)) ∧ W.cell? ⟨d, 6, none⟩ = some (.int .u64 (frs c)) ∧ W.cell? ⟨d, 7, none⟩ = some (.int .u64 (snd c)) :=
 ⟨h.c0, h.c1, h.c2, h.c3, h.c4, h.c5, h.c6, h.c7⟩
set_option maxRecDepth 20000 in
set_option maxHeartbeats 1000000 in
theorem iclone_any {c : Cf} {B : Nat} {w : World} {d : Nat} {v : Value} {L : List Bd} (h : Idl c B w d v L) :
  Calls Tryz.prog 18 #[.pointer (some ⟨d, 0, none⟩)] w fun e w' => ∃ d' v', e = .returned (.pointer (some ⟨d', 0, none⟩)) ∧ Idl c w.heap.size w' d' v' L ∧ Below w.heap.size w w' := by
 have hok := h.ok
 have hf := h.few
 have hb : Below w.heap.size w (w.alloc (.cells (idH c v) 96)) := (Below.refl _ w).alloc (Nat.le_refl _) _
 have h2 := h.below hb
 have hcl := uclone_any h2.row hf
 obtain ⟨c0, c1, c2, c3, c4, c5, c6, c7⟩ := h.eight
 have hnew : (w.alloc (.cells (idH c v) 96)).heap[w.heap.size]? = some (.cells (idH c v) 96 (0, 0)) := heap_alloc_new _ _
 obtain ⟨y0, _⟩ := cell_of (o := 0) h2.blk rfl
 obtain ⟨ao, cp, hv⟩ := h.shape
 subst hv
 have HOK : Hid _ := hok
 have HW : Hid (w.alloc (.cells #[.slice ao L.length cp, .int .i64 c.nodes, .int .i64 c.age, .int .i64 c.fair, .int .i64 c.size, .int .u64 (flo c), .int .u64 (frs c), .int .u64 (snd c)] 96) = w.alloc (.cells (idH c (.slice ao L.length cp)) 96)) := show _ = _ from rfl
 have hlt := h2.lt d (.inl rfl)
 clear h h2 hok
 go_enter Tryz.func18, Tryz.ntmps18
 go_upto_region 2 with fail
 rw [HW.out]
 generalize w.alloc (.cells (idH c (.slice ao L.length cp)) 96) = w1 at *
 clear c0 c1 c2 c3 c4 c5 c6 c7
 go_wp2_with fail
 refine hcl.mono ?_
 rintro e w2 ⟨v', rfl, r2, b2⟩
 have hn2 := heapK hnew b2
 obtain ⟨z0, z1⟩ := cell_of (o := 0) hn2 rfl
 obtain ⟨ao', cp', hv'⟩ := sl_shape r2
 subst hv'
 have hb2 := hb.trans (b2.mono hb.size)
 have hsz := hb.size
 have HR : Hid _ := r2
 have HN : Hid (w2.heap[w.heap.size]? = some (.cells (idH c (.slice ao L.length cp)) 96 (0, 0))) := hn2
 clear hn2 r2 hcl hnew hb b2
 go_wp2
 go_ret
 refine ⟨_, .slice ao' L.length cp', rfl, ⟨?_, ?_, Nat.le_refl _, HOK.out, hf⟩, hb2.setCell (Nat.le_refl _) _⟩
 ·exact heap_setCell_same w2 w.heap.size 0 _ 96 _ HN.out
 ·refine own_base (row_same HR.out (fun k hk => Below.heap_setCell _ _ _ _ (fun e => ?_))) hsz
  obtain ⟨cs, hcs⟩ := own_tag HR.out k hk
  subst e
  rw [HN.out] at hcs
  cases hcs
theorem chk_yes {c : Cf} (h : chkZ c = 0) : Rng c ∧ mZ c ≤ 2147483648 := by
 unfold chkZ at h
 by_cases hr : Rng c
 ·rw [if_neg (fun x => x hr)] at h
  refine ⟨hr, ?_⟩
  by_cases hm : 2147483648 < mZ c
  ·rw [if_pos hm] at h; omega
  ·omega
 ·rw [if_pos hr] at h; omega
theorem e_dn {c : Cf} (r : Rng c) : dnV (c.period * 4294967296) c.half = ((eZ c).toNat : Nat) ∧ (eZ c).toNat < 18446744073709551616 := by
 have he := e_box r
 have hh := r.h0
 unfold dnV narV
 rw [if_neg (by omega)]
 unfold eZ at *
 rw [if_pos (by omega)]
 omega
set_option maxRecDepth 20000 in
set_option maxHeartbeats 1000000 in
theorem inew_no {c : Cf} (h : ¬ chkZ c = 0) (w : World) : Calls Tryz.prog 8 #[cfV c] w fun e w' => e = .returned (.tuple #[.pointer none, .int .i64 (chkZ c)]) ∧ Below w.heap.size w w' := by
 have c1 := pcheck_any c
 generalize chkZ c = q at *
 unfold cfV at *
 have hS := St.new w c
 go_enter Tryz.func8, Tryz.ntmps8
 go_wp2_with fail
 refine (c1 _).mono ?_
 rintro e w1 ⟨rfl, b1⟩
 replace hS := keepW hS b1
 clear b1
 go_wp2
 go_ret2
 exact ⟨rfl, hS.bel⟩
set_option maxRecDepth 20000 in
set_option maxHeartbeats 2000000 in
theorem inew_yes {c : Cf} (h : chkZ c = 0) (w : World) (hT : Tab w) : Calls Tryz.prog 8 #[cfV c] w fun e w' => ∃ d v, e = .returned (.tuple #[.pointer (some ⟨d, 0, none⟩), .int .i64 0]) ∧ Idl c w.heap.size w' d v [zeB] ∧ Below w.heap.size w w' := by
 obtain ⟨r, _⟩ := chk_yes h
 have c1 := pcheck_any c
 rw [h] at c1
 have c5 := pFloor_yes h
 have hp0 := r.p0; have hp1 := r.p1; have hh0 := r.h0; have hh1 := r.h1
 have wp : IntKind.u64.wrap c.period = c.period := by rw [IntKind.wrap_u64]; omega
 have wh : IntKind.u64.wrap c.half = c.half := by rw [IntKind.wrap_u64]; omega
 have c2 := divDown_any c.period c.half ⟨by omega, by omega⟩ ⟨by omega, by omega⟩
 obtain ⟨e1, e2⟩ := e_dn r
 rw [e1] at c2
 have c3 := fun (x : World) (hx : Below w.heap.size w x) => bounds_any (eZ c).toNat e2 x (Tab.below hx hT)
 have HF : Hid (((halfN (eZ c).toNat : Nat) : Int) = frs c ∧ ((uppN (eZ c).toNat : Nat) : Int) = snd c ∧ cZ c * 4294967296 = flo c) := show _ ∧ _ ∧ _ from ⟨rfl, rfl, rfl⟩
 rw [HF.out.1, HF.out.2.1] at c3
 rw [HF.out.2.2] at c5
 generalize dnB (c.period * 4294967296) c.half = DB at *
 generalize (eZ c).toNat = E at *
 have hS := St.new w c
 unfold cfV at *
 clear r h hp0 hp1 hh0 hh1 e1 e2
 go_enter Tryz.func8, Tryz.ntmps8
 go_wp2_with fail
 refine (c1 _).mono ?_
 rintro e w1 ⟨rfl, b1⟩
 replace hS := keepW hS b1
 clear b1 c1
 obtain ⟨s0, s1, s2, s3, s4, s5, s6, s7, hB, hz⟩ := hS
 go_wp2_with fail
 refine (c2 _).mono ?_
 rintro e w2 ⟨rfl, b2⟩
 have hS : St w w.heap.size c w2 := keepW ⟨s0, s1, s2, s3, s4, s5, s6, s7, hB, hz⟩ b2
 clear s0 s1 s2 s3 s4 s5 s6 s7 hB hz b2 c2
 go_wp2_with fail
 refine (c3 _ hS.bel).mono ?_
 rintro e w3 ⟨rfl, b3⟩
 replace hS := keepW hS b3
 clear b3 c3
 go_upto_region 6 with fail
 have HS : Hid (St w w.heap.size c w3.drew) := keepW hS (drew_belowI w3)
 clear hS
 go_cut [9] (fun p wq => ∃ d : Nat, p = .pointer (some ⟨d, 0, none⟩) ∧ Idl c w.heap.size wq d (.slice none 0 0) [] ∧ Below w.heap.size w wq ∧ w.heap.size ≤ wq.heap.size)
 case first =>
  go_region_held3 (fun x => x.cell? ⟨w.heap.size, 0, none⟩ = some (.int .i64 c.nodes) ∧ x.cell? ⟨w.heap.size, 1, none⟩ = some (.int .i64 c.queue) ∧ x.cell? ⟨w.heap.size, 2, none⟩ = some (.int .i64 c.limit) ∧ x.cell? ⟨w.heap.size, 3, none⟩ = some (.int .i64 c.age) ∧ x.cell? ⟨w.heap.size, 4, none⟩ = some (.int .i64 c.fair) ∧ x.cell? ⟨w.heap.size, 5, none⟩ = some (.int .i64 c.size) ∧ x.cell? ⟨w.heap.size, 6, none⟩ = some (.int .i64 c.period) ∧ x.cell? ⟨w.heap.size, 7, none⟩ = some (.int .i64 c.half) ∧ Below w.heap.size w x ∧ w.heap.size ≤ x.heap.size) (first | exact HS.out | assumption | exact keepW (by assumption) (by assumption) | exact keepW (by assumption) ((Below.refl _ _).alloc (Nat.le_refl _) _))
   (first
    | (go_at_call 40; refine (c5 _).mono ?_; rintro e x ⟨rfl, hx⟩; have HX : Hid (St w w.heap.size c x) := keepW HS.out hx))
  all_goals
   have hB := HX.out.bel
   have hz := hB.size
   clear HS HX
   go_wp2
   go_meet
   refine ⟨_, rfl, ⟨heap_alloc_new _ _, World.ownsRow_nil _ _ _ _, hz, (fun b hb => by cases hb), by simp⟩, hB.alloc hz _, by simp; omega⟩
 case rest =>
  obtain ⟨d, rfl, hI, hB, hz⟩ := hcut
  have c6 := iopen_any hI hz (by simp)
  have HI : Hid _ := hI.low
  clear hI HS c5
  go_wp2_with fail
  refine c6.mono ?_
  rintro e w6 ⟨rfl, v', hI6, hC6, _⟩
  have HI6 : Hid (Idl c w.heap.size w6 d v' [zeB]) := hI6
  have hb6 : Below w.heap.size w w6 := hC6.below hB hz HI.out
  clear hI6 hC6
  go_wp2
  go_ret2
  exact ⟨_, _, rfl, HI6.out, hb6⟩
end Go.Proofs.YtdkbmligaodpmaaGreatDoor
