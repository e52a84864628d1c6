/-
 The caller's own list of accounts: make, copy, what is written into it.
 LAYER 16, the statements' own functions: pick, num, ref.
 IDEALPLAYS: steps in memory.
-/
import Derived.Test.YtdkbmligaodpmaaGreatDoorXrgz
import Derived.Test.YtdkbmligaodpmaaGreatDoorXldz
import Derived.Test.YtdkbmligaodpmaaGreatDoorXhcz
import Derived.Test.YtdkbmligaodpmaaGreatDoorXriz
import Derived.Laws.CopyOwn
import Derived.Laws.MakeOwn
namespace Go.Proofs.YtdkbmligaodpmaaGreatDoor
open Go.RowKit Wd Tr Cg Bk

theorem flatA_nm : ∀ (l : List Ac) (n : Nat) (a : Ac) (x : ByteArray), l[n]? = some a → (flatA l).set (n * 5) (.string x) = flatA (l.set n { a with nm := x })
 | [], n, a, x, h => by simp at h
 | b :: l, 0, a, x, h => by simp at h; subst h; rfl
 | b :: l, n + 1, a, x, h => by
  have := flatA_nm l n a x (by simpa using h)
  rw [show (n + 1) * 5 = n * 5 + 1 + 1 + 1 + 1 + 1 by omega]
  simp only [flatA, List.set_cons_succ, this]
theorem flatA_us : ∀ (l : List Ac) (n : Nat) (a : Ac) (x : Int), l[n]? = some a → (flatA l).set (n * 5 + 4) (.int .u64 x) = flatA (l.set n { a with us := x })
 | [], n, a, x, h => by simp at h
 | b :: l, 0, a, x, h => by simp at h; subst h; rfl
 | b :: l, n + 1, a, x, h => by
  have := flatA_us l n a x (by simpa using h)
  rw [show (n + 1) * 5 + 4 = n * 5 + 4 + 1 + 1 + 1 + 1 + 1 by omega]
  simp only [flatA, List.set_cons_succ, this]
def AccC (W : World) (b : Nat) (M : List Ac) : Prop := W.heap[b]? = some (.cells (flatA M).toArray 62 (0, 0))
section
variable {W W' : World} {b : Nat} {M l r : List Ac}
theorem AccC.lt (h : AccC W b M) : b < W.heap.size := (Array.getElem?_eq_some_iff.1 (show W.heap[b]? = _ from h)).1
theorem AccC.free (h : AccC W b M) (k : Nat) : W.frozen? ⟨b, k, none⟩ = false := frozen_at (show W.heap[b]? = _ from h)
theorem AccC.at (h : AccC W b M) {k : Nat} {a : Ac} (ha : M[k]? = some a) : AcAt W b (k * 5) a := by
 have hb : W.heap[b]? = _ := h
 obtain ⟨e0, e1, e2, e3, e4⟩ := flatA_at M k a ha
 exact ⟨cells_at hb (by simpa using e0), cells_at hb (by simpa using e1), cells_at hb (by simpa using e2), cells_at hb (by simpa using e3), cells_at hb (by simpa using e4)⟩
theorem AccC.below (c : Below W.heap.size W W') (h : AccC W b M) : AccC W' b M := (c.block b h.lt).trans h
theorem AccC.set (h : AccC W b M) {k : Nat} {v : Value} {M' : List Ac} (hf : (flatA M).set k v = flatA M') : AccC (W.setCell ⟨b, k, none⟩ v) b M' := by
 have := heap_setCell_same W b k _ 62 v h
 unfold AccC
 rw [this]
 simp [hf]
theorem AccC.acs (h : AccC W b (l ++ r)) : Acs W b 0 l := fun k a ha => by
 have hk := (List.getElem?_eq_some_iff.1 ha).1
 rw [Nat.zero_add]
 exact h.at (by rw [List.getElem?_append_left hk]; exact ha)
end
def zAc : Ac := ⟨⟨#[]⟩, 0, 0, false, 0⟩
def bhAc : Ac := ⟨⟨#[98, 101, 104, 105, 110, 100]⟩, 0, 0, false, 0⟩
def zC : Array Value := #[.string ⟨#[]⟩, .int .i64 0, .int .i64 0, .bool false, .int .u64 0]
theorem made_flat (n : Nat) : madeCells zC (n * 5) = (flatA (List.replicate n zAc)).toArray := by
 apply Array.ext
 ·simp [madeCells, flatA_len]
 ·intro j h1 h2
  have hj : j < n * 5 := by simpa [madeCells] using h1
  obtain ⟨e0, e1, e2, e3, e4⟩ := flatA_at (List.replicate n zAc) (j / 5) zAc (by rw [List.getElem?_replicate, if_pos (by omega)])
  have hj5 : j = j / 5 * 5 + j % 5 := by omega
  have hr : j % 5 = 0 ∨ j % 5 = 1 ∨ j % 5 = 2 ∨ j % 5 = 3 ∨ j % 5 = 4 := by omega
  have key : (flatA (List.replicate n zAc))[j]? = some (zC[j % 5]!) := by
   rcases hr with h | h | h | h | h
   ·rw [h]; rw [show j = j / 5 * 5 by omega]; exact e0
   ·rw [h]; rw [show j = j / 5 * 5 + 1 by omega]; exact e1
   ·rw [h]; rw [show j = j / 5 * 5 + 2 by omega]; exact e2
   ·rw [h]; rw [show j = j / 5 * 5 + 3 by omega]; exact e3
   ·rw [h]; rw [show j = j / 5 * 5 + 4 by omega]; exact e4
  have e := (List.getElem?_eq_some_iff.1 key).2
  simp only [madeCells, Array.getElem_map, Array.getElem_range, List.getElem_toArray, show zC.size = 5 from rfl]
  exact e.symm
theorem make_acs (w : World) {n : Nat} (hn : n * 48 ≤ 140737488355328) : ∃ w', (Instr.makeSlice 24 (.int .i64 ((n : Int) + 1)) (.int .i64 ((n : Int) + 1))).run Tryz.prog w = .ok (.slice (some ⟨w.heap.size, 0, none⟩) (n + 1) (n + 1)) w' ∧ AccC w' w.heap.size (List.replicate (n + 1) zAc) ∧ Below w.heap.size w w' ∧ w'.heap.size = w.heap.size + 1 := by
 obtain ⟨i0, hi0, hz0, hz1, hz2⟩ := info_parts Tryz.inf62
 have hmk := run_make (P := Tryz.prog) w 24 62 i0 _ Tryz.underlying24 hi0 hz0 .i64 .i64 ((n : Int) + 1) ((n : Int) + 1) (by omega) (Int.le_refl _) (by rw [hz2]; omega) (by omega)
 rw [show ((n : Int) + 1).toNat = n + 1 by omega, hz1] at hmk
 refine ⟨_, hmk, ?_, (Below.refl _ _).alloc (Nat.le_refl _) _, by simp⟩
 unfold AccC
 rw [← made_flat (n + 1)]
 exact heap_alloc_new w _
theorem Tryz.szA : (Tryz.prog.info? 62).map (·.size) = some 5 := by kernel_rfl
section
variable {P : Program}
theorem run_copy_rowN (w : World) (dT sT ty elem : TypeId) (g o dLen dCap : Nat) (a : Addr) (sLen sCap size : Nat) (cur : Array Value) (t : TypeId) (cs : List Value)
  (hu : P.underlying dT = some (.slice elem)) (hs : (P.info? elem).map (·.size) = some size)
  (hg : w.heap[g]? = some (.cells cur t (0, 0))) (hn : cs.length = Nat.min sLen dLen * size)
  (hsrc : ∀ j v, cs[j]? = some v → w.cell? (a.add j) = some v) (hfit : o + cs.length ≤ cur.size) (h1 : ∀ v ∈ cs, v.oneCell' = true) :
  (Builtin.copy_ #[dT, sT] ty #[.slice (some ⟨g, o, none⟩) dLen dCap, .slice (some a) sLen sCap]).run P w =
   .ok (goInt (Nat.min sLen dLen : Nat)) (w.setRow g (cur.toList.take o ++ cs ++ cur.toList.drop (o + cs.length)).toArray) := by
 have hl := run_loadCells_list (P := P) w a cs hsrc
 have hst := run_storeCells_at P g o t cs 0 cur w hg (by simpa using hfit) h1
 cases hq : P.info? elem with
 | none => simp [hq] at hs
 | some i =>
  have hi : i.size = size := by simpa [hq] using hs
  simp [Builtin.copy_, run_underlying hu, Builtin.lenOf, Builtin.firstCells, sizeOf, typeInfo, hq, hi, ← hn, hl, hst]
theorem run_copy_noneN (w : World) (dT sT ty elem : TypeId) (d a : Option Addr) (dLen dCap sLen sCap size : Nat) (hu : P.underlying dT = some (.slice elem)) (hs : (P.info? elem).map (·.size) = some size) (hn : Nat.min sLen dLen = 0) :
  (Builtin.copy_ #[dT, sT] ty #[.slice d dLen dCap, .slice a sLen sCap]).run P w = .ok (goInt 0) w := by
 cases hq : P.info? elem with
 | none => simp [hq] at hs
 | some i =>
  have hl : ∀ (x : Addr), (loadCells x 0).run P w = .ok #[] w := fun x => by simpa using run_loadCells_list (P := P) w x [] (by simp)
  cases d <;> cases a <;> simp [Builtin.copy_, run_underlying hu, Builtin.lenOf, Builtin.firstCells, sizeOf, typeInfo, hq, hn, storeCells, hl]
end
theorem copied_flat {l : List Ac} {n : Nat} (hn : l.length = n) : flatA l ++ (flatA (List.replicate (n + 1) zAc)).drop (flatA l).length = flatA (l ++ [zAc]) := by
 rw [flatA_app, flatA_len, hn, List.replicate_succ', flatA_app, List.drop_left' (by rw [flatA_len, List.length_replicate])]
theorem copy_acs {w : World} {g L c : Nat} {ao : Option Addr} {l : List Ac} (hA : AccC w g (List.replicate (L + 1) zAc)) (hL : l.length = L) (hnil : ao = none → L = 0) (hsrc : ∀ ad, ao = some ad → ∀ j u, (flatA l)[j]? = some u → w.cell? (ad.add j) = some u) :
  ∃ w', (Builtin.copy_ #[24, 24] 3 #[.slice (some ⟨g, 0, none⟩) (L + 1) (L + 1), .slice ao L c]).run Tryz.prog w = .ok (goInt (L : Nat)) w' ∧ AccC w' g (l ++ [zAc]) ∧ Below g w w' := by
 have hmin : Nat.min L (L + 1) = L := Nat.min_eq_left (by omega)
 cases ao with
 | none =>
  have h0 := hnil rfl
  subst h0
  have hl : l = [] := List.eq_nil_of_length_eq_zero hL
  subst hl
  exact ⟨w, run_copy_noneN (P := Tryz.prog) w _ _ _ 62 _ _ _ _ _ _ 5 Tryz.underlying24 Tryz.szA hmin, hA, Below.refl _ _⟩
 | some ad =>
  have hf := flatA_len l
  have hrun := run_copy_rowN (P := Tryz.prog) w 24 24 3 62 g 0 (L + 1) (L + 1) ad L c 5 _ 62 (flatA l) Tryz.underlying24 Tryz.szA hA (by rw [hmin, hf, hL]) (hsrc ad rfl) (by simp [flatA_len, hL]; omega) (flatA_one l)
  rw [hmin] at hrun
  refine ⟨_, hrun, ?_, below_setRow (Below.refl _ _) (Nat.le_refl _) _⟩
  have := setRow_heap w g (flatA (List.replicate (L + 1) zAc)).toArray (flatA (l ++ [zAc])).toArray 62 _ hA
  unfold AccC
  rw [← this, ← copied_flat hL]
  simp
theorem behind_flat {l : List Ac} {n : Nat} (hn : l.length = n) : (flatA (l ++ [zAc])).set (n * 5) (.string ⟨#[98, 101, 104, 105, 110, 100]⟩) = flatA (l ++ [bhAc]) := by
 subst hn
 rw [flatA_nm (l ++ [zAc]) l.length zAc ⟨#[98, 101, 104, 105, 110, 100]⟩ (by simp)]
 simp [zAc, bhAc]
end Go.Proofs.YtdkbmligaodpmaaGreatDoor
namespace Go.Proofs.YtdkbmligaodpmaaGreatDoor
open Go.RowKit Wd Tr Cg

def I64 (x : Int) : Prop := -9223372036854775808 ≤ x ∧ x ≤ 9223372036854775807
theorem pick_any {x n : Int} (hx : I64 x) (hn : 0 < n) (w : World) :
  Calls Tryz.prog 10 #[.int .i64 x, .int .i64 n] w fun e w' => e = .returned (.int .i64 (pkV x n)) ∧ w' = w := by
 obtain ⟨x0, x1⟩ := hx
 have nz : ¬ n = 0 := by omega
 by_cases h : x < 0
 ·have k1 : IntKind.i64.wrap (x + 1) = x + 1 := by rw [IntKind.wrap_i64]; omega
  have k2 : IntKind.i64.wrap (-(x + 1)) = -(x + 1) := by rw [IntKind.wrap_i64]; omega
  have h0 : 0 ≤ -(x + 1) := by omega
  have HN : Hid (-((x + 1).tmod n) = pkV x n) := show -((x + 1).tmod n) = pkV x n by unfold pkV; rw [if_pos h, ← Int.neg_tmod, Int.tmod_eq_emod_of_nonneg h0]
  go_enter Tryz.func10, Tryz.ntmps10
  go_wp2
  go_ret
  exact ⟨by rw [← HN.out]; simp [*], rfl⟩
 ·have h0 : 0 ≤ x := by omega
  have HN : Hid (pkV x n = x % n) := show pkV x n = _ by unfold pkV; rw [if_neg h]
  rw [HN.out]
  go_enter Tryz.func10, Tryz.ntmps10
  go_wp2
  go_ret
  exact ⟨by simp [*], rfl⟩
theorem num_any (a b : Int) (w : World) : Calls Tryz.prog 48 #[.agg #[.int .u64 a, .int .u64 b]] w fun e w' => e = .returned (.agg #[.int .u64 a, .int .u64 b]) ∧ Below w.heap.size w w' := by
 go_enter Tryz.func48, Tryz.ntmps48
 go_wp2
 exact bodyPost_ret (v := .agg #[.int .u64 a, .int .u64 b]) (by simp [results, Tryz.results48, go_sem]) rfl ⟨rfl, ((Below.refl w.heap.size w).alloc (Nat.le_refl _) _).alloc (by simp) _⟩
theorem ref_any (a b : Int) (w : World) : Calls Tryz.prog 31 #[.agg #[.int .u64 a, .int .u64 b]] w fun e w' => e = .returned (.agg #[.int .u64 a, .int .u64 b]) ∧ Below w.heap.size w w' := by
 go_enter Tryz.func31, Tryz.ntmps31
 go_wp2
 exact bodyPost_ret (v := .agg #[.int .u64 a, .int .u64 b]) (by simp [results, Tryz.results31, go_sem]) rfl ⟨rfl, ((Below.refl w.heap.size w).alloc (Nat.le_refl _) _).alloc (by simp) _⟩
end Go.Proofs.YtdkbmligaodpmaaGreatDoor
namespace Go.Proofs.YtdkbmligaodpmaaGreatDoor
open Go.RowKit Wd Tr Cg Ld

structure Sp where
 kd : Int
 on : Int
 a : Int
 n : Int
 now : Int
 jb : Jb
abbrev spL (s : Sp) : Array Value := #[.int .i64 s.kd, .int .i64 s.on, .int .i64 s.a, .int .i64 s.n, .int .i64 s.now, .int .i64 s.jb.ac, .int .i64 s.jb.no, .int .i64 s.jb.li, .int .i64 s.jb.su, .int .i64 s.jb.st, .int .i64 s.jb.sr, .int .i64 s.jb.en, .slice s.jb.sa s.jb.sl s.jb.sc]
def SpAt (W : World) (g o : Nat) (s : Sp) : Prop := W.cell? ⟨g, o, none⟩ = some (.int .i64 s.kd) ∧ W.cell? ⟨g, o + 1, none⟩ = some (.int .i64 s.on) ∧ W.cell? ⟨g, o + 2, none⟩ = some (.int .i64 s.a) ∧ W.cell? ⟨g, o + 3, none⟩ = some (.int .i64 s.n) ∧ W.cell? ⟨g, o + 4, none⟩ = some (.int .i64 s.now) ∧ W.cell? ⟨g, o + 5, none⟩ = some (.int .i64 s.jb.ac) ∧ W.cell? ⟨g, o + 6, none⟩ = some (.int .i64 s.jb.no) ∧ W.cell? ⟨g, o + 7, none⟩ = some (.int .i64 s.jb.li) ∧ W.cell? ⟨g, o + 8, none⟩ = some (.int .i64 s.jb.su) ∧ W.cell? ⟨g, o + 9, none⟩ = some (.int .i64 s.jb.st) ∧ W.cell? ⟨g, o + 10, none⟩ = some (.int .i64 s.jb.sr) ∧ W.cell? ⟨g, o + 11, none⟩ = some (.int .i64 s.jb.en) ∧ W.cell? ⟨g, o + 12, none⟩ = some (.slice s.jb.sa s.jb.sl s.jb.sc)
def SpsAt (W : World) (ao : Option Addr) (ss : List Sp) : Prop := ∃ g o, (0 < ss.length → ao = some ⟨g, o, none⟩) ∧ ∀ k s, ss[k]? = some s → SpAt W g (o + k * 13) s
theorem SpAt.below {W W' : World} {g o : Nat} {s : Sp} (h : SpAt W g o s) (b : Below W.heap.size W W') : SpAt W' g o s := by
 obtain ⟨h0, h1, h2, h3, h4, h5, h6, h7, h8, h9, h10, h11, h12⟩ := h
 exact ⟨cellB b h0, cellB b h1, cellB b h2, cellB b h3, cellB b h4, cellB b h5, cellB b h6, cellB b h7, cellB b h8, cellB b h9, cellB b h10, cellB b h11, cellB b h12⟩
theorem SpsAt.below {W W' : World} {ao : Option Addr} {ss : List Sp} (h : SpsAt W ao ss) (b : Below W.heap.size W W') : SpsAt W' ao ss := by
 obtain ⟨g, o, h1, h2⟩ := h
 exact ⟨g, o, h1, fun k s hk => (h2 k s hk).below b⟩
theorem SpAt.box {W : World} {g : Nat} {s : Sp} (h : W.heap[g]? = some (.cells (spL s) 41 (0, 0))) : SpAt W g 0 s :=
 ⟨(cell_of h rfl).1, (cell_of h rfl).1, (cell_of h rfl).1, (cell_of h rfl).1, (cell_of h rfl).1, (cell_of h rfl).1, (cell_of h rfl).1, (cell_of h rfl).1, (cell_of h rfl).1, (cell_of h rfl).1, (cell_of h rfl).1, (cell_of h rfl).1, (cell_of h rfl).1⟩
theorem chgL_len (N : Int) (L : List Bd) (a n : Int) : (chgL N L a n).length = L.length := by unfold chgL; split; exact List.length_set; rfl
theorem Tryz.infPr : (Tryz.prog.info? 35).map (fun i => (i.zero, i.size, i.bytes)) = some (some (.agg #[.pointer none, .pointer none]), 2, 16) := by kernel_rfl
theorem ptV_one (p : Pt) : ∀ u ∈ ptV p, u.oneCell' = true := fun u hu => by
 simp at hu
 rcases hu with rfl | rfl <;> rfl
end Go.Proofs.YtdkbmligaodpmaaGreatDoor
