/-
  SHARETELLS: the caller's own list of accounts: make, copy, what is written into it.
  SHARETELLS: the book between two keeps; what the program's and the reference's calls hand out.
  SHARETELLS walked.
-/
import Derived.Test.YtioldijdmefljaaGreatDoorRgZ
import Derived.Laws.CopyOwn
import Derived.Laws.MakeOwn
namespace Go.Proofs.YtioldijdmefljaaGreatDoor
open Go.RowKit Wd Tr Cg Bk

theorem flatA_nm : ∀ (l : List Ac) (n : Nat) (a : Ac) (x : ByteArray), l[n]? = some a → (flatA l).set (n * 5) (.string x) = flatA (l.set n { a with nm := x })
  | [], n, a, x, h => by simp at h
  | b :: l, 0, a, x, h => by simp at h; subst h; rfl
  | b :: l, n + 1, a, x, h => by
    have := flatA_nm l n a x (by simpa using h)
    rw [show (n + 1) * 5 = n * 5 + 1 + 1 + 1 + 1 + 1 by omega]
    simp only [flatA, List.set_cons_succ, this]
theorem flatA_us : ∀ (l : List Ac) (n : Nat) (a : Ac) (x : Int), l[n]? = some a → (flatA l).set (n * 5 + 4) (.int .u64 x) = flatA (l.set n { a with us := x })
  | [], n, a, x, h => by simp at h
  | b :: l, 0, a, x, h => by simp at h; subst h; rfl
  | b :: l, n + 1, a, x, h => by
    have := flatA_us l n a x (by simpa using h)
    rw [show (n + 1) * 5 + 4 = n * 5 + 4 + 1 + 1 + 1 + 1 + 1 by omega]
    simp only [flatA, List.set_cons_succ, this]
/-- A block of accounts, known whole. -/
def AccC (W : World) (b : Nat) (M : List Ac) : Prop := W.heap[b]? = some (.cells (flatA M).toArray 32 (0, 0))
section
variable {W W' : World} {b : Nat} {M l r : List Ac}
theorem AccC.lt (h : AccC W b M) : b < W.heap.size := (Array.getElem?_eq_some_iff.1 (show W.heap[b]? = _ from h)).1
theorem AccC.free (h : AccC W b M) (k : Nat) : W.frozen? ⟨b, k, none⟩ = false := frozen_at (show W.heap[b]? = _ from h)
theorem AccC.at (h : AccC W b M) {k : Nat} {a : Ac} (ha : M[k]? = some a) : AcAt W b (k * 5) a := by
  have hb : W.heap[b]? = _ := h
  obtain ⟨e0, e1, e2, e3, e4⟩ := flatA_at M k a ha
  exact ⟨cells_at hb (by simpa using e0), cells_at hb (by simpa using e1), cells_at hb (by simpa using e2), cells_at hb (by simpa using e3), cells_at hb (by simpa using e4)⟩
theorem AccC.chg {K : Nat → Prop} (c : Chg K W W') (h : AccC W b M) (hK : ¬ K b) : AccC W' b M := (c.block b h.lt hK).trans h
theorem AccC.below (c : Below W.heap.size W W') (h : AccC W b M) : AccC W' b M := (c.block b h.lt).trans h
theorem AccC.set (h : AccC W b M) {k : Nat} {v : Value} {M' : List Ac} (hf : (flatA M).set k v = flatA M') : AccC (W.setCell ⟨b, k, none⟩ v) b M' := by
  have := heap_setCell_same W b k _ 32 v h
  unfold AccC
  rw [this]
  simp [hf]
theorem AccC.acs (h : AccC W b (l ++ r)) : Acs W b 0 l := fun k a ha => by
  have hk := (List.getElem?_eq_some_iff.1 ha).1
  rw [Nat.zero_add]
  exact h.at (by rw [List.getElem?_append_left hk]; exact ha)
end
def zAc : Ac := ⟨⟨#[]⟩, 0, 0, false, 0⟩
def bhAc : Ac := ⟨⟨#[98, 101, 104, 105, 110, 100]⟩, 0, 0, false, 0⟩
def zC : Array Value := #[.string ⟨#[]⟩, .int .i64 0, .int .i64 0, .bool false, .int .u64 0]
theorem made_flat (n : Nat) : madeCells zC (n * 5) = (flatA (List.replicate n zAc)).toArray := by
  apply Array.ext
  · simp [madeCells, flatA_len]
  · intro j h1 h2
    have hj : j < n * 5 := by simpa [madeCells] using h1
    obtain ⟨e0, e1, e2, e3, e4⟩ := flatA_at (List.replicate n zAc) (j / 5) zAc (by rw [List.getElem?_replicate, if_pos (by omega)])
    have hj5 : j = j / 5 * 5 + j % 5 := by omega
    have hr : j % 5 = 0 ∨ j % 5 = 1 ∨ j % 5 = 2 ∨ j % 5 = 3 ∨ j % 5 = 4 := by omega
    have key : (flatA (List.replicate n zAc))[j]? = some (zC[j % 5]!) := by
      rcases hr with h | h | h | h | h
      · rw [h]; rw [show j = j / 5 * 5 by omega]; exact e0
      · rw [h]; rw [show j = j / 5 * 5 + 1 by omega]; exact e1
      · rw [h]; rw [show j = j / 5 * 5 + 2 by omega]; exact e2
      · rw [h]; rw [show j = j / 5 * 5 + 3 by omega]; exact e3
      · rw [h]; rw [show j = j / 5 * 5 + 4 by omega]; exact e4
    have e := (List.getElem?_eq_some_iff.1 key).2
    simp only [madeCells, Array.getElem_map, Array.getElem_range, List.getElem_toArray, show zC.size = 5 from rfl]
    exact e.symm
/-- make([]Account, n + 1) -/
theorem make_acs (w : World) {n : Nat} (hn : n * 48 ≤ 140737488355328) : ∃ w', (Instr.makeSlice 24 (.int .i64 ((n : Int) + 1)) (.int .i64 ((n : Int) + 1))).run Tryz.prog w = .ok (.slice (some ⟨w.heap.size, 0, none⟩) (n + 1) (n + 1)) w' ∧ AccC w' w.heap.size (List.replicate (n + 1) zAc) ∧ Below w.heap.size w w' ∧ w'.heap.size = w.heap.size + 1 := by
  obtain ⟨i0, hi0, hz0, hz1, hz2⟩ := info_parts Tryz.inf32
  have hmk := run_make (P := Tryz.prog) w 24 32 i0 _ Tryz.underlying24 hi0 hz0 .i64 .i64 ((n : Int) + 1) ((n : Int) + 1) (by omega) (Int.le_refl _) (by rw [hz2]; omega) (by omega)
  rw [show ((n : Int) + 1).toNat = n + 1 by omega, hz1] at hmk
  refine ⟨_, hmk, ?_, (Below.refl _ _).alloc (Nat.le_refl _) _, by simp⟩
  unfold AccC
  rw [← made_flat (n + 1)]
  exact heap_alloc_new w _
theorem Tryz.szA : (Tryz.prog.info? 32).map (·.size) = some 5 := by kernel_rfl
section
variable {P : Program}
theorem run_copy_rowN (w : World) (dT sT ty elem : TypeId) (g o dLen dCap : Nat) (a : Addr) (sLen sCap size : Nat) (cur : Array Value) (t : TypeId) (cs : List Value)
    (hu : P.underlying dT = some (.slice elem)) (hs : (P.info? elem).map (·.size) = some size)
    (hg : w.heap[g]? = some (.cells cur t (0, 0))) (hn : cs.length = Nat.min sLen dLen * size)
    (hsrc : ∀ j v, cs[j]? = some v → w.cell? (a.add j) = some v) (hfit : o + cs.length ≤ cur.size) (h1 : ∀ v ∈ cs, v.oneCell' = true) :
    (Builtin.copy_ #[dT, sT] ty #[.slice (some ⟨g, o, none⟩) dLen dCap, .slice (some a) sLen sCap]).run P w =
      .ok (goInt (Nat.min sLen dLen : Nat)) (w.setRow g (cur.toList.take o ++ cs ++ cur.toList.drop (o + cs.length)).toArray) := by
  have hl := run_loadCells_list (P := P) w a cs hsrc
  have hst := run_storeCells_at P g o t cs 0 cur w hg (by simpa using hfit) h1
  cases hq : P.info? elem with
  | none => simp [hq] at hs
  | some i =>
    have hi : i.size = size := by simpa [hq] using hs
    simp [Builtin.copy_, run_underlying hu, Builtin.lenOf, Builtin.firstCells, sizeOf, typeInfo, hq, hi, ← hn, hl, hst]
theorem run_copy_noneN (w : World) (dT sT ty elem : TypeId) (d a : Option Addr) (dLen dCap sLen sCap size : Nat) (hu : P.underlying dT = some (.slice elem)) (hs : (P.info? elem).map (·.size) = some size) (hn : Nat.min sLen dLen = 0) :
    (Builtin.copy_ #[dT, sT] ty #[.slice d dLen dCap, .slice a sLen sCap]).run P w = .ok (goInt 0) w := by
  cases hq : P.info? elem with
  | none => simp [hq] at hs
  | some i =>
    have hl : ∀ (x : Addr), (loadCells x 0).run P w = .ok #[] w := fun x => by simpa using run_loadCells_list (P := P) w x [] (by simp)
    cases d <;> cases a <;> simp [Builtin.copy_, run_underlying hu, Builtin.lenOf, Builtin.firstCells, sizeOf, typeInfo, hq, hn, storeCells, hl]
end
theorem copied_flat {l : List Ac} {n : Nat} (hn : l.length = n) : flatA l ++ (flatA (List.replicate (n + 1) zAc)).drop (flatA l).length = flatA (l ++ [zAc]) := by
  rw [flatA_app, flatA_len, hn, List.replicate_succ', flatA_app, List.drop_left' (by rw [flatA_len, List.length_replicate])]
/-- copy(own, l) -/
theorem copy_acs {w : World} {g L c : Nat} {ao : Option Addr} {l : List Ac} (hA : AccC w g (List.replicate (L + 1) zAc)) (hL : l.length = L) (hnil : ao = none → L = 0) (hsrc : ∀ ad, ao = some ad → ∀ j u, (flatA l)[j]? = some u → w.cell? (ad.add j) = some u) :
    ∃ w', (Builtin.copy_ #[24, 24] 3 #[.slice (some ⟨g, 0, none⟩) (L + 1) (L + 1), .slice ao L c]).run Tryz.prog w = .ok (goInt (L : Nat)) w' ∧ AccC w' g (l ++ [zAc]) ∧ Below g w w' := by
  have hmin : Nat.min L (L + 1) = L := Nat.min_eq_left (by omega)
  cases ao with
  | none =>
    have h0 := hnil rfl
    subst h0
    have hl : l = [] := List.eq_nil_of_length_eq_zero hL
    subst hl
    exact ⟨w, run_copy_noneN (P := Tryz.prog) w _ _ _ 32 _ _ _ _ _ _ 5 Tryz.underlying24 Tryz.szA hmin, hA, Below.refl _ _⟩
  | some ad =>
    have hf := flatA_len l
    have hrun := run_copy_rowN (P := Tryz.prog) w 24 24 3 32 g 0 (L + 1) (L + 1) ad L c 5 _ 32 (flatA l) Tryz.underlying24 Tryz.szA hA (by rw [hmin, hf, hL]) (hsrc ad rfl) (by simp [flatA_len, hL]; omega) (flatA_one l)
    rw [hmin] at hrun
    refine ⟨_, hrun, ?_, below_setRow (Below.refl _ _) (Nat.le_refl _) _⟩
    have := setRow_heap w g (flatA (List.replicate (L + 1) zAc)).toArray (flatA (l ++ [zAc])).toArray 32 _ hA
    unfold AccC
    rw [← this, ← copied_flat hL]
    simp
theorem behind_flat {l : List Ac} {n : Nat} (hn : l.length = n) : (flatA (l ++ [zAc])).set (n * 5) (.string ⟨#[98, 101, 104, 105, 110, 100]⟩) = flatA (l ++ [bhAc]) := by
  subst hn
  rw [flatA_nm (l ++ [zAc]) l.length zAc ⟨#[98, 101, 104, 105, 110, 100]⟩ (by simp)]
  simp [zAc, bhAc]
end Go.Proofs.YtioldijdmefljaaGreatDoor
namespace Go.Proofs.YtioldijdmefljaaGreatDoor
open Go.RowKit Wd Tr Cg Bk Ld

/-- The book: its lists lie in blocks of F; nothing else that stood in w6 has turned. -/
def BkS (w6 : World) (K : Nat → Prop) (H k : Nat) (F : Nat → Prop) (w : World) : Prop :=
  ∃ ao aw co cw es, Nums w H 0 ao aw co cw es ∧ es.length = k ∧ Full es ∧ (∀ i ∈ foot ao aw es, F i) ∧ (∀ i, F i → w6.heap.size ≤ i ∧ i < w.heap.size) ∧ Chg K w6 w ∧ H < w6.heap.size ∧ K H
section
variable {w6 w w' : World} {H k : Nat} {K F : Nat → Prop}
theorem BkS.chg (h : BkS w6 K H k F w) : Chg K w6 w := by
  obtain ⟨_, _, _, _, _, _, _, _, _, _, hc, _, _⟩ := h
  exact hc
theorem BkS.lt (h : BkS w6 K H k F w) : H < w6.heap.size := by
  obtain ⟨_, _, _, _, _, _, _, _, _, _, _, hl, _⟩ := h
  exact hl
theorem BkS.in (h : BkS w6 K H k F w) : ∀ i, F i → w6.heap.size ≤ i ∧ i < w.heap.size := by
  obtain ⟨_, _, _, _, _, _, _, _, _, hi, _, _, _⟩ := h
  exact hi
theorem BkS.below (h : BkS w6 K H k F w) (hb : Below w.heap.size w w') : BkS w6 K H k F w' := by
  obtain ⟨ao, aw, co, cw, es, hN, h1, h2, h3, h4, h5, h6, h7⟩ := h
  refine ⟨ao, aw, co, cw, es, hN.chg (Chg.of_below hb (fun _ => False)) (fun h => h) (fun _ _ h => h), h1, h2, h3, fun i hi => ⟨(h4 i hi).1, ?_⟩, h5.trans (Chg.of_below hb (fun _ => False)) (fun _ _ h => h.elim), h6, h7⟩
  have := (h4 i hi).2
  have := hb.size
  omega
theorem BkS.wide (h : BkS w6 K H k F w) : BkS w6 K H k (fun i => w6.heap.size ≤ i ∧ i < w.heap.size) w := by
  obtain ⟨ao, aw, co, cw, es, hN, h1, h2, h3, h4, h5, h6, h7⟩ := h
  exact ⟨ao, aw, co, cw, es, hN, h1, h2, fun i hi => h4 i (h3 i hi), fun i hi => hi, h5, h6, h7⟩
theorem BkS.new (hb : w.heap[H]? = some (.cells #[.slice none 0 0, .slice none 0 0, .int .i64 0] 29 (0, 0))) : BkS w (fun i => i = H) H 0 (fun _ => False) w := by
  refine ⟨none, none, 0, 0, [], ⟨hb, ⟨rfl, .inl ⟨rfl, rfl⟩⟩, ⟨rfl, .inl ⟨rfl, rfl⟩⟩, (fun e he => by cases he), by simp [foot, ablk], by simp⟩, rfl, (fun e he => by cases he), (fun i hi => by simp [foot, ablk] at hi), fun i hi => hi.elim, Chg.refl _ _, (Array.getElem?_eq_some_iff.1 hb).1, rfl⟩
theorem keepS {va vb : Option Addr} {vd : Nat} {xs : List Int} {N : Nat} (h : BkS w6 K H k F w) (hk : k ≤ 300) (hN : xs.length = N) (hv : w.ownsRow 0 30 1 (.slice va N N) N (wdC xs)) (hb : w.ownsRow 0 30 1 (.slice vb N vd) N (wdC xs)) (hx : N ≤ 64)
    (hap : ∀ i ∈ ablk va, w6.heap.size ≤ i ∧ ¬ F i) (hbp : ∀ i ∈ ablk vb, w6.heap.size ≤ i ∧ ¬ F i) :
    Calls Tryz.prog 7 #[.pointer (some ⟨H, 0, none⟩), .slice va N N, .slice vb N vd] w fun e w' => e = .returned (.bool true) ∧ BkS w6 K H (k + 1) (fun i => F i ∨ i ∈ ablk va ∨ (w.heap.size ≤ i ∧ i < w'.heap.size)) w' ∧ Chg (fun i => i = H ∨ F i) w w' := by
  subst hN
  obtain ⟨ao, aw, co, cw, es, hN, h1, h2, h3, h4, h5, h6, h7⟩ := h
  refine (keep_any H 0 ao aw co cw es va vb xs.length vd xs w hN (by omega) hv hb (by omega) (fun i hi => ⟨by have := (hap i hi).1; omega, fun hm => (hap i hi).2 (h3 i hm)⟩) (fun i hi => ⟨by have := (hbp i hi).1; omega, fun hm => (hbp i hi).2 (h3 i hm)⟩)).mono ?_
  rintro e w' ⟨rfl, ao', aw', co', cw', gw, cw1, hN', hf', hc'⟩
  have hs := hc'.size
  have hs6 := h5.size
  refine ⟨rfl, ⟨ao', aw', co', cw', _, hN', by simp [h1], fun e he => ?_, fun i hi => ?_, fun i hi => ?_, h5.trans hc' (fun i hi hK => ?_), h6, h7⟩, hc'.mono (fun i _ hK => hK.elim .inl (fun hm => .inr (h3 i hm)))⟩
  · rcases List.mem_append.1 he with he | he
    · exact h2 e he
    · rw [List.mem_singleton.1 he]
      exact ⟨rfl, by show xs.length ≤ 900; omega⟩
  · rcases hf' i hi with hm | hm | hm
    · exact .inl (h3 i hm)
    · exact .inr (.inl hm)
    · exact .inr (.inr ⟨hm, hN'.foot_lt i hi⟩)
  · rcases hi with hm | hm | hm
    · have := h4 i hm; omega
    · have := (hap i hm).1; have := (own_head hv i hm).1; omega
    · omega
  · rcases hK with hm | hm
    · exact hm ▸ h7
    · have := (h4 i (h3 i hm)).1; omega
theorem BkS.turn {K' : Nat → Prop} {G : Nat} (h : BkS w6 K H k F w) (c : Chg (fun i => i = G) w w') (hG : G < w6.heap.size) (hne : G ≠ H) (hK : ∀ i, K i → K' i) (hKG : K' G) : BkS w6 K' H k F w' := by
  obtain ⟨ao, aw, co, cw, es, hN, h1, h2, h3, h4, h5, h6, h7⟩ := h
  refine ⟨ao, aw, co, cw, es, hN.chg c (fun e => hne e.symm) (fun i hi e => ?_), h1, h2, h3, fun i hi => ⟨(h4 i hi).1, ?_⟩, (h5.mono (fun i _ hi => hK i hi)).trans c (fun i _ e => e ▸ hKG), h6, hK H h7⟩
  · have := (h4 i (h3 i hi)).1
    omega
  · have := (h4 i hi).2
    have := c.size
    omega
theorem spoilS (h : BkS w6 K H k F w) (hk : k ≤ 300) : Calls Tryz.prog 12 #[.pointer (some ⟨H, 0, none⟩)] w fun e w' => e = .returned (.bool true) ∧ Chg (fun i => i = H ∨ F i) w w' := by
  obtain ⟨ao, aw, co, cw, es, hN, h1, h2, h3, h4, h5, h6, h7⟩ := h
  refine (spoil_any H ao aw co cw es w hN (by omega) h2).mono ?_
  rintro e w' ⟨rfl, hc⟩
  exact ⟨rfl, hc.mono (fun i _ hK => hK.elim .inl (fun hm => .inr (h3 i hm)))⟩
end
/-- Two rows that were handed out. -/
def Rows2 (w : World) (N : Nat) (xs ys : List Int) (e : Ending) (w' : World) : Prop :=
  ∃ va vb, e = .returned (.tuple #[.slice va N N, .slice vb N N]) ∧ w'.ownsRow 0 30 1 (.slice va N N) N (wdC xs) ∧ w'.ownsRow 0 30 1 (.slice vb N N) N (wdC ys) ∧ (∀ i ∈ ablk va, w.heap.size ≤ i ∧ i ∉ ablk vb) ∧ (∀ i ∈ ablk vb, w.heap.size ≤ i) ∧ Below w.heap.size w w'
def Row1 (w : World) (N : Nat) (xs : List Int) (e : Ending) (w' : World) : Prop :=
  ∃ va, e = .returned (.slice va N N) ∧ w'.ownsRow 0 30 1 (.slice va N N) N (wdC xs) ∧ (∀ i ∈ ablk va, w.heap.size ≤ i) ∧ Below w.heap.size w w'
theorem row_of_F {w : World} {b L : Nat} {f : Nat → Int} (h : RowF w b L f) (hL : L ≤ 64) : w.ownsRow 0 30 1 (.slice (some ⟨b, 0, none⟩) L L) L (wdC (firstN f L)) := by
  obtain ⟨cur, hc, hs, hv⟩ := h
  refine ⟨by simp [wdC, firstN], .inr ⟨b, L, cur, rfl, Nat.zero_le _, hc, Nat.le_refl _, by unfold maxLen; omega, by omega, ?_⟩⟩
  apply List.ext_getElem?
  intro j
  rw [Nat.mul_one, List.take_of_length_le (by simp; omega), Array.getElem?_toList]
  by_cases hj : j < L
  · rw [hv j hj]
    simp [wdC, firstN, hj]
  · rw [Array.getElem?_eq_none (by omega), List.getElem?_eq_none (by simp [wdC, firstN]; omega)]
theorem none_row (w : World) : w.ownsRow 0 30 1 (.slice none 0 0) 0 (wdC []) := ⟨rfl, .inl ⟨rfl, rfl⟩⟩
theorem lenS_le (l : List Ac) : lenS l ≤ 64 := by
  unfold lenS
  split
  · rename_i h; exact Wu.len (show Wu l from wf_load h)
  · omega
theorem lenE_le (cf : Cf) (l : List Ac) : lenE cf l ≤ 64 := by
  unfold lenE
  split
  · rename_i h; exact Wu.len (show Wu l from wf_load h.1)
  · omega
theorem shares_rows {w w' : World} {l : List Ac} {e : Ending} (h : SharesP w l e w') : Rows2 w (lenS l) (firstN (numV l) (lenS l)) (firstN (denV l) (lenS l)) e w' := by
  obtain ⟨h1, h2, hb⟩ := h
  have hle := lenS_le l
  by_cases hE : loadE l = 0
  · obtain ⟨nb, db, rfl, k1, k2, k3, r1, r2⟩ := h1 hE
    rw [show lenS l = l.length from if_pos hE] at hle ⊢
    exact ⟨_, _, rfl, row_of_F r1 hle, row_of_F r2 hle, fun i hi => by simp [ablk] at hi ⊢; omega, fun i hi => by simp [ablk] at hi; omega, hb⟩
  · obtain rfl := h2 hE
    rw [show lenS l = 0 from if_neg hE]
    exact ⟨_, _, rfl, none_row _, none_row _, fun i hi => by simp [ablk] at hi, fun i hi => by simp [ablk] at hi, hb⟩
theorem eff_rows {w w' : World} {cf : Cf} {l : List Ac} {e : Ending} (h : EffP w cf l e w') : Row1 w (lenE cf l) (firstN (efV l (wV l (flZ cf))) (lenE cf l)) e w' := by
  obtain ⟨h1, h2, hb⟩ := h
  have hle := lenE_le cf l
  by_cases hE : loadE l = 0 ∧ chkZ cf = 0
  · obtain ⟨nb, rfl, k1, r1⟩ := h1 hE
    rw [show lenE cf l = l.length from if_pos hE] at hle ⊢
    exact ⟨_, rfl, row_of_F r1 hle, fun i hi => by simp [ablk] at hi; omega, hb⟩
  · obtain rfl := h2 hE
    rw [show lenE cf l = 0 from if_neg hE]
    exact ⟨_, rfl, none_row _, fun i hi => by simp [ablk] at hi, hb⟩
theorem fac_rows {w w' : World} {cf : Cf} {l : List Ac} {e : Ending} (h : FacP w cf l e w') : Row1 w (lenE cf l) (firstN (facV l (wV l (flZ cf))) (lenE cf l)) e w' := by
  obtain ⟨h1, h2, hb⟩ := h
  have hle := lenE_le cf l
  by_cases hE : loadE l = 0 ∧ chkZ cf = 0
  · obtain ⟨nb, rfl, k1, r1⟩ := h1 hE
    rw [show lenE cf l = l.length from if_pos hE] at hle ⊢
    exact ⟨_, rfl, row_of_F r1 hle, fun i hi => by simp [ablk] at hi; omega, hb⟩
  · obtain rfl := h2 hE
    rw [show lenE cf l = 0 from if_neg hE]
    exact ⟨_, rfl, none_row _, fun i hi => by simp [ablk] at hi, hb⟩
/-- All that is asked of one list, in every world that has only the book turned since w6; XA, XB shares, XE effective usages, XF factors. -/
structure AskX (w6 : World) (H : Nat) (cf : Cf) (ax : Option Addr) (L cx N M : Nat) (XA XB XE XF : List Int) : Prop where
  sh : ∀ x, Chg (fun i => i = H) w6 x → Calls Tryz.prog 5 #[.slice ax L cx] x (Rows2 x N XA XB)
  rsh : ∀ x, Chg (fun i => i = H) w6 x → Calls Tryz.prog 6 #[.slice ax L cx] x (RSh x N XA XB)
  ef : ∀ x, Chg (fun i => i = H) w6 x → Calls Tryz.prog 8 #[cfV cf, .slice ax L cx] x (Row1 x M XE)
  ref : ∀ x, Chg (fun i => i = H) w6 x → Calls Tryz.prog 9 #[cfV cf, .slice ax L cx] x (REf x M XE)
  fa : ∀ x, Chg (fun i => i = H) w6 x → Calls Tryz.prog 10 #[cfV cf, .slice ax L cx] x (Row1 x M XF)
  rfa : ∀ x, Chg (fun i => i = H) w6 x → Calls Tryz.prog 11 #[cfV cf, .slice ax L cx] x (REf x M XF)
  na : XA.length = N
  nb : XB.length = N
  ne : XE.length = M
  nf : XF.length = M
  n64 : N ≤ 64
  m64 : M ≤ 64
theorem ask_any {w w6 : World} {H : Nat} {cf : Cf} {ax : Option Addr} {cx : Nat} {X : List Ac} (hT : Tab w) (hb : Below w.heap.size w w6) (hH : w.heap.size ≤ H) (hA : ∀ x, Chg (fun i => i = H) w6 x → AcsAt x ax X) (hs : ∀ a ∈ X, a.nm.size ≤ maxLen) (hus : UsOk X) (hn : X.length * 48 ≤ 140737488355328) (hc : X.length ≤ cx) :
    AskX w6 H cf ax X.length cx (lenS X) (lenE cf X) (firstN (numV X) (lenS X)) (firstN (denV X) (lenS X)) (firstN (efV X (wV X (flZ cf))) (lenE cf X)) (firstN (facV X (wV X (flZ cf))) (lenE cf X)) where
  sh x hx := (shares_any (hA x hx) hs hn hc).mono fun e w' h => shares_rows h
  rsh x hx := rshs_any (hA x hx) hn
  ef x hx := (effective_any (hA x hx) hs hus hn hc).mono fun e w' h => eff_rows h
  ref x hx := reffs_any (hA x hx) hus hn
  fa x hx := (factors_any (Tab.below (hx.below hb hb.size (fun i e => by omega)) hT) (hA x hx) hs hus hn hc).mono fun e w' h => fac_rows h
  rfa x hx := rfacs_any (hA x hx) hus hn
  na := firstN_len _ _
  nb := firstN_len _ _
  ne := firstN_len _ _
  nf := firstN_len _ _
  n64 := lenS_le X
  m64 := lenE_le cf X
section
variable {w6 w x1 x2 : World} {H k N : Nat} {K : Nat → Prop} {xs ys : List Int}
/-- Both lists that Shares told are laid by. -/
theorem two_keeps {va vb : Option Addr} {ga ca gb cb : Nat} (h : BkS w6 K H k (fun i => w6.heap.size ≤ i ∧ i < w.heap.size) w) (hk : k ≤ 200) (hx : xs.length = N) (hy : ys.length = N) (hN : N ≤ 64) (ra : x1.ownsRow 0 30 1 (.slice va N N) N (wdC xs)) (rb : x1.ownsRow 0 30 1 (.slice vb N N) N (wdC ys))
    (hva : ∀ i ∈ ablk va, w.heap.size ≤ i ∧ i ∉ ablk vb) (hvb : ∀ i ∈ ablk vb, w.heap.size ≤ i) (hb : Below w.heap.size w x1) (hT : TwoR x1 x2 ga ca N xs gb cb N ys) :
    Calls Tryz.prog 7 #[.pointer (some ⟨H, 0, none⟩), .slice va N N, .slice (some ⟨ga, 0, none⟩) N ca] x2 fun e x3 => e = .returned (.bool true) ∧
      Calls Tryz.prog 7 #[.pointer (some ⟨H, 0, none⟩), .slice vb N N, .slice (some ⟨gb, 0, none⟩) N cb] x3 fun e x4 => e = .returned (.bool true) ∧ BkS w6 K H (k + 2) (fun i => w6.heap.size ≤ i ∧ i < x4.heap.size) x4 := by
  have s6 := h.chg.size
  have s1 := hb.size
  have s2 := hT.bl.size
  have hH := h.lt
  have ra2 := own_below ra hT.bl
  have rb2 := own_below rb hT.bl
  have la := own_head ra
  have lb := own_head rb
  have lga := Bk.own_lt hT.a
  have lgb := Bk.own_lt hT.b
  have k1 := hT.la
  have k2 := hT.lb
  have k3 := hT.ne
  refine (keepS ((h.below hb).below hT.bl) (by omega) hx ra2 hT.a hN (fun i hi => ?_) (fun i hi => ?_)).mono ?_
  · have := (hva i hi).1; omega
  · simp [ablk] at hi; omega
  · rintro e x3 ⟨rfl, b3, c3⟩
    have nb : ∀ i ∈ ablk vb, ¬ (i = H ∨ (w6.heap.size ≤ i ∧ i < w.heap.size)) := fun i hi => by have := hvb i hi; omega
    have ng : ∀ i ∈ ablk (some (⟨gb, 0, none⟩ : Addr)), ¬ (i = H ∨ (w6.heap.size ≤ i ∧ i < w.heap.size)) := fun i hi => by simp [ablk] at hi; omega
    refine ⟨rfl, (keepS b3 (by omega) hy (c3.own rb2 nb) (c3.own hT.b ng) hN (fun i hi => ?_) (fun i hi => ?_)).mono ?_⟩
    · have q1 := hvb i hi
      have q2 := (lb i hi).1
      refine ⟨by omega, fun hm => ?_⟩
      rcases hm with hm | hm | hm
      · omega
      · exact (hva i hm).2 hi
      · omega
    · simp [ablk] at hi
      refine ⟨by omega, fun hm => ?_⟩
      rcases hm with hm | hm | hm
      · omega
      · have := (la i hm).1; omega
      · omega
    · rintro e x4 ⟨rfl, b4, _⟩
      exact ⟨rfl, b4.wide⟩
/-- One list is laid by. -/
theorem one_keep {va : Option Addr} {gb cb : Nat} (h : BkS w6 K H k (fun i => w6.heap.size ≤ i ∧ i < w.heap.size) w) (hk : k ≤ 200) (hx : xs.length = N) (hN : N ≤ 64) (ra : x1.ownsRow 0 30 1 (.slice va N N) N (wdC xs))
    (hva : ∀ i ∈ ablk va, w.heap.size ≤ i) (hb : Below w.heap.size w x1) (rb : x2.ownsRow 0 30 1 (.slice (some ⟨gb, 0, none⟩) N cb) N (wdC xs)) (hgb : x1.heap.size ≤ gb) (hb2 : Below x1.heap.size x1 x2) :
    Calls Tryz.prog 7 #[.pointer (some ⟨H, 0, none⟩), .slice va N N, .slice (some ⟨gb, 0, none⟩) N cb] x2 fun e x3 => e = .returned (.bool true) ∧ BkS w6 K H (k + 1) (fun i => w6.heap.size ≤ i ∧ i < x3.heap.size) x3 := by
  have s6 := h.chg.size
  have s1 := hb.size
  refine (keepS ((h.below hb).below hb2) (by omega) hx (own_below ra hb2) rb hN (fun i hi => ?_) (fun i hi => ?_)).mono ?_
  · have := hva i hi; omega
  · simp [ablk] at hi; omega
  · rintro e x3 ⟨rfl, b3, _⟩
    exact ⟨rfl, b3.wide⟩
end
theorem St.chg {w x y : World} {g : Nat} {c : Cf} {K : Nat → Prop} (h : St w g c x) (hc : Chg K x y) (hg : ¬ K g) (hK : ∀ i, K i → w.heap.size ≤ i) : St w g c y := by
  obtain ⟨a0, a1, a2, a3, a4, a5, a6, a7, bb, zz⟩ := h
  exact ⟨hc.cell a0 hg, hc.cell a1 hg, hc.cell a2 hg, hc.cell a3 hg, hc.cell a4 hg, hc.cell a5 hg, hc.cell a6 hg, hc.cell a7 hg, hc.below bb zz hK, Nat.le_trans zz hc.size⟩
end Go.Proofs.YtioldijdmefljaaGreatDoor
namespace Go.Proofs.YtioldijdmefljaaGreatDoor
open Go.RowKit Wd Tr Cg Bk Ld

/-- Usages by three, the marks turned. -/
def trnA (a : Ac) : Ac := { a with cl := !a.cl, us := a.us / 3 }
def trnL (l : List Ac) (j : Nat) : List Ac := (l.take j).map trnA ++ l.drop j
theorem trnL_len (l : List Ac) (j : Nat) : (trnL l j).length = l.length := by simp [trnL]; omega
theorem trnL_at {l : List Ac} {j : Nat} {a : Ac} (r : List Ac) (h : l[j]? = some a) : (trnL l j ++ r)[j]? = some a := by
  have hj := (List.getElem?_eq_some_iff.1 h).1
  rw [List.getElem?_append_left (by rw [trnL_len]; exact hj)]
  unfold trnL
  rw [List.getElem?_append_right (by simp; omega)]
  simp only [List.length_map, List.length_take, List.getElem?_drop]
  rw [show j + (j - min j l.length) = j by omega]
  exact h
theorem trnL_set {l : List Ac} {j : Nat} {a : Ac} (r : List Ac) (h : l[j]? = some a) : (trnL l j ++ r).set j (trnA a) = trnL l (j + 1) ++ r := by
  have hj := (List.getElem?_eq_some_iff.1 h).1
  rw [List.set_append_left _ _ (by rw [trnL_len]; exact hj)]
  unfold trnL
  have e : l.drop j = a :: l.drop (j + 1) := by
    rw [List.drop_eq_getElem_cons hj]
    rw [(List.getElem?_eq_some_iff.1 h).2]
  rw [List.set_append_right _ _ (by simp; omega), e]
  have e2 : l.take (j + 1) = l.take j ++ [a] := by
    rw [List.take_add_one, h]
    rfl
  rw [e2, show j - (List.map trnA (List.take j l)).length = 0 by simp; omega]
  simp
theorem trnL_all (l : List Ac) : trnL l l.length = l.map trnA := by simp [trnL]
theorem turned_row {w : World} {B L : Nat} {v : Value} {l : List Ac} (hL : l.length = L) (h : w.ownsRow B 32 5 v (0 + L) ([] ++ flatA l)) : ∃ tao tc, v = .slice tao (0 + L) tc ∧ AcsAt w tao l := by
  subst hL
  rw [Nat.zero_add, List.nil_append] at h
  obtain ⟨tao, tc, h1, h2, _⟩ := acs_row h
  exact ⟨tao, tc, by rw [Nat.zero_add]; exact h1, h2⟩
/-- What is asked of the list of the round: the caller's own, or the other one. -/
def PickX (w6 : World) (H : Nat) (cf : Cf) (ow : Bool) (G L : Nat) (bo : Option Addr) (M d : Nat) (ax : Option Addr) (LX cx : Nat) : Prop :=
  ∃ N E XA XB XE XF, AskX w6 H cf ax LX cx N E XA XB XE XF ∧ (ow = true → ax = some ⟨G, 0, none⟩ ∧ LX = L ∧ cx = L + 1) ∧ (ow = false → ax = bo ∧ LX = M ∧ cx = d)
set_option maxHeartbeats 4000000 in
set_option maxRecDepth 20000 in
theorem stells_any {w : World} {ao bo : Option Addr} {l m : List Ac} {c d : Nat} {cf : Cf} (hT : Tab w) (hA : AcsAt w ao l) (hs : ∀ a ∈ l, a.nm.size ≤ maxLen) (hus : UsOk l) (hn : l.length * 48 ≤ 140737488355328)
    (hA2 : AcsAt w bo m) (hs2 : ∀ a ∈ m, a.nm.size ≤ maxLen) (hus2 : UsOk m) (hn2 : m.length * 48 ≤ 140737488355328) (hc2 : m.length ≤ d) :
    Calls Tryz.prog 3 #[cfV cf, .slice ao l.length c, .slice bo m.length d] w fun e w' => e = .returned (.bool true) ∧ Below w.heap.size w w' := by
  have hS := St.new w cf
  obtain ⟨w1, hw1⟩ : ∃ w1, w.alloc (.cells #[.int .i64 cf.nodes, .int .i64 cf.queue, .int .i64 cf.limit, .int .i64 cf.age, .int .i64 cf.fair, .int .i64 cf.size, .int .i64 cf.period, .int .i64 cf.half] 23) = w1 := ⟨_, rfl⟩
  have zw1 : w1.heap.size = w.heap.size + 1 := by rw [← hw1]; simp
  rw [hw1] at hS
  have hsw := shown_any (Tab.below hS.bel hT)
  have HSRC : Hid (∀ x, Below w.heap.size w x → ∀ ad, ao = some ad → ∀ j u, (flatA l)[j]? = some u → x.cell? (ad.add j) = some u) := fun x hx => acs_flat (hA.below hx)
  have HNIL : Hid (ao = none → l.length = 0) := by
    obtain ⟨g, o, h1, _⟩ := hA
    show ao = none → l.length = 0
    intro e
    by_cases h : 0 < l.length
    · have := h1 h
      rw [e] at this
      cases this
    · omega
  have HAL : Hid (∃ g o, (0 < l.length → ao = some ⟨g, o, none⟩) ∧ ∀ x, Below w.heap.size w x → Acs x g o l) := by
    obtain ⟨g, o, h1, h2⟩ := hA
    exact ⟨g, o, h1, fun x hx => Acs.below h2 hx⟩
  have HT : Hid (Tab w) := hT
  have HPK : Hid (∀ w6 H G ow, Below w.heap.size w w6 → w.heap.size ≤ H → H ≠ G → AccC w6 G (l ++ [bhAc]) → ∃ ax LX cx, PickX w6 H cf ow G l.length bo m.length d ax LX cx) := fun w6 H G ow hb hH hne hac => by
    cases ow with
    | true =>
      refine ⟨some ⟨G, 0, none⟩, l.length, l.length + 1, _, _, _, _, _, _, ask_any hT hb hH (fun x hx => ⟨G, 0, fun _ => rfl, AccC.acs (AccC.chg hx hac (fun e => hne e.symm))⟩) hs hus hn (by omega), fun _ => ⟨rfl, rfl, rfl⟩, fun h => by cases h⟩
    | false =>
      refine ⟨bo, m.length, d, _, _, _, _, _, _, ask_any hT hb hH (fun x hx => hA2.below (hx.below hb hb.size (fun i e => by omega))) hs2 hus2 hn2 hc2, (fun h => by cases h), fun _ => ⟨rfl, rfl, rfl⟩⟩
  have HS1 : Hid (St w w.heap.size cf w1) := hS
  have HZ1 : Hid (w1.heap.size = w.heap.size + 1) := zw1
  have HFB : Hid (∀ n, l.length = n → (flatA (l ++ [zAc])).set (n * 5) (.string ⟨#[98, 101, 104, 105, 110, 100]⟩) = flatA (l ++ [bhAc])) := fun n hn => behind_flat hn
  obtain ⟨L, hL⟩ : ∃ L, l.length = L := ⟨_, rfl⟩
  obtain ⟨M, hM⟩ : ∃ M, m.length = M := ⟨_, rfl⟩
  have HL : Hid (l.length = L) := hL
  rw [hL] at HNIL HPK hn HAL ⊢
  rw [hM] at HPK ⊢
  have HUS : Hid (UsOk l ∧ ∀ a ∈ l, a.nm.size ≤ maxLen) := ⟨hus, hs⟩
  unfold cfV at *
  clear hA hs hus hA2 hs2 hus2 hn2 hc2 hS zw1 hT hL hM
  go_enter Tryz.func3, Tryz.ntmps3
  go_wp2_with fail
  refine hsw.mono ?_
  rintro e w2 ⟨rfl, hb2⟩
  have HS2 : Hid (St w w.heap.size cf w2) := keepW HS1.out hb2
  have HZ2 : Hid (w.heap.size < w2.heap.size) := by show w.heap.size < w2.heap.size; have := HZ1.out; have := hb2.size; omega
  clear hsw hb2 HS1 HZ1
  obtain ⟨w3, hw3⟩ : ∃ w3, w2.alloc (.cells #[.slice none 0 0, .slice none 0 0, .int .i64 0] 29) = w3 := ⟨_, rfl⟩
  have HB3 : Hid (Below w2.heap.size w2 w3) := by rw [← hw3]; exact below1 w2 _
  have HT3 : Hid (w3.heap[w2.heap.size]? = some (.cells #[.slice none 0 0, .slice none 0 0, .int .i64 0] 29 (0, 0))) := by rw [← hw3]; exact heap_alloc_new w2 _
  have HZ3 : Hid (w2.heap.size < w3.heap.size) := (Array.getElem?_eq_some_iff.1 HT3.out).1
  obtain ⟨w4, hmk, hac4, hb4, zw4⟩ := make_acs w3 hn
  have HA4 : Hid (AccC w4 w3.heap.size (List.replicate (L + 1) zAc)) := hac4
  have HB4 : Hid (Below w3.heap.size w3 w4) := hb4
  clear hac4 hb4 zw4
  have HC4 : Hid (∀ ad, ao = some ad → ∀ j u, (flatA l)[j]? = some u → w4.cell? (ad.add j) = some u) := HSRC.out w4 ((HS2.out.bel.trans (HB3.out.mono HS2.out.bel.size)).trans (HB4.out.mono (by have := HS2.out.bel.size; have := HZ3.out; omega)))
  obtain ⟨w5, hcp, hA5, hb5⟩ := copy_acs (c := c) HA4.out HL.out HNIL.out HC4.out
  have HB5 : Hid (Below w3.heap.size w4 w5) := hb5
  have x5 := (hA5.at (k := L) (a := zAc) (by rw [List.getElem?_append_right (by rw [HL.out]; omega), HL.out]; simp)).nm
  have f5 := hA5.free (L * 5)
  have HA6 : Hid (AccC (w5.setCell ⟨w3.heap.size, L * 5, none⟩ (.string ⟨#[98, 101, 104, 105, 110, 100]⟩)) w3.heap.size (l ++ [bhAc])) := hA5.set (HFB.out L HL.out)
  have hne : w2.heap.size ≠ w3.heap.size := by have := HZ3.out; omega
  have HT6 : Hid ((w5.setCell ⟨w3.heap.size, L * 5, none⟩ (.string ⟨#[98, 101, 104, 105, 110, 100]⟩)).heap[w2.heap.size]? = some (.cells #[.slice none 0 0, .slice none 0 0, .int .i64 0] 29 (0, 0))) := by
    have e1 := HB5.out.block w2.heap.size HZ3.out
    have e2 := HB4.out.block w2.heap.size HZ3.out
    exact (Below.heap_setCell _ _ _ _ (by simpa using hne)).trans (e1.trans (e2.trans HT3.out))
  have HB6 : Hid (Below w2.heap.size w2 (w5.setCell ⟨w3.heap.size, L * 5, none⟩ (.string ⟨#[98, 101, 104, 105, 110, 100]⟩))) := by
    have z3 := HZ3.out
    have z4 := HB4.out.size
    exact (((HB3.out.trans (HB4.out.mono HB3.out.size)).trans ⟨HB5.out.os, HB5.out.tape, HB5.out.output, HB5.out.size, fun i hi => HB5.out.block i (by omega)⟩).setCell (by show w2.heap.size ≤ w3.heap.size; omega) _)
  clear hA5 HA4 HB4 HB3 HT3 HB5 HFB HNIL HC4 hb5
  go_upto_region 9 with fail
  generalize w5.setCell ⟨w3.heap.size, L * 5, none⟩ (.string ⟨#[98, 101, 104, 105, 110, 100]⟩) = w6 at *
  clear x5 f5 hcp hmk
  have HS6 : Hid (St w w.heap.size cf w6) := keepW HS2.out HB6.out
  have HW6 : Hid (Below w.heap.size w w6) := St.bel HS6.out
  have HK6 : Hid (BkS w6 (fun i => i = w2.heap.size) w2.heap.size 0 (fun i => w6.heap.size ≤ i ∧ i < w6.heap.size) w6) := (BkS.new HT6.out).wide
  have HPX : Hid (∀ ow, ∃ ax LX cx, PickX w6 w2.heap.size cf ow w3.heap.size L bo M d ax LX cx) := fun ow => HPK.out w6 w2.heap.size w3.heap.size ow HW6.out (Nat.le_of_lt HZ2.out) hne HA6.out
  have HST : Hid (∀ k F x, BkS w6 (fun i => i = w2.heap.size) w2.heap.size k F x → St w w.heap.size cf x) := fun k F x h => St.chg HS6.out h.chg (Nat.ne_of_lt HZ2.out) (fun i e => e ▸ Nat.le_of_lt HZ2.out)
  have HGL : Hid (w3.heap.size < w6.heap.size) := HA6.out.lt
  have HGH : Hid (w2.heap.size < w3.heap.size) := HZ3.out
  clear HS2 HB6 HT6 HPK HZ3 HSRC hw3
  generalize w2.heap.size = H at *
  generalize w3.heap.size = G at *
  go_wp2
  go_loopg [11, 12] 3 (fun gk b x wr => ∃ j : Nat, j + gk = 3 ∧ b = .bool true ∧ x = .int .i64 j ∧ BkS w6 (fun i => i = H) H (4 * j) (fun i => w6.heap.size ≤ i ∧ i < wr.heap.size) wr)
  case atStart => exact ⟨0, by omega, rfl, rfl, HK6.out⟩
  case round =>
    obtain ⟨j, hj, rfl, rfl, hbk⟩ := hrel
    by_cases hlt : j < 3
    · have hlt' : (j : Int) < 3 := by omega
      have HBK : Hid (BkS w6 (fun i => i = H) H (4 * j) (fun i => w6.heap.size ≤ i ∧ i < wr.heap.size) wr) := hbk
      obtain ⟨ax, LX, cx, N, E, XA, XB, XE, XF, hask, ho1, ho2⟩ := HPX.out (decide (j ≠ 1))
      have HASK : Hid (AskX w6 H cf ax LX cx N E XA XB XE XF) := hask
      have HO : Hid (j = 1 ∧ ax = bo ∧ LX = M ∧ cx = d ∨ j ≠ 1 ∧ ax = some ⟨G, 0, none⟩ ∧ LX = L ∧ cx = L + 1) := by
        by_cases e : j = 1
        · exact .inl ⟨e, ho2 (by simp [e])⟩
        · exact .inr ⟨e, ho1 (by simp [e])⟩
      clear hbk hask ho1 ho2
      go_upto_if 52 with fail
      go_cut [13] (fun v wq => v = .slice ax LX cx ∧ wr = wq)
      case first =>
        rcases HO.out with ⟨e, h1, h2, h3⟩ | ⟨e, h1, h2, h3⟩
        · have HE : Hid (ax = bo ∧ LX = M ∧ cx = d) := ⟨h1, h2, h3⟩
          clear HO h1 h2 h3
          subst e
          go_wp2
          go_meet
          exact ⟨by rw [HE.out.1, HE.out.2.1, HE.out.2.2], rfl⟩
        · have HE : Hid (ax = some ⟨G, 0, none⟩ ∧ LX = L ∧ cx = L + 1) := ⟨h1, h2, h3⟩
          clear HO h1 h2 h3
          have e' : ((j : Int) == 1) = false := by simp; omega
          go_wp2
          go_meet
          exact ⟨by rw [HE.out.1, HE.out.2.1, HE.out.2.2], rfl⟩
      case rest =>
      obtain ⟨rfl, rfl⟩ := hcut
      clear HO
      have c1 := HASK.out.sh wr HBK.out.chg
      go_wp2_with fail
      refine c1.mono ?_
      rintro e x1 ⟨va, vb, rfl, ra, rb, hva, hvb, hb1⟩
      have c2 := HASK.out.rsh x1 (HBK.out.below hb1).chg
      have HV : Hid (x1.ownsRow 0 30 1 (.slice va N N) N (wdC XA) ∧ x1.ownsRow 0 30 1 (.slice vb N N) N (wdC XB) ∧ (∀ i ∈ ablk va, wr.heap.size ≤ i ∧ i ∉ ablk vb) ∧ (∀ i ∈ ablk vb, wr.heap.size ≤ i) ∧ Below wr.heap.size wr x1) := ⟨ra, rb, hva, hvb, hb1⟩
      clear c1 ra rb hva hvb hb1
      go_wp2_with fail
      refine c2.mono ?_
      rintro e x2 ⟨ga, ca, gb, cb, rfl, hTW⟩
      have c3 := two_keeps HBK.out (by omega) HASK.out.na HASK.out.nb HASK.out.n64 HV.out.1 HV.out.2.1 HV.out.2.2.1 HV.out.2.2.2.1 HV.out.2.2.2.2 hTW
      clear hTW HV c2
      go_wp2_with fail
      refine c3.mono ?_
      rintro e x3 ⟨rfl, c4⟩
      clear c3
      go_wp2_with fail
      refine c4.mono ?_
      rintro e x4 ⟨rfl, bk4⟩
      have HB4 : Hid (BkS w6 (fun i => i = H) H (4 * j + 2) (fun i => w6.heap.size ≤ i ∧ i < x4.drew.heap.size) x4.drew) := bk4.below (drew_below x4)
      have c5 := HASK.out.ef x4.drew HB4.out.chg
      have HS4 : Hid (St w w.heap.size cf x4.drew) := HST.out _ _ _ HB4.out
      unfold cfV at c5
      clear bk4 c4
      go_upto_region 20 with fail
      go_region_held3 (fun x => x.cell? ⟨w.heap.size, 0, none⟩ = some (.int .i64 cf.nodes) ∧ x.cell? ⟨w.heap.size, 1, none⟩ = some (.int .i64 cf.queue) ∧ x.cell? ⟨w.heap.size, 2, none⟩ = some (.int .i64 cf.limit) ∧ x.cell? ⟨w.heap.size, 3, none⟩ = some (.int .i64 cf.age) ∧ x.cell? ⟨w.heap.size, 4, none⟩ = some (.int .i64 cf.fair) ∧ x.cell? ⟨w.heap.size, 5, none⟩ = some (.int .i64 cf.size) ∧ x.cell? ⟨w.heap.size, 6, none⟩ = some (.int .i64 cf.period) ∧ x.cell? ⟨w.heap.size, 7, none⟩ = some (.int .i64 cf.half) ∧ Below w.heap.size w x ∧ w.heap.size ≤ x.heap.size) (first | exact HS4.out | exact HX5.out | exact HX6.out | exact HX7.out)
        (first
        | (go_at_call 8; refine c5.mono ?_; rintro e x5 ⟨ve, rfl, re, hve, hb5⟩; have HX5 : Hid (St w w.heap.size cf x5) := keepW HS4.out hb5; have c6 := HASK.out.ref x5 (HB4.out.below hb5).chg; unfold cfV at c6)
        | (go_at_call 9; refine c6.mono ?_; rintro e x6 ⟨ge, ce, rfl, rr, hge, hb6⟩; have HX6 : Hid (St w w.heap.size cf x6) := keepW HX5.out hb6; have c7 := one_keep HB4.out (by omega) HASK.out.ne HASK.out.m64 re hve hb5 rr hge hb6)
        | (go_at_call 7; refine c7.mono ?_; rintro e x7 ⟨rfl, bk7⟩; have HX7 : Hid (St w w.heap.size cf x7) := HST.out _ _ _ bk7))
      have HB7 : Hid (BkS w6 (fun i => i = H) H (4 * j + 3) (fun i => w6.heap.size ≤ i ∧ i < x7.drew.heap.size) x7.drew) := bk7.below (drew_below x7)
      have c8 := HASK.out.fa x7.drew HB7.out.chg
      have HS7 : Hid (St w w.heap.size cf x7.drew) := HST.out _ _ _ HB7.out
      unfold cfV at c8
      clear bk7 c7 rr hge hb6 c6 re hve hb5 c5 HX5 HX6 HX7 HS4 HB4
      go_upto_region 21 with fail
      go_region_held3 (fun x => x.cell? ⟨w.heap.size, 0, none⟩ = some (.int .i64 cf.nodes) ∧ x.cell? ⟨w.heap.size, 1, none⟩ = some (.int .i64 cf.queue) ∧ x.cell? ⟨w.heap.size, 2, none⟩ = some (.int .i64 cf.limit) ∧ x.cell? ⟨w.heap.size, 3, none⟩ = some (.int .i64 cf.age) ∧ x.cell? ⟨w.heap.size, 4, none⟩ = some (.int .i64 cf.fair) ∧ x.cell? ⟨w.heap.size, 5, none⟩ = some (.int .i64 cf.size) ∧ x.cell? ⟨w.heap.size, 6, none⟩ = some (.int .i64 cf.period) ∧ x.cell? ⟨w.heap.size, 7, none⟩ = some (.int .i64 cf.half) ∧ Below w.heap.size w x ∧ w.heap.size ≤ x.heap.size) (first | exact HS7.out | exact HX8.out | exact HX9.out | exact HXA.out)
        (first
        | (go_at_call 10; refine c8.mono ?_; rintro e x8 ⟨vf, rfl, rf, hvf, hb8⟩; have HX8 : Hid (St w w.heap.size cf x8) := keepW HS7.out hb8; have c9 := HASK.out.rfa x8 (HB7.out.below hb8).chg; unfold cfV at c9)
        | (go_at_call 11; refine c9.mono ?_; rintro e x9 ⟨gf, cf9, rfl, rg, hgf, hb9⟩; have HX9 : Hid (St w w.heap.size cf x9) := keepW HX8.out hb9; have cA := one_keep HB7.out (by omega) HASK.out.nf HASK.out.m64 rf hvf hb8 rg hgf hb9)
        | (go_at_call 7; refine cA.mono ?_; rintro e xA ⟨rfl, bkA⟩; have HXA : Hid (St w w.heap.size cf xA) := HST.out _ _ _ bkA))
      have HBA : Hid (BkS w6 (fun i => i = H) H (4 * j + 4) (fun i => w6.heap.size ≤ i ∧ i < xA.heap.size) xA) := bkA
      clear bkA cA rg hgf hb9 c9 rf hvf hb8 c8 HX8 HX9 HXA HS7 HB7
      go_wp2
      go_roundg (3 - (j + 1))
      case measure => omega
      case rel => exact ⟨j + 1, by omega, rfl, rfl, HBA.out⟩
    · have hge : ¬ (j : Int) < 3 := by omega
      have HB12 : Hid (BkS w6 (fun i => i = H) H 12 (fun i => w6.heap.size ≤ i ∧ i < wr.heap.size) wr) := by
        have e : 4 * j = 12 := by omega
        rw [e] at hbk
        exact hbk
      have HAG : Hid (AccC wr G (l ++ [bhAc])) := AccC.chg hbk.chg HA6.out (Ne.symm hne)
      have HBW : Hid (Below w.heap.size w wr) := St.bel (HST.out _ _ _ hbk)
      clear hbk hlt HPX HK6
      go_wp2
      go_loopg [11, 22] L (fun gk b x wq => ∃ k q : Nat, k + gk = L ∧ b = .bool true ∧ x = .int .i64 k ∧ wq = wr.drewN q)
      case atStart => exact ⟨0, 0, by omega, rfl, rfl, rfl⟩
      case round =>
        obtain ⟨k, q, hk, rfl, rfl, rfl⟩ := hrel
        by_cases hlt : k < L
        · have hlt' : (k : Int) < L := by omega
          have hkl : k < l.length := by rw [HL.out]; exact hlt
          obtain ⟨g, o, hao, hal⟩ := HAL.out
          obtain rfl := hao (by omega)
          obtain ⟨a, ha, hac⟩ := Acs.at (hal (wr.drewN q) (below_drewN HBW.out q)) hkl
          have hag := AccC.at (AccC.below (dN_below wr q) HAG.out) (k := k) (a := a) (by rw [List.getElem?_append_left hkl]; exact ha)
          obtain ⟨y0, y1, y2, y3, y4⟩ := hac
          obtain ⟨z0, z1, z2, z3, z4⟩ := hag
          generalize a.nm = nm at *
          generalize a.pa = pa at *
          generalize a.sh = sh at *
          generalize a.cl = cl at *
          generalize a.us = us at *
          clear hal hao ha hkl
          obtain ⟨W, hW⟩ : ∃ W, wr.drewN q = W := ⟨_, rfl⟩
          have HW : Hid (wr.drewN q = W) := hW
          rw [hW] at y0 y1 y2 y3 y4 z0 z1 z2 z3 z4 ⊢
          clear hW
          go_upto_region 26 with fail
          go_quiet (fail)
          clear y0 y1 y2 y3 y4 z0 z1 z2 z3 z4
          go_wp2
          go_roundg (L - (k + 1))
          case measure => omega
          case rel => exact ⟨k + 1, q + nq, by omega, rfl, rfl, by rw [← HW.out]; simp⟩
        · obtain rfl : k = L := by omega
          have HBB : Hid (BkS w6 (fun i => i = H) H 12 (fun i => w6.heap.size ≤ i ∧ i < wr.heap.size) (wr.drewN q)) := HB12.out.below (dN_below wr q)
          have HAB : Hid (AccC (wr.drewN q) G (trnL l 0 ++ [bhAc])) := AccC.below (dN_below wr q) HAG.out
          have x0 := (HAB.out.at (k := k) (a := bhAc) (by rw [show trnL l 0 = l from rfl, List.getElem?_append_right (by rw [HL.out]; omega), HL.out]; simp)).nm
          clear HB12 HAG
          generalize wr.drewN q = wB at *
          unfold bhAc at x0
          go_wp2
          go_loopg [23] k (fun gk x wq => ∃ j : Nat, j + gk = k ∧ x = .int .i64 j ∧ AccC wq G (trnL l j ++ [bhAc]) ∧ Chg (fun i => i = G) wB wq)
          case atStart => exact ⟨0, by omega, rfl, HAB.out, Chg.refl _ _⟩
          case round =>
            obtain ⟨i, hi, rfl, hac, hch⟩ := hrel
            by_cases hlt : i < k
            · have hlt' : (i : Int) < k := by omega
              have hil : i < l.length := by rw [HL.out]; exact hlt
              obtain ⟨a, ha⟩ : ∃ a, l[i]? = some a := ⟨_, List.getElem?_eq_getElem hil⟩
              have hat := hac.at (trnL_at [bhAc] ha)
              have y4 := hat.us
              have f4 := hac.free (i * 5 + 4)
              have hwd := HUS.out.1 i a ha
              have hq : IntKind.u64.wrap (a.us.tdiv 3) = a.us / 3 := by
                have h1 := hwd.1
                have h2 := hwd.2
                rw [Int.tdiv_eq_ediv_of_nonneg h1, IntKind.wrap_u64]
                omega
              have hac1 := hac.set (flatA_us _ i a (a.us / 3) (trnL_at [bhAc] ha))
              have hi1 : ((trnL l i ++ [bhAc]).set i { a with us := a.us / 3 })[i]? = some { a with us := a.us / 3 } := by
                rw [List.getElem?_set_self (by simp [trnL_len]; omega)]
              have y3 := (hac1.at hi1).cl
              have f3 := hac1.free (i * 5 + 3)
              have hac2 := hac1.set (flatA_cl _ i _ (!a.cl) hi1)
              rw [List.set_set, show ({ ({ a with us := a.us / 3 } : Ac) with cl := !a.cl } : Ac) = trnA a from rfl, trnL_set [bhAc] ha] at hac2
              have HA2 : Hid _ := hac2
              have HC2 : Hid (Chg (fun i => i = G) wB ((wr.setCell ⟨G, i * 5 + 4, none⟩ (.int .u64 (a.us / 3))).setCell ⟨G, i * 5 + 3, none⟩ (.bool (!a.cl)))) := (hch.setCell _ _ (.inl rfl)).setCell _ _ (.inl rfl)
              simp only at y3
              clear hac2 hac1 hi1 hwd hat hac hch ha hil
              go_upto_region 33 with fail
              generalize wr.setCell ⟨G, i * 5 + 4, none⟩ (.int .u64 (a.us / 3)) = wu at *
              go_wp2
              go_roundg (k - (i + 1))
              case measure => omega
              case rel => exact ⟨i + 1, by omega, rfl, HA2.out, HC2.out⟩
            · obtain rfl : i = k := by omega
              have hll : trnL l i = l.map trnA := by rw [← HL.out]; exact trnL_all l
              rw [hll] at hac
              have HBT : Hid (BkS w6 (fun b => b = H ∨ b = G) H 12 (fun b => w6.heap.size ≤ b ∧ b < wB.heap.size) wr) := BkS.turn HBB.out.wide hch HGL.out (Ne.symm hne) (fun _ e => .inl e) (.inr rfl)
              have hl2 : (l.map trnA).length = i := by rw [List.length_map]; exact HL.out
              have hu2 : UsOk (l.map trnA) := fun n b hb => by
                rw [List.getElem?_map] at hb
                obtain ⟨a, ha, rfl⟩ := Option.map_eq_some_iff.1 hb
                have h1 := (HUS.out.1 n a ha).1
                have h2 := (HUS.out.1 n a ha).2
                exact ⟨by show 0 ≤ a.us / 3; omega, by show a.us / 3 < 18446744073709551616; omega⟩
              have hs2 : ∀ a ∈ l.map trnA, a.nm.size ≤ maxLen := fun b hb => by
                obtain ⟨a, ha, rfl⟩ := List.mem_map.1 hb
                exact HUS.out.2 a ha
              have HBW2 : Hid (Below w.heap.size w wr) := HBT.out.chg.below HW6.out HW6.out.size (fun b e => by have := HZ2.out; have := HGH.out; rcases e with e | e <;> omega)
              have HST2 : Hid (∀ k F x, BkS w6 (fun b => b = H ∨ b = G) H k F x → St w w.heap.size cf x) := fun k F x h => St.chg HS6.out h.chg (fun e => by have := HZ2.out; have := HGH.out; omega) (fun b e => by have := HZ2.out; have := HGH.out; rcases e with e | e <;> omega)
              obtain ⟨l2, hll2⟩ : ∃ l2, l.map trnA = l2 := ⟨_, rfl⟩
              rw [hll2] at hac hl2 hu2 hs2
              obtain ⟨ii, hii, hz0, hz1, hz2⟩ := info_parts Tryz.inf32
              have HFA : Hid (∀ x, Below wr.heap.size wr x → Calls Tryz.prog 10 #[cfV cf, .slice (some ⟨G, 0, none⟩) i (i + 1)] x (Row1 x (lenE cf l2) (firstN (facV l2 (wV l2 (flZ cf))) (lenE cf l2)))) := fun x hx => by
                have hc := (factors_any (c := i + 1) (cf := cf) (Tab.below (HBW2.out.trans (hx.mono HBW2.out.size)) HT.out) (⟨G, 0, fun _ => rfl, AccC.acs (AccC.below hx hac)⟩ : AcsAt x (some ⟨G, 0, none⟩) l2) hs2 hu2 (by omega) (by omega))
                rw [hl2] at hc
                exact hc.mono fun e w' h => fac_rows h
              have HRF : Hid (∀ x tao tc, AcsAt x tao l2 → Calls Tryz.prog 11 #[cfV cf, .slice tao i tc] x (REf x (lenE cf l2) (firstN (facV l2 (wV l2 (flZ cf))) (lenE cf l2)))) := fun x tao tc hx => by
                have hc := rfacs_any (c := tc) (cf := cf) hx hu2 (by omega)
                rw [hl2] at hc
                exact hc
              have HC : Hid (∀ ad, some (⟨G, 0, none⟩ : Addr) = some ad → ∀ j u, (flatA l2)[j]? = some u → (wr.alloc (.cells #[] 32)).cell? (ad.add j) = some u) := acs_flat ⟨G, 0, fun _ => rfl, AccC.acs (AccC.below (below1 wr _) hac)⟩
              have HFL5 : Hid ((flatA l2).length = i * 5) := by rw [← hl2]; exact flatA_len l2
              have HM : Hid ((wr.alloc (.cells #[] 32)).ownsRow wr.heap.size 32 5 (.slice (some ⟨wr.heap.size, 0, none⟩) 0 0) 0 []) := made0 wr 32 5
              have HL2 : Hid (l2.length = i) := hl2
              unfold cfV at *
              clear hac hch hl2 hu2 hs2 hll hll2 HBB HAB HAL
              go_upto_region 35 with (first | (at_builtin; refine wpList_append_any rfl (.tmp 157) (.tmp 160) 24 rfl wr.heap.size 32 ii _ 5 48 Tryz.underlying24 hii hz0 hz1 hz2 rfl (by decide) (.slice (some ⟨wr.heap.size, 0, none⟩) 0 0) 0 [] rfl HM.out (some ⟨G, 0, none⟩) i (i + 1) (flatA l2) rfl (fun h => by cases h) HFL5.out HC.out (flatA_one l2) ?_ ?_ ?_ ?_; exact (Nat.le_trans (m := 35184372088832) (by omega) (by decide)); omega; (simp); intro v' wD hown hgr; have hbD : Below wr.heap.size wr wD := Below.grown ((Below.refl _ wr).alloc (Nat.le_refl _) (.cells #[] 32)) hgr (by simp) (fun k e => by simp [Value.ownBlock] at e; omega); obtain ⟨tao, tc, hv', hacT⟩ := turned_row HL2.out hown; subst hv'; have HBD : Hid (Below wr.heap.size wr wD) := hbD; have HAT : Hid (AcsAt wD tao l2) := hacT; clear hown hgr hbD hacT))
              have HBK : Hid (BkS w6 (fun b => b = H ∨ b = G) H 12 (fun b => w6.heap.size ≤ b ∧ b < wD.drew.heap.size) wD.drew) := ((HBT.out.below HBD.out).below (drew_below wD)).wide
              have HSD : Hid (St w w.heap.size cf wD.drew) := HST2.out _ _ _ HBK.out
              have c8 := HFA.out wD.drew (HBD.out.trans ((drew_below wD).mono HBD.out.size))
              have HLE : Hid ((firstN (facV l2 (wV l2 (flZ cf))) (lenE cf l2)).length = lenE cf l2 ∧ lenE cf l2 ≤ 64) := ⟨firstN_len _ _, lenE_le cf l2⟩
              obtain ⟨NE, hNE⟩ : ∃ NE, lenE cf l2 = NE := ⟨_, rfl⟩
              rw [hNE] at c8 HRF HLE
              obtain ⟨XF, hXF⟩ : ∃ XF, firstN (facV l2 (wV l2 (flZ cf))) NE = XF := ⟨_, rfl⟩
              rw [hXF] at c8 HRF HLE
              clear hNE hXF HFA HC HFL5 HM
              have q1 : (0 : Int) ≤ (i : Int) := by omega
              have q2 : (i : Int) ≤ (i : Int) + 1 := by omega
              have q3 : i ≤ i + 1 := by omega
              go_region_held3 (fun x => x.cell? ⟨w.heap.size, 0, none⟩ = some (.int .i64 cf.nodes) ∧ x.cell? ⟨w.heap.size, 1, none⟩ = some (.int .i64 cf.queue) ∧ x.cell? ⟨w.heap.size, 2, none⟩ = some (.int .i64 cf.limit) ∧ x.cell? ⟨w.heap.size, 3, none⟩ = some (.int .i64 cf.age) ∧ x.cell? ⟨w.heap.size, 4, none⟩ = some (.int .i64 cf.fair) ∧ x.cell? ⟨w.heap.size, 5, none⟩ = some (.int .i64 cf.size) ∧ x.cell? ⟨w.heap.size, 6, none⟩ = some (.int .i64 cf.period) ∧ x.cell? ⟨w.heap.size, 7, none⟩ = some (.int .i64 cf.half) ∧ Below w.heap.size w x ∧ w.heap.size ≤ x.heap.size) (first | exact HSD.out | exact HX8.out | exact HX9.out | exact HXA.out)
                (first
                | (go_at_call 10; refine c8.mono ?_; rintro e x8 ⟨vf, rfl, rf, hvf, hb8⟩; have HX8 : Hid (St w w.heap.size cf x8) := keepW HSD.out hb8; have c9 := HRF.out x8 tao tc (HAT.out.below ((drew_below wD).trans (hb8.mono (drew_below wD).size))))
                | (go_at_call 11; refine c9.mono ?_; rintro e x9 ⟨gf, cf9, rfl, rg, hgf, hb9⟩; have HX9 : Hid (St w w.heap.size cf x9) := keepW HX8.out hb9; have cA := one_keep HBK.out (by omega) HLE.out.1 HLE.out.2 rf hvf hb8 rg hgf hb9)
                | (go_at_call 7; refine cA.mono ?_; rintro e xA ⟨rfl, bkA⟩; have HXA : Hid (St w w.heap.size cf xA) := HST2.out _ _ _ bkA))
              have cS := spoilS bkA (by omega)
              have HBA : Hid (BkS w6 (fun b => b = H ∨ b = G) H 13 (fun b => w6.heap.size ≤ b ∧ b < xA.heap.size) xA) := bkA
              clear bkA cA rg hgf hb9 c9 rf hvf hb8 c8 HX8 HX9 HSD HBK
              go_wp2_with fail
              refine cS.mono ?_
              rintro e xB ⟨rfl, hcB⟩
              have HEND : Hid (Below w.heap.size w xB) := hcB.below (St.bel HXA.out) (St.bel HXA.out).size (fun b e => by have := HZ2.out; have := HGH.out; have := HW6.out.size; rcases e with e | e <;> omega)
              clear hcB cS
              go_wp2
              go_ret
              exact ⟨rfl, HEND.out⟩
end Go.Proofs.YtioldijdmefljaaGreatDoor
