/-
  TreeMoves, walked.
-/
import Derived.Test.YthkahbjcncbcfaaGrA
namespace Go.Proofs.Ythkahbjcncbcfaa
open Go.RowKit Tr

/-- The blocks that a tree may have: none that are kept. -/
def MvK (B : Nat) (Kp : Nat → Prop) (j : Nat) : Prop := B ≤ j ∧ ¬ Kp j
/-- What stands between two moves. -/
structure MvS (B : Nat) (Kp : Nat → Prop) (W0 W : World) (t g b9 b10 : Nat) (L l : List Ac) (a p : Ac) : Prop where
  tree : Tree (MvK B Kp) W t l (kidB l)
  row : ∀ k x, L[k]? = some x → AcAt W g (k * 5) x
  c9 : W.heap[b9]? = some (.cells #[.string a.nm, .int .i64 a.pa, .int .i64 a.sh, .bool a.cl, .int .u64 a.us] 39 (0, 0))
  c10 : W.heap[b10]? = some (.cells #[.string p.nm, .int .i64 p.pa, .int .i64 p.sh, .bool p.cl, .int .u64 p.us] 39 (0, 0))
  kg : Kp g
  k9 : Kp b9
  k10 : Kp b10
  klt : ∀ j, Kp j → j < W.heap.size
  bel : Below B W0 W
  siz : B ≤ W.heap.size
section
variable {B : Nat} {Kp : Nat → Prop} {W0 W W' : World} {t g b9 b10 : Nat} {L l l' : List Ac} {a p : Ac}
theorem MvS.below (h : MvS B Kp W0 W t g b9 b10 L l a p) (b : Below W.heap.size W W') : MvS B Kp W0 W' t g b9 b10 L l a p :=
  ⟨h.tree.below b, fun k x hx => (h.row k x hx).below b, (b.block _ (Array.getElem?_eq_some_iff.1 h.c9).1).trans h.c9, (b.block _ (Array.getElem?_eq_some_iff.1 h.c10).1).trans h.c10, h.kg, h.k9, h.k10, fun j hj => Nat.lt_of_lt_of_le (h.klt j hj) b.size, h.bel.trans (b.mono h.siz), Nat.le_trans h.siz b.size⟩
theorem MvS.drew (h : MvS B Kp W0 W t g b9 b10 L l a p) : MvS B Kp W0 W.drew t g b9 b10 L l a p := h.below ⟨rfl, rfl, rfl, Nat.le_refl _, fun _ _ => rfl⟩
/-- One block more that is kept. -/
theorem MvS.more (h : MvS B Kp W0 W t g b9 b10 L l a p) (o : Obj) : MvS B (fun j => Kp j ∨ j = W.heap.size) W0 (W.alloc o) t g b9 b10 L l a p := by
  have b : Below W.heap.size W (W.alloc o) := (Below.refl _ W).alloc (Nat.le_refl _) o
  have h' := h.below b
  refine ⟨?_, h'.row, h'.c9, h'.c10, .inl h'.kg, .inl h'.k9, .inl h'.k10, fun j hj => ?_, h'.bel, h'.siz⟩
  · refine Tree.below (h.tree.mono (fun j hj hk => ⟨hk.1, fun hh => ?_⟩)) b
    rcases hh with hh | hh
    · exact hk.2 hh
    · omega
  · rcases hj with hj | rfl
    · exact h'.klt j hj
    · simp
theorem MvS.turned (h : MvS B Kp W0 W t g b9 b10 L l a p) (c : Chg (MvK B Kp) W W') (ht : Tree (Ext (MvK B Kp) W.heap.size) W' t l' (kidB l')) : MvS B Kp W0 W' t g b9 b10 L l' a p := by
  have l9 := (Array.getElem?_eq_some_iff.1 h.c9).1
  have l10 := (Array.getElem?_eq_some_iff.1 h.c10).1
  have hz := h.siz
  have cc : ∀ {x : Addr} {u : Value}, x.block = g → W.cell? x = some u → W'.cell? x = some u := fun hx hc => c.cell hc (fun hk => hk.2 (hx ▸ h.kg))
  refine ⟨ht.mono (fun j _ hj => ?_), fun k x hx => ?_, (c.block _ l9 (fun hk => hk.2 h.k9)).trans h.c9, (c.block _ l10 (fun hk => hk.2 h.k10)).trans h.c10, h.kg, h.k9, h.k10, fun j hj => Nat.lt_of_lt_of_le (h.klt j hj) c.size, c.below h.bel hz (fun _ hk => hk.1), Nat.le_trans hz c.size⟩
  · rcases hj with hj | hj
    · exact hj
    · exact ⟨by omega, fun hk => by have := h.klt j hk; omega⟩
  · obtain ⟨d0, d1, d2, d3, d4⟩ := h.row k x hx
    exact ⟨cc rfl d0, cc rfl d1, cc rfl d2, cc rfl d3, cc rfl d4⟩
theorem MvS.acs (h : MvS B Kp W0 W t g b9 b10 L l a p) : AcsAt W (some ⟨g, 0, none⟩) L := ⟨g, 0, fun _ => rfl, fun k x hx => by rw [Nat.zero_add]; exact h.row k x hx⟩
theorem MvS.cells (h : MvS B Kp W0 W t g b9 b10 L l a p) {q : Nat} {b : Ac} (hq : a.pa = q) (hb : L[q]? = some b) :
    W.cell? ⟨b9, 0, none⟩ = some (.string a.nm) ∧ W.cell? ⟨b9, 1, none⟩ = some (.int .i64 (q : Int)) ∧ W.cell? ⟨g, q * 5, none⟩ = some (.string b.nm) := ⟨cells_at h.c9 rfl, by rw [← hq]; exact cells_at h.c9 rfl, (h.row q b hb).nm⟩
theorem MvS.move (h : MvS B Kp W0 W t g b9 b10 L l a p) (hw : Wf l) {nm pn : ByteArray} (hs : nm.size ≤ maxLen) (hp : pn.size ≤ maxLen) {l' : List Ac} {e : Int} (hm : moveV l nm pn = (e, l')) :
    Calls Try.prog 27 #[.pointer (some ⟨t, 0, none⟩), .string nm, .string pn] W fun r w' => r = .returned (.int .i64 e) ∧ MvS B Kp W0 w' t g b9 b10 L l' a p ∧ ∀ j, Kp j → w'.heap[j]? = W.heap[j]? := by
  refine (tmove h.tree hw hs hp).mono ?_
  rw [hm]
  rintro r w' ⟨rfl, h1, h2⟩
  exact ⟨rfl, h.turned h2 h1, fun j hj => h2.block j (h.klt j hj) (fun hk => hk.2 hj)⟩
theorem MvS.list (h : MvS B Kp W0 W t g b9 b10 L l a p) (hw : Wf l) : Calls Try.prog 20 #[.pointer (some ⟨t, 0, none⟩)] W fun r w' => ∃ ao c, r = .returned (.slice ao l.length c) ∧ AcsAt w' ao l ∧ MvS B Kp W0 w' t g b9 b10 L l a p := by
  refine (tlist h.tree hw).mono ?_
  rintro r w' ⟨v, rfl, h1, h2⟩
  obtain ⟨ao, c, rfl, h3, _⟩ := acs_row h1
  exact ⟨ao, c, rfl, h3, h.below h2⟩
theorem mv_start {w3 X : World} (ht : Tree (fun j => B ≤ j) W t L (kidB L)) (b3 : Below W.heap.size W w3) (hb : Below B W0 w3) (hB : B ≤ w3.heap.size) (hg : W.heap.size ≤ g) (hgl : g < w3.heap.size) (hrow : ∀ k x, L[k]? = some x → AcAt w3 g (k * 5) x) (bX : Below w3.heap.size w3 X) (h9 : w3.heap.size ≤ b9) (h10 : w3.heap.size ≤ b10)
    (c9 : X.heap[b9]? = some (.cells #[.string a.nm, .int .i64 a.pa, .int .i64 a.sh, .bool a.cl, .int .u64 a.us] 39 (0, 0))) (c10 : X.heap[b10]? = some (.cells #[.string p.nm, .int .i64 p.pa, .int .i64 p.sh, .bool p.cl, .int .u64 p.us] 39 (0, 0))) :
    MvS B (fun j => j = g ∨ j = b9 ∨ j = b10) W0 X t g b9 b10 L L a p := by
  have hs := b3.size
  refine ⟨?_, fun k x hx => (hrow k x hx).below bX, c9, c10, .inl rfl, .inr (.inl rfl), .inr (.inr rfl), fun j hj => ?_, hb.trans (bX.mono hB), Nat.le_trans hB bX.size⟩
  · refine Tree.below (Tree.below (ht.mono (fun j hj hk => ⟨hk, fun hh => ?_⟩)) b3) bX
    rcases hh with hh | hh | hh <;> omega
  · rcases hj with rfl | rfl | rfl
    · exact Nat.lt_of_lt_of_le hgl bX.size
    · exact (Array.getElem?_eq_some_iff.1 c9).1
    · exact (Array.getElem?_eq_some_iff.1 c10).1
end
theorem Tr.Wf.small {l : List Ac} (h : Wf l) {k : Nat} {x : Ac} (hx : l[k]? = some x) : x.nm.size ≤ maxLen := by
  by_cases hk : 0 < k
  · have := (h.row k x hx hk).1
    simp [okName] at this
    exact Nat.le_trans this.1.2 (by decide)
  · obtain rfl : k = 0 := by omega
    rw [h.root] at hx
    cases hx
    decide
theorem Tr.Wf.par {l : List Ac} (h : Wf l) {k : Nat} {x : Ac} (hk : 0 < k) (hx : l[k]? = some x) : ∃ q b, x.pa = (q : Nat) ∧ q < l.length ∧ l[q]? = some b := by
  have := h.row k x hx hk
  exact ⟨x.pa.toNat, l[x.pa.toNat]'(by omega), by omega, by omega, List.getElem?_eq_getElem (by omega)⟩
theorem wrap_small {z : Int} (h1 : -1000000 ≤ z) (h2 : z ≤ 1000000) : IntKind.i64.wrap z = z := by
  rw [IntKind.wrap_i64]
  omega
theorem am_nat (i n : Int) (h : 1 ≤ n) : ∃ k : Nat, amgV i n = k ∧ (k : Int) < n := ⟨(amgV i n).toNat, by have := amgV_in i n h; omega, by have := amgV_in i n h; omega⟩

theorem ten_al {W W' : World} {g i k : Nat} {a p : Ac} (b : Below W.heap.size W W') (h : W.cell? ⟨g, i * 5, none⟩ = some (.string a.nm) ∧ W.cell? ⟨g, i * 5 + 1, none⟩ = some (.int .i64 a.pa) ∧ W.cell? ⟨g, i * 5 + 2, none⟩ = some (.int .i64 a.sh) ∧ W.cell? ⟨g, i * 5 + 3, none⟩ = some (.bool a.cl) ∧ W.cell? ⟨g, i * 5 + 4, none⟩ = some (.int .u64 a.us) ∧ W.cell? ⟨g, k * 5, none⟩ = some (.string p.nm) ∧ W.cell? ⟨g, k * 5 + 1, none⟩ = some (.int .i64 p.pa) ∧ W.cell? ⟨g, k * 5 + 2, none⟩ = some (.int .i64 p.sh) ∧ W.cell? ⟨g, k * 5 + 3, none⟩ = some (.bool p.cl) ∧ W.cell? ⟨g, k * 5 + 4, none⟩ = some (.int .u64 p.us)) : W'.cell? ⟨g, i * 5, none⟩ = some (.string a.nm) ∧ W'.cell? ⟨g, i * 5 + 1, none⟩ = some (.int .i64 a.pa) ∧ W'.cell? ⟨g, i * 5 + 2, none⟩ = some (.int .i64 a.sh) ∧ W'.cell? ⟨g, i * 5 + 3, none⟩ = some (.bool a.cl) ∧ W'.cell? ⟨g, i * 5 + 4, none⟩ = some (.int .u64 a.us) ∧ W'.cell? ⟨g, k * 5, none⟩ = some (.string p.nm) ∧ W'.cell? ⟨g, k * 5 + 1, none⟩ = some (.int .i64 p.pa) ∧ W'.cell? ⟨g, k * 5 + 2, none⟩ = some (.int .i64 p.sh) ∧ W'.cell? ⟨g, k * 5 + 3, none⟩ = some (.bool p.cl) ∧ W'.cell? ⟨g, k * 5 + 4, none⟩ = some (.int .u64 p.us) := by
  obtain ⟨h0, h1, h2, h3, h4, h5, h6, h7, h8, h9⟩ := h
  exact ⟨cellB b h0, cellB b h1, cellB b h2, cellB b h3, cellB b h4, cellB b h5, cellB b h6, cellB b h7, cellB b h8, cellB b h9⟩
theorem one_al (W : World) (o : Obj) : Below W.heap.size W (W.alloc o) := (Below.refl _ W).alloc (Nat.le_refl _) o
theorem two_al (W : World) (o o' : Obj) : Below W.heap.size W ((W.alloc o).alloc o') := (one_al W o).alloc (by simp) o'

set_option maxHeartbeats 8000000 in
set_option maxRecDepth 20000 in
theorem moves_any {w : World} {ao : Option Addr} {xs : List Ax} {c : Nat} (hA : ActsAt w ao xs) (hok : ∀ a ∈ xs, OkAx a) (hn : xs.length * 56 ≤ 140737488355328) (wh wr : Int) :
    Calls Try.prog 7 #[.slice ao xs.length c, .int .i64 wh, .int .i64 wr] w fun e w' => e = .returned (.bool true) ∧ Below w.heap.size w w' := by
  go_enter Try.func7, Try.ntmps7
  go_wp2_with fail
  refine (shown_any w).mono ?_
  rintro e w1 ⟨rfl, b1⟩
  have hA1 : ActsAt w1 ao xs := by
    obtain ⟨g, o, h1, h2⟩ := hA
    exact ⟨g, o, h1, fun k a ha => (h2 k a ha).below b1 (Nat.le_refl _)⟩
  have hgr := grown_any (c := c) hA1 hok hn
  clear hA1 hA
  go_wp2_with fail
  refine hgr.mono ?_
  rintro e w2 ⟨t, rfl, t2, b2⟩
  have hwf := wf_grow xs
  obtain ⟨L, hL⟩ : ∃ L, growV xs = L := ⟨_, rfl⟩
  rw [hL] at t2 hwf
  have hls := tlist t2 hwf
  have b12 := b1.trans (b2.mono b1.size)
  have T2 : Hid (Tree (fun j => w1.heap.size ≤ j) w2 t L (kidB L)) := t2
  clear hgr t2 hL
  go_wp2_with fail
  refine hls.mono ?_
  rintro e w3 ⟨v3, rfl, r3, b3⟩
  have hpos := hwf.pos
  rcases r3.2 with ⟨_, h0⟩ | ⟨g, cap, cur, rfl, hg0, hg, hnc, hcm, hcs, htk⟩
  · omega
  have hrow : ∀ k x, L[k]? = some x → AcAt w3 g (k * 5) x := fun k x hx => by
    obtain ⟨ao', c', hv, ⟨g', o', h1, h2⟩, _⟩ := acs_row r3
    simp at hv
    obtain ⟨rfl, rfl⟩ := hv
    have h3 := h1 hpos
    simp at h3
    obtain ⟨rfl, rfl⟩ := h3
    have := h2 k x hx
    rwa [Nat.zero_add] at this
  have hglt := (Array.getElem?_eq_some_iff.1 hg).1
  have hlen := hwf.len
  have b13 := b12.trans (b3.mono (Nat.le_trans b1.size b2.size))
  clear hls r3 hg htk hcs hcm hnc
  by_cases hq2 : L.length < 2
  · go_wp2
    go_ret
    exact ⟨rfl, b13⟩
  have hq2' : ¬ (L.length : Int) < 2 := by omega
  obtain ⟨i0, hi0, hi1⟩ := am_nat wh ((L.length : Int) - 1) (by omega)
  obtain ⟨k, hk0, hk1⟩ := am_nat wr (L.length : Int) (by omega)
  obtain ⟨i, hi⟩ : ∃ i, i0 + 1 = i := ⟨_, rfl⟩
  obtain ⟨a, ha⟩ : ∃ a, L[i]? = some a := ⟨_, List.getElem?_eq_getElem (by omega)⟩
  obtain ⟨p, hp⟩ : ∃ p, L[k]? = some p := ⟨_, List.getElem?_eq_getElem (by omega)⟩
  have ham1 := fun W => among_any wh ((L.length : Int) - 1) W (by omega) (by omega)
  have ham2 := fun W => among_any wr (L.length : Int) W (by omega) (by omega)
  rw [hi0] at ham1
  rw [hk0] at ham2
  have hwr1 : IntKind.i64.wrap ((L.length : Int) - 1) = (L.length : Int) - 1 := wrap_small (by omega) (by omega)
  have hwr2 : IntKind.i64.wrap ((1 : Int) + (i0 : Int)) = (i : Int) := by rw [wrap_small (by omega) (by omega)]; omega
  rw [← hwr1] at ham1
  have hi' : (i : Int) < L.length := by omega
  obtain ⟨d0, d1, d2, d3, d4⟩ := hrow i a ha
  obtain ⟨e0, e1, e2, e3, e4⟩ := hrow k p hp
  have hipos : 0 < i := by omega
  clear hwr1 hi0 hk0 hi hi1
  have S0 : Hid (w3.drew.cell? ⟨g, i * 5, none⟩ = some (.string a.nm) ∧ w3.drew.cell? ⟨g, i * 5 + 1, none⟩ = some (.int .i64 a.pa) ∧ w3.drew.cell? ⟨g, i * 5 + 2, none⟩ = some (.int .i64 a.sh) ∧ w3.drew.cell? ⟨g, i * 5 + 3, none⟩ = some (.bool a.cl) ∧ w3.drew.cell? ⟨g, i * 5 + 4, none⟩ = some (.int .u64 a.us) ∧ w3.drew.cell? ⟨g, k * 5, none⟩ = some (.string p.nm) ∧ w3.drew.cell? ⟨g, k * 5 + 1, none⟩ = some (.int .i64 p.pa) ∧ w3.drew.cell? ⟨g, k * 5 + 2, none⟩ = some (.int .i64 p.sh) ∧ w3.drew.cell? ⟨g, k * 5 + 3, none⟩ = some (.bool p.cl) ∧ w3.drew.cell? ⟨g, k * 5 + 4, none⟩ = some (.int .u64 p.us)) := ⟨d0, d1, d2, d3, d4, e0, e1, e2, e3, e4⟩
  have HROW : Hid _ := hrow
  clear hrow
  go_upto_region 7 with fail
  have hB1 : w1.heap.size ≤ w3.heap.size := Nat.le_trans b2.size b3.size
  have b13' : Below w1.heap.size w1 w3 := b2.trans (b3.mono b2.size)
  have MA : Hid (MvS w1.heap.size (fun j => j = g ∨ j = w3.heap.size ∨ j = w3.heap.size + 1) w1 ((w3.alloc (.cells #[.string a.nm, .int .i64 a.pa, .int .i64 a.sh, .bool a.cl, .int .u64 a.us] 39)).alloc (.cells #[.string p.nm, .int .i64 p.pa, .int .i64 p.sh, .bool p.cl, .int .u64 p.us] 39)) t g w3.heap.size (w3.heap.size + 1) L L a p) :=
    mv_start T2.out b3 b13' hB1 hg0 hglt HROW.out (two_al _ _ _) (Nat.le_refl _) (by omega) ((Below.heap_alloc _ _ _ (by simp)).trans (heap_alloc_new w3 _)) (by have := heap_alloc_new (w3.alloc (.cells #[.string a.nm, .int .i64 a.pa, .int .i64 a.sh, .bool a.cl, .int .u64 a.us] 39)) (.cells #[.string p.nm, .int .i64 p.pa, .int .i64 p.sh, .bool p.cl, .int .u64 p.us] 39); rwa [World.size_alloc] at this)
  have MB : Hid (MvS w1.heap.size (fun j => j = g ∨ j = w3.heap.size + 1 ∨ j = w3.heap.size) w1 ((w3.alloc (.cells #[.string p.nm, .int .i64 p.pa, .int .i64 p.sh, .bool p.cl, .int .u64 p.us] 39)).alloc (.cells #[.string a.nm, .int .i64 a.pa, .int .i64 a.sh, .bool a.cl, .int .u64 a.us] 39)) t g (w3.heap.size + 1) w3.heap.size L L a p) :=
    mv_start T2.out b3 b13' hB1 hg0 hglt HROW.out (two_al _ _ _) (by omega) (Nat.le_refl _) (by have := heap_alloc_new (w3.alloc (.cells #[.string p.nm, .int .i64 p.pa, .int .i64 p.sh, .bool p.cl, .int .u64 p.us] 39)) (.cells #[.string a.nm, .int .i64 a.pa, .int .i64 a.sh, .bool a.cl, .int .u64 a.us] 39); rwa [World.size_alloc] at this) ((Below.heap_alloc _ _ _ (by simp)).trans (heap_alloc_new w3 _))
  go_cut [9, 10] (fun p9 p10 wc => ∃ b9 b10 Kp, p9 = .pointer (some ⟨b9, 0, none⟩) ∧ p10 = .pointer (some ⟨b10, 0, none⟩) ∧ MvS w1.heap.size Kp w1 wc t g b9 b10 L L a p)
  case first =>
    go_region_held3 (fun W => W.cell? ⟨g, i * 5, none⟩ = some (.string a.nm) ∧ W.cell? ⟨g, i * 5 + 1, none⟩ = some (.int .i64 a.pa) ∧ W.cell? ⟨g, i * 5 + 2, none⟩ = some (.int .i64 a.sh) ∧ W.cell? ⟨g, i * 5 + 3, none⟩ = some (.bool a.cl) ∧ W.cell? ⟨g, i * 5 + 4, none⟩ = some (.int .u64 a.us) ∧ W.cell? ⟨g, k * 5, none⟩ = some (.string p.nm) ∧ W.cell? ⟨g, k * 5 + 1, none⟩ = some (.int .i64 p.pa) ∧ W.cell? ⟨g, k * 5 + 2, none⟩ = some (.int .i64 p.sh) ∧ W.cell? ⟨g, k * 5 + 3, none⟩ = some (.bool p.cl) ∧ W.cell? ⟨g, k * 5 + 4, none⟩ = some (.int .u64 p.us)) (first | exact S0.out | exact ten_al (one_al _ _) S0.out | exact ten_al (two_al _ _ _) S0.out)
      (first
      | (go_at_call_of 11 (Value.int IntKind.i64 wh); refine (ham1 _).mono ?_; rintro e wx ⟨rfl, rfl⟩)
      | (go_at_call_of 11 (Value.int IntKind.i64 wr); refine (ham2 _).mono ?_; rintro e wx ⟨rfl, rfl⟩))
    all_goals (go_wp2; go_meet)
    all_goals first | exact ⟨_, _, _, rfl, rfl, MA.out.drew⟩ | exact ⟨_, _, _, rfl, rfl, MB.out.drew⟩
  case rest =>
    obtain ⟨b9, b10, Kp, rfl, rfl, M0⟩ := hcut
    obtain ⟨b, pq, hpq, hpql, hb⟩ : ∃ (b : Ac) (pq : Nat), a.pa = (pq : Nat) ∧ pq < L.length ∧ L[pq]? = some b := by
      obtain ⟨q, b, h1, h2, h3⟩ := hwf.par hipos ha
      exact ⟨b, q, h1, h2, h3⟩
    clear d0 d1 d2 d3 d4 e0 e1 e2 e3 e4 S0 MA MB T2 HROW ham1 ham2 hwr2
    have hsA := hwf.small ha
    have hsP := hwf.small hp
    have hsB := hwf.small hb
    have hi0 : i ≠ 0 := by omega
    have hl48 : L.length * 48 ≤ 140737488355328 := by omega
    have k0 := M0.cells hpq hb
    have hm1 := M0.drew.move hwf hsA hsB (move_own hwf hi0 ha hpq hb)
    have S1 : Hid _ := k0
    obtain ⟨x0, x1, x2⟩ := k0
    have hpq' : (pq : Int) < L.length := by omega
    clear M0
    go_upto_region 10 with fail
    go_cut [68] (fun v wc => v = .bool false ∧ MvS w1.heap.size Kp w1 wc t g b9 b10 L L a p)
    case first =>
      go_region_held3 (fun W => W.cell? ⟨b9, 0, none⟩ = some (.string a.nm) ∧ W.cell? ⟨b9, 1, none⟩ = some (.int .i64 (pq : Int)) ∧ W.cell? ⟨g, pq * 5, none⟩ = some (.string b.nm)) (first | exact S1.out | exact k5 | exact k6 | exact k7)
        (first
        | (go_at_call 27; refine hm1.mono ?_; rintro e w5 ⟨rfl, m5, _⟩; have k5 := m5.cells hpq hb)
        | (go_at_call 20; refine (m5.list hwf).mono ?_; rintro e w6 ⟨ao6, cc6, rfl, h6, m6⟩; have k6 := m6.cells hpq hb)
        | (go_at_call 18; refine (accounts_yes h6 m6.acs hl48).mono ?_; rintro e w7 ⟨rfl, b7⟩; have m7 := m6.below b7; have k7 := m7.cells hpq hb))
      all_goals (go_wp2; go_meet)
      all_goals exact ⟨rfl, m7⟩
    case rest =>
      obtain ⟨rfl, M1⟩ := hcut
      obtain ⟨⟨er, L'⟩, hm2⟩ : ∃ r, moveV L a.nm p.nm = r := ⟨_, rfl⟩
      have hmv2 := M1.move hwf hsA hsP hm2
      have y0 := cells_at M1.c9 (k := 0) rfl
      have z0 := cells_at M1.c10 (k := 0) rfl
      clear hm1 S1 x0 x1 x2 M1
      have fin : ∀ Kp W l, MvS w1.heap.size Kp w1 W t g b9 b10 L l a p → Below w.heap.size w W := fun _ W l m => b1.trans (m.bel.mono b1.size)
      have FIN : Hid _ := fin
      clear fin
      go_wp2_with fail
      refine hmv2.mono ?_
      rintro e w8 ⟨rfl, m8, kk8⟩
      by_cases he : er = 0
      · subst he
        obtain ⟨n', p', f1, f2, f3, f4, hL'⟩ := move_yes hm2
        rw [find_at hwf ha] at f1
        rw [find_at hwf hp] at f3
        cases f1
        cases f3
        have hwf' : Wf L' := by
          have := hwf.moveV a.nm p.nm
          rw [hm2] at this
          exact this
        have ha' : L'[i]? = some { a with pa := (k : Int) } := by rw [hL']; exact mv_at ha _
        have hfi := tfind m8.tree hsA
        have hfv : findV L' a.nm = some i := by
          have := find_at hwf' ha'
          exact this
        rw [hfv] at hfi
        simp only [Option.getD_some, Option.isSome_some] at hfi
        have hll : L'.length = L.length := by rw [hL']; exact mv_len _
        have hge := tget m8.tree hwf' (i : Int)
        have hga : getA L' (i : Int) = .tuple #[acV { a with pa := (k : Int) }, .bool true] := by
          unfold getA
          rw [show thereB L' (i : Int) = true by simp [thereB, hll]; omega]
          simp [ha']
        rw [hga] at hge
        simp only [acV] at hge
        have hmb := move_back hwf hi0 ha hpq hb hm2
        have M8 : Hid (MvS w1.heap.size Kp w1 w8 t g b9 b10 L L' a p) := m8
        have y1 := cells_at m8.c9 (k := 0) rfl
        clear hmv2 hm2 f4 hL' ha' hfv hga m8 kk8 y0 z0
        go_wp2_with fail
        refine hfi.mono ?_
        rintro e w9 ⟨rfl, rfl⟩
        go_wp2_with fail
        refine hge.mono ?_
        rintro e w9 ⟨rfl, b9'⟩
        have M9 := MvS.more (MvS.below M8.out b9') (.cells #[.string a.nm, .int .i64 (k : Int), .int .i64 a.sh, .bool a.cl, .int .u64 a.us] 39)
        have hbx := heap_alloc_new w9 (.cells #[.string a.nm, .int .i64 (k : Int), .int .i64 a.sh, .bool a.cl, .int .u64 a.us] 39)
        have hnew := cells_at (heap_alloc_new w9 (.cells #[.string a.nm, .int .i64 (k : Int), .int .i64 a.sh, .bool a.cl, .int .u64 a.us] 39)) (k := 1) rfl
        obtain ⟨wx, hwx⟩ : ∃ wx, w9.alloc (.cells #[.string a.nm, .int .i64 (k : Int), .int .i64 a.sh, .bool a.cl, .int .u64 a.us] 39) = wx := ⟨_, rfl⟩
        rw [hwx] at M9 hnew hbx
        have HBX : Hid _ := hbx
        have hmv3 := M9.drew.move hwf' hsA hsB hmb
        have j0 := M9.cells hpq hb
        have j1 := cells_at M9.c10 (k := 0) rfl
        have j2 := (M9.row k p hp).nm
        have S2 : Hid (wx.cell? ⟨b9, 0, none⟩ = some (.string a.nm) ∧ wx.cell? ⟨b9, 1, none⟩ = some (.int .i64 (pq : Int)) ∧ wx.cell? ⟨g, pq * 5, none⟩ = some (.string b.nm) ∧ wx.cell? ⟨b10, 0, none⟩ = some (.string p.nm) ∧ wx.cell? ⟨g, k * 5, none⟩ = some (.string p.nm) ∧ wx.cell? ⟨w9.heap.size, 1, none⟩ = some (.int .i64 (k : Int))) := ⟨j0.1, j0.2.1, j0.2.2, j1, j2, hnew⟩
        have hbb : (p.nm.toList == p.nm.toList) = true := by simp
        have HWX : Hid _ := hwx
        clear hfi hge M8 hmb M9 j0 j1 j2 hnew hbx
        go_upto_region 17 with fail
        go_cut [123] (fun v wc => v = .bool false ∧ ∃ Kp', MvS w1.heap.size Kp' w1 wc t g b9 b10 L L a p)
        case first =>
          go_region_held3 (fun W => W.cell? ⟨b9, 0, none⟩ = some (.string a.nm) ∧ W.cell? ⟨b9, 1, none⟩ = some (.int .i64 (pq : Int)) ∧ W.cell? ⟨g, pq * 5, none⟩ = some (.string b.nm) ∧ W.cell? ⟨b10, 0, none⟩ = some (.string p.nm) ∧ W.cell? ⟨g, k * 5, none⟩ = some (.string p.nm) ∧ W.cell? ⟨w9.heap.size, 1, none⟩ = some (.int .i64 (k : Int))) (first | exact S2.out | exact k8)
            (first
            | (go_at_call 27; refine hmv3.mono ?_; rintro e wz ⟨rfl, mz, kz⟩; have k8 : wz.cell? ⟨b9, 0, none⟩ = some (.string a.nm) ∧ wz.cell? ⟨b9, 1, none⟩ = some (.int .i64 (pq : Int)) ∧ wz.cell? ⟨g, pq * 5, none⟩ = some (.string b.nm) ∧ wz.cell? ⟨b10, 0, none⟩ = some (.string p.nm) ∧ wz.cell? ⟨g, k * 5, none⟩ = some (.string p.nm) ∧ wz.cell? ⟨w9.heap.size, 1, none⟩ = some (.int .i64 (k : Int)) := ⟨(mz.cells hpq hb).1, (mz.cells hpq hb).2.1, (mz.cells hpq hb).2.2, cells_at mz.c10 rfl, (mz.row k p hp).nm, cells_at ((kz _ (.inr rfl)).trans HBX.out) rfl⟩))
          all_goals (go_wp2; go_meet)
          all_goals exact ⟨rfl, _, mz⟩
        case rest =>
          obtain ⟨rfl, Kp', M2⟩ := hcut
          clear hmv3
          go_wp2_with fail
          refine (M2.list hwf).mono ?_
          rintro e wy ⟨aoy, cy, rfl, hy, my⟩
          go_wp2_with fail
          refine (accounts_yes hy my.acs hl48).mono ?_
          rintro e wa ⟨rfl, ba⟩
          have hfin := FIN.out _ _ _ (my.below ba)
          go_wp2
          go_ret
          exact ⟨rfl, hfin⟩
      · have hno := move_no (l := L) (nm := a.nm) (pn := p.nm) (by rw [hm2]; exact he)
        rw [hm2] at hno
        simp only at hno
        subst hno
        have he' : (er == 0) = false := by simp [he]
        clear hmv2 hm2
        go_wp2_with fail
        refine (m8.list hwf).mono ?_
        rintro e w9 ⟨ao9, cc9, rfl, h9, m9⟩
        go_wp2_with fail
        refine (accounts_yes h9 m9.acs hl48).mono ?_
        rintro e wa ⟨rfl, ba⟩
        have hfin := FIN.out _ _ _ (m9.below ba)
        go_wp2
        go_ret
        exact ⟨rfl, hfin⟩
end Go.Proofs.Ythkahbjcncbcfaa
