/-
  The reference's agenda in memory.
-/
import Derived.Test.YtjmiifgofedcnaaDueA
namespace Go.Proofs.Ytjmiifgofedcnaa
open Go.RowKit Ag

namespace Ag
def flatL (L : List En) : List Value := L.flatMap En.cells
theorem flatL_len (L : List En) : (flatL L).length = L.length * 3 := by
  induction L with
  | nil => rfl
  | cons e L ih => simp [flatL, En.cells] at *; omega
theorem flatL_at (L : List En) (k d : Nat) (e : En) (h : L[k]? = some e) (hd : d < 3) : (flatL L)[k * 3 + d]? = e.cells[d]? := by
  induction L generalizing k with
  | nil => simp at h
  | cons f L ih =>
    have hc : flatL (f :: L) = f.cells ++ flatL L := rfl
    rw [hc]
    cases k with
    | zero =>
      simp at h
      subst h
      rw [Nat.zero_mul, Nat.zero_add, List.getElem?_append_left (by simp [En.cells]; omega)]
    | succ k =>
      simp at h
      rw [List.getElem?_append_right (by simp [En.cells]; omega)]
      have : (k + 1) * 3 + d - f.cells.length = k * 3 + d := by simp [En.cells]; omega
      rw [this]
      exact ih k h
theorem flatL_app (L M : List En) : flatL (L ++ M) = flatL L ++ flatL M := by simp [flatL]
theorem flatL_one {L : List En} (h : ∀ e ∈ L, e.x.oneCell' = true) : ∀ u ∈ flatL L, u.oneCell' = true := by
  intro u hu
  simp only [flatL, List.mem_flatMap] at hu
  obtain ⟨e, he, hu⟩ := hu
  simp [En.cells] at hu
  rcases hu with rfl | rfl | rfl
  · rfl
  · rfl
  · exact h e he
end Ag
/-- The reference's row: the things of L, from o on. -/
structure RefAt (w : World) (g o cap : Nat) (L : List En) (cur : Array Value) : Prop where
  blk : w.heap[g]? = some (.cells cur 102 (0, 0))
  le : L.length ≤ cap
  at_ : ∀ k e, L[k]? = some e → ∀ d, d < 3 → cur[o + k * 3 + d]? = e.cells[d]?
def RefRow (w : World) (ao : Option Addr) (cap : Nat) (L : List En) : Prop := (ao = none ∧ L = [] ∧ cap = 0) ∨ ∃ g o cur, ao = some ⟨g, o, none⟩ ∧ RefAt w g o cap L cur
structure Ref (w : World) (d : Nat) (L : List En) (ao : Option Addr) (cap : Nat) : Prop where
  blk : w.heap[d]? = some (.cells #[.slice ao L.length cap] 71 (0, 0))
  row : RefRow w ao cap L
def Rf (w : World) (d : Nat) (L : List En) : Prop := ∃ ao cap, Ref w d L ao cap
/-- What kind of block it is. -/
def tg (w : World) (k : Nat) : Nat := match w.heap[k]? with
  | some (.cells _ t _) => t
  | some _ => 1000
  | none => 1001
theorem tg_cells {w : World} {k t : Nat} {cs : Array Value} (h : w.heap[k]? = some (.cells cs t (0, 0))) : tg w k = t := by unfold tg; rw [h]
section
variable {w w' : World} {g o cap d : Nat} {L : List En} {ao : Option Addr} {cur : Array Value} {K : Nat → Prop}
theorem RefAt.cell (r : RefAt w g o cap L cur) {k : Nat} {e : En} (hk : L[k]? = some e) : w.cell? ⟨g, o + k * 3, none⟩ = some (.int .i64 e.id) ∧ w.cell? ⟨g, o + k * 3 + 1, none⟩ = some (.int .i64 e.tm) ∧ w.cell? ⟨g, o + k * 3 + 2, none⟩ = some e.x :=
  ⟨cells_at r.blk (by have := r.at_ k e hk 0 (by omega); simpa [En.cells] using this), cells_at r.blk (by have := r.at_ k e hk 1 (by omega); simpa [En.cells] using this), cells_at r.blk (by have := r.at_ k e hk 2 (by omega); simpa [En.cells] using this)⟩
theorem Ref.c0 (r : Ref w d L ao cap) : w.cell? ⟨d, 0, none⟩ = some (.slice ao L.length cap) := cells_at r.blk rfl
theorem Ref.f0 (r : Ref w d L ao cap) : w.frozen? ⟨d, 0, none⟩ = false := frozen_at r.blk
theorem Ref.lt (r : Ref w d L ao cap) : d < w.heap.size := (Array.getElem?_eq_some_iff.1 r.blk).1
theorem Ref.tag (r : Ref w d L ao cap) : tg w d = 71 := tg_cells r.blk
theorem RefRow.kept (r : RefRow w ao cap L) (c : Chg K w w') (hK : ∀ k, k < w.heap.size → K k → tg w k ≠ 102) : RefRow w' ao cap L := by
  rcases r with h0 | ⟨g, o, cur, rfl, r⟩
  · exact .inl h0
  · have hlt := (Array.getElem?_eq_some_iff.1 r.blk).1
    exact .inr ⟨g, o, cur, rfl, (c.block g hlt (fun h => hK g hlt h (tg_cells r.blk))).trans r.blk, r.le, r.at_⟩
theorem Ref.kept (r : Ref w d L ao cap) (c : Chg K w w') (hK : ∀ k, k < w.heap.size → K k → tg w k ≠ 71 ∧ tg w k ≠ 102) : Ref w' d L ao cap :=
  ⟨(c.block d r.lt (fun h => (hK d r.lt h).1 r.tag)).trans r.blk, r.row.kept c (fun k hk h => (hK k hk h).2)⟩
theorem Rf.kept (r : Rf w d L) (c : Chg K w w') (hK : ∀ k, k < w.heap.size → K k → tg w k ≠ 71 ∧ tg w k ≠ 102) : Rf w' d L := by
  obtain ⟨ao, cap, r⟩ := r
  exact ⟨ao, cap, r.kept c hK⟩
/-- Another one's struct may turn. -/
theorem Rf.other (r : Rf w d L) {d' : Nat} (c : Chg (fun k => k = d') w w') (hd : d ≠ d') (ht : tg w d' = 71) : Rf w' d L := by
  obtain ⟨ao, cap, r⟩ := r
  exact ⟨ao, cap, (c.block d r.lt hd).trans r.blk, r.row.kept c (fun k _ h => by subst h; rw [ht]; decide)⟩
theorem Rf.below (r : Rf w d L) (b : Below w.heap.size w w') : Rf w' d L := r.kept (K := fun _ => False) (Chg.of_below b _) (fun _ _ h => h.elim)
/-- A row out of what an append made. -/
theorem RefRow.of_owns {n : Nat} (r : w.ownsRow 0 102 3 (.slice ao n cap) n (flatL L)) (hn : L.length = n) : RefRow w ao cap L := by
  rcases r.2 with ⟨hv, h0⟩ | ⟨g, cap', cur, hv, _, hb, hle, _, _, ht⟩
  · simp at hv
    exact .inl ⟨hv.1, List.length_eq_zero_iff.1 (hn.trans h0), hv.2.2⟩
  · simp at hv
    obtain ⟨rfl, rfl⟩ := hv
    refine .inr ⟨g, 0, cur, rfl, hb, by omega, fun k e hk d hd => ?_⟩
    have hkl := (List.getElem?_eq_some_iff.1 hk).1
    have := flatL_at L k d e hk hd
    rw [← ht, List.getElem?_take_of_lt (by omega), Array.getElem?_toList] at this
    rw [Nat.zero_add]
    exact this
/-- A part of a row, for an append: what lies there. -/
theorem RefAt.src (r : RefAt w g o cap L cur) (s m : Nat) (hs : s + m ≤ L.length) : ∀ j u, (flatL ((L.drop s).take m))[j]? = some u → w.cell? ((⟨g, o + s * 3, none⟩ : Addr).add j) = some u := by
  intro j u hu
  have hj := (List.getElem?_eq_some_iff.1 hu).1
  rw [flatL_len, List.length_take, List.length_drop] at hj
  have hk : j / 3 < m := by omega
  obtain ⟨e, he⟩ : ∃ e, L[s + j / 3]? = some e := ⟨_, List.getElem?_eq_getElem (by omega)⟩
  have he' : ((L.drop s).take m)[j / 3]? = some e := by rw [List.getElem?_take_of_lt hk, List.getElem?_drop]; exact he
  have h1 := flatL_at _ (j / 3) (j % 3) e he' (by omega)
  rw [show j / 3 * 3 + j % 3 = j by omega, hu] at h1
  have h2 := r.at_ (s + j / 3) e he (j % 3) (by omega)
  rw [show o + (s + j / 3) * 3 + j % 3 = o + s * 3 + j by omega, ← h1] at h2
  have ha : (⟨g, o + s * 3, none⟩ : Addr).add j = ⟨g, o + s * 3 + j, none⟩ := by unfold Addr.add; split <;> simp_all
  rw [ha]
  exact cells_at r.blk h2
end
section
variable {P : Program}
/-- 'append(row, src...)' of things. -/
theorem wpList_appT (w : World) {ops : Array Oper} {rest : List Oper} {o : Oper} {a : Act} {Q : Exit → Act → World → Prop}
    (hgd : o.guard = none) (s x : Operand) (t : TypeId) (ho : o.op = .call { callee := .builtin .append, args := #[s, x], argTypes := #[t, t] })
    (e : TypeId) (i : TypeInfo) (z : Value) (bytes : Nat) (h1 : P.underlying t = some (.slice e)) (h2 : P.info? e = some i) (h3 : i.zero = some z) (h4 : i.size = 3) (h5 : i.bytes = bytes) (h6 : z.cells.size = 3)
    (ao : Option Addr) (n cap : Nat) (xs : List Value) (hs : a.eval s = .slice ao n cap) (hown : w.ownsRow 0 e 3 (.slice ao n cap) n xs)
    (sa : Option Addr) (m c : Nat) (news : List Value) (hx : a.eval x = .slice sa m c) (hl : news.length = m * 3) (hsa : sa = none → m = 0 ∧ c = 0) (hnews : ∀ ad, sa = some ad → ∀ j u, news[j]? = some u → w.cell? (ad.add j) = some u) (hone : ∀ u ∈ news, u.oneCell' = true)
    (b1 : n + m ≤ maxLen) (b2 : (n + m) * bytes ≤ 140737488355328)
    (hK : ∀ ao' cap' w', w'.ownsRow 0 e 3 (.slice ao' (n + m) cap') (n + m) (xs ++ news) → w.grownBy w' (ao.map (·.block)) → Moved w ao ao' → wpList P ops Q rest (a.put o.dst (.slice ao' (n + m) cap')) w') :
    wpList P ops Q (o :: rest) a w := by
  cases sa with
  | none =>
    obtain ⟨rfl, rfl⟩ := hsa rfl
    have hn : news = [] := List.eq_nil_of_length_eq_zero hl
    subst hn
    refine wpList_append_own_none hgd s x t ho 0 e i 3 h1 h2 _ n xs hs hown hx ?_
    have := hK ao cap w (by simpa using hown) ⟨rfl, rfl, rfl, Nat.le_refl _, fun _ _ _ => rfl⟩ (.inl rfl)
    simpa using this
  | some ad => exact wpList_app w hgd s x t ho e i z bytes h1 h2 h3 3 h4 h5 h6 (by decide) ao n cap xs hs hown ad m c news hx hl (hnews ad rfl) hone b1 b2 hK
end
theorem Try.inf102 : (Try.prog.info? 102).map (fun i => (i.zero, i.size, i.bytes)) = some (some (.agg #[.int .i64 0, .int .i64 0, .int .i64 0]), 3, 24) := by kernel_rfl

namespace Ag
/-- Where one of that number stands. -/
def posL (L : List En) (i : Int) : Option Nat := L.findIdx? (fun e => decide (e.id = i))
def posI (L : List En) (i : Int) : Int := match posL L i with
  | some k => k
  | none => -1
end Ag

theorem rnew_any (w : World) : Calls Try.prog 10 #[] w fun e w' => e = .returned (.pointer (some ⟨w.heap.size, 0, none⟩)) ∧ Rf w' w.heap.size [] ∧ Below w.heap.size w w' := by
  go_enter Try.func10, Try.ntmps10
  go_wp2
  go_ret
  exact ⟨rfl, ⟨none, 0, heap_alloc_new _ _, .inl ⟨rfl, rfl, rfl⟩⟩, (Below.refl _ w).alloc (Nat.le_refl _) _⟩

theorem rlen_any {w : World} {d : Nat} {L : List En} (r : Rf w d L) : Calls Try.prog 47 #[.pointer (some ⟨d, 0, none⟩)] w fun e w' => e = .returned (.int .i64 L.length) ∧ w' = w := by
  obtain ⟨ao, cap, r⟩ := r
  have c0 := r.c0
  clear r
  go_enter Try.func47, Try.ntmps47
  go_wp2
  go_ret
  exact ⟨rfl, rfl⟩

theorem rfirst_no {w : World} {d : Nat} (r : Rf w d []) : Calls Try.prog 48 #[.pointer (some ⟨d, 0, none⟩)] w fun e w' => e = .returned (.tuple #[.int .i64 0, .int .i64 0, .bool false]) ∧ w' = w := by
  obtain ⟨ao, cap, r⟩ := r
  have c0 := r.c0
  rw [List.length_nil] at c0
  clear r
  go_enter Try.func48, Try.ntmps48
  go_wp2
  refine bodyPost_ret (v := .tuple #[.int .i64 0, .int .i64 0, .bool false]) (by simp [results, Try.results48, go_sem]) rfl ?_
  exact ⟨rfl, rfl⟩

set_option maxHeartbeats 1000000 in
theorem rfirst_yes {w : World} {d : Nat} {f : En} {L : List En} (r : Rf w d (f :: L)) (hlen : (f :: L).length ≤ 35184372088832) : Calls Try.prog 48 #[.pointer (some ⟨d, 0, none⟩)] w fun e w' => e = .returned (.tuple #[.int .i64 f.id, .int .i64 f.tm, .bool true]) ∧ Grew w w' := by
  obtain ⟨ao, cap, r⟩ := r
  have c0 := r.c0
  obtain ⟨n, hn⟩ : ∃ n, (f :: L).length = n := ⟨_, rfl⟩
  have hn0 : 0 < n := by rw [← hn]; simp
  rcases r.row with ⟨_, h0, _⟩ | ⟨g, o, cur, rfl, hr⟩
  · cases h0
  obtain ⟨i0, i1, _⟩ := hr.cell (k := 0) (e := f) rfl
  rw [Nat.zero_mul, Nat.add_zero] at i0 i1
  rw [hn] at c0 hlen
  clear r hr
  go_enter Try.func48, Try.ntmps48
  go_wp2_with fail
  go_quiet (fail)
  all_goals
    go_wp2
    refine bodyPost_ret (v := .tuple #[.int .i64 f.id, .int .i64 f.tm, .bool true]) (by simp [results, Try.results48, go_sem]) rfl ?_
    exact ⟨rfl, Grew.drN _ _⟩

set_option maxHeartbeats 1000000 in
theorem find_any {w : World} {d : Nat} {L : List En} (r : Rf w d L) (i : Int) (hone : ∀ e ∈ L, e.x.oneCell' = true) (hlen : L.length ≤ 35184372088832) : Calls Try.prog 63 #[.pointer (some ⟨d, 0, none⟩), .int .i64 i] w fun e w' => e = .returned (.int .i64 (posI L i)) ∧ Below w.heap.size w w' := by
  obtain ⟨ao, cap, r⟩ := r
  have c0 := r.c0
  obtain ⟨n, hn⟩ : ∃ n, L.length = n := ⟨_, rfl⟩
  have hrow := r.row
  rw [hn] at c0 hlen
  clear r
  go_enter Try.func63, Try.ntmps63
  go_wp2
  go_loopg [12] n (fun gk p wr => ∃ k : Nat, k + gk = n ∧ p = .int .i64 k ∧ (∀ j e, j < k → L[j]? = some e → e.id ≠ i) ∧ Below w.heap.size w wr)
  case atStart => exact ⟨0, by omega, rfl, by omega, Below.refl _ _⟩
  case round =>
    obtain ⟨k, hk, rfl, hno, hb⟩ := hrel
    by_cases hlt : k < n
    · obtain ⟨e, he⟩ : ∃ e, L[k]? = some e := ⟨_, List.getElem?_eq_getElem (by omega)⟩
      rcases hrow.kept (Chg.of_below hb (fun _ => False)) (fun _ _ h => h.elim) with ⟨_, h0, _⟩ | ⟨g, o, cur, rfl, hr⟩
      · subst h0; simp at hn; omega
      obtain ⟨x0, x1, x2⟩ := hr.cell he
      have sx := fun (p : Addr) (W : World) => run_store Try.prog W p _ .plain (hone e (List.mem_of_getElem? he))
      obtain ⟨wn, hwn⟩ : ∃ wn, wr.alloc (.cells #[.int .i64 e.id, .int .i64 e.tm, e.x] 102) = wn := ⟨_, rfl⟩
      have y0 : wn.cell? ⟨wr.heap.size, 0, none⟩ = some (.int .i64 e.id) := by rw [← hwn]; exact cell_nw wr rfl
      have bn : Below w.heap.size w wn := by rw [← hwn]; exact hb.alloc hb.size _
      have BN : Hid _ := bn
      clear hr bn
      by_cases hid : e.id = i
      · subst hid
        go_wp2
        go_ret
        have hp : posL L e.id = some k := by
          unfold posL
          rw [List.findIdx?_eq_some_iff_getElem]
          refine ⟨by omega, by simp [(List.getElem?_eq_some_iff.1 he).2], fun j hj => ?_⟩
          have := hno j L[j] hj (List.getElem?_eq_getElem (by omega))
          simpa using this
        exact ⟨by simp [posI, hp], BN.out⟩
      · go_wp2
        go_roundg (n - (k + 1))
        case measure => omega
        case rel => exact ⟨k + 1, by omega, rfl, fun j f hj hf => (by
          by_cases hjk : j = k
          · subst hjk; rw [he] at hf; injection hf with hf; subst hf; exact hid
          · exact hno j f (by omega) hf), BN.out⟩
    · have hp : posL L i = none := by
        unfold posL
        rw [List.findIdx?_eq_none_iff]
        intro e he
        obtain ⟨j, hj, rfl⟩ := List.getElem_of_mem he
        simpa using hno j L[j] (by omega) (List.getElem?_eq_getElem hj)
      have HB : Hid _ := hb
      clear hb
      go_wp2
      go_ret
      exact ⟨by simp [posI, hp], HB.out⟩
end Go.Proofs.Ytjmiifgofedcnaa
