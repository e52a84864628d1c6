/-
  The statements' listed.
-/
import Derived.Test.YtjmiifgofedcnaaLst
import Derived.Test.YtjmiifgofedcnaaColB
import Derived.Test.YtjmiifgofedcnaaRngB
import Derived.Maps.OwnIn
namespace Go.Proofs.Ytjmiifgofedcnaa
open Go.RowKit Go.Shelf Ag

attribute [local go_sem] Oper.semAt_some

namespace Ag
def ids (L : List En) : List Int := L.map En.id
def tms (L : List En) : List Int := L.map En.tm
theorem ids_snoc (L : List En) (k : Nat) (e : En) (h : L[k]? = some e) : ids (L.take (k + 1)) = ids (L.take k) ++ [e.id] ∧ tms (L.take (k + 1)) = tms (L.take k) ++ [e.tm] := by
  rw [List.take_add_one, h]
  simp [ids, tms]
end Ag
theorem cell_one_set (w : World) (p : Addr) (v x : Value) : ∀ j u, [x][j]? = some u → ((w.setCell p v).alloc (.cells #[x] 3)).cell? ((⟨w.heap.size, 0, none⟩ : Addr).add j) = some u := by
  have := new_cells (w.setCell p v) [x] 3
  rwa [World.size_setCell] at this
theorem row_slice {W : World} {B e n : Nat} {v : Value} {vs : List Value} (h : W.ownsRow B e 1 v n vs) : ∃ ao m cap, v = .slice ao m cap := by
  rcases h.2 with ⟨rfl, _⟩ | ⟨g, cap, _, rfl, _⟩
  · exact ⟨_, _, _, rfl⟩
  · exact ⟨_, _, _, rfl⟩
/-- Between two rounds of listed's loop: k have come. -/
structure LisT (w : World) (mst : Int) (L : List En) (B k : Nat) (W : World) : Prop where
  col : ∃ v1 v2, Col2 (w.heap.size + 1) (w.heap.size + 1 + 1) B v1 v2 (ids (L.take k)) (tms (L.take k)) W
  mst : W.cell? ⟨w.heap.size, 0, none⟩ = some (.int .i64 mst)
  bel : Below w.heap.size w W
  lo : w.heap.size + 6 ≤ B
section
variable {w W W' : World} {mst : Int} {L : List En} {B k : Nat}
theorem LisT.below (h : LisT w mst L B k W) (b : Below W.heap.size W W') : LisT w mst L B k W' :=
  ⟨h.col.elim fun v1 h => h.elim fun v2 h => ⟨v1, v2, h.below b⟩, (Chg.of_below b (fun _ => False)).cell h.mst (fun h => h), h.bel.trans (b.mono h.bel.size), h.lo⟩
theorem LisT.owned (h : LisT w mst L B k W) {row : Option Nat} (hg : W.grownBy W' row) (hr : ∀ r, row = some r → w.heap.size + 4 ≤ r ∧ ∃ o : Obj, W.heap[r]? = some o ∧ o.isCells = false) : LisT w mst L B k W' :=
  ⟨h.col.elim fun v1 h => h.elim fun v2 h => ⟨v1, v2, h.owned (Bq := w.heap.size + 4) (by omega) (by omega) hg hr⟩, hg.cell h.mst (fun e => by have := (hr _ e.symm).1; simp at this; omega), h.bel.grown hg h.bel.size (fun k e => by have := (hr k e).1; omega), h.lo⟩
theorem LisT.putRec (h : LisT w mst L B k W) {l : Nat} (hl : w.heap.size + 4 ≤ l) {r : Loop} (hr : W.heap[l]? = some (.loop r)) (o' : Obj) : LisT w mst L B k (W.putObj l o') :=
  h.owned (rec_grown W l o') (fun k e => by cases e; exact ⟨hl, _, hr, rfl⟩)
end

/-- At the end: the boxes are stored into once more, the deferred calls' block is shut. -/
theorem lis_fin {w W : World} {B D : Nat} {v1 v2 : Value} {xs ys : List Int} (hb : Below w.heap.size w W) (hlo : w.heap.size + 6 ≤ B) (h : Col2 (w.heap.size + 1) (w.heap.size + 1 + 1) B v1 v2 xs ys W) (hD : w.heap.size + 4 ≤ D) (hK : W.heap[D]? = some (.deferred (some []))) :
    ((W.setCell ⟨w.heap.size + 1, 0, none⟩ v1).setCell ⟨w.heap.size + 1 + 1, 0, none⟩ v2).drew.heap[D]? = some (.deferred (some [])) ∧
    (((W.setCell ⟨w.heap.size + 1, 0, none⟩ v1).setCell ⟨w.heap.size + 1 + 1, 0, none⟩ v2).drew.putObj D (.deferred none)).cell? ⟨w.heap.size + 1, 0, none⟩ = some v1 ∧
    (((W.setCell ⟨w.heap.size + 1, 0, none⟩ v1).setCell ⟨w.heap.size + 1 + 1, 0, none⟩ v2).drew.putObj D (.deferred none)).cell? ⟨w.heap.size + 1 + 1, 0, none⟩ = some v2 ∧
    (((W.setCell ⟨w.heap.size + 1, 0, none⟩ v1).setCell ⟨w.heap.size + 1 + 1, 0, none⟩ v2).drew.putObj D (.deferred none)).ownsRow B 3 1 v1 xs.length (ints xs) ∧
    (((W.setCell ⟨w.heap.size + 1, 0, none⟩ v1).setCell ⟨w.heap.size + 1 + 1, 0, none⟩ v2).drew.putObj D (.deferred none)).ownsRow B 3 1 v2 ys.length (ints ys) ∧
    Below w.heap.size w (((W.setCell ⟨w.heap.size + 1, 0, none⟩ v1).setCell ⟨w.heap.size + 1 + 1, 0, none⟩ v2).drew.putObj D (.deferred none)) := by
  have hh : ∀ k, k ≠ w.heap.size + 1 → k ≠ w.heap.size + 1 + 1 → ((W.setCell ⟨w.heap.size + 1, 0, none⟩ v1).setCell ⟨w.heap.size + 1 + 1, 0, none⟩ v2).heap[k]? = W.heap[k]? := fun k h1 h2 => (Below.heap_setCell _ _ _ _ h2).trans (Below.heap_setCell _ _ _ _ h1)
  have hD1 : ((W.setCell ⟨w.heap.size + 1, 0, none⟩ v1).setCell ⟨w.heap.size + 1 + 1, 0, none⟩ v2).drew.heap[D]? = some (.deferred (some [])) := (hh D (by omega) (by omega)).trans hK
  have g1 := heap_setCell_same W (w.heap.size + 1) 0 _ 38 v1 h.one.blk
  have g2 := heap_setCell_same (W.setCell ⟨w.heap.size + 1, 0, none⟩ v1) (w.heap.size + 1 + 1) 0 _ 38 v2 ((Below.heap_setCell _ _ _ _ (by simp)).trans h.two.blk)
  have hrow : ∀ {v : Value} {n : Nat} {vs : List Value}, W.ownsRow B 3 1 v n vs → (((W.setCell ⟨w.heap.size + 1, 0, none⟩ v1).setCell ⟨w.heap.size + 1 + 1, 0, none⟩ v2).drew.putObj D (.deferred none)).ownsRow B 3 1 v n vs := fun {v n vs} hr => row_kept hr (fun k hk => by
    have hkB := (hr.lt k hk).1
    obtain ⟨cs, hcs⟩ := row_block hr hk
    rw [World.putObj_heap_other (fun e => by subst e; rw [hcs] at hK; cases hK)]
    exact hh k (by omega) (by omega))
  refine ⟨hD1, ?_, ?_, hrow h.one.row, hrow h.two.row, ?_⟩
  · refine cells_at (e := 38) (cs := #[v1]) ?_ rfl
    rw [World.putObj_heap_other (by omega)]
    exact (Below.heap_setCell _ _ _ _ (by simp)).trans g1
  · refine cells_at (e := 38) (cs := #[v2]) ?_ rfl
    rw [World.putObj_heap_other (by omega)]
    exact g2
  · have b1 := (((hb.setCell (p := ⟨w.heap.size + 1, 0, none⟩) (by simp) v1).setCell (p := ⟨w.heap.size + 1 + 1, 0, none⟩) (by simp; omega) v2).drew)
    exact b1.grown (grownBy_putObj' _ D (.deferred none)) b1.size (fun k e => by cases e; omega)

set_option maxRecDepth 100000 in
set_option maxHeartbeats 4000000 in
theorem listed_any {w : World} {a m : Nat} {ao : Option Addr} {L : List En} (r : Agn 68 76 w a m ao L) (mst : Int) (hlen : L.length * 20 ≤ 140737488355328) :
    Calls Try.prog 18 #[.pointer (some ⟨a, 0, none⟩), .int .i64 mst] w fun e w' => ∃ v1 v2, e = .returned (.tuple #[v1, v2]) ∧ w'.ownsRow w.heap.size 3 1 v1 (L.take mst.toNat).length (ints (ids (L.take mst.toNat))) ∧ w'.ownsRow w.heap.size 3 1 v2 (L.take mst.toNat).length (ints (tms (L.take mst.toNat))) ∧ Below w.heap.size w w' ∧ ∀ k, v1.ownBlock = some k → v2.ownBlock ≠ some k := by
  by_cases hm : mst ≤ 0
  · go_enter Try.func18, Try.ntmps18
    go_wp2
    refine bodyPost_ret (v := .tuple #[.slice none 0 0, .slice none 0 0]) (by simp [results, Try.results18, go_sem]) rfl ?_
    have e0 : mst.toNat = 0 := by omega
    rw [e0, List.take_zero]
    exact ⟨_, _, rfl, World.ownsRow_nil _ _ _ _, World.ownsRow_nil _ _ _ _, (((Below.refl _ w).alloc (Nat.le_refl _) _).alloc (by simp) _).alloc (by simp; omega) _, fun k hk => by simp [Value.ownBlock] at hk⟩
  obtain ⟨q, rfl⟩ : ∃ q : Nat, mst = q := ⟨mst.toNat, by omega⟩
  have hq0 : 0 < q := by omega
  refine (callsIn_wide (n := 3)).1 ?_
  refine callsIn_of_wp_marks Try.func18 rfl trivial ?_ rfl
  simp only [Try.ntmps18, List.size_toArray, List.length_cons, List.length_nil, Nat.reduceAdd, Nat.reduceSub, Array.replicate_succ, Array.replicate_zero, List.push_toArray, List.append_toArray, List.nil_append, List.cons_append]
  gi_wp2_with (first
    | (refine ⟨trivial, ?_⟩; gi_at_call 24; refine (callsIn_wide.2 (allI a _)).mono ?_; rintro e w1 ⟨rfl, rfl⟩))
  obtain ⟨w4, hw4⟩ : ∃ w4, ((((w.alloc (.cells #[.int .i64 q] 3)).alloc (.cells #[.slice none 0 0] 38)).alloc (.cells #[.slice none 0 0] 38)).alloc (.cells #[.pointer (some ⟨a, 0, none⟩)] 24)) = w4 := ⟨_, rfl⟩
  have sz : w4.heap.size = w.heap.size + 4 := by rw [← hw4]; simp
  have b4 : Below w.heap.size w w4 := by rw [← hw4]; exact ((((Below.refl _ w).alloc (Nat.le_refl _) _).alloc (by simp) _).alloc (by simp; omega) _).alloc (by simp; omega) _
  obtain ⟨y0, y1, y2, y3⟩ : w4.cell? ⟨w.heap.size, 0, none⟩ = some (.int .i64 q) ∧ w4.heap[w.heap.size + 1]? = some (.cells #[.slice none 0 0] 38 (0, 0)) ∧ w4.heap[w.heap.size + 1 + 1]? = some (.cells #[.slice none 0 0] 38 (0, 0)) ∧ w4.cell? ⟨w.heap.size + 1 + 1 + 1, 0, none⟩ = some (.pointer (some ⟨a, 0, none⟩)) := by
    rw [← hw4]
    refine ⟨cell_al (cell_al (cell_al (cell_nw w rfl) _) _) _, ?_, ?_, ?_⟩
    · have := heap_alloc_new (w.alloc (.cells #[.int .i64 q] 3)) (.cells #[.slice none 0 0] 38)
      rw [World.size_alloc] at this
      exact (Below.heap_alloc _ _ _ (by simp)).trans ((Below.heap_alloc _ _ _ (by simp)).trans this)
    · have := heap_alloc_new ((w.alloc (.cells #[.int .i64 q] 3)).alloc (.cells #[.slice none 0 0] 38)) (.cells #[.slice none 0 0] 38)
      rw [World.size_alloc, World.size_alloc] at this
      exact (Below.heap_alloc _ _ _ (by simp)).trans this
    · have := cell_nw (((w.alloc (.cells #[.int .i64 q] 3)).alloc (.cells #[.slice none 0 0] 38)).alloc (.cells #[.slice none 0 0] 38)) (cs := #[.pointer (some ⟨a, 0, none⟩)]) (t := 24) (k := 0) rfl
      rwa [World.size_alloc, World.size_alloc, World.size_alloc] at this
  rw [hw4]
  clear hw4
  have r4 := r.below b4
  obtain ⟨i0, hi0, hz0, hz1, hz2⟩ := info_parts Try.inf3I
  refine range_law2 (σ := Nat × Nat × World) (F := Fence.wide) rfl (by decide) (gf := 51) rfl trivial (enters_of Try.func51 (by kernel_rfl) rfl) (fun e : En => #[.int .i64 e.id, .int .i64 e.tm]) (fun _ => rfl)
    (fun s e W => L[s.2.1]? = some e ∧ s.2.1 < q ∧ Chg (fun k => (k = w.heap.size + 1 ∨ k = w.heap.size + 1 + 1 ∨ (w4.heap.size ≤ k ∧ k < w4.heap.size + 2)) ∨ s.1 ≤ k) s.2.2 W ∧ LisT w q L s.1 s.2.1 W)
    (fun s _ W => s.2.1 + 1 < q ∧ Chg (fun k => (k = w.heap.size + 1 ∨ k = w.heap.size + 1 + 1 ∨ (w4.heap.size ≤ k ∧ k < w4.heap.size + 2)) ∨ s.1 ≤ k) s.2.2 W ∧ LisT w q L s.1 (s.2.1 + 1) W)
    (fun c s _ W => c = .exit 0 ∧ s.2.1 + 1 = q ∧ LisT w q L s.1 (s.2.1 + 1) W)
    (fun W => L.length < q ∧ ∃ B, LisT w q L B L.length W)
    (fun c W => c = .exit 0 ∧ ∃ B, LisT w q L B q W)
    ?oY ?oI ?oX ?oF ?oFX
    (fun e => { tmps := #[.pointer (some ⟨a, 0, none⟩), .int .i64 q, undef, .pointer (some ⟨w.heap.size, 0, none⟩), .pointer (some ⟨w.heap.size + 1, 0, none⟩), .pointer (some ⟨w.heap.size + 1 + 1, 0, none⟩), .int .i64 e.id, .int .i64 e.tm, .int .i64 q, .bool false, .pointer (some ⟨a, 0, none⟩), .func (.func 51) #[] #[.pointer (some ⟨w.heap.size + 1 + 1 + 1, 0, none⟩)], .int .i64 e.id, .int .i64 e.tm, undef, undef, undef, undef, undef, undef, undef, undef, undef, undef, undef, undef, undef, undef], defers := [] }) ?assign ?body ?it ?done ?stop
  case oY => exact fun s e W r o' h hr => ⟨h.1, h.2.1, h.2.2.1.putRec o' (.inl (.inl (.inr (.inr ⟨by omega, by omega⟩)))), h.2.2.2.putRec (by omega) hr o'⟩
  case oI => exact fun s e W r o' h hr => ⟨h.1, h.2.1.putRec o' (.inl (.inl (.inr (.inr ⟨by omega, by omega⟩)))), h.2.2.putRec (by omega) hr o'⟩
  case oX => exact fun c s e W r o' h hr => ⟨h.1, h.2.1, h.2.2.putRec (by omega) hr o'⟩
  case oF => exact fun W r o' h hr => ⟨h.1, h.2.elim fun B h => ⟨B, h.putRec (by omega) hr o'⟩⟩
  case oFX => exact fun c W r o' h hr => ⟨h.1, h.2.elim fun B h => ⟨B, h.putRec (by omega) hr o'⟩⟩
  case assign =>
    intro l e W K hK
    gi_wp2
    exact hK
  case body =>
    rintro l ⟨B, k, W0⟩ e W hY
    obtain ⟨he, hk, hc, hT⟩ : L[k]? = some e ∧ k < q ∧ Chg (fun j => (j = w.heap.size + 1 ∨ j = w.heap.size + 1 + 1 ∨ (w4.heap.size ≤ j ∧ j < w4.heap.size + 2)) ∨ B ≤ j) W0 W ∧ LisT w q L B k W := hY
    obtain ⟨v1, v2, hcol⟩ := hT.col
    have hkl : k < L.length := (List.getElem?_eq_some_iff.1 he).1
    have hsn := ids_snoc L k e he
    have hx : (ids (L.take k)).length = k := by simp [ids]; omega
    have hy : (tms (L.take k)).length = k := by simp [tms]; omega
    generalize ids (L.take k) = xs at hcol hx hsn
    generalize tms (L.take k) = ys at hcol hy hsn
    have HSN : Hid _ := hsn
    have r1 := hcol.one.row
    rw [hx] at r1
    have c1 := hcol.one.cell
    have f1 := hcol.one.frozen
    have hhi := hcol.one.hi
    have hlo := hT.lo
    have HT : Hid _ := hT
    have SZ : Hid _ := sz
    have hmost : ∀ A C, Chg (fun j => j = w.heap.size + 1 ∨ B ≤ j) W A → Chg (fun j => j = w.heap.size + 1 + 1 ∨ B ≤ j) A C → C.cell? ⟨w.heap.size, 0, none⟩ = some (.int .i64 q) := fun A C h1 h2 => h2.cell (h1.cell HT.out.mst (by simp; omega)) (by simp; omega)
    have fin : ∀ A C, Chg (fun j => j = w.heap.size + 1 ∨ B ≤ j) W A → Chg (fun j => j = w.heap.size + 1 + 1 ∨ B ≤ j) A C → KeepsFrom B W A → KeepsFrom B A C → (∃ u1 u2, Col2 (w.heap.size + 1) (w.heap.size + 1 + 1) B u1 u2 (xs ++ [e.id]) (ys ++ [e.tm]) C) → KeepsFrom w4.heap.size W C ∧ Chg (fun j => (j = w.heap.size + 1 ∨ j = w.heap.size + 1 + 1 ∨ (w4.heap.size ≤ j ∧ j < w4.heap.size + 2)) ∨ B ≤ j) W0 C ∧ LisT w q L B (k + 1) C := fun A C h1 h2 k1 k2 h3 => by
      have h4 := SZ.out
      refine ⟨(KeepsFrom.join k1 h1 (by omega)).trans (KeepsFrom.join k2 h2 (by omega)), (hc.trans h1 (fun j _ h => ?_)).trans h2 (fun j _ h => ?_), by rw [HSN.out.1, HSN.out.2]; exact h3, hmost A C h1 h2, ?_, hlo⟩
      · rcases h with h | h
        · exact .inl (.inl h)
        · exact .inr h
      · rcases h with h | h
        · exact .inl (.inr (.inl h))
        · exact .inr h
      · exact (HT.out.bel.trans ⟨h1.os, h1.tape, h1.output, h1.size, fun j hj => h1.block j (by have := HT.out.bel.size; omega) (by omega)⟩).trans ⟨h2.os, h2.tape, h2.output, h2.size, fun j hj => h2.block j (by have := HT.out.bel.size; have := h1.size; omega) (by omega)⟩
    clear hsn hT sz
    by_cases hkq : k + 1 = q
    · subst hkq
      gi_wp2_with (first
        | (gi_at_builtin; refine wpListIn_append_own_at _ rfl (.tmp 14) (.tmp 16) 38 rfl B 3 i0 (.int .i64 0) 1 8 Try.underlying38 hi0 hz0 hz1 hz2 rfl (by decide) _ _ _ rfl (r1.alloc _) ⟨W.heap.size, 0, none⟩ 1 1 [.int .i64 e.id] rfl rfl (cell_one_new _ _ _) (by simp [Value.oneCell']) (Nat.le_trans (m := 35184372088832) (by omega) (by decide)) (by omega) (by simp; omega) ?_; intro v1' w1 hown1 hgr1 _ hat1; have hown1' := hown1; rw [← hx] at hown1'; have hcol1 := hcol.app1 hown1' hgr1 hat1; obtain ⟨_, hk1, hch1, d1, g1⟩ := hcol.one.app hown1' hgr1; obtain ⟨g', cap', rfl⟩ := ownsRow_succ hown1; have r2 := hcol1.two.row; rw [hy] at r2; have c2 := hcol1.two.cell; have f2 := hcol1.two.frozen; have hhi1 := hcol1.two.hi)
        | (gi_at_builtin; refine wpListIn_append_own_at _ rfl (.tmp 18) (.tmp 20) 38 rfl B 3 i0 (.int .i64 0) 1 8 Try.underlying38 hi0 hz0 hz1 hz2 rfl (by decide) _ _ _ rfl (r2.alloc _) ⟨w1.heap.size, 0, none⟩ 1 1 [.int .i64 e.tm] rfl rfl (cell_one_set _ _ _ _) (by simp [Value.oneCell']) (Nat.le_trans (m := 35184372088832) (by omega) (by decide)) (by omega) (by simp at hhi1 ⊢; omega) ?_; intro v2' w2 hown2 hgr2 _ hat2; have hown2' := hown2; rw [← hy] at hown2'; have hcol2 := (hcol1.swap.app1 hown2' hgr2 hat2).swap; obtain ⟨_, hk2, hch2, d2, g2⟩ := hcol1.two.app hown2' hgr2; obtain ⟨g'', cap'', rfl⟩ := ownsRow_succ hown2; have c3 := hcol2.one.cell; have m3 := hmost _ _ hch1 hch2))
      obtain ⟨q1, q2, q3⟩ := fin _ _ hch1 hch2 hk1 hk2 ⟨_, _, hcol2⟩
      exact ⟨q1, rfl, q3⟩
    · have hkq' : ((k : Int) + 1) ≠ (q : Int) := by omega
      gi_wp2_with (first
        | (gi_at_builtin; refine wpListIn_append_own_at _ rfl (.tmp 14) (.tmp 16) 38 rfl B 3 i0 (.int .i64 0) 1 8 Try.underlying38 hi0 hz0 hz1 hz2 rfl (by decide) _ _ _ rfl (r1.alloc _) ⟨W.heap.size, 0, none⟩ 1 1 [.int .i64 e.id] rfl rfl (cell_one_new _ _ _) (by simp [Value.oneCell']) (Nat.le_trans (m := 35184372088832) (by omega) (by decide)) (by omega) (by simp; omega) ?_; intro v1' w1 hown1 hgr1 _ hat1; have hown1' := hown1; rw [← hx] at hown1'; have hcol1 := hcol.app1 hown1' hgr1 hat1; obtain ⟨_, hk1, hch1, d1, g1⟩ := hcol.one.app hown1' hgr1; obtain ⟨g', cap', rfl⟩ := ownsRow_succ hown1; have r2 := hcol1.two.row; rw [hy] at r2; have c2 := hcol1.two.cell; have f2 := hcol1.two.frozen; have hhi1 := hcol1.two.hi)
        | (gi_at_builtin; refine wpListIn_append_own_at _ rfl (.tmp 18) (.tmp 20) 38 rfl B 3 i0 (.int .i64 0) 1 8 Try.underlying38 hi0 hz0 hz1 hz2 rfl (by decide) _ _ _ rfl (r2.alloc _) ⟨w1.heap.size, 0, none⟩ 1 1 [.int .i64 e.tm] rfl rfl (cell_one_set _ _ _ _) (by simp [Value.oneCell']) (Nat.le_trans (m := 35184372088832) (by omega) (by decide)) (by omega) (by simp at hhi1 ⊢; omega) ?_; intro v2' w2 hown2 hgr2 _ hat2; have hown2' := hown2; rw [← hy] at hown2'; have hcol2 := (hcol1.swap.app1 hown2' hgr2 hat2).swap; obtain ⟨_, hk2, hch2, d2, g2⟩ := hcol1.two.app hown2' hgr2; obtain ⟨g'', cap'', rfl⟩ := ownsRow_succ hown2; have c3 := hcol2.one.cell; have m3 := hmost _ _ hch1 hch2))
      obtain ⟨q1, q2, q3⟩ := fin _ _ hch1 hch2 hk1 hk2 ⟨_, _, hcol2⟩
      exact ⟨q1, by show k + 1 < q; omega, q2, q3⟩
  case it =>
    intro R Rx hR hRx hrnd W hbW hzW hRW
    have hbW' : Below w.heap.size w W := b4.trans (hbW.mono (by omega))
    have hcell : ∀ p v, w4.cell? p = some v → W.cell? p = some v := fun p v h => (Chg.of_below hbW (fun _ => False)).cell h (fun h => h)
    have z1 : W.heap[w.heap.size + 1]? = some (.cells #[.slice none 0 0] 38 (0, 0)) := (hbW.block _ (by omega)).trans y1
    have z2 : W.heap[w.heap.size + 1 + 1]? = some (.cells #[.slice none 0 0] 38 (0, 0)) := (hbW.block _ (by omega)).trans y2
    have keepR : ∀ A B, R A → Below A.heap.size A B → R B := fun A B h b => hR A B h (KeepsFrom.of_chg (Chg.of_below b (fun _ => False)) (fun _ h => h.elim))
    refine (all1_I (n := 3 - 1) (l := w4.heap.size + 1) (bA := w.heap.size + 1 + 1 + 1) (a := a) (m := m) (ao := ao) (L := L) (N := fun k => k = w.heap.size + 1 ∨ k = w.heap.size + 1 + 1 ∨ (w4.heap.size ≤ k ∧ k < w4.heap.size + 2))
      (T := fun B k A => k < q ∧ LisT w q L B k A ∧ R A) (Tx := fun A => ∃ c, (c = .exit 0 ∧ ∃ B, LisT w q L B q A) ∧ Rx c A) (by decide) W (hcell _ _ y3) (r4.below hbW) hlen ?_ ?_ ?_ ?_).mono ?_
    · rintro k (rfl | rfl | h) <;> omega
    · intro W' hb'
      have hz' := hb'.size
      have e1 : W'.heap[w.heap.size + 1]? = some (.cells #[.slice none 0 0] 38 (0, 0)) := (hb'.block _ (by omega)).trans z1
      have e2 : W'.heap[w.heap.size + 1 + 1]? = some (.cells #[.slice none 0 0] 38 (0, 0)) := (hb'.block _ (by omega)).trans z2
      exact ⟨hq0, ⟨⟨_, _, ⟨e1, World.ownsRow_nil _ _ _ _, by omega, Nat.le_refl _⟩, ⟨e2, World.ownsRow_nil _ _ _ _, by omega, Nat.le_refl _⟩, fun k hk => by simp [Value.ownBlock] at hk, by omega⟩, (Chg.of_below hb' (fun _ => False)).cell (hcell _ _ y0) (fun h => h), hbW'.trans (hb'.mono (by omega)), by omega⟩, keepR _ _ hRW hb'⟩
    · rintro B k A A' ⟨h1, h2, h3⟩ hb'
      exact ⟨h1, h2.below hb', keepR _ _ h3 hb'⟩
    · rintro B k e A hB he ⟨h1, h2, h3⟩
      obtain ⟨fn, tmps, assign, body, hy, hRd⟩ := hrnd (B, k, A) e A ⟨he, h1, Chg.refl _ _, h2⟩ h3
      refine ⟨fn, tmps, assign, body, hy, hRd.mono ?_⟩
      rintro rr A' (⟨rfl, ⟨g1, g2, g3⟩, g4⟩ | ⟨rfl, c, ⟨g1, g2, g3⟩, g4⟩)
      · exact .inl ⟨rfl, ⟨g1, g3, g4⟩, g2⟩
      · have g2' : k + 1 = q := g2
        have g3' : LisT w q L B (k + 1) A' := g3
        rw [g2'] at g3'
        exact .inr ⟨rfl, c, ⟨g1, B, g3'⟩, g4⟩
    · rintro rr A' ⟨hv, (⟨B, h1, h2, h3⟩ | ⟨c, h1, h2⟩)⟩
      · exact ⟨hv, .inl ⟨⟨h1, B, h2⟩, h3⟩⟩
      · exact ⟨hv, .inr ⟨c, h1, h2⟩⟩
  case done =>
    rintro D W hD ⟨hlq, B, hT⟩ hK
    obtain ⟨v1, v2, hcol⟩ := hT.col
    obtain ⟨ao1, n1, cap1, rfl⟩ := row_slice hcol.one.row
    obtain ⟨ao2, n2, cap2, rfl⟩ := row_slice hcol.two.row
    have c1 := hcol.one.cell
    have f1 := hcol.one.frozen
    have c2 := hcol.two.cell
    have f2 := hcol.two.frozen
    gi_wp2
    gi_region
    all_goals
      gi_wp2
      have F := lis_fin hT.bel hT.lo hcol (by omega) hK
      refine ⟨by simp, .inl ⟨_, _, rfl, run_takeDeferred F.1, ?_⟩⟩
      refine ⟨.tuple #[.slice ao1 n1 cap1, .slice ao2 n2 cap2], by simp [results, Try.results18, go_sem, F.2.1, F.2.2.1], _, _, rfl, ?_, ?_, F.2.2.2.2.2, hcol.apart⟩
      · have := own_base F.2.2.2.1 (B' := w.heap.size) (by have := hT.lo; omega)
        simpa [ids, List.take_of_length_le (Nat.le_of_lt hlq)] using this
      · have := own_base F.2.2.2.2.1 (B' := w.heap.size) (by have := hT.lo; omega)
        simpa [tms, List.take_of_length_le (Nat.le_of_lt hlq)] using this
  case stop =>
    rintro D c W hD ⟨rfl, B, hT⟩ hK
    obtain ⟨v1, v2, hcol⟩ := hT.col
    obtain ⟨ao1, n1, cap1, rfl⟩ := row_slice hcol.one.row
    obtain ⟨ao2, n2, cap2, rfl⟩ := row_slice hcol.two.row
    have c1 := hcol.one.cell
    have f1 := hcol.one.frozen
    have c2 := hcol.two.cell
    have f2 := hcol.two.frozen
    gi_wp2
    gi_region
    all_goals
      gi_wp2
      have F := lis_fin hT.bel hT.lo hcol (by omega) hK
      refine ⟨by simp, .inl ⟨_, _, rfl, run_takeDeferred F.1, ?_⟩⟩
      refine ⟨.tuple #[.slice ao1 n1 cap1, .slice ao2 n2 cap2], by simp [results, Try.results18, go_sem, F.2.1, F.2.2.1], _, _, rfl, ?_, ?_, F.2.2.2.2.2, hcol.apart⟩
      · have := own_base F.2.2.2.1 (B' := w.heap.size) (by have := hT.lo; omega)
        simpa [ids] using this
      · have := own_base F.2.2.2.2.1 (B' := w.heap.size) (by have := hT.lo; omega)
        simpa [tms] using this
end Go.Proofs.Ytjmiifgofedcnaa
