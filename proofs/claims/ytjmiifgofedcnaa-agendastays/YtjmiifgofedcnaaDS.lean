/-
  leaving, what it hands back, Due.
-/
import Derived.Test.YtjmiifgofedcnaaCol
import Derived.Test.YtjmiifgofedcnaaAS
import Derived.Test.YtjmiifgofedcnaaDueL
import Derived.Shelf.Abstract
import Derived.Shelf.RegionOpen
import Derived.WalkKit
import Derived.OwnWalkIn
import Derived.TacticsInMore
import Derived.LoopNIn
import Derived.LoopIn
namespace Go.Proofs.Ytjmiifgofedcnaa
open Go.RowKit Go.Shelf Ag

attribute [local go_sem] Oper.semAt_some

theorem Try.inf3S : (Try.prog.info? 3).map (fun i => (i.zero, i.size, i.bytes)) = some (some (.int .i64 0), 1, 8) := by kernel_rfl

theorem leaving_S (a : Nat) (now : Int) (w : World) : Calls Try.prog 61 #[.pointer (some ⟨a, 0, none⟩), .int .i64 now] w fun e w' =>
    e = .returned (.func (.func 75) #[] #[.pointer (some ⟨w.heap.size, 0, none⟩), .pointer (some ⟨w.heap.size + 1, 0, none⟩)]) ∧ w' = (w.alloc (.cells #[.pointer (some ⟨a, 0, none⟩)] 60)).alloc (.cells #[.int .i64 now] 3) := by
  go_enter Try.func61, Try.ntmps61
  go_wp2
  go_ret
  exact ⟨rfl, rfl⟩

theorem pop_S {w : World} {a m : Nat} {ao : Option Addr} {f : En} {L : List En} (r : Agn 95 97 w a m ao (f :: L)) :
    Calls Try.prog 76 #[.pointer (some ⟨a, 0, none⟩), .int .i64 0] w fun e w' => e = .returned (.tuple #[]) ∧ Agn 95 97 w' a m ao (delL f.id (f :: L)) ∧ Chg (Kag a m ao) w w' := by
  obtain ⟨cap, n, h, r⟩ := r
  obtain ⟨hn, hf⟩ := r.isL.head r.heap
  obtain ⟨l, rfl⟩ : ∃ l, n = l + 1 := ⟨n - 1, by omega⟩
  refine (remove_S r.raw 0 hn r.heap).mono ?_
  rintro e w1 ⟨rfl, h1, W, H1⟩
  exact ⟨rfl, ⟨cap, l, h1, W.raw, H1, hf ▸ (r.isL.del r.raw.inj hn).same W.same⟩, W.chg⟩

set_option maxRecDepth 100000 in
set_option maxHeartbeats 2000000 in
theorem leav1_S {n : Nat} (hn : 1 ≤ n) {l b1 b2 a m : Nat} {ao : Option Addr} {now : Int} {N : Nat → Prop} {T : List Int → World → Prop} (hT : ∀ pre A B, T pre A → Chg (Kag a m ao) A B → T pre B)
    (L : List En) (hY : ∀ pre x W, pre.length < L.length → T pre W → YieldAt Fence.wide (n - 1) Try.prog l #[.int .i64 x] W fun e W' => e = .returned (.bool true) ∧ T (pre ++ [x]) W' ∧ Chg N W W')
    (hN : ∀ k, N k → ¬ Kag a m ao k ∧ k ≠ b1 ∧ k ≠ b2) (hk1 : ¬ Kag a m ao b1) (hk2 : ¬ Kag a m ao b2)
    (W : World) (c1 : W.cell? ⟨b1, 0, none⟩ = some (.pointer (some ⟨a, 0, none⟩))) (c2 : W.cell? ⟨b2, 0, none⟩ = some (.int .i64 now)) (hA : Agn 95 97 W a m ao L) (h0 : T [] W) :
    CallsIn Fence.wide n Try.prog 75 #[.func (.yield l) #[] #[], .pointer (some ⟨b1, 0, none⟩), .pointer (some ⟨b2, 0, none⟩)] W fun e W' => (∃ v, e = .returned v) ∧
      T ((dueL now L).map En.id) W' ∧ Agn 95 97 W' a m ao (restL now L) ∧ Chg (fun k => Kag a m ao k ∨ N k) W W' := by
  refine callsIn_of_wp Try.func75 rfl trivial ?_ rfl
  simp only [Try.ntmps75, List.size_toArray, List.length_cons, List.length_nil, Nat.reduceAdd, Nat.reduceSub, Array.replicate_succ, Array.replicate_zero, List.push_toArray, List.append_toArray, List.nil_append, List.cons_append]
  gi_wp2
  gi_loopw [4] (fun _ wr => ∃ pre rest, L = pre ++ rest ∧ (∀ e ∈ pre, e.tm ≤ now) ∧ LeavAt 95 97 a m ao b1 b2 now N T W pre rest wr) (fun _ wr => lenAt wr a)
  case atStart => exact ⟨[], L, rfl, fun _ h => (by cases h), ⟨c1, c2, hA, h0, Chg.refl _ _⟩⟩
  case round =>
    obtain ⟨pre, rest, hL, hpre, hw⟩ := hrel
    cases rest with
    | nil =>
      have d1 := hw.c1
      have d2 := hw.c2
      gi_wp2_with (first
        | (refine ⟨trivial, ?_⟩; gi_at_call 35; refine (callsIn_wide.2 (first_no_S hw.agn)).mono ?_; rintro e w1 ⟨rfl, rfl⟩))
      refine bodyPost_ret (results_none rfl _ _ _) rfl ?_
      obtain ⟨e1, e2⟩ := due_split hL hpre (fun f l h => by cases h)
      rw [e1, e2]
      exact ⟨⟨_, rfl⟩, hw.t, hw.agn, hw.chg⟩
    | cons f rest =>
      have d1 := hw.c1
      have d2 := hw.c2
      by_cases hnow : now < f.tm
      · gi_wp2_with (first
          | (refine ⟨trivial, ?_⟩; gi_at_call 35; refine (callsIn_wide.2 (first_yes_S hw.agn)).mono ?_; rintro e w1 ⟨rfl, hg⟩; have hw1 := hw.grew hT hg; have d2' := hw1.c2))
        refine bodyPost_ret (results_none rfl _ _ _) rfl ?_
        obtain ⟨e1, e2⟩ := due_split hL hpre (fun g l h => by cases h; exact hnow)
        rw [e1, e2]
        exact ⟨⟨_, rfl⟩, hw1.t, hw1.agn, hw1.chg⟩
      · gi_wp2_with (first
          | (refine ⟨trivial, ?_⟩; gi_at_call 35; refine (callsIn_wide.2 (first_yes_S hw.agn)).mono ?_; rintro e w1 ⟨rfl, hg⟩; have hw1 := hw.grew hT hg; have d2' := hw1.c2; have d1' := hw1.c1)
          | (refine ⟨trivial, ?_⟩; gi_at_call 76; refine (callsIn_wide.2 (pop_S hw1.agn)).mono ?_; rintro e w2 ⟨rfl, r2, c2'⟩; have hw2 := hw1.drop hT hk1 hk2 r2 c2'; obtain ⟨fn, tmps, assign, body, hy, hR⟩ := hY _ f.id _ (by rw [hL]; simp) hw2.t))
        refine hR.mono ?_
        rintro e w3 ⟨rfl, ht3, c3⟩
        have hw3 := hw2.round (f := f) hN ht3 c3
        gi_wp2
        go_roundw
        case rel => exact ⟨pre ++ [f], rest, by simp [hL], fun e he => (by
          simp at he
          rcases he with he | rfl
          · exact hpre e he
          · omega), hw3⟩
        case measure => rw [lenAt_of hw3.agn, lenAt_of hw.agn]; simp

set_option maxRecDepth 100000 in
set_option maxHeartbeats 2000000 in
theorem due_S {w : World} {a m : Nat} {ao : Option Addr} {L : List En} (r : Agn 95 97 w a m ao L) (now : Int) (hlen : L.length * 8 ≤ 140737488355328) :
    Calls Try.prog 39 #[.pointer (some ⟨a, 0, none⟩), .int .i64 now] w fun e w' => ∃ v, e = .returned v ∧ w'.ownsRow w.heap.size 3 1 v (dueL now L).length (ints ((dueL now L).map En.id)) ∧ Agn 95 97 w' a m ao (restL now L) ∧ Chg (Kag a m ao) w w' := by
  refine (callsIn_wide (n := 3)).1 ?_
  refine callsIn_of_wp_marks Try.func39 rfl trivial ?_ rfl
  simp only [Try.ntmps39, List.size_toArray, List.length_cons, List.length_nil, Nat.reduceAdd, Nat.reduceSub, Array.replicate_succ, Array.replicate_zero, List.push_toArray, List.append_toArray, List.nil_append, List.cons_append]
  gi_wp2_with (first
    | (refine ⟨trivial, ?_⟩; gi_at_call 61; refine (callsIn_wide.2 (leaving_S a now _)).mono ?_; rintro e w1 ⟨rfl, rfl⟩))
  obtain ⟨w3, hw3⟩ : ∃ w3, (((w.alloc (.cells #[.slice none 0 0] 38)).alloc (.cells #[.pointer (some ⟨a, 0, none⟩)] 60)).alloc (.cells #[.int .i64 now] 3)) = w3 := ⟨_, rfl⟩
  have sz : w3.heap.size = w.heap.size + 3 := by rw [← hw3]; simp
  have b3 : Below w.heap.size w w3 := by rw [← hw3]; exact (((Below.refl _ w).alloc (Nat.le_refl _) _).alloc (by simp) _).alloc (by simp; omega) _
  have x0 : w3.heap[w.heap.size]? = some (.cells #[.slice none 0 0] 38 (0, 0)) := by
    rw [← hw3]
    exact (Below.heap_alloc _ _ _ (by simp; omega)).trans ((Below.heap_alloc _ _ _ (by simp)).trans (heap_alloc_new w _))
  have x1 : w3.cell? ⟨w.heap.size + 1, 0, none⟩ = some (.pointer (some ⟨a, 0, none⟩)) := by
    rw [← hw3]
    have := cell_nw (w.alloc (.cells #[.slice none 0 0] 38)) (cs := #[.pointer (some ⟨a, 0, none⟩)]) (t := 60) (k := 0) rfl
    rw [World.size_alloc] at this
    exact cell_al this _
  have x2 : w3.cell? ⟨w.heap.size + 1 + 1, 0, none⟩ = some (.int .i64 now) := by
    rw [← hw3]
    have := cell_nw ((w.alloc (.cells #[.slice none 0 0] 38)).alloc (.cells #[.pointer (some ⟨a, 0, none⟩)] 60)) (cs := #[.int .i64 now]) (t := 3) (k := 0) rfl
    rwa [World.size_alloc, World.size_alloc] at this
  rw [hw3]
  clear hw3
  have r3 := r.below b3
  have hlt := r.lt
  have hnot : ∀ k, w.heap.size ≤ k → ¬ Kag a m ao k := fun k hk h => by have := hlt k h; omega
  obtain ⟨i0, hi0, hz0, hz1, hz2⟩ := info_parts Try.inf3S
  refine range_law (σ := List Int × World) (F := Fence.wide) rfl (by decide) (gf := 75) rfl trivial (enters_of Try.func75 (by kernel_rfl) rfl) (fun x : Int => #[.int .i64 x]) (fun _ => rfl)
    (fun s _ W => s.1.length < L.length ∧ Chg (fun k => k = w.heap.size ∨ w3.heap.size ≤ k) s.2 W ∧ ∃ v, Col w.heap.size w3.heap.size v s.1 W)
    (fun s x W => Chg (fun k => k = w.heap.size ∨ w3.heap.size ≤ k) s.2 W ∧ ∃ v, Col w.heap.size w3.heap.size v (s.1 ++ [x]) W)
    (fun _ _ _ _ => False)
    (fun W => (∃ v, Col w.heap.size w3.heap.size v ((dueL now L).map En.id) W) ∧ Agn 95 97 W a m ao (restL now L) ∧ Chg (Kag a m ao) w W)
    (fun _ _ => False)
    (fun s W W' row h hg hr => ⟨h.1, own_chg _ _ (fun k hk => .inr hk) (fun s : List Int × World => s.2) s.1 W W' row h.2.1 hg hr, h.2.2.elim fun v hv => ⟨v, Col.own _ _ (v, s.1.1) W W' row hv hg hr⟩⟩)
    (fun s W W' row h hg hr => ⟨own_chg _ _ (fun k hk => .inr hk) (fun s : List Int × World => s.2) s.1 W W' row h.1 hg hr, h.2.elim fun v hv => ⟨v, Col.own _ _ (v, s.1.1 ++ [s.2]) W W' row hv hg hr⟩⟩)
    (fun _ _ _ _ _ h _ _ => h)
    (fun s W W' row h hg hr => ⟨h.1.elim fun v hv => ⟨v, Col.own _ _ (v, _) W W' row hv hg hr⟩, own_agn (fun k hk => by have := hlt k hk; omega) _ () W W' row h.2.1 hg hr, h.2.2.trans (K' := fun k => w3.heap.size ≤ k) (Chg.of_gr hg (fun k e => .inl (hr k e).1)) (fun k hk e => by omega)⟩)
    (fun _ _ _ _ _ h _ _ => h)
    (fun x => { tmps := #[.pointer (some ⟨a, 0, none⟩), .int .i64 now, undef, undef, .slice none 0 0, .pointer (some ⟨w.heap.size, 0, none⟩), .int .i64 x, .pointer (some ⟨a, 0, none⟩), .int .i64 now, .func (.func 75) #[] #[.pointer (some ⟨w.heap.size + 1, 0, none⟩), .pointer (some ⟨w.heap.size + 1 + 1, 0, none⟩)], .int .i64 x, undef, undef, undef, undef, undef], defers := [] }) ?assign ?body ?it ?done ?stop
  case assign =>
    intro l x W K hK
    gi_wp2
    exact hK
  case body =>
    clear sz
    rintro l ⟨pre, W0⟩ x W hY
    obtain ⟨hl, hc, v, hv⟩ : pre.length < L.length ∧ Chg (fun k => k = w.heap.size ∨ w3.heap.size ≤ k) W0 W ∧ ∃ v, Col w.heap.size w3.heap.size v pre W := hY
    have e0 := hv.cell
    have f0 := hv.frozen
    have hhi := hv.hi
    have hrow := hv.row
    gi_wp2_with (first
      | (gi_at_builtin; refine wpListIn_append_own _ rfl _ _ 38 rfl w3.heap.size 3 i0 (.int .i64 0) 1 8 Try.underlying38 hi0 hz0 hz1 hz2 rfl (by decide) _ _ _ rfl (hrow.alloc _) ⟨W.heap.size, 0, none⟩ 1 1 [.int .i64 x] rfl rfl (cell_one_new _ _ _) (by simp [Value.oneCell']) (Nat.le_trans (m := 35184372088832) (by omega) (by decide)) (by omega) (by simp; omega) ?_; intro v' w1 hown' hgrow _; obtain ⟨hcol, hk, hchg, d0, g0⟩ := hv.app hown' hgrow; obtain ⟨g', cap', rfl⟩ := ownsRow_succ hown'))
    exact ⟨hk, hc.trans hchg (fun _ _ h => h), _, hcol⟩
  case it =>
    intro R Rx hR _ hrnd W hbW hzW hRW
    have hbW' : Below w.heap.size w W := b3.trans (hbW.mono (by omega))
    have y0 : W.heap[w.heap.size]? = some (.cells #[.slice none 0 0] 38 (0, 0)) := (hbW.block _ (by omega)).trans x0
    have hcell : ∀ p v, w3.cell? p = some v → W.cell? p = some v := fun p v h => (Chg.of_below hbW (fun _ => False)).cell h (fun h => h)
    refine (leav1_S (n := 3 - 1) (l := w3.heap.size + 1) (b1 := w.heap.size + 1) (b2 := w.heap.size + 1 + 1) (a := a) (m := m) (ao := ao) (now := now) (N := fun k => k = w.heap.size ∨ w3.heap.size ≤ k) (T := fun pre W => (∃ v, Col w.heap.size w3.heap.size v pre W) ∧ R W) (by decide) ?_ L ?_ ?_ (hnot _ (by omega)) (hnot _ (by omega)) W (hcell _ _ x1) (hcell _ _ x2) (r3.below hbW) ⟨⟨_, y0, World.ownsRow_nil _ _ _ _, by omega, by omega⟩, hRW⟩).mono ?_
    · rintro pre A B ⟨⟨v, hv⟩, hr⟩ hc
      exact ⟨⟨v, hv.kept hc (hnot _ (Nat.le_refl _)) (fun k hk => hnot k (by have := (hv.row.lt k hk).1; omega))⟩, hR A B hr (KeepsFrom.of_chg hc (fun k hk => by have := hlt k hk; omega))⟩
    · rintro pre x W1 hl ⟨hcol, hr⟩
      obtain ⟨fn, tmps, assign, body, hy, hRd⟩ := hrnd (pre, W1) x W1 ⟨hl, Chg.refl _ _, hcol⟩ hr
      refine ⟨fn, tmps, assign, body, hy, hRd.mono ?_⟩
      rintro e W' (⟨rfl, ⟨hc, hi⟩, hr'⟩ | ⟨_, c, hf, _⟩)
      · exact ⟨rfl, ⟨hi, hr'⟩, hc⟩
      · exact hf.elim
    · rintro k (rfl | hk)
      · exact ⟨hnot _ (Nat.le_refl _), by omega, by omega⟩
      · exact ⟨hnot _ (by omega), by omega, by omega⟩
    · rintro e W' ⟨hv, ⟨hcol, hr⟩, hA, hC⟩
      refine ⟨hv, .inl ⟨⟨hcol, hA, ?_⟩, hr⟩⟩
      exact (Chg.of_below hbW' _).trans hC (fun k hk h => by
        rcases h with h | h | h
        · exact h
        · omega
        · omega)
  case done =>
    rintro D W hD ⟨⟨v, hv⟩, hA, hC⟩ hK
    have e0 := hv.cell
    gi_wp2
    refine ⟨by simp, .inl ⟨_, _, rfl, run_takeDeferred hK, ?_⟩⟩
    refine ⟨_, results_tmp rfl _ _ _, v, rfl, ?_, ?_, ?_⟩
    · have h1 := Col.own _ _ (v, _) W _ (some D) hv (grownBy_putObj' W D (.deferred none)) (fun k e => by cases e; exact ⟨hD, _, hK, rfl⟩)
      have h2 := h1.row
      rw [List.length_map] at h2
      exact own_base h2 (by omega)
    · exact own_agn (B := w3.heap.size) (fun k hk => by have := hlt k hk; omega) _ () W _ (some D) hA (grownBy_putObj' W D (.deferred none)) (fun k e => by cases e; exact ⟨hD, _, hK, rfl⟩)
    · exact hC.trans (K' := fun k => w3.heap.size ≤ k) (Chg.of_gr (grownBy_putObj' W D (.deferred none)) (fun k e => by cases e; exact .inl hD)) (fun k hk e => by omega)
  case stop =>
    rintro D c W _ h _
    exact h.elim
end Go.Proofs.Ytjmiifgofedcnaa
