/-
  Package profile: byEnd, All.
-/
import Derived.Test.YtdkibcagbidelaaSrt
import Derived.Test.YtdkibcagbidelaaPfI
import Derived.Shelf.SlSortCmp.NoneTotal
namespace Go.Proofs.Ytdkibcagbidelaa
open Go.RowKit Go.Shelf Pr

theorem sort_none (p : Option Addr) (cap : Nat) (fv : Value) (w : World) : Calls Try.prog 61 #[.slice p 0 cap, fv] w fun e w' => e = .returned (.tuple #[]) ∧ w' = w := AnyF.slices_SortFunc_none sort_lays p cap fv w

theorem Pr.cellB {w w' : World} (b : Below w.heap.size w w') {a : Addr} {v : Value} (h : w.cell? a = some v) : w'.cell? a = some v := (b.cell (World.block_lt_of_cell? w _ h)).trans h
/-- A row of runs of its own, as a slice. -/
theorem row_cases {w : World} {B : Nat} {v : Value} {l : List Rn} (h : w.ownsRow B 45 2 v l.length (flatR l)) : (v = .slice none 0 0 ∧ l = []) ∨ ∃ g cap cur, v = .slice (some ⟨g, 0, none⟩) l.length cap ∧ B ≤ g ∧ w.heap[g]? = some (.cells cur 45 (0, 0)) ∧ l.length ≤ cap ∧ cap ≤ maxLen ∧ ∀ j x, l[j]? = some x → cur[j * 2]? = some (.int .i64 x.nd) ∧ cur[j * 2 + 1]? = some (.int .i64 x.en) := by
  rcases h.2 with ⟨rfl, h0⟩ | ⟨g, cap, cur, rfl, hb, hg, h1, h2, hs, ht⟩
  · exact .inl ⟨rfl, List.length_eq_zero_iff.1 h0⟩
  · refine .inr ⟨g, cap, cur, rfl, hb, hg, h1, h2, fun j x hx => ?_⟩
    have hj : j < l.length := (List.getElem?_eq_some_iff.1 hx).1
    obtain ⟨e1, e2⟩ := flatR_at l j x hx
    rw [← ht, List.getElem?_take_of_lt (by omega), Array.getElem?_toList] at e1 e2
    exact ⟨e1, e2⟩

/-- byEnd: the same runs, by their ends, in memory of their own. -/
theorem byEnd_any {w : World} {ao : Option Addr} {l : List Rn} {c : Nat} (hA : RunsAt w ao l) (hn : l.length * 16 ≤ 140737488355328) :
    Calls Try.prog 51 #[.slice ao l.length c] w fun e w' => ∃ (M : List Rn) (g cM : Nat) (aM : Option Addr), e = .returned (.slice aM l.length cM) ∧ M.Perm l ∧ Srt M ∧ Sl g 0 w' aM M cM ∧ cM ≤ maxLen ∧ (0 < M.length → w.heap.size ≤ g ∧ g < w'.heap.size) ∧ Below w.heap.size w w' := by
  obtain ⟨g0, o0, hG⟩ := hA.g
  go_enter Try.func51, Try.ntmps51
  go_wp2_with fail
  refine (values_any ao l.length c w).mono ?_
  rintro e w1 ⟨rfl, hw1⟩
  have b1 : Below w.heap.size w w1 := by rw [hw1]; exact (Below.refl _ w).alloc (Nat.le_refl _) _
  have z1 : w1.heap.size = w.heap.size + 1 := by rw [hw1]; simp
  have cb : w1.cell? ⟨w.heap.size, 0, none⟩ = some (.slice ao l.length c) := by rw [hw1]; exact cell_nw w rfl
  have hS := values_seq cb (hG.chg (Chg.of_below b1 (fun _ => False)) (fun _ h => h)) (by omega)
  clear hw1 cb
  -- SortedFunc
  have hsf : Calls Try.prog 56 #[.func (.func 62) #[] #[.pointer (some ⟨w.heap.size, 0, none⟩)], .func (.func 58) #[] #[]] w1 fun e w' => ∃ (M : List Rn) (g cM : Nat) (aM : Option Addr), e = .returned (.slice aM l.length cM) ∧ M.Perm l ∧ Srt M ∧ Sl g 0 w' aM M cM ∧ cM ≤ maxLen ∧ (0 < M.length → w1.heap.size ≤ g ∧ g < w'.heap.size) ∧ Below w1.heap.size w1 w' := by
    go_enter Try.func56, Try.ntmps56
    go_wp2_with fail
    refine (collect_any hS hn).mono ?_
    rintro e w2 ⟨v, rfl, hrow, b2⟩
    rcases row_cases hrow with ⟨rfl, rfl⟩ | ⟨g, cap, cur, rfl, hg1, hg2, hle, hmx, hcur⟩
    · go_wp2_with fail
      refine (sort_none _ _ _ _).mono ?_
      rintro e w3 ⟨rfl, rfl⟩
      go_wp2
      go_ret
      exact ⟨[], 0, 0, none, rfl, List.Perm.refl _, List.Pairwise.nil, ⟨.inr ⟨rfl, rfl, rfl⟩, fun k r hr => by simp at hr, Nat.le_refl _⟩, by decide, fun h => by simp at h, b2⟩
    · have hgl : g < w2.heap.size := (Array.getElem?_eq_some_iff.1 hg2).1
      go_wp2_with fail
      refine (sort_any (cap := cap) hgl (by omega) hg2 hcur).mono ?_
      rintro e w3 ⟨rfl, M, hp, hs, hM, hC⟩
      go_wp2
      go_ret
      have b3 : Below w1.heap.size w1 w3 := hC.below b2 b2.size (fun i e => by omega)
      refine ⟨M, g, cap, some ⟨g, 0, none⟩, rfl, hp, hs, ⟨.inl rfl, fun k r hr => ?_, by rw [hp.length_eq]; exact hle⟩, hmx, fun _ => ⟨hg1, Nat.lt_of_lt_of_le hgl hC.size⟩, b3⟩
      have := hM k r hr
      simpa using this
  go_wp2_with fail
  refine hsf.mono ?_
  rintro e w2 ⟨M, g, cM, aM, rfl, h1, h2, h3, h4, h5, h6⟩
  go_wp2
  go_ret
  exact ⟨M, g, cM, aM, rfl, h1, h2, h3, h4, fun h => ⟨by have := (h5 h).1; omega, (h5 h).2⟩, b1.trans (h6.mono (by omega))⟩

theorem all1_gives (W : World) : Gives 50 #[] encS [] (fun _ => False) W := by
  intro n L N T Tx hn hN h0 hT hY
  have T0 : Hid (T W.heap.size 0 W) := h0 W (Below.refl _ _)
  clear h0 hT hY hN
  refine callsIn_of_wp Try.func50 rfl trivial ?_ rfl
  simp only [Try.ntmps50, List.size_toArray, List.length_cons, List.length_nil, Nat.reduceAdd, Nat.reduceSub, Array.replicate_succ, Array.replicate_zero, List.push_toArray, List.append_toArray, List.nil_append, List.cons_append]
  gi_wp2
  go_end0
  exact ⟨⟨_, rfl⟩, .inl ⟨_, Nat.le_refl _, T0.out⟩⟩

theorem all2_seq {w : World} {bn bf bo g o c : Nat} {ao : Option Addr} {now free : Int} {l M : List Rn} (h1 : w.cell? ⟨bn, 0, none⟩ = some (.int .i64 now)) (h2 : w.cell? ⟨bf, 0, none⟩ = some (.int .i64 free)) (h3 : w.cell? ⟨bo, 0, none⟩ = some (.slice ao M.length c))
    (hA : Sl g o w ao M c) (hc : c ≤ maxLen) (hlen : l.length * 16 ≤ 140737488355328) (hp : M.Perm l) (hs : Srt M) (hr : right free l = true) :
    SeqOf 52 #[.pointer (some ⟨bn, 0, none⟩), .pointer (some ⟨bf, 0, none⟩), .pointer (some ⟨bo, 0, none⟩)] encS (stepsV now free l) (fun j => j = bn ∨ j = bf ∨ j = bo ∨ (0 < M.length ∧ j = g)) w := by
  refine ⟨fun j hj => ?_, fun W cW => all2_gives (cW.cell h1 (fun h => h (.inl rfl))) (cW.cell h2 (fun h => h (.inr (.inl rfl)))) (cW.cell h3 (fun h => h (.inr (.inr (.inl rfl))))) (hA.chg cW (fun hl h => h (.inr (.inr (.inr ⟨hl, rfl⟩))))) hc hlen hp hs hr⟩
  rcases hj with rfl | rfl | rfl | ⟨h, rfl⟩
  · exact World.block_lt_of_cell? w _ h1
  · exact World.block_lt_of_cell? w _ h2
  · exact World.block_lt_of_cell? w _ h3
  · exact hA.g.lt h
/-- What All hands back: an iterator that gives the steps, its blocks all new. -/
def AllPost (now free : Int) (l : List Rn) (w : World) (v : Value) (w' : World) : Prop :=
  ∃ gf lb D, v = .func (.func gf) #[] lb ∧ (∀ args w, (callFunc gf args).run Try.prog w = .ok (.enter gf args) w) ∧ SeqOf gf lb encS (stepsV now free l) D w' ∧ (∀ j, D j → w.heap.size ≤ j)

set_option maxHeartbeats 1000000 in
theorem all_any {w : World} {ao : Option Addr} {l : List Rn} {c : Nat} (hA : RunsAt w ao l) (hn : l.length * 16 ≤ 140737488355328) (now free : Int) :
    Calls Try.prog 48 #[.int .i64 now, .int .i64 free, .slice ao l.length c] w fun e w' => ∃ v, e = .returned v ∧ AllPost now free l w v w' ∧ Below w.heap.size w w' := by
  obtain ⟨w1, hw1⟩ : ∃ w1, (w.alloc (.cells #[.int .i64 now] 3)).alloc (.cells #[.int .i64 free] 3) = w1 := ⟨_, rfl⟩
  have b1 : Below w.heap.size w w1 := by rw [← hw1]; exact ((Below.refl _ w).alloc (Nat.le_refl _) _).alloc (by simp) _
  have z1 : w1.heap.size = w.heap.size + 1 + 1 := by rw [← hw1]; simp
  have c1 : w1.cell? ⟨w.heap.size, 0, none⟩ = some (.int .i64 now) := by rw [← hw1]; exact cell_al (cell_nw w rfl) _
  have c2 : w1.cell? ⟨w.heap.size + 1, 0, none⟩ = some (.int .i64 free) := by
    rw [← hw1]
    have := cell_nw (w.alloc (.cells #[.int .i64 now] 3)) (cs := #[.int .i64 free]) (t := 3) (k := 0) rfl
    rwa [World.size_alloc] at this
  have hAR := areRight_any (c := c) (hA.below b1) (by omega) free
  by_cases hr : right free l = true
  · rw [hr] at hAR
    go_enter Try.func48, Try.ntmps48
    go_wp2_with fail
    refine hAR.mono ?_
    rintro e w2 ⟨rfl, b2⟩
    have B2 := b1.trans (b2.mono b1.size)
    go_wp2_with fail
    refine (byEnd_any (hA.below B2) hn).mono ?_
    rintro e w3 ⟨M, g, cM, aM, rfl, m1, m2, m3, m4, m5, b3⟩
    have B3 := B2.trans (b3.mono B2.size)
    have z2 := b2.size
    have z3 := b3.size
    have d1 : (w3.alloc (.cells #[.slice aM l.length cM] 23)).cell? ⟨w.heap.size, 0, none⟩ = some (.int .i64 now) := cell_al (cellB b3 (cellB b2 c1)) _
    have d2 : (w3.alloc (.cells #[.slice aM l.length cM] 23)).cell? ⟨w.heap.size + 1, 0, none⟩ = some (.int .i64 free) := cell_al (cellB b3 (cellB b2 c2)) _
    have d3 : (w3.alloc (.cells #[.slice aM l.length cM] 23)).cell? ⟨w3.heap.size, 0, none⟩ = some (.slice aM M.length cM) := by rw [m1.length_eq]; exact cell_nw w3 rfl
    have b4 : Below w3.heap.size w3 (w3.alloc (.cells #[.slice aM l.length cM] 23)) := (Below.refl _ _).alloc (Nat.le_refl _) _
    clear c1 c2 hAR
    go_wp2
    go_ret
    refine ⟨_, rfl, ⟨52, _, (fun j => j = w.heap.size ∨ j = w.heap.size + 1 ∨ j = w3.heap.size ∨ (0 < M.length ∧ j = g)), rfl, enters_of Try.func52 (by kernel_rfl) rfl, ?_, ?_⟩, B3.alloc (by omega) _⟩
    · exact all2_seq d1 d2 d3 (m3.below b4) m4 (by omega) m1 m2 hr
    · rintro j (rfl | rfl | rfl | ⟨h, rfl⟩)
      · omega
      · omega
      · omega
      · have := (m5 h).1; omega
  · rw [show right free l = false by simpa using hr] at hAR
    have hS : stepsV now free l = [] := by unfold stepsV; rw [if_neg hr]
    have HS : Hid _ := hS
    clear hS
    go_enter Try.func48, Try.ntmps48
    go_wp2_with fail
    refine hAR.mono ?_
    rintro e w2 ⟨rfl, b2⟩
    have B2 := b1.trans (b2.mono b1.size)
    go_wp2
    go_ret
    refine ⟨_, rfl, ⟨50, #[], (fun _ => False), rfl, enters_of Try.func50 (by kernel_rfl) rfl, ⟨fun _ h => h.elim, fun W _ => ?_⟩, fun _ h => h.elim⟩, B2⟩
    rw [HS.out]
    exact all1_gives W
end Go.Proofs.Ytdkibcagbidelaa
