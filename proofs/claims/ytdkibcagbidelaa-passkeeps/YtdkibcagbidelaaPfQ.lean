/-
  Package profile: Shadow.
-/
import Derived.Test.YtdkibcagbidelaaPfO
namespace Go.Proofs.Ytdkibcagbidelaa
open Go.RowKit Go.Shelf Pr

attribute [local go_sem] Oper.semAt_some

/-- Shadow's boxes. -/
structure ShB (b : Nat) (need x y : Int) (z : Bool) (W : World) : Prop where
  n : W.heap[b]? = some (.cells #[.int .i64 need] 3 (0, 0))
  x : W.heap[b + 1]? = some (.cells #[.int .i64 x] 3 (0, 0))
  y : W.heap[b + 1 + 1]? = some (.cells #[.int .i64 y] 3 (0, 0))
  z : W.heap[b + 1 + 1 + 1]? = some (.cells #[.bool z] 4 (0, 0))
section
variable {b : Nat} {need x y x' y' : Int} {z z' : Bool} {W W' : World}
theorem ShB.same (h : ShB b need x y z W) (e : ∀ j, b ≤ j → j < b + 4 → W'.heap[j]? = W.heap[j]?) : ShB b need x y z W' :=
  ⟨(e _ (by omega) (by omega)).trans h.n, (e _ (by omega) (by omega)).trans h.x, (e _ (by omega) (by omega)).trans h.y, (e _ (by omega) (by omega)).trans h.z⟩
theorem ShB.lt (h : ShB b need x y z W) : b + 4 ≤ W.heap.size := (Array.getElem?_eq_some_iff.1 h.z).1
theorem ShB.set (h : ShB b need x y z W) (x' y' : Int) (z' : Bool) : ShB b need x' y' z' (((W.setCell ⟨b + 1, 0, none⟩ (.int .i64 x')).setCell ⟨b + 1 + 1, 0, none⟩ (.int .i64 y')).setCell ⟨b + 1 + 1 + 1, 0, none⟩ (.bool z')) := by
  have oth : ∀ (V : World) (k m : Nat) (v : Value), k ≠ m → (V.setCell ⟨k, 0, none⟩ v).heap[m]? = V.heap[m]? := fun V k m v hkm => Below.heap_setCell _ _ _ _ (fun e => hkm e.symm)
  have e1 : (W.setCell ⟨b + 1, 0, none⟩ (.int .i64 x')).heap[b + 1]? = some (.cells #[.int .i64 x'] 3 (0, 0)) := heap_setCell_same W _ 0 _ 3 _ h.x
  have e2 : ((W.setCell ⟨b + 1, 0, none⟩ (.int .i64 x')).setCell ⟨b + 1 + 1, 0, none⟩ (.int .i64 y')).heap[b + 1 + 1]? = some (.cells #[.int .i64 y'] 3 (0, 0)) := heap_setCell_same _ _ 0 #[.int .i64 y] 3 _ ((oth _ _ _ _ (by omega)).trans h.y)
  have e3 : (((W.setCell ⟨b + 1, 0, none⟩ (.int .i64 x')).setCell ⟨b + 1 + 1, 0, none⟩ (.int .i64 y')).setCell ⟨b + 1 + 1 + 1, 0, none⟩ (.bool z')).heap[b + 1 + 1 + 1]? = some (.cells #[.bool z'] 4 (0, 0)) := heap_setCell_same _ _ 0 #[.bool z] 4 _ ((oth _ _ _ _ (by omega)).trans ((oth _ _ _ _ (by omega)).trans h.z))
  exact ⟨(oth _ _ _ _ (by omega)).trans ((oth _ _ _ _ (by omega)).trans ((oth _ _ _ _ (by omega)).trans h.n)), (oth _ _ _ _ (by omega)).trans ((oth _ _ _ _ (by omega)).trans e1), (oth _ _ _ _ (by omega)).trans e2, e3⟩
theorem ShB.fin {d : Nat} {w : World} (h : ShB b need x y z W) (hb : Below w.heap.size w W) (hB : w.heap.size ≤ d) (hd : b + 4 ≤ d) :
    (W.putObj d (.deferred none)).cell? ⟨b + 1, 0, none⟩ = some (.int .i64 x) ∧ (W.putObj d (.deferred none)).cell? ⟨b + 1 + 1, 0, none⟩ = some (.int .i64 y) ∧ (W.putObj d (.deferred none)).cell? ⟨b + 1 + 1 + 1, 0, none⟩ = some (.bool z) ∧ Below w.heap.size w (W.putObj d (.deferred none)) := by
  have h' : ShB b need x y z (W.putObj d (.deferred none)) := h.same (fun j _ hj => World.putObj_heap_other (by omega))
  exact ⟨cells_at h'.x rfl, cells_at h'.y rfl, cells_at h'.z rfl, hb.grown (grownBy_putObj' _ _ _) hb.size (fun k e => by cases e; exact hB)⟩
theorem set3_heap (W : World) {b d : Nat} (hd : b + 4 ≤ d) (v1 v2 v3 : Value) : (((W.setCell ⟨b + 1, 0, none⟩ v1).setCell ⟨b + 1 + 1, 0, none⟩ v2).setCell ⟨b + 1 + 1 + 1, 0, none⟩ v3).heap[d]? = W.heap[d]? := by
  rw [Below.heap_setCell _ _ _ _ (by simp; omega), Below.heap_setCell _ _ _ _ (by simp; omega), Below.heap_setCell _ _ _ _ (by simp; omega)]
theorem below_set3 {B : Nat} {w : World} (h : Below B w W) (hB : B ≤ b) (v1 v2 v3 : Value) : Below B w (((W.setCell ⟨b + 1, 0, none⟩ v1).setCell ⟨b + 1 + 1, 0, none⟩ v2).setCell ⟨b + 1 + 1 + 1, 0, none⟩ v3) :=
  ((h.setCell (p := ⟨b + 1, 0, none⟩) (by simp; omega) v1).setCell (p := ⟨b + 1 + 1, 0, none⟩) (by simp; omega) v2).setCell (p := ⟨b + 1 + 1 + 1, 0, none⟩) (by simp; omega) v3
end

set_option maxRecDepth 100000 in
set_option maxHeartbeats 4000000 in
theorem pshadow_any {w : World} {ao : Option Addr} {l : List Rn} {c : Nat} (hA : RunsAt w ao l) (hn : l.length * 16 ≤ 140737488355328) (now free need : Int) :
    Calls Try.prog 43 #[.int .i64 now, .int .i64 free, .slice ao l.length c, .int .i64 need] w fun e w' => e = .returned (shA need (shadowV now free l need)) ∧ Below w.heap.size w w' := by
  obtain ⟨w1, hw1⟩ : ∃ w1, (((w.alloc (.cells #[.int .i64 need] 3)).alloc (.cells #[.int .i64 0] 3)).alloc (.cells #[.int .i64 0] 3)).alloc (.cells #[.bool false] 4) = w1 := ⟨_, rfl⟩
  have z1 : w1.heap.size = w.heap.size + 4 := by rw [← hw1]; simp
  have b1 : Below w.heap.size w w1 := by rw [← hw1]; exact ((((Below.refl _ w).alloc (Nat.le_refl _) _).alloc (by simp) _).alloc (by simp; omega) _).alloc (by simp; omega) _
  have y1 : ShB w.heap.size need 0 0 false w1 := by
    rw [← hw1]
    refine ⟨?_, ?_, ?_, ?_⟩
    · exact (Below.heap_alloc _ _ _ (by simp; omega)).trans ((Below.heap_alloc _ _ _ (by simp; omega)).trans ((Below.heap_alloc _ _ _ (by simp)).trans (heap_alloc_new w _)))
    · have := heap_alloc_new (w.alloc (.cells #[.int .i64 need] 3)) (.cells #[.int .i64 0] 3)
      rw [World.size_alloc] at this
      exact (Below.heap_alloc _ _ _ (by simp)).trans ((Below.heap_alloc _ _ _ (by simp)).trans this)
    · have := heap_alloc_new ((w.alloc (.cells #[.int .i64 need] 3)).alloc (.cells #[.int .i64 0] 3)) (.cells #[.int .i64 0] 3)
      rw [World.size_alloc, World.size_alloc] at this
      exact (Below.heap_alloc _ _ _ (by simp)).trans this
    · have := heap_alloc_new (((w.alloc (.cells #[.int .i64 need] 3)).alloc (.cells #[.int .i64 0] 3)).alloc (.cells #[.int .i64 0] 3)) (.cells #[.bool false] 4)
      rw [World.size_alloc, World.size_alloc, World.size_alloc] at this
      exact this
  have HW1 : Hid _ := hw1
  clear hw1
  by_cases hnd : need < 0
  · have e : shadowV now free l need = none := by simp [shadowV]; omega
    rw [e]
    go_enter Try.func43, Try.ntmps43
    go_wp2
    rw [HW1.out]
    have e1 : w1.cell? ⟨w.heap.size + 1, 0, none⟩ = some (.int .i64 0) := cells_at y1.x rfl
    have e2 : w1.cell? ⟨w.heap.size + 1 + 1, 0, none⟩ = some (.int .i64 0) := cells_at y1.y rfl
    have e3 : w1.cell? ⟨w.heap.size + 1 + 1 + 1, 0, none⟩ = some (.bool false) := cells_at y1.z rfl
    exact bodyPost_ret (v := shA need none) (by simp [results, Try.results43, go_sem, shA, e1, e2, e3]) rfl ⟨rfl, b1⟩
  have hnd0 : 0 ≤ need := by omega
  obtain ⟨S, hSS⟩ : ∃ S, stepsV now free l = S := ⟨_, rfl⟩
  have hsh : shadowV now free l need = firstV need S := by
    rw [← hSS]
    by_cases hr : right free l = true
    · simp [shadowV, hr, hnd0]
    · have hS : stepsV now free l = [] := by unfold stepsV; rw [if_neg hr]
      rw [hS]
      simp [shadowV, hr, firstV]
  have hsb : ∀ s ∈ S, 0 ≤ s.fr ∧ s.fr ≤ 256 + 256 * l.length := by rw [← hSS]; exact steps_bound
  rw [hsh]
  refine (callsIn_wide (n := 3)).1 ?_
  refine callsIn_of_wp_marks Try.func43 rfl trivial ?_ rfl
  simp only [Try.ntmps43, List.size_toArray, List.length_cons, List.length_nil, Nat.reduceAdd, Nat.reduceSub, Array.replicate_succ, Array.replicate_zero, List.push_toArray, List.append_toArray, List.nil_append, List.cons_append]
  have hall := all_any (c := c) (hA.below b1) hn now free
  obtain ⟨q, hq⟩ : ∃ q, l.length = q := ⟨_, rfl⟩
  rw [hq] at hall hn hsb ⊢
  gi_wp2_with (first
    | (refine ⟨trivial, ?_⟩; gi_at_call 48; rw [HW1.out]; refine (callsIn_wide.2 hall).mono ?_; rintro e w4 ⟨v, rfl, ⟨gf, lb, D, rfl, heg, hS, hD⟩, b4⟩))
  clear hall
  have x1 : ShB w.heap.size need 0 0 false w4 := y1.same (fun j _ hj => b4.block j (by omega))
  have B4 : Below w.heap.size w w4 := b1.trans (b4.mono b1.size)
  have sz := b4.size
  rw [hSS] at hS
  refine range_seq (by decide) (gf := gf) (lb := lb) rfl heg (fun _ => rfl) hS cellsS 82 (fun _ => False) (fun _ h => h.elim)
    (fun _ k W => ShB w.heap.size need 0 0 false W ∧ firstV need S = firstV need (S.drop k) ∧ Below w.heap.size w W)
    (fun c W => c = .ret ∧ (∃ s, firstV need S = some s ∧ ShB w.heap.size need s.at_ (s.fr - need) true W) ∧ Below w.heap.size w W) ?h0 ?hT ?hTx
    (fun s p => { tmps := #[.int .i64 now, .int .i64 free, .slice ao q c, .int .i64 need, undef, undef, undef, .pointer (some ⟨w.heap.size, 0, none⟩), .pointer (some ⟨w.heap.size + 1, 0, none⟩), .pointer (some ⟨w.heap.size + 1 + 1, 0, none⟩), .pointer (some ⟨w.heap.size + 1 + 1 + 1, 0, none⟩), .pointer (some ⟨p, 0, none⟩), .int .i64 need, .bool false, .int .i64 now, .int .i64 free, .slice ao q c, .func (.func gf) #[] lb, .agg #[.int .i64 s.at_, .int .i64 s.fr], undef, undef, undef, undef, undef, undef, undef, undef, undef, undef], defers := [] }) ?assign ?body ?done ?stop
  case h0 =>
    intro W hb hz
    exact ⟨x1.same (fun j _ hj => hb.block j (by omega)), by simp, B4.trans (hb.mono (by omega))⟩
  case hT =>
    rintro B k A A' hB ⟨h1, h2, hb⟩ hch
    exact ⟨h1.same (fun j _ hj => hch.block j (by have := h1.lt; omega) (by omega)), h2, hch.below hb hb.size (fun i hi => by omega)⟩
  case hTx =>
    rintro c W r o' ⟨h1, ⟨s, h2, h3⟩, h4⟩ _
    exact ⟨h1, ⟨s, h2, h3.same (fun j _ hj => World.putObj_heap_other (by omega))⟩, h4.grown (grownBy_putObj' _ _ _) h4.size (fun k e => by cases e; omega)⟩
  case assign =>
    intro L s W K hK
    unfold encS
    unfold cellsS at hK
    gi_wp2
    exact hK
  case body =>
    rintro B k s p W hB hs ⟨h1, h2, hb⟩ hp hpc hrec
    unfold cellsS at hpc
    have p0 : W.cell? ⟨p, 0, none⟩ = some (.int .i64 s.at_) := cells_at hpc rfl
    have p1 : W.cell? ⟨p, 1, none⟩ = some (.int .i64 s.fr) := cells_at hpc rfl
    have n0 : W.cell? ⟨w.heap.size, 0, none⟩ = some (.int .i64 need) := cells_at h1.n rfl
    obtain ⟨s0, s1⟩ := hsb s (List.mem_of_getElem? hs)
    rw [first_step hs] at h2
    by_cases ht : need ≤ s.fr
    · rw [if_pos ht] at h2
      have c1 : W.cell? ⟨w.heap.size + 1, 0, none⟩ = some (.int .i64 0) := cells_at h1.x rfl
      have f1 : W.frozen? ⟨w.heap.size + 1, 0, none⟩ = false := frozen_at h1.x
      have c2 : W.cell? ⟨w.heap.size + 1 + 1, 0, none⟩ = some (.int .i64 0) := cells_at h1.y rfl
      have f2 : W.frozen? ⟨w.heap.size + 1 + 1, 0, none⟩ = false := frozen_at h1.y
      have c3 : W.cell? ⟨w.heap.size + 1 + 1 + 1, 0, none⟩ = some (.bool false) := cells_at h1.z rfl
      have f3 : W.frozen? ⟨w.heap.size + 1 + 1 + 1, 0, none⟩ = false := frozen_at h1.z
      have H1 : Hid _ := h1
      have H2 : Hid _ := h2
      have HB : Hid _ := hb
      have hwr : IntKind.i64.wrap (s.fr - need) = s.fr - need := by rw [IntKind.wrap_i64]; omega
      clear h1 h2 hb hrec hs hsb hpc
      gi_wp2
      refine wpIn_mono (Q := fun e _ W' => e = .normal ∧ W' = (((W.setCell ⟨w.heap.size + 1, 0, none⟩ (.int .i64 s.at_)).setCell ⟨w.heap.size + 1 + 1, 0, none⟩ (.int .i64 (s.fr - need))).setCell ⟨w.heap.size + 1 + 1 + 1, 0, none⟩ (.bool true)).drew) ?_ ?_
      · have hpb : w.heap.size + 4 ≤ p := by omega
        clear H1 H2 HB B4 hS heg hD x1 y1 HW1 b1 hA hSS hsh hp hB sz z1 b4
        gi_region
        all_goals exact ⟨rfl, rfl⟩
      rintro e a' W' ⟨rfl, rfl⟩
      gi_wp2
      have K3 := KeepsOthers.setCell ((W.setCell ⟨w.heap.size + 1, 0, none⟩ (.int .i64 s.at_)).setCell ⟨w.heap.size + 1 + 1, 0, none⟩ (.int .i64 (s.fr - need))) ⟨w.heap.size + 1 + 1 + 1, 0, none⟩ (.bool true)
      exact ⟨((((KeepsOthers.setCell W _ _).trans (KeepsOthers.setCell _ _ _)).trans K3).trans (KeepsOthers.drew _)).from _, rfl, ⟨s, H2.out, (H1.out.set s.at_ (s.fr - need) true).same (fun _ _ _ => rfl)⟩, (below_set3 HB.out (Nat.le_refl _) _ _ _).drew⟩
    · rw [if_neg ht] at h2
      have H1 : Hid _ := h1
      have H2 : Hid _ := h2
      have HB : Hid _ := hb
      clear h1 h2 hb hrec hs hsb
      have ht' : ¬ need ≤ s.fr := ht
      gi_wp2
      exact ⟨KeepsFrom.refl _ _, Chg.refl _ _, H1.out, H2.out, HB.out⟩
  case done =>
    rintro d B W hd hB ⟨h1, h2, hb⟩ hK
    rw [List.drop_of_length_le (Nat.le_refl _)] at h2
    have h2' : firstV need S = none := h2
    have c1 : W.cell? ⟨w.heap.size + 1, 0, none⟩ = some (.int .i64 0) := cells_at h1.x rfl
    have f1 : W.frozen? ⟨w.heap.size + 1, 0, none⟩ = false := frozen_at h1.x
    have c2 : W.cell? ⟨w.heap.size + 1 + 1, 0, none⟩ = some (.int .i64 0) := cells_at h1.y rfl
    have f2 : W.frozen? ⟨w.heap.size + 1 + 1, 0, none⟩ = false := frozen_at h1.y
    have c3 : W.cell? ⟨w.heap.size + 1 + 1 + 1, 0, none⟩ = some (.bool false) := cells_at h1.z rfl
    have f3 : W.frozen? ⟨w.heap.size + 1 + 1 + 1, 0, none⟩ = false := frozen_at h1.z
    have H1 : Hid _ := h1
    have H2 : Hid _ := h2'
    have HB : Hid _ := hb
    have HK : Hid _ := hK
    clear h1 h2 h2' hb hK hsb
    gi_wp2
    have F := (H1.out.set 0 0 false).fin (below_set3 HB.out (Nat.le_refl _) _ _ _) (d := d) (by omega) (by omega)
    refine ⟨by simp, .inl ⟨_, _, rfl, run_takeDeferred ((set3_heap W (by omega) _ _ _).trans HK.out), ?_⟩⟩
    exact ⟨shA need none, by simp [results, Try.results43, go_sem, shA, F.1, F.2.1, F.2.2.1], by rw [H2.out], F.2.2.2⟩
  case stop =>
    rintro d c W hd ⟨rfl, ⟨s, h1, h2⟩, hb⟩ hK
    have H1 : Hid _ := h1
    have H2 : Hid _ := h2
    have HB : Hid _ := hb
    have HK : Hid _ := hK
    clear h1 h2 hb hK hsb
    gi_wp2
    have F := H2.out.fin HB.out (d := d) (by omega) (by omega)
    refine ⟨by simp, .inl ⟨_, _, rfl, run_takeDeferred HK.out, ?_⟩⟩
    exact ⟨shA need (some s), by simp [results, Try.results43, go_sem, shA, F.1, F.2.1, F.2.2.1], by rw [H1.out], F.2.2.2⟩
end Go.Proofs.Ytdkibcagbidelaa
