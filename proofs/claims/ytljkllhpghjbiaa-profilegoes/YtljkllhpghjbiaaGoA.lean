/-
  ProfileGoes, walked.
-/
import Derived.Test.YtljkllhpghjbiaaShown
import Derived.Test.YtljkllhpghjbiaaLwD
import Derived.Test.YtljkllhpghjbiaaRsQ
import Derived.Laws.EntriesVeiled
import Derived.Sort.QuietIn
namespace Go.Proofs.Ytljkllhpghjbiaa
open Go.RowKit Go.Shelf Pr

attribute [local go_sem] Oper.semAt_some func_nil run_store_func

/-- What stands from the loop's beginning on. -/
structure GoF (W : World) (h0 h9 h11 : Nat) (al : Option Addr) (nl cl : Nat) (S : List Stp) (aw : Option Addr) (cw gf : Nat) (lb : Array Value) (D : Nat → Prop) : Prop where
  lv : W.heap[h0]? = some (.cells #[.slice al nl cl] 36 (0, 0))
  res : W.heap[h0 + 1]? = some (.cells #[.bool false] 4 (0, 0))
  want : W.heap[h9]? = some (.cells #[.slice aw S.length cw] 26 (0, 0))
  steps : StepsAt W (.slice aw S.length cw) S
  seq : W.heap[h11]? = some (.cells #[.func (.func gf) #[] lb] 38 (0, 0))
  sq : SeqOf gf lb encS S D W
/-- Where the walk over the leaves stands. -/
def iOf (a : Act) (W : World) : Nat := match a.tmps.getD 12 undef with
  | .pointer (some ad) => (atOf ad.block W).toNat
  | _ => 0
/-- The frame between two rounds: what is read of it. -/
structure GoT (tm : Array Value) (b7 b9 b11 b12 : Nat) : Prop where
  sz : tm.size = 117
  e7 : tm.getD 7 undef = .pointer (some ⟨b7, 0, none⟩)
  e8 : tm.getD 8 undef = .pointer (some ⟨b7 + 1, 0, none⟩)
  e9 : tm.getD 9 undef = .pointer (some ⟨b9, 0, none⟩)
  e11 : tm.getD 11 undef = .pointer (some ⟨b11, 0, none⟩)
  e12 : tm.getD 12 undef = .pointer (some ⟨b12, 0, none⟩)
theorem arr_us {tm : Array Value} {n : Nat} (h : tm.size = n) : tm = ((List.range n).map fun k => tm.getD k undef).toArray := by
  apply Array.ext
  · simp [h]
  · intro k h1 h2
    simp [Array.getD, h1]
set_option maxRecDepth 100000 in
theorem GoT.us {tm : Array Value} {b7 b9 b11 b12 : Nat} (h : GoT tm b7 b9 b11 b12) : ∃ us : Nat → Value, tm = #[us 0, us 1, us 2, us 3, us 4, us 5, us 6, .pointer (some ⟨b7, 0, none⟩), .pointer (some ⟨b7 + 1, 0, none⟩), .pointer (some ⟨b9, 0, none⟩), us 10, .pointer (some ⟨b11, 0, none⟩), .pointer (some ⟨b12, 0, none⟩), us 13, us 14, us 15, us 16, us 17, us 18, us 19, us 20, us 21, us 22, us 23, us 24, us 25, us 26, us 27, us 28, us 29, us 30, us 31, us 32, us 33, us 34, us 35, us 36, us 37, us 38, us 39, us 40, us 41, us 42, us 43, us 44, us 45, us 46, us 47, us 48, us 49, us 50, us 51, us 52, us 53, us 54, us 55, us 56, us 57, us 58, us 59, us 60, us 61, us 62, us 63, us 64, us 65, us 66, us 67, us 68, us 69, us 70, us 71, us 72, us 73, us 74, us 75, us 76, us 77, us 78, us 79, us 80, us 81, us 82, us 83, us 84, us 85, us 86, us 87, us 88, us 89, us 90, us 91, us 92, us 93, us 94, us 95, us 96, us 97, us 98, us 99, us 100, us 101, us 102, us 103, us 104, us 105, us 106, us 107, us 108, us 109, us 110, us 111, us 112, us 113, us 114, us 115, us 116] := by
  refine ⟨fun k => tm.getD k undef, ?_⟩
  rw [← h.e7, ← h.e8, ← h.e9, ← h.e11, ← h.e12]
  exact arr_us h.sz
/-- Marks that ranges have left. -/
def Marks (B : Nat) (ds : List Deferred) (W : World) : Prop := (∀ d ∈ ds, ∃ r, d.target = .collected r ∧ B ≤ r ∧ W.heap[r]? = some (.deferred (some []))) ∧ ds.Pairwise (fun a b => a.target ≠ b.target)
theorem Marks.same {B : Nat} {ds : List Deferred} {W W' : World} (h : Marks B ds W) (e : ∀ r, B ≤ r → W.heap[r]? = some (.deferred (some [])) → W'.heap[r]? = W.heap[r]?) : Marks B ds W' :=
  ⟨fun d hd => let ⟨r, h1, h2, h3⟩ := h.1 d hd; ⟨r, h1, h2, (e r h2 h3).trans h3⟩, h.2⟩
theorem leaves_marks {F : Fence} {n B : Nat} {fn : Func} {tmps : Array Value} {R : Ending → World → Prop} : ∀ (ds : List Deferred) (W : World), Marks B ds W →
    (∀ W', W.heap.size = W'.heap.size → Chg (fun j => B ≤ j ∧ ∃ l, W.heap[j]? = some (.deferred l)) W W' → ∃ v, (results fn tmps).run Try.prog W' = .ok v W' ∧ R (.returned v) W') →
    LeavesInM F n Try.prog fn tmps R ds .returning W
  | [], W, _, h => h W rfl (Chg.refl _ _)
  | d :: ds, W, hm, h => by
    obtain ⟨r, h1, h2, h3⟩ := hm.1 d (by simp)
    refine ⟨by simp, .inl ⟨r, _, h1, run_takeDeferred h3, leaves_marks (B := B) ds _ ⟨fun e he => ?_, (List.pairwise_cons.1 hm.2).2⟩ ?_⟩⟩
    · obtain ⟨r', g1, g2, g3⟩ := hm.1 e (by simp [he])
      refine ⟨r', g1, g2, (World.putObj_heap_other (fun e' => ?_)).trans g3⟩
      have := (List.pairwise_cons.1 hm.2).1 e he
      subst e'
      exact this (h1.trans g1.symm)
    · intro W' hz hc
      have c1 : Chg (fun j => B ≤ j ∧ ∃ l, W.heap[j]? = some (.deferred l)) W (W.putObj r (.deferred none)) := (Chg.refl _ W).putRec _ (.inl ⟨h2, _, h3⟩)
      refine h W' (by rw [← hz]; simp) (c1.trans hc (fun j hj hk => ⟨hk.1, ?_⟩))
      obtain ⟨l, hl⟩ := hk.2
      by_cases e : j = r
      · subst e; exact ⟨_, h3⟩
      · exact ⟨l, by rwa [World.putObj_heap_other e] at hl⟩

theorem iOf_eq {a : Act} {W : World} {b i : Nat} (h : a.tmps.getD 12 undef = .pointer (some ⟨b, 0, none⟩)) (hc : W.heap[b]? = some (.cells #[.int .i64 (i : Int)] 3 (0, 0))) : iOf a W = i := by
  have h1 : W.cell? ⟨b, 0, none⟩ = some (.int .i64 i) := cells_at hc rfl
  unfold iOf
  rw [h]
  show (atOf b W).toNat = i
  unfold atOf
  rw [h1]
  rfl
theorem Marks.more {B p C d : Nat} {ds : List Deferred} {W V : World} {cs : Array Value} {t : TypeId} {f : Nat × Nat} (h : Marks B ds W) (hp : W.heap[p]? = some (.cells cs t f)) (c : Chg (fun j => j = p ∨ W.heap.size ≤ j) W V) (hC : C = W.heap.size) (hB : B ≤ C) (hd : C ≤ d) (hK : V.heap[d]? = some (.deferred (some []))) : Marks B ({ target := .collected d, args := #[] } :: ds) V := by
  subst hC
  refine ⟨fun e he => ?_, List.pairwise_cons.2 ⟨fun e he hne => ?_, h.2⟩⟩
  · rcases List.mem_cons.1 he with rfl | he
    · exact ⟨d, rfl, by omega, hK⟩
    · obtain ⟨r, h1, h2, h3⟩ := h.1 e he
      have hr := (Array.getElem?_eq_some_iff.1 h3).1
      refine ⟨r, h1, h2, (c.block r hr (fun hc => ?_)).trans h3⟩
      rcases hc with rfl | hc
      · rw [hp] at h3; cases h3
      · omega
  · obtain ⟨r, h1, h2, h3⟩ := h.1 e he
    have hr := (Array.getElem?_eq_some_iff.1 h3).1
    rw [h1] at hne
    simp at hne
    omega

set_option maxRecDepth 100000 in
set_option maxHeartbeats 8000000 in
theorem goes_walk {w : World} {ao : Option Addr} {l : List Rn} {c : Nat} (hA : RunsAt w ao l) (hnil : ao = none → l = [] ∧ c = 0) (hn : l.length * 16 + 256 ≤ 140737488355328) {al : Option Addr} {nl cl : Nat} {gl ol : Nat} {lv : Nat → Int}
    (hal : 0 < nl → al = some ⟨gl, ol, none⟩) (hlv : ∀ j, j < nl → w.cell? ⟨gl, ol + j, none⟩ = some (.int .i64 (lv j))) (hnl : nl * 8 ≤ 140737488355328) (now free : Int) :
    Calls Try.prog 4 #[.int .i64 now, .int .i64 free, .slice ao l.length c, .slice al nl cl] w fun e w' => e = .returned (.bool true) ∧ Below w.heap.size w w' := by
  obtain ⟨S, hSS⟩ : ∃ S, stepsV now free l = S := ⟨_, rfl⟩
  have hsl := steps_len now free l
  rw [hSS] at hsl
  obtain ⟨w1, hw1⟩ : ∃ w1, (w.alloc (.cells #[.slice al nl cl] 36)).alloc (.cells #[.bool false] 4) = w1 := ⟨_, rfl⟩
  have z1 : w1.heap.size = w.heap.size + 2 := by rw [← hw1]; simp
  have b1 : Below w.heap.size w w1 := by rw [← hw1]; exact ((Below.refl _ w).alloc (Nat.le_refl _) _).alloc (by simp) _
  have y0 : w1.heap[w.heap.size]? = some (.cells #[.slice al nl cl] 36 (0, 0)) := by
    rw [← hw1]
    exact (Below.heap_alloc _ _ _ (by simp)).trans (heap_alloc_new w _)
  have y1 : w1.heap[w.heap.size + 1]? = some (.cells #[.bool false] 4 (0, 0)) := by
    rw [← hw1]
    have := heap_alloc_new (w.alloc (.cells #[.slice al nl cl] 36)) (.cells #[.bool false] 4)
    rwa [World.size_alloc] at this
  have HW1 : Hid _ := hw1
  clear hw1
  refine (callsIn_wide (n := 8)).1 ?_
  refine callsIn_of_wp_marks Try.func4 rfl trivial ?_ rfl
  simp only [Try.ntmps4, List.size_toArray, List.length_cons, List.length_nil, Nat.reduceAdd, Nat.reduceSub, Array.replicate_succ, Array.replicate_zero, List.push_toArray, List.append_toArray, List.nil_append, List.cons_append]
  have hsh := shown_any w1
  have HST : ∀ W, Below w.heap.size w W → Hid (Calls Try.prog 13 #[.int .i64 now, .int .i64 free, .slice ao l.length c] W fun e w' => ∃ aw cw, e = .returned (.slice aw S.length cw) ∧ StepsAt w' (.slice aw S.length cw) S ∧ Below W.heap.size W w') := fun W hb => by
    have := steps_any (c := c) (hA.below hb) (by omega) now free
    rw [hSS] at this
    refine this.mono ?_
    rintro e w' ⟨v, rfl, hrow, hb'⟩
    have hst := stepsAt_row hrow
    obtain ⟨aw, cw, g, rfl, h1, h2⟩ := hst
    exact ⟨aw, cw, rfl, ⟨aw, cw, g, rfl, h1, h2⟩, hb'⟩
  have HLD : ∀ W, Below w.heap.size w W → Hid (Calls Try.prog 8 #[.slice ao l.length c] W fun e w' => ∃ g cap cur, e = .returned (.slice (some ⟨g, 0, none⟩) (l.length + 1) cap) ∧ W.heap.size ≤ g ∧ w'.heap[g]? = some (.cells cur 42 (0, 0)) ∧ l.length + 1 ≤ cap ∧
      (∀ j y, (l ++ [⟨-77, 0⟩])[j]? = some y → cur[j * 2]? = some (.int .i64 y.nd) ∧ cur[j * 2 + 1]? = some (.int .i64 y.en)) ∧ RunsAt w' (some ⟨g, 0, none⟩) l ∧ Below W.heap.size W w') := fun W hb => by
    refine (lend_any (c := c) (hA.below hb) hnil (by omega)).mono ?_
    rintro e w' ⟨v, rfl, hrow, hb'⟩
    obtain ⟨g, cap, cur, rfl, h1, h2, h3, _, h4, h5⟩ := lent_row hrow
    exact ⟨g, cap, cur, rfl, h1, h2, h3, h4, h5, hb'⟩
  have HAL : ∀ W ao' c', RunsAt W ao' l → Hid (Calls Try.prog 17 #[.int .i64 now, .int .i64 free, .slice ao' l.length c'] W fun e w' => ∃ gf lb D, e = .returned (.func (.func gf) #[] lb) ∧ (∀ args w, (callFunc gf args).run Try.prog w = .ok (.enter gf args) w) ∧ SeqOf gf lb encS S D w' ∧ (∀ j, D j → W.heap.size ≤ j) ∧ Below W.heap.size W w') := fun W ao' c' h => by
    have := all_any (c := c') h (by omega) now free
    rw [← hSS]
    refine this.mono ?_
    rintro e w' ⟨v, rfl, ⟨gf, lb, D, rfl, heg, hS, hD⟩, hb⟩
    exact ⟨gf, lb, D, rfl, heg, hS, hD, hb⟩
  have HSL : ∀ W, Below w.heap.size w W → ∀ g cap cur, W.heap[g]? = some (.cells cur 42 (0, 0)) → l.length + 1 ≤ cap → (∀ j y, (l ++ [⟨-77, 0⟩])[j]? = some y → cur[j * 2]? = some (.int .i64 y.nd) ∧ cur[j * 2 + 1]? = some (.int .i64 y.en)) →
      Hid (Calls Try.prog 16 #[.slice (some ⟨g, 0, none⟩) (l.length + 1) cap, .slice ao l.length c] W fun e w' => e = .returned (.bool true) ∧ Chg (fun j => j = g) W w') := fun W hb g cap cur h1 h2 h3 => still_any h1 h2 h3 (hA.below hb) (by omega)
  obtain ⟨q, hq⟩ : ∃ q, l.length = q := ⟨_, rfl⟩
  rw [hq] at hn hsl ⊢
  simp only [hq] at HST HLD HAL HSL
  gi_wp2_with (first
    | (refine ⟨trivial, ?_⟩; gi_at_call 7; rw [HW1.out]; refine (callsIn_wide.2 hsh).mono ?_; rintro e w2 ⟨rfl, b2⟩; have B2 := b1.trans (b2.mono b1.size))
    | (refine ⟨trivial, ?_⟩; gi_at_call 13; refine (callsIn_wide.2 (HST w2 B2).out).mono ?_; rintro e w3 ⟨aw, cw, rfl, hst3, b3⟩; have B3 := B2.trans (b3.mono B2.size))
    | (refine ⟨trivial, ?_⟩; gi_at_call 8; have b3' := (Below.refl w3.heap.size w3).alloc (Nat.le_refl _) (.cells #[.slice aw S.length cw] 26); have B3' := B3.trans (b3'.mono B3.size); refine (callsIn_wide.2 (HLD _ B3').out).mono ?_; rintro e w4 ⟨g, cap, cur, rfl, hg4, hh4, hle4, hcur4, hA4, b4⟩; have B4 := B3'.trans (b4.mono B3'.size))
    | (refine ⟨trivial, ?_⟩; gi_at_call 17; refine (callsIn_wide.2 (HAL w4 _ _ hA4).out).mono ?_; rintro e w5 ⟨gf, lb, D, rfl, heg, hS5, hD5, b5⟩; have B5 := B4.trans (b5.mono B4.size))
    | (refine ⟨trivial, ?_⟩; gi_at_call 16; have hgl : g < w4.heap.size := (Array.getElem?_eq_some_iff.1 hh4).1; have b6 : Below w4.heap.size w4 (w5.alloc (.cells #[.func (.func gf) #[] lb] 38)) := b5.alloc b5.size _; have hsl6 := HSL _ (B4.trans (b6.mono B4.size)) g cap cur ((b6.block g hgl).trans hh4) hle4 hcur4; refine (callsIn_wide.2 hsl6.out).mono ?_; rintro e w6 ⟨rfl, hC⟩; clear hsl6))
  have b36 : Below (w3.alloc (.cells #[.slice aw S.length cw] 26)).heap.size (w3.alloc (.cells #[.slice aw S.length cw] 26)) w6 := hC.below (b4.trans (b6.mono b4.size)) (Nat.le_trans b4.size b6.size) (fun i e => by rw [e]; exact hg4)
  have B6 : Below w.heap.size w w6 := (B3.trans (((Below.refl w3.heap.size w3).alloc (Nat.le_refl _) _).mono B3.size)).trans (b36.mono (Nat.le_trans B3.size (by simp)))
  have z2 := b2.size
  have z3 := b3.size
  have z4 := b4.size
  have z5 := b5.size
  have z6 := hC.size
  rw [World.size_alloc] at z4 z6 hg4
  have F : GoF w6 w.heap.size w3.heap.size w5.heap.size al nl cl S aw cw gf lb D := by
    refine ⟨?_, ?_, ?_, ?_, ?_, ?_⟩
    · exact (b36.block _ (by simp; omega)).trans ((Below.heap_alloc _ _ _ (by omega)).trans ((b3.block _ (by omega)).trans ((b2.block _ (by omega)).trans y0)))
    · exact (b36.block _ (by simp; omega)).trans ((Below.heap_alloc _ _ _ (by omega)).trans ((b3.block _ (by omega)).trans ((b2.block _ (by omega)).trans y1)))
    · exact (b36.block _ (by simp)).trans (heap_alloc_new w3 _)
    · exact (hst3.below ((Below.refl w3.heap.size w3).alloc (Nat.le_refl _) _)).below b36
    · exact (hC.block _ (by simp) (by omega)).trans (heap_alloc_new w5 _)
    · exact (hS5.below ((Below.refl w5.heap.size w5).alloc (Nat.le_refl _) _)).chg (hC.mono (fun i _ e hd => by have := hD5 _ hd; omega))
  have hlv6 : ∀ j, j < nl → w6.cell? ⟨gl, ol + j, none⟩ = some (.int .i64 (lv j)) := fun j hj => cellB B6 (hlv j hj)
  have o9 : w.heap.size + 1 < w3.heap.size := by omega
  have o11 : w3.heap.size < w5.heap.size := by omega
  have o12 : w5.heap.size < w6.heap.size := by omega
  obtain ⟨h9, hh9⟩ : ∃ h9, w3.heap.size = h9 := ⟨_, rfl⟩
  obtain ⟨h11, hh11⟩ : ∃ h11, w5.heap.size = h11 := ⟨_, rfl⟩
  rw [hh9, hh11] at F
  rw [hh9] at o9 o11
  rw [hh11] at o11 o12
  rw [hh9, hh11]
  clear hh9 hh11 hst3 b3 hh4 hcur4 hA4 b4 hS5 hD5 b5 hC b36 b6 B2 B3 B3' b3' B4 B5 z2 z3 z4 z5 z6 hg4 hgl hle4 HW1 y0 y1 z1 b1 b2 hlv HST HLD HAL HSL hsh
  have HF : Hid (GoF w6 w.heap.size h9 h11 al nl cl S aw cw gf lb D) := F
  obtain ⟨gw, hgw, hcw⟩ : ∃ gw, (0 < S.length → aw = some ⟨gw, 0, none⟩) ∧ ∀ j s, S[j]? = some s → w6.cell? ⟨gw, j * 2, none⟩ = some (.int .i64 s.at_) ∧ w6.cell? ⟨gw, j * 2 + 1, none⟩ = some (.int .i64 s.fr) := by
    obtain ⟨ao', cap', g', hv, h1, h2⟩ := F.steps
    cases hv
    exact ⟨g', h1, h2⟩
  have HCW : Hid (∀ j s, S[j]? = some s → w6.cell? ⟨gw, j * 2, none⟩ = some (.int .i64 s.at_) ∧ w6.cell? ⟨gw, j * 2 + 1, none⟩ = some (.int .i64 s.fr)) := hcw
  have HLV : Hid (∀ j, j < nl → w6.cell? ⟨gl, ol + j, none⟩ = some (.int .i64 (lv j))) := hlv6
  clear F hcw hlv6
  gi_wp2_with fail
  refine wpIn_loop (fun a' W' => ∃ (i p12 : Nat), GoT a'.tmps w.heap.size h9 h11 p12 ∧ i ≤ nl ∧ i ≤ 50 ∧ w6.heap.size ≤ p12 ∧ W'.heap[p12]? = some (.cells #[.int .i64 i] 3 (0, 0)) ∧ Below w6.heap.size w6 W' ∧ Marks w6.heap.size a'.defers W') (fun a' W' => nl - iOf a' W') ?start ?round
  case start =>
    exact ⟨0, w6.heap.size, ⟨rfl, rfl, rfl, rfl, rfl, rfl⟩, Nat.zero_le _, Nat.zero_le _, Nat.le_refl _, heap_alloc_new w6 _, (Below.refl _ w6).alloc (Nat.le_refl _) _, ⟨fun d hd => (by cases hd), List.Pairwise.nil⟩⟩
  case round =>
    rintro ⟨tm, ds⟩ W ⟨i, p12, hT, hi1, hi2, hp12, h12, hb6, hmk⟩
    obtain ⟨us, rfl⟩ := hT.us
    clear hT
    have c12 : W.cell? ⟨p12, 0, none⟩ = some (.int .i64 i) := cells_at h12 rfl
    have c7 : W.cell? ⟨w.heap.size, 0, none⟩ = some (.slice al nl cl) := cellB hb6 (cells_at HF.out.lv rfl)
    have c9 : W.cell? ⟨h9, 0, none⟩ = some (.slice aw S.length cw) := cellB hb6 (cells_at HF.out.want rfl)
    have c11 : W.cell? ⟨h11, 0, none⟩ = some (.func (.func gf) #[] lb) := cellB hb6 (cells_at HF.out.seq rfl)
    have HM : Hid (Marks w6.heap.size ds W) := hmk
    have HB : Hid (Below w6.heap.size w6 W) := hb6
    have H12 : Hid (W.heap[p12]? = some (.cells #[.int .i64 i] 3 (0, 0))) := h12
    clear hmk hb6 h12
    have q12 : p12 < W.heap.size := World.block_lt_of_cell? W _ c12
    have q11 : h11 < W.heap.size := World.block_lt_of_cell? W _ c11
    have q9 : h9 < W.heap.size := World.block_lt_of_cell? W _ c9
    have q7 : w.heap.size < W.heap.size := World.block_lt_of_cell? W _ c7
    by_cases hin : i < nl ∧ i < 50
    · obtain ⟨hlt, hlt5⟩ := hin
      have hlt' : (i : Int) < nl := by omega
      have hlt5' : (i : Int) < 50 := by omega
      gi_wp2_with fail
      obtain ⟨W1, hW1⟩ : ∃ W1, W.alloc (.cells #[.int .i64 0] 3) = W1 := ⟨_, rfl⟩
      have z1 : W1.heap.size = W.heap.size + 1 := by rw [← hW1]; simp
      have a1 : Below W.heap.size W W1 := by rw [← hW1]; exact (Below.refl _ W).alloc (Nat.le_refl _) _
      have h13 : W1.heap[W.heap.size]? = some (.cells #[.int .i64 0] 3 (0, 0)) := by rw [← hW1]; exact heap_alloc_new W _
      rw [hW1]
      clear hW1
      replace c12 := cellB a1 c12
      replace c7 := cellB a1 c7
      replace c9 := cellB a1 c9
      replace c11 := cellB a1 c11
      have HB1 : Hid (Below w6.heap.size w6 W1) := HB.out.trans (a1.mono HB.out.size)
      have HM1 : Hid (Marks w6.heap.size ds W1) := HM.out.same (fun r _ h => a1.block r (Array.getElem?_eq_some_iff.1 h).1)
      have H121 : Hid (W1.heap[p12]? = some (.cells #[.int .i64 i] 3 (0, 0))) := (a1.block p12 q12).trans H12.out
      have hz6 := HB.out.size
      obtain ⟨p13, hp13⟩ : ∃ p13, W.heap.size = p13 := ⟨_, rfl⟩
      rw [hp13] at z1 h13 q12 q11 q9 q7 hz6 ⊢
      clear hp13 a1 HB HM
      have z1a : p13 < W1.heap.size := by omega
      have z1b : W1.heap.size ≤ p13 + 1 := by omega
      clear z1
      have hlvi := HLV.out i hlt
      have hal' := hal (by omega)
      subst hal'
      refine range_seq (by decide) (gf := gf) (lb := lb) rfl heg (fun _ => rfl) (HF.out.sq.below HB1.out) cellsS 34 (fun j => j = p13) ?hN
        (fun _ k A => Chg (fun j => j = p13 ∨ W1.heap.size ≤ j) W1 A ∧ A.heap[p13]? = some (.cells #[.int .i64 (k : Nat)] 3 (0, 0)) ∧ k ≤ S.length)
        (fun cd A => cd = .exit 2 ∧ Chg (fun j => j = p13 ∨ W1.heap.size ≤ j) W1 A ∧ A.heap[p13]? = some (.cells #[.int .i64 (lv i)] 3 (0, 0)) ∧ 1 ≤ lv i ∧ lv i ≤ S.length) ?h0 ?hT ?hTx
        (fun s p => { tmps := #[us 0, us 1, us 2, us 3, us 4, us 5, us 6, .pointer (some ⟨w.heap.size, 0, none⟩), .pointer (some ⟨w.heap.size + 1, 0, none⟩), .pointer (some ⟨h9, 0, none⟩), us 10, .pointer (some ⟨h11, 0, none⟩), .pointer (some ⟨p12, 0, none⟩), .pointer (some ⟨p13, 0, none⟩), .pointer (some ⟨p, 0, none⟩), us 15, us 16, us 17, us 18, us 19, us 20, us 21, us 22, us 23, us 24, us 25, us 26, us 27, us 28, us 29, us 30, us 31, us 32, us 33, us 34, us 35, us 36, us 37, us 38, us 39, .int .i64 i, .slice (some ⟨gl, ol, none⟩) nl cl, .int .i64 nl, .bool true, .bool true, .int .i64 i, .bool true, .bool true, us 48, us 49, .func (.func gf) #[] lb, .agg #[.int .i64 s.at_, .int .i64 s.fr], us 52, us 53, us 54, us 55, us 56, us 57, us 58, us 59, us 60, us 61, us 62, us 63, us 64, us 65, us 66, us 67, us 68, us 69, us 70, us 71, us 72, us 73, us 74, us 75, us 76, us 77, us 78, us 79, us 80, us 81, us 82, us 83, us 84, us 85, us 86, us 87, us 88, us 89, us 90, us 91, us 92, us 93, us 94, us 95, us 96, us 97, us 98, us 99, us 100, us 101, us 102, us 103, us 104, us 105, us 106, us 107, us 108, us 109, us 110, us 111, us 112, us 113, us 114, us 115, us 116], defers := [] }) ?assign ?body ?done ?stop
      case hN =>
        rintro j rfl
        exact ⟨by omega, fun h => by have := HF.out.sq.1 _ h; omega⟩
      case h0 =>
        intro A hb hz
        exact ⟨Chg.of_below hb _, (hb.block _ (by omega)).trans h13, Nat.zero_le _⟩
      case hT =>
        rintro B k A A' hB ⟨g1, g2, g3⟩ hch
        exact ⟨g1.trans hch (fun j _ h => .inr h.1), (hch.block p13 (Array.getElem?_eq_some_iff.1 g2).1 (by omega)).trans g2, g3⟩
      case hTx =>
        rintro cd A r o' ⟨g1, g2, g3, g4⟩ _
        exact ⟨g1, g2.putRec o' (.inl (.inr (by omega))), (World.putObj_heap_other (by omega)).trans g3, g4⟩
      case assign =>
        intro L s A K hK
        unfold encS
        unfold cellsS at hK
        gi_wp2
        exact hK
      case body =>
        rintro B k s p A hB hs ⟨hch, hk13, hk⟩ hp hpc hrec
        unfold cellsS at hpc
        have hkl : k < S.length := (List.getElem?_eq_some_iff.1 hs).1
        have hkl' : (k : Int) < S.length := by omega
        have hged : decide (S.length ≤ k) = false := by simp; omega
        have hge : ¬ S.length ≤ k := by omega
        have haw := hgw (by omega)
        subst haw
        have up : ∀ a v, w6.cell? a = some v → A.cell? a = some v := fun a v h => hch.cell (cellB HB1.out h) (by have := World.block_lt_of_cell? w6 _ h; omega)
        have e12 := hch.cell c12 (by simp; omega)
        have e7 := hch.cell c7 (by simp; omega)
        have e9 := hch.cell c9 (by simp; omega)
        have e11 := hch.cell c11 (by simp; omega)
        have ei := up _ _ hlvi
        obtain ⟨d0, d1⟩ := HCW.out k s hs
        replace d0 := up _ _ d0
        replace d1 := up _ _ d1
        have p0 : A.cell? ⟨p, 0, none⟩ = some (.int .i64 s.at_) := cells_at hpc rfl
        have p1 : A.cell? ⟨p, 1, none⟩ = some (.int .i64 s.fr) := cells_at hpc rfl
        have c13 : A.cell? ⟨p13, 0, none⟩ = some (.int .i64 k) := cells_at hk13 rfl
        have f13 : A.frozen? ⟨p13, 0, none⟩ = false := frozen_at hk13
        have HK13 : Hid _ := hk13
        have HCH : Hid (Chg (fun j => j = p13 ∨ W1.heap.size ≤ j) W1 A) := hch
        have HREC : Hid (∃ r, A.heap[W1.heap.size + 1]? = some (.loop r)) := hrec
        have hpl : p < A.heap.size := (Array.getElem?_eq_some_iff.1 hpc).1
        clear hk13 hch hrec up hs hpc
        clear c12 c7 c9 c11 h13 hlvi
        gi_wp2_with fail
        refine region_quiet (by kernel_rfl) (fun ⟨_, _, h⟩ => h) (by kernel_rfl) (by kernel_rfl) ?_
        repeat (go_big_quiet_step (fail))
        refine wpQuiet_nil ?_
        rintro _ ⟨nq, rfl⟩
        gi_wp2_with fail
        obtain ⟨A2, hA2⟩ : ∃ A2, (A.drewN nq).setCell ⟨p13, 0, none⟩ (.int .i64 (k + 1)) = A2 := ⟨_, rfl⟩
        have m13 : A2.heap[p13]? = some (.cells #[.int .i64 (k + 1)] 3 (0, 0)) := by rw [← hA2]; exact heap_setCell_same (A.drewN nq) p13 0 _ 3 _ HK13.out
        have mch : Chg (fun j => j = p13) A A2 := by rw [← hA2]; exact (Chg.of_below (drew_below A nq) _).setCell _ _ (.inl rfl)
        have mko : KeepsOthers A A2 := by rw [← hA2]; exact KeepsOthers.trans (B := A.drewN nq) ⟨Nat.le_refl _, fun _ _ h _ => h⟩ (KeepsOthers.setCell _ _ _)
        rw [hA2]
        clear hA2 c13 f13 p0 p1 d0 d1
        have q13 : p13 < A.heap.size := (Array.getElem?_eq_some_iff.1 HK13.out).1
        replace e12 := mch.cell e12 (by simp; omega)
        replace e7 := mch.cell e7 (by simp; omega)
        replace e9 := mch.cell e9 (by simp; omega)
        replace e11 := mch.cell e11 (by simp; omega)
        replace ei := mch.cell ei (by have := World.block_lt_of_cell? w6 _ (HLV.out i hlt); simp at this ⊢; omega)
        have c13 : A2.cell? ⟨p13, 0, none⟩ = some (.int .i64 (k + 1)) := cells_at m13 rfl
        have hpA : p < A.heap.size := hpl
        have endN : Hid (∀ A', Chg (fun j => j = p13 ∨ B ≤ j) A2 A' → KeepsOthers A2 A' → A'.heap[p13]? = some (.cells #[.int .i64 (k + 1)] 3 (0, 0)) → KeepsFrom W1.heap.size A A' ∧ Chg (fun j => j = p13 ∨ B ≤ j) A A' ∧ Chg (fun j => j = p13 ∨ W1.heap.size ≤ j) W1 A' ∧ A'.heap[p13]? = some (.cells #[.int .i64 ((k + 1 : Nat) : Int)] 3 (0, 0)) ∧ k + 1 ≤ S.length) := fun A' g1 g2 g3 => by
          have g4 : Chg (fun j => j = p13 ∨ B ≤ j) A A' := (mch.mono (fun _ _ h => .inl h)).trans g1 (fun _ _ h => h)
          refine ⟨(mko.trans g2).from _, g4, HCH.out.trans g4 (fun j _ h => h.elim .inl (fun h => .inr (by omega))), ?_, by omega⟩
          rw [g3]
          simp
        have HMC : Hid (Chg (fun j => j = p13) A A2) := mch
        have HMK : Hid (KeepsOthers A A2) := mko
        have M13 : Hid _ := m13
        clear mch mko m13 HK13
        by_cases hl : (k : Int) + 1 = lv i
        · have hlb : ((k : Int) + 1 == lv i) = true := by simp [hl]
          refine region_quiet (by kernel_rfl) (fun ⟨_, _, h⟩ => h) (by kernel_rfl) (by kernel_rfl) ?_
          repeat (go_big_quiet_step (fail))
          refine wpQuiet_nil ?_
          rintro _ ⟨nq2, rfl⟩
          gi_wp2
          have dko : KeepsOthers A2 (A2.drewN nq2) := ⟨Nat.le_refl _, fun _ _ h _ => h⟩
          exact ⟨(HMK.out.trans dko).from _, rfl, HCH.out.trans (HMC.out.trans (Chg.of_below (drew_below A2 nq2) (fun j => j = p13)) (fun _ _ h => h)) (fun j _ h => .inl h), by rw [← hl]; exact M13.out, by omega, by omega⟩
        · have hlb : ((k : Int) + 1 == lv i) = false := by simp [hl]
          refine region_quiet (by kernel_rfl) (fun ⟨_, _, h⟩ => h) (by kernel_rfl) (by kernel_rfl) ?_
          repeat (go_big_quiet_step (fail))
          refine wpQuiet_nil ?_
          rintro _ ⟨nq2, rfl⟩
          have dko : KeepsOthers A2 (A2.drewN nq2) := ⟨Nat.le_refl _, fun _ _ h _ => h⟩
          by_cases h3 : 2 < i
          · have h3' : (2 : Int) < (i : Int) := by omega
            obtain ⟨E1, E2, E3, E4, E5⟩ := endN.out _ (Chg.of_below (drew_below A2 nq2) _) dko M13.out
            have HE4 : Hid _ := E4
            clear E4
            gi_wp2
            have E4 := HE4.out
            first | exact ⟨E1, E2, E3, E4, E5⟩ | exact ⟨E1, E2, E3, E4⟩ | exact ⟨E1, E2, E3, by simpa using E4, E5⟩ | exact ⟨E1, E2, E3, by simpa using E4⟩
          · have h3' : ¬ (2 : Int) < (i : Int) := by omega
            by_cases h4 : 3 < k + 1
            · have h4' : (3 : Int) < (k : Int) + 1 := by omega
              obtain ⟨E1, E2, E3, E4, E5⟩ := endN.out _ (Chg.of_below (drew_below A2 nq2) _) dko M13.out
              have HE4 : Hid _ := E4
              clear E4
              gi_wp2
              have E4 := HE4.out
              first | exact ⟨E1, E2, E3, E4, E5⟩ | exact ⟨E1, E2, E3, E4⟩ | exact ⟨E1, E2, E3, by simpa using E4, E5⟩ | exact ⟨E1, E2, E3, by simpa using E4⟩
            · have h4' : ¬ (3 : Int) < (k : Int) + 1 := by omega
              obtain ⟨A3, hA3⟩ : ∃ A3, A2.drewN nq2 = A3 := ⟨_, rfl⟩
              have x11 : A3.cell? ⟨h11, 0, none⟩ = some (.func (.func gf) #[] lb) := by rw [← hA3]; exact e11
              have x9 : A3.cell? ⟨h9, 0, none⟩ = some (.slice (some ⟨gw, 0, none⟩) S.length cw) := by rw [← hA3]; exact e9
              have x12 : A3.cell? ⟨p12, 0, none⟩ = some (.int .i64 i) := by rw [← hA3]; exact e12
              have x13 : A3.cell? ⟨p13, 0, none⟩ = some (.int .i64 (k + 1)) := by rw [← hA3]; exact c13
              have b3 : Below A2.heap.size A2 A3 := by rw [← hA3]; exact drew_below A2 nq2
              have k3 : KeepsOthers A2 A3 := by rw [← hA3]; exact dko
              have r11 := World.block_lt_of_cell? A3 _ x11
              have r9 := World.block_lt_of_cell? A3 _ x9
              rw [hA3]
              have B33 : Hid (Below A2.heap.size A2 A3) := b3
              have K33 : Hid (KeepsOthers A2 A3) := k3
              clear h3 h4 hA3 dko e11 e9 e7 e12 ei c13 b3 k3
              gi_wp2_with fail
              obtain ⟨A4, hA4⟩ : ∃ A4, A3.alloc (.cells #[.int .i64 0] 3) = A4 := ⟨_, rfl⟩
              have y15 : A4.heap[A3.heap.size]? = some (.cells #[.int .i64 0] 3 (0, 0)) := by rw [← hA4]; exact heap_alloc_new A3 _
              have b4 : Below A3.heap.size A3 A4 := by rw [← hA4]; exact (Below.refl _ A3).alloc (Nat.le_refl _) _
              have k4 : KeepsOthers A3 A4 := keeps_below b4
              have z4 : A4.heap.size = A3.heap.size + 1 := by rw [← hA4]; simp
              rw [hA4]
              clear hA4
              have hz3 := B33.out.size
              have hz2 := HMC.out.size
              have B64 : Hid (Below w6.heap.size w6 A4) := ((HMC.out.below (HCH.out.below HB1.out (by omega) (fun j h => by omega)) (by omega) (fun j h => by omega)).trans ((B33.out.trans (b4.mono B33.out.size)).mono (by omega)))
              have C14 : Hid (Chg (fun j => j = p13 ∨ B ≤ j) A2 A4) := Chg.of_below (B33.out.trans (b4.mono B33.out.size)) _
              have K14 : Hid (KeepsOthers A2 A4) := K33.out.trans k4
              have L13 : Hid (A4.heap[p13]? = some (.cells #[.int .i64 (k + 1)] 3 (0, 0))) := ((B33.out.trans (b4.mono B33.out.size)).block p13 (by omega)).trans M13.out
              have REC : ∃ r, A4.heap[W1.heap.size + 1]? = some (.loop r) := by
                obtain ⟨r, hr⟩ := HREC.out
                exact ⟨r, k4.same _ _ (K33.out.same _ _ (HMK.out.same _ _ hr rfl) rfl) rfl⟩
              obtain ⟨r0, hr0⟩ := REC
              have n9 := cellB b4 x9
              obtain ⟨p15, hp15⟩ : ∃ p15, A3.heap.size = p15 := ⟨_, rfl⟩
              rw [hp15] at y15 z4 ⊢
              have p15B : B ≤ p15 := by omega
              have p15w : w6.heap.size ≤ p15 := by omega
              have p1315 : p13 < p15 := by omega
              have z4a : p15 < A4.heap.size := by omega
              have z4b : A4.heap.size ≤ p15 + 1 := by omega
              have r9' : h9 < p15 := by omega
              clear hp15 z4 x9 x11 x12 x13 r11 r9 b4 k4 M13
              refine range_seqN (l₀ := W1.heap.size + 1) hr0 (by decide) (gf := gf) (lb := lb) rfl heg (fun _ => rfl) (HF.out.sq.below B64.out) cellsS 34 (fun j => j = p15) ?hN2
                (fun _ k2 X => Chg (fun j => j = p15 ∨ A4.heap.size ≤ j) A4 X ∧ X.heap[p15]? = some (.cells #[.int .i64 (k2 : Nat)] 3 (0, 0)) ∧ k2 ≤ S.length) (fun _ _ => False) ?h02 ?hT2 ?hTx2
                (fun s2 p2 => { tmps := #[us 0, us 1, us 2, us 3, us 4, us 5, us 6, .pointer (some ⟨w.heap.size, 0, none⟩), .pointer (some ⟨w.heap.size + 1, 0, none⟩), .pointer (some ⟨h9, 0, none⟩), us 10, .pointer (some ⟨h11, 0, none⟩), .pointer (some ⟨p12, 0, none⟩), .pointer (some ⟨p13, 0, none⟩), .pointer (some ⟨p, 0, none⟩), .pointer (some ⟨p15, 0, none⟩), .pointer (some ⟨p2, 0, none⟩), us 17, us 18, us 19, us 20, us 21, us 22, us 23, us 24, us 25, us 26, us 27, us 28, us 29, us 30, us 31, us 32, us 33, us 34, us 35, us 36, us 37, us 38, us 39, .int .i64 i, .slice (some ⟨gl, ol, none⟩) nl cl, .int .i64 nl, .bool true, .bool true, .int .i64 i, .bool true, .bool true, us 48, us 49, .func (.func gf) #[] lb, .agg #[.int .i64 s.at_, .int .i64 s.fr], .int .i64 k, .slice (some ⟨gw, 0, none⟩) S.length cw, .int .i64 S.length, .bool false, .bool false, .agg #[.int .i64 s.at_, .int .i64 s.fr], .slice (some ⟨gw, 0, none⟩) S.length cw, .int .i64 k, .pointer (some ⟨gw, k * 2, none⟩), .agg #[.int .i64 s.at_, .int .i64 s.fr], .bool false, .bool false, .int .i64 k, .int .i64 (k + 1), .int .i64 (k + 1), .slice (some ⟨gl, ol, none⟩) nl cl, .int .i64 i, .pointer (some ⟨gl, ol + i, none⟩), .int .i64 (lv i), .bool false, .int .i64 i, .bool false, .bool false, .int .i64 (k + 1), .bool false, .bool false, .func (.func gf) #[] lb, .agg #[.int .i64 s2.at_, .int .i64 s2.fr], us 80, us 81, us 82, us 83, us 84, us 85, us 86, us 87, us 88, us 89, us 90, us 91, us 92, us 93, us 94, us 95, us 96, us 97, us 98, us 99, us 100, us 101, us 102, us 103, us 104, us 105, us 106, us 107, us 108, us 109, us 110, us 111, us 112, us 113, us 114, us 115, us 116], defers := [] }) ?assign2 ?body2 ?done2 ?stop2
              case hN2 =>
                rintro j rfl
                exact ⟨z4a, fun h => by have := HF.out.sq.1 _ h; omega⟩
              case h02 =>
                intro X hb hz
                exact ⟨Chg.of_below hb _, (hb.block _ z4a).trans y15, Nat.zero_le _⟩
              case hT2 =>
                rintro B2 k2 X X' hB2 ⟨g1, g2, g3⟩ hch
                exact ⟨g1.trans hch (fun j _ h => .inr h.1), (hch.block p15 (Array.getElem?_eq_some_iff.1 g2).1 (by omega)).trans g2, g3⟩
              case hTx2 => exact fun _ _ _ _ h _ => h
              case assign2 =>
                intro L s2 X K hK
                unfold encS
                unfold cellsS at hK
                gi_wp2
                exact hK
              case body2 =>
                rintro B2 k2 s2 p2 X hB2 hs2 ⟨hch2, hx15, hk2⟩ hp2 hpc2 hrec2
                unfold cellsS at hpc2
                have hkl2 : k2 < S.length := (List.getElem?_eq_some_iff.1 hs2).1
                have hkl2' : (k2 : Int) < S.length := by omega
                have hged2 : decide (S.length ≤ k2) = false := by simp; omega
                have hge2 : ¬ S.length ≤ k2 := by omega
                have up : ∀ a v, w6.cell? a = some v → X.cell? a = some v := fun a v h => hch2.cell (cellB B64.out h) (by have := World.block_lt_of_cell? w6 _ h; omega)
                have e9 := hch2.cell n9 (by simp; omega)
                obtain ⟨d0, d1⟩ := HCW.out k2 s2 hs2
                replace d0 := up _ _ d0
                replace d1 := up _ _ d1
                have p0 : X.cell? ⟨p2, 0, none⟩ = some (.int .i64 s2.at_) := cells_at hpc2 rfl
                have p1 : X.cell? ⟨p2, 1, none⟩ = some (.int .i64 s2.fr) := cells_at hpc2 rfl
                have c15 : X.cell? ⟨p15, 0, none⟩ = some (.int .i64 k2) := cells_at hx15 rfl
                have f15 : X.frozen? ⟨p15, 0, none⟩ = false := frozen_at hx15
                have HX15 : Hid _ := hx15
                have HCH2 : Hid (Chg (fun j => j = p15 ∨ A4.heap.size ≤ j) A4 X) := hch2
                clear hx15 hch2 hrec2 up hs2 hpc2
                gi_wp2_with fail
                refine region_quiet (by kernel_rfl) (fun ⟨_, _, h⟩ => h) (by kernel_rfl) (by kernel_rfl) ?_
                repeat (go_big_quiet_step (fail))
                refine wpQuiet_nil ?_
                rintro _ ⟨nq3, rfl⟩
                have t15 : Hid (((X.drewN nq3).setCell ⟨p15, 0, none⟩ (.int .i64 (k2 + 1))).heap[p15]? = some (.cells #[.int .i64 (k2 + 1)] 3 (0, 0))) := heap_setCell_same (X.drewN nq3) p15 0 _ 3 _ HX15.out
                have tch : Hid (Chg (fun j => j = p15) X ((X.drewN nq3).setCell ⟨p15, 0, none⟩ (.int .i64 (k2 + 1)))) := (Chg.of_below (drew_below X nq3) _).setCell _ _ (.inl rfl)
                have tko : Hid (KeepsOthers X ((X.drewN nq3).setCell ⟨p15, 0, none⟩ (.int .i64 (k2 + 1)))) := KeepsOthers.trans (B := X.drewN nq3) ⟨Nat.le_refl _, fun _ _ h _ => h⟩ (KeepsOthers.setCell _ _ _)
                gi_wp2
                refine ⟨tko.out.from _, tch.out.mono (fun _ _ h => .inl h), HCH2.out.trans tch.out (fun _ _ h => .inl h), ?_⟩
                have E4 := t15.out
                first | exact ⟨E4, hkl2⟩ | exact E4 | exact ⟨by simpa using E4, hkl2⟩ | (simpa using E4)
              case done2 =>
                rintro B2 X hB2 ⟨hch2, hx15, hk2⟩
                have e9 := hch2.cell n9 (by simp; omega)
                have c15 : X.cell? ⟨p15, 0, none⟩ = some (.int .i64 S.length) := cells_at hx15 rfl
                have hc2 : Chg (fun j => j = p13 ∨ B ≤ j) A2 X := C14.out.trans hch2 (fun j _ h => .inr (by omega))
                have hko : KeepsOthers A4 X := ⟨hch2.size, fun j o hj ho => (hch2.block j (Array.getElem?_eq_some_iff.1 hj).1 (fun h => by
                  rcases h with rfl | h
                  · rw [y15] at hj; cases hj; cases ho
                  · have := (Array.getElem?_eq_some_iff.1 hj).1; omega)).trans hj⟩
                obtain ⟨E1, E2, E3, E4, E5⟩ := endN.out X hc2 (K14.out.trans hko) ((hch2.block p13 (by omega) (by omega)).trans L13.out)
                have HE4 : Hid _ := E4
                clear E4 hc2 hko hch2 hx15
                gi_wp2
                have E4 := HE4.out
                first | exact ⟨E1, E2, E3, E4, E5⟩ | exact ⟨E1, E2, E3, E4⟩ | exact ⟨E1, E2, E3, by simpa using E4, E5⟩ | exact ⟨E1, E2, E3, by simpa using E4⟩
              case stop2 => exact fun _ _ h => h.elim
      case done =>
        rintro d B V hd hB ⟨hch, hv13, _⟩ hK
        have HBV : Hid (Below w6.heap.size w6 V) := hch.below HB1.out (by omega) (fun j h => by omega)
        have HMV : Hid (Marks w6.heap.size ({ target := .collected d, args := #[] } :: ds) V) := HM1.out.more h13 hch rfl (by omega) hd hK
        have v12 := hch.cell c12 (by simp; omega)
        have v7 := hch.cell c7 (by simp; omega)
        have v9 := hch.cell c9 (by simp; omega)
        have vi := hch.cell (cellB HB1.out hlvi) (by have := World.block_lt_of_cell? w6 _ hlvi; simp at this ⊢; omega)
        have v13 : V.cell? ⟨p13, 0, none⟩ = some (.int .i64 S.length) := cells_at hv13 rfl
        have hzv := hch.size
        clear hch hv13 hK c12 c7 c9 c11 h13
        by_cases h1 : lv i < 1
        · gi_wp2_with fail
          gi_quiet (fail)
          have fin : ∀ V2 : World, V.drewN nq = V2 → V2.cell? ⟨p12, 0, none⟩ = some (.int .i64 i) ∧ V2.cell? ⟨p13, 0, none⟩ = some (.int .i64 S.length) ∧ V2.cell? ⟨h9, 0, none⟩ = some (.slice aw S.length cw) ∧ Hid (Below w6.heap.size w6 V2) ∧ Hid (Marks w6.heap.size ({ target := .collected d, args := #[] } :: ds) V2) := fun V2 e => by
            subst e
            exact ⟨v12, v13, v9, HBV.out.trans ((drew_below V nq).mono HBV.out.size), HMV.out⟩
          obtain ⟨V2, hV2⟩ : ∃ V2, V.drewN nq = V2 := ⟨_, rfl⟩
          obtain ⟨g12, g13, g9, gB, gM⟩ := fin V2 hV2
          rw [hV2]
          have gz := gB.out.size
          have gz12 := World.block_lt_of_cell? V2 _ g12
          have gz9 := World.block_lt_of_cell? V2 _ g9
          have gz13 := World.block_lt_of_cell? V2 _ g13
          clear fin hV2 HBV HMV v12 v7 v9 vi v13
          gi_wp2
          have y : (V2.alloc (.cells #[.int .i64 ((i : Int) + 1)] 3)).heap[V2.heap.size]? = some (.cells #[.int .i64 ((i + 1 : Nat) : Int)] 3 (0, 0)) := (heap_alloc_new V2 _).trans (by simp)
          refine ⟨⟨i + 1, V2.heap.size, ⟨rfl, rfl, rfl, rfl, rfl, rfl⟩, by omega, by omega, gz, y, gB.out.alloc gz _, gM.out.same (fun r _ h => Below.heap_alloc _ _ _ (Array.getElem?_eq_some_iff.1 h).1)⟩, ?_⟩
          rw [iOf_eq (b := V2.heap.size) (i := i + 1) rfl y, iOf_eq (b := p12) (i := i) rfl H12.out]
          omega
        · by_cases h2 : (S.length : Int) < lv i
          · have h1' : decide (lv i < 1) = false := by simp; omega
            gi_wp2_with fail
            gi_quiet (fail)
            have fin : ∀ V2 : World, V.drewN nq = V2 → V2.cell? ⟨p12, 0, none⟩ = some (.int .i64 i) ∧ V2.cell? ⟨p13, 0, none⟩ = some (.int .i64 S.length) ∧ V2.cell? ⟨h9, 0, none⟩ = some (.slice aw S.length cw) ∧ Hid (Below w6.heap.size w6 V2) ∧ Hid (Marks w6.heap.size ({ target := .collected d, args := #[] } :: ds) V2) := fun V2 e => by
              subst e
              exact ⟨v12, v13, v9, HBV.out.trans ((drew_below V nq).mono HBV.out.size), HMV.out⟩
            obtain ⟨V2, hV2⟩ : ∃ V2, V.drewN nq = V2 := ⟨_, rfl⟩
            obtain ⟨g12, g13, g9, gB, gM⟩ := fin V2 hV2
            rw [hV2]
            have gz := gB.out.size
            have gz12 := World.block_lt_of_cell? V2 _ g12
            have gz9 := World.block_lt_of_cell? V2 _ g9
            have gz13 := World.block_lt_of_cell? V2 _ g13
            clear fin hV2 HBV HMV v12 v7 v9 vi v13
            gi_wp2
            have y : (V2.alloc (.cells #[.int .i64 ((i : Int) + 1)] 3)).heap[V2.heap.size]? = some (.cells #[.int .i64 ((i + 1 : Nat) : Int)] 3 (0, 0)) := (heap_alloc_new V2 _).trans (by simp)
            refine ⟨⟨i + 1, V2.heap.size, ⟨rfl, rfl, rfl, rfl, rfl, rfl⟩, by omega, by omega, gz, y, gB.out.alloc gz _, gM.out.same (fun r _ h => Below.heap_alloc _ _ _ (Array.getElem?_eq_some_iff.1 h).1)⟩, ?_⟩
            rw [iOf_eq (b := V2.heap.size) (i := i + 1) rfl y, iOf_eq (b := p12) (i := i) rfl H12.out]
            omega
          · have h1' : decide (lv i < 1) = false := by simp; omega
            gi_wp2_with fail
            gi_quiet (fail)
            have fin : ∀ V2 : World, V.drewN nq = V2 → V2.cell? ⟨p12, 0, none⟩ = some (.int .i64 i) ∧ V2.cell? ⟨p13, 0, none⟩ = some (.int .i64 S.length) ∧ V2.cell? ⟨h9, 0, none⟩ = some (.slice aw S.length cw) ∧ Hid (Below w6.heap.size w6 V2) ∧ Hid (Marks w6.heap.size ({ target := .collected d, args := #[] } :: ds) V2) := fun V2 e => by
              subst e
              exact ⟨v12, v13, v9, HBV.out.trans ((drew_below V nq).mono HBV.out.size), HMV.out⟩
            obtain ⟨V2, hV2⟩ : ∃ V2, V.drewN nq = V2 := ⟨_, rfl⟩
            obtain ⟨g12, g13, g9, gB, gM⟩ := fin V2 hV2
            rw [hV2]
            have gz := gB.out.size
            have gz12 := World.block_lt_of_cell? V2 _ g12
            have gz9 := World.block_lt_of_cell? V2 _ g9
            have gz13 := World.block_lt_of_cell? V2 _ g13
            clear fin hV2 HBV HMV v12 v7 v9 vi v13
            gi_wp2
            have y : (V2.alloc (.cells #[.int .i64 ((i : Int) + 1)] 3)).heap[V2.heap.size]? = some (.cells #[.int .i64 ((i + 1 : Nat) : Int)] 3 (0, 0)) := (heap_alloc_new V2 _).trans (by simp)
            refine ⟨⟨i + 1, V2.heap.size, ⟨rfl, rfl, rfl, rfl, rfl, rfl⟩, by omega, by omega, gz, y, gB.out.alloc gz _, gM.out.same (fun r _ h => Below.heap_alloc _ _ _ (Array.getElem?_eq_some_iff.1 h).1)⟩, ?_⟩
            rw [iOf_eq (b := V2.heap.size) (i := i + 1) rfl y, iOf_eq (b := p12) (i := i) rfl H12.out]
            omega
      case stop =>
        rintro d cd V hd ⟨rfl, hch, hv13, l1, l2⟩ hK
        have HBV : Hid (Below w6.heap.size w6 V) := hch.below HB1.out (by omega) (fun j h => by omega)
        have HMV : Hid (Marks w6.heap.size ({ target := .collected d, args := #[] } :: ds) V) := HM1.out.more h13 hch rfl (by omega) hd hK
        have v12 := hch.cell c12 (by simp; omega)
        have v7 := hch.cell c7 (by simp; omega)
        have v9 := hch.cell c9 (by simp; omega)
        have vi := hch.cell (cellB HB1.out hlvi) (by have := World.block_lt_of_cell? w6 _ hlvi; simp at this ⊢; omega)
        have v13 : V.cell? ⟨p13, 0, none⟩ = some (.int .i64 (lv i)) := cells_at hv13 rfl
        have hzv := hch.size
        clear hch hv13 hK c12 c7 c9 c11 h13
        have h1 : ¬ lv i < 1 := by omega
        have h1' : decide (lv i < 1) = false := by simp; omega
        have h2 : ¬ (S.length : Int) < lv i := by omega
        gi_wp2_with fail
        gi_quiet (fail)
        have fin : ∀ V2 : World, V.drewN nq = V2 → V2.cell? ⟨p12, 0, none⟩ = some (.int .i64 i) ∧ V2.cell? ⟨p13, 0, none⟩ = some (.int .i64 (lv i)) ∧ V2.cell? ⟨h9, 0, none⟩ = some (.slice aw S.length cw) ∧ Hid (Below w6.heap.size w6 V2) ∧ Hid (Marks w6.heap.size ({ target := .collected d, args := #[] } :: ds) V2) := fun V2 e => by
          subst e
          exact ⟨v12, v13, v9, HBV.out.trans ((drew_below V nq).mono HBV.out.size), HMV.out⟩
        obtain ⟨V2, hV2⟩ : ∃ V2, V.drewN nq = V2 := ⟨_, rfl⟩
        obtain ⟨g12, g13, g9, gB, gM⟩ := fin V2 hV2
        rw [hV2]
        have gz := gB.out.size
        have gz12 := World.block_lt_of_cell? V2 _ g12
        have gz9 := World.block_lt_of_cell? V2 _ g9
        have gz13 := World.block_lt_of_cell? V2 _ g13
        clear fin hV2 HBV HMV v12 v7 v9 vi v13
        gi_wp2
        have y : (V2.alloc (.cells #[.int .i64 ((i : Int) + 1)] 3)).heap[V2.heap.size]? = some (.cells #[.int .i64 ((i + 1 : Nat) : Int)] 3 (0, 0)) := (heap_alloc_new V2 _).trans (by simp)
        refine ⟨⟨i + 1, V2.heap.size, ⟨rfl, rfl, rfl, rfl, rfl, rfl⟩, by omega, by omega, gz, y, gB.out.alloc gz _, gM.out.same (fun r _ h => Below.heap_alloc _ _ _ (Array.getElem?_eq_some_iff.1 h).1)⟩, ?_⟩
        rw [iOf_eq (b := V2.heap.size) (i := i + 1) rfl y, iOf_eq (b := p12) (i := i) rfl H12.out]
        omega
    · have c8 : W.cell? ⟨w.heap.size + 1, 0, none⟩ = some (.bool false) := cellB HB.out (cells_at HF.out.res rfl)
      have f8 : W.frozen? ⟨w.heap.size + 1, 0, none⟩ = false := frozen_at ((HB.out.block _ (by omega)).trans HF.out.res)
      have fin : Hid (∀ W', W' = W.setCell ⟨w.heap.size + 1, 0, none⟩ (.bool true) → Marks w6.heap.size ds W' ∧ W'.cell? ⟨w.heap.size + 1, 0, none⟩ = some (.bool true) ∧ Below w.heap.size w W' ∧ w.heap.size + 1 < W'.heap.size) := fun W' e => by
        subst e
        refine ⟨HM.out.same (fun r hr h => Below.heap_setCell _ _ _ _ (by simp; omega)), ?_, ?_, by simp; omega⟩
        · exact cells_at (heap_setCell_same W _ 0 _ 4 _ ((HB.out.block _ (by omega)).trans HF.out.res)) rfl
        · exact (B6.trans (HB.out.mono B6.size)).setCell (p := ⟨w.heap.size + 1, 0, none⟩) (by simp) _
      by_cases hlt : i < nl
      · have hlt' : (i : Int) < nl := by omega
        have h50 : ¬ (i : Int) < 50 := by omega
        gi_wp2
        obtain ⟨t1, t2, t3, t4⟩ := fin.out _ rfl
        refine leaves_marks (B := w6.heap.size) ds _ t1 (fun W' hz hc => ?_)
        have e8 := hc.cell t2 (fun h => by have := h.1; simp at this; omega)
        exact ⟨.bool true, by simp [results, Try.results4, go_sem, e8], rfl, hc.below t3 (by omega) (fun j h => by have := B6.size; omega)⟩
      · have hlt' : ¬ (i : Int) < nl := by omega
        gi_wp2
        obtain ⟨t1, t2, t3, t4⟩ := fin.out _ rfl
        refine leaves_marks (B := w6.heap.size) ds _ t1 (fun W' hz hc => ?_)
        have e8 := hc.cell t2 (fun h => by have := h.1; simp at this; omega)
        exact ⟨.bool true, by simp [results, Try.results4, go_sem, e8], rfl, hc.below t3 (by omega) (fun j h => by have := B6.size; omega)⟩
end Go.Proofs.Ytljkllhpghjbiaa
