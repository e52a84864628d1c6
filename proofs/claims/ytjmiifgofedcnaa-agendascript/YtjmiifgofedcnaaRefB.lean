/-
  The reference's Get, Drop, Add.
-/
import Derived.Test.YtjmiifgofedcnaaRefA
namespace Go.Proofs.Ytjmiifgofedcnaa
open Go.RowKit Ag

/-- The struct takes a new row. -/
theorem ref_set {w w' : World} {d m cap' : Nat} {ao' : Option Addr} {L' : List En} {v : Value} (hd : w'.heap[d]? = some (.cells #[v] 71 (0, 0))) (hr : RefRow w' ao' cap' L') (hm : L'.length = m) (c : Chg (fun _ => False) w w') : Rf (w'.setCell ⟨d, 0, none⟩ (.slice ao' m cap')) d L' ∧ Chg (fun j => j = d) w (w'.setCell ⟨d, 0, none⟩ (.slice ao' m cap')) := by
  have h1 := heap_setCell_same w' d 0 _ 71 (.slice ao' m cap') hd
  have c1 : Chg (fun j => j = d) w' (w'.setCell ⟨d, 0, none⟩ (.slice ao' m cap')) := (Chg.refl _ w').setCell _ _ (.inl rfl)
  refine ⟨⟨ao', cap', by rw [hm]; exact h1, hr.kept c1 (fun k _ h => by subst h; rw [tg_cells hd]; decide)⟩, (c.mono (fun _ _ h => h.elim)).trans c1 (fun _ _ h => h)⟩
theorem grown_d {w1 w2 w3 : World} {ao2 : Option Addr} {d : Nat} (hd : d < w1.heap.size) (b2 : Below w1.heap.size w1 w2) (hm2 : Moved w1 none ao2) (hg3 : w2.grownBy w3 (ao2.map (·.block))) : w3.heap[d]? = w1.heap[d]? ∧ Below w1.heap.size w1 w3 := by
  have lo := moved_lo hm2 (M := w1.heap.size) (fun g h => by cases h) (Nat.le_refl _)
  have key : ∀ k, k < w1.heap.size → some k ≠ ao2.map (·.block) := fun k hk e => by
    cases ao2 with
    | none => cases e
    | some g => simp at e; have := lo g rfl; omega
  have h1 : ∀ k, k < w1.heap.size → w3.heap[k]? = w1.heap[k]? := fun k hk => (hg3.block k (by have := b2.size; omega) (key k hk)).trans (b2.block k hk)
  exact ⟨h1 d hd, hg3.os.trans b2.os, hg3.tape.trans b2.tape, hg3.output.trans b2.output, Nat.le_trans b2.size hg3.size, h1⟩

theorem rget_no {w : World} {d : Nat} {L : List En} (r : Rf w d L) (i : Int) (hone : ∀ e ∈ L, e.x.oneCell' = true) (hlen : L.length ≤ 35184372088832) (hp : posL L i = none) :
    Calls Try.prog 43 #[.pointer (some ⟨d, 0, none⟩), .int .i64 i] w fun e w' => e = .returned (.tuple #[.int .i64 0, .int .i64 0, .bool false]) ∧ Below w.heap.size w w' := by
  have hf := find_any r i hone hlen
  have hpi : posI L i = -1 := by simp [posI, hp]
  rw [hpi] at hf
  clear r
  go_enter Try.func43, Try.ntmps43
  go_wp2_with (go_at_call 63; refine hf.mono ?_; rintro e w1 ⟨rfl, b1⟩)
  refine bodyPost_ret (v := .tuple #[.int .i64 0, .int .i64 0, .bool false]) (by simp [results, Try.results43, go_sem]) rfl ?_
  exact ⟨rfl, b1⟩

set_option maxHeartbeats 1000000 in
theorem rget_yes {w : World} {d : Nat} {L : List En} (r : Rf w d L) (i : Int) (hone : ∀ e ∈ L, e.x.oneCell' = true) (hlen : L.length ≤ 35184372088832) {k : Nat} {e : En} (hp : posL L i = some k) (he : L[k]? = some e) :
    Calls Try.prog 43 #[.pointer (some ⟨d, 0, none⟩), .int .i64 i] w fun e' w' => e' = .returned (.tuple #[.int .i64 e.tm, e.x, .bool true]) ∧ Below w.heap.size w w' := by
  have hf := find_any r i hone hlen
  have hpi : posI L i = k := by simp [posI, hp]
  rw [hpi] at hf
  have hkl := (List.getElem?_eq_some_iff.1 he).1
  go_enter Try.func43, Try.ntmps43
  go_wp2_with fail
  refine hf.mono ?_
  rintro e' w1 ⟨rfl, b1⟩
  obtain ⟨ao, cap, r⟩ := r.below b1
  have c0 := r.c0
  obtain ⟨n, hn⟩ : ∃ n, L.length = n := ⟨_, rfl⟩
  rcases r.row with ⟨_, h0, _⟩ | ⟨g, o, cur, rfl, hr⟩
  · subst h0; simp at he
  obtain ⟨x0, x1, x2⟩ := hr.cell he
  rw [hn] at c0 hlen hkl
  clear r hr
  go_wp2_with fail
  go_quiet (fail)
  all_goals
    go_wp2
    refine bodyPost_ret (v := .tuple #[.int .i64 e.tm, e.x, .bool true]) (by simp [results, Try.results43, go_sem]) rfl ?_
    exact ⟨rfl, b1.trans ((Grew.below (Grew.drN w1 _)).mono b1.size)⟩

theorem rdrop_no {w : World} {d : Nat} {L : List En} (r : Rf w d L) (i : Int) (hone : ∀ e ∈ L, e.x.oneCell' = true) (hlen : L.length ≤ 35184372088832) (hp : posL L i = none) :
    Calls Try.prog 44 #[.pointer (some ⟨d, 0, none⟩), .int .i64 i] w fun e w' => e = .returned (.bool false) ∧ Rf w' d L ∧ Below w.heap.size w w' := by
  have hf := find_any r i hone hlen
  have hpi : posI L i = -1 := by simp [posI, hp]
  rw [hpi] at hf
  have R : Hid _ := r
  clear r
  go_enter Try.func44, Try.ntmps44
  go_wp2_with (go_at_call 63; refine hf.mono ?_; rintro e w1 ⟨rfl, b1⟩)
  go_ret
  exact ⟨rfl, Rf.below R.out b1, b1⟩

set_option maxHeartbeats 2000000 in
set_option maxRecDepth 20000 in
theorem rdrop_yes {w : World} {d : Nat} {L : List En} (r : Rf w d L) (i : Int) (hone : ∀ e ∈ L, e.x.oneCell' = true) (hlen : L.length * 40 ≤ 140737488355328) {k : Nat} (hp : posL L i = some k) (hkl : k < L.length) :
    Calls Try.prog 44 #[.pointer (some ⟨d, 0, none⟩), .int .i64 i] w fun e' w' => e' = .returned (.bool true) ∧ Rf w' d (L.take k ++ L.drop (k + 1)) ∧ Chg (fun j => j = d) w w' := by
  have hf := find_any r i hone (by omega)
  have hpi : posI L i = k := by simp [posI, hp]
  rw [hpi] at hf
  obtain ⟨i0, hi0, hz0, hz1, hz2⟩ := info_parts Try.inf102
  go_enter Try.func44, Try.ntmps44
  go_wp2_with fail
  refine hf.mono ?_
  rintro e' w1 ⟨rfl, b1⟩
  obtain ⟨ao, cap, r⟩ := r.below b1
  have c0 := r.c0
  obtain ⟨n, hn⟩ : ∃ n, L.length = n := ⟨_, rfl⟩
  rcases r.row with ⟨_, h0, _⟩ | ⟨g, o, cur, rfl, hr⟩
  · subst h0; simp at hkl
  have hle := hr.le
  rw [hn] at c0 hlen hkl hle
  have hs1 := hr.src 0 k (by omega)
  rw [Nat.zero_mul, Nat.add_zero, List.drop_zero] at hs1
  have ho1 : ∀ u ∈ flatL (L.take k), u.oneCell' = true := flatL_one (fun e he => hone e (List.mem_of_mem_take he))
  have ho2 : ∀ u ∈ flatL (L.drop (k + 1)), u.oneCell' = true := flatL_one (fun e he => hone e (List.mem_of_mem_drop he))
  have R : Hid _ := r
  have HR : Hid _ := hr
  clear r hr
  go_upto_region 6 with (first
    | (at_builtin; refine wpList_appT _ rfl (.tmp 12) (.tmp 18) 69 rfl 102 i0 _ 24 Try.underlying69 hi0 hz0 hz1 hz2 rfl none 0 0 [] rfl (World.ownsRow_nil _ _ _ _) (some ⟨g, o, none⟩) k _ (flatL (L.take k)) rfl (by rw [flatL_len, List.length_take]; omega) (fun h => by cases h) (fun ad had => by cases had; exact hs1) ho1 (Nat.le_trans (m := 35184372088832) (by omega) (by decide)) (by omega) ?_; intro ao2 cap2 w2 hr2 hg2 hm2))
  have b2 : Below w1.heap.size w1 w2 := (Below.refl _ w1).grown hg2 (Nat.le_refl _) (fun k e => by cases e)
  have cb := Chg.of_below b2 (fun _ => False)
  have d0 := cb.cell c0 (fun h => h)
  have fd : w2.frozen? ⟨d, 0, none⟩ = false := frozen_at ((b2.block d R.out.lt).trans R.out.blk)
  have hr' : RefAt w2 g o cap L cur := ⟨(b2.block g (Array.getElem?_eq_some_iff.1 HR.out.blk).1).trans HR.out.blk, HR.out.le, HR.out.at_⟩
  have hs2 := hr'.src (k + 1) (n - (k + 1)) (by omega)
  rw [List.take_of_length_le (by rw [List.length_drop]; omega)] at hs2
  rw [Nat.zero_add, List.nil_append] at hr2
  clear hr' cb
  by_cases hcap : cap = k + 1
  · subst hcap
    have hdr : Hid (L.drop (k + 1) = []) := List.drop_of_length_le (by omega)
    go_wp2_with (first
      | (at_builtin; refine wpList_appT _ rfl (.tmp 21) (.tmp 28) 69 rfl 102 i0 _ 24 Try.underlying69 hi0 hz0 hz1 hz2 rfl ao2 k cap2 (flatL (L.take k)) rfl hr2 (some ⟨g, o, none⟩) 0 _ (flatL (L.drop (k + 1))) rfl (by rw [hdr.out]; rfl) (fun h => by cases h) (fun ad had j u hu => by rw [hdr.out] at hu; simp [flatL] at hu) ho2 (Nat.le_trans (m := 35184372088832) (by omega) (by decide)) (by omega) ?_; intro ao3 cap3 w3 hr3 hg3 hm3; obtain ⟨e3, b3⟩ := grown_d R.out.lt b2 hm2 hg3; have x0 : w3.cell? ⟨d, 0, none⟩ = some (.slice (some ⟨g, o, none⟩) L.length _) := cells_at (e3.trans R.out.blk) rfl; have x1 : w3.frozen? ⟨d, 0, none⟩ = false := frozen_at (e3.trans R.out.blk)))
    go_ret
    obtain ⟨q1, q2⟩ := ref_set (w := w1) (m := k + 0) (e3.trans R.out.blk) (RefRow.of_owns (L := L.take k ++ L.drop (k + 1)) (by rw [flatL_app]; exact hr3) (by rw [List.length_append, List.length_take, List.length_drop]; omega)) (by rw [List.length_append, List.length_take, List.length_drop]; omega) (Chg.of_below b3 _)
    exact ⟨rfl, q1, (Chg.of_below b1 _).trans q2 (fun _ _ h => h)⟩
  · have hcap' : k + 1 < cap := by omega
    go_wp2_with (first
      | (at_builtin; refine wpList_appT _ rfl (.tmp 21) (.tmp 28) 69 rfl 102 i0 _ 24 Try.underlying69 hi0 hz0 hz1 hz2 rfl ao2 k cap2 (flatL (L.take k)) rfl hr2 (some ⟨g, o + (k + 1) * 3, none⟩) (n - (k + 1)) _ (flatL (L.drop (k + 1))) rfl (by rw [flatL_len, List.length_drop]; omega) (fun h => by cases h) (fun ad had => by cases had; exact hs2) ho2 (Nat.le_trans (m := 35184372088832) (by omega) (by decide)) (by omega) ?_; intro ao3 cap3 w3 hr3 hg3 hm3; obtain ⟨e3, b3⟩ := grown_d R.out.lt b2 hm2 hg3; have x0 : w3.cell? ⟨d, 0, none⟩ = some (.slice (some ⟨g, o, none⟩) L.length _) := cells_at (e3.trans R.out.blk) rfl; have x1 : w3.frozen? ⟨d, 0, none⟩ = false := frozen_at (e3.trans R.out.blk)))
    go_ret
    obtain ⟨q1, q2⟩ := ref_set (w := w1) (m := k + (n - (k + 1))) (e3.trans R.out.blk) (RefRow.of_owns (L := L.take k ++ L.drop (k + 1)) (by rw [flatL_app]; exact hr3) (by rw [List.length_append, List.length_take, List.length_drop]; omega)) (by rw [List.length_append, List.length_take, List.length_drop]; omega) (Chg.of_below b3 _)
    exact ⟨rfl, q1, (Chg.of_below b1 _).trans q2 (fun _ _ h => h)⟩

namespace Ag
/-- How many stand ahead of e. -/
def cutL (e : En) : List En → Nat
  | [] => 0
  | f :: L => if bef f e = true then cutL e L + 1 else 0
theorem cutL_le (e : En) (L : List En) : cutL e L ≤ L.length := by
  induction L with
  | nil => exact Nat.le_refl _
  | cons f L ih => unfold cutL; split <;> simp <;> omega
theorem insL_cut (e : En) (L : List En) : insL e L = L.take (cutL e L) ++ e :: L.drop (cutL e L) := by
  induction L with
  | nil => rfl
  | cons f L ih =>
    unfold insL cutL
    split
    · simp [ih]
    · simp
theorem cutL_step (e : En) (L : List En) (k : Nat) (hk : k ≤ cutL e L) : (k < cutL e L ↔ ∃ f, L[k]? = some f ∧ bef f e = true) := by
  induction L generalizing k with
  | nil => simp [cutL] at hk ⊢
  | cons f L ih =>
    unfold cutL at hk ⊢
    split
    · rename_i hb
      rw [if_pos hb] at hk
      cases k with
      | zero => simp [hb]
      | succ k =>
        have := ih k (by omega)
        simp only [List.getElem?_cons_succ, ← this]
        omega
    · rename_i hb
      rw [if_neg hb] at hk
      obtain rfl : k = 0 := by omega
      simp [hb]
end Ag
theorem app_below {w1 w2 w3 : World} {ao : Option Addr} (b : Below w1.heap.size w1 w2) (lo : ∀ g, ao = some g → w1.heap.size ≤ g.block) (hg : w2.grownBy w3 (ao.map (·.block))) : Below w1.heap.size w1 w3 := b.grown hg b.size (fun k e => by
  cases ao with
  | none => cases e
  | some g => simp at e; have := lo g rfl; omega)
theorem radd_no {w : World} {d : Nat} {L : List En} (r : Rf w d L) (i t x : Int) (hone : ∀ e ∈ L, e.x.oneCell' = true) (hlen : L.length ≤ 35184372088832) {k : Nat} (hp : posL L i = some k) :
    Calls Try.prog 42 #[.pointer (some ⟨d, 0, none⟩), .int .i64 i, .int .i64 t, .int .i64 x] w fun e w' => e = .returned (.int .i64 30) ∧ Rf w' d L ∧ Below w.heap.size w w' := by
  have hf := find_any r i hone hlen
  have hpi : posI L i = k := by simp [posI, hp]
  rw [hpi] at hf
  have R : Hid _ := r
  clear r
  go_enter Try.func42, Try.ntmps42
  go_wp2_with (go_at_call 63; refine hf.mono ?_; rintro e w1 ⟨rfl, b1⟩)
  go_ret
  exact ⟨rfl, Rf.below R.out b1, b1⟩

set_option maxHeartbeats 4000000 in
set_option maxRecDepth 20000 in
theorem radd_yes {w : World} {d : Nat} {L : List En} (r : Rf w d L) (i t x : Int) (hone : ∀ e ∈ L, e.x.oneCell' = true) (hlen : (L.length + 1) * 40 ≤ 140737488355328) (hp : posL L i = none) :
    Calls Try.prog 42 #[.pointer (some ⟨d, 0, none⟩), .int .i64 i, .int .i64 t, .int .i64 x] w fun e' w' => e' = .returned (.int .i64 0) ∧ Rf w' d (insL ⟨i, t, .int .i64 x⟩ L) ∧ Chg (fun j => j = d) w w' := by
  have hf := find_any r i hone (by omega)
  have hpi : posI L i = -1 := by simp [posI, hp]
  rw [hpi] at hf
  obtain ⟨i0, hi0, hz0, hz1, hz2⟩ := info_parts Try.inf102
  go_enter Try.func42, Try.ntmps42
  go_wp2_with fail
  refine hf.mono ?_
  rintro e' w1 ⟨rfl, b1⟩
  obtain ⟨ao, cap, r⟩ := r.below b1
  have c0 := r.c0
  obtain ⟨n, hn⟩ : ∃ n, L.length = n := ⟨_, rfl⟩
  obtain ⟨q, hq⟩ : ∃ q, cutL ⟨i, t, .int .i64 x⟩ L = q := ⟨_, rfl⟩
  have hqn : q ≤ n := by have := cutL_le ⟨i, t, .int .i64 x⟩ L; omega
  have hrow := r.row
  rw [hn] at c0 hlen
  have R : Hid _ := r
  clear r
  go_wp2
  go_loopg [9] q (fun gk p wr => ∃ k : Nat, k + gk = q ∧ p = .int .i64 k ∧ w1 = wr)
  case atStart => exact ⟨0, by omega, rfl, rfl⟩
  case round =>
    obtain ⟨k, hk, rfl, rfl⟩ := hrel
    have hst := cutL_step ⟨i, t, .int .i64 x⟩ L k (by omega)
    by_cases hlt : k < q
    · obtain ⟨f, hfk, hbf⟩ := hst.1 (by omega)
      rcases hrow with ⟨_, h0, _⟩ | ⟨g, o, cur, rfl, hr⟩
      · subst h0; simp at hfk
      obtain ⟨x0, x1, _⟩ := hr.cell hfk
      have hbf' := (bef_iff f ⟨i, t, .int .i64 x⟩).1 hbf
      simp only at hbf'
      have hkn : k < n := by omega
      clear hr hst
      by_cases ht : f.tm < t
      · go_wp2
        go_roundg (q - (k + 1))
        case measure => omega
        case rel => exact ⟨k + 1, by omega, rfl, rfl⟩
      · have ht2 : f.tm = t := by omega
        have hid : f.id < i := by omega
        rw [ht2] at x1
        go_wp2
        go_roundg (q - (k + 1))
        case measure => omega
        case rel => exact ⟨k + 1, by omega, rfl, rfl⟩
    · obtain rfl : k = q := by omega
      have ho1 : ∀ u ∈ flatL (L.take k), u.oneCell' = true := flatL_one (fun e he => hone e (List.mem_of_mem_take he))
      have ho2 : ∀ u ∈ flatL (L.drop k), u.oneCell' = true := flatL_one (fun e he => hone e (List.mem_of_mem_drop he))
      rcases hrow with ⟨rfl, h0, rfl⟩ | ⟨g, o, cur, rfl, hr⟩
      · have hn0 : n = 0 := by rw [← hn, h0]; rfl
        have hk0 : k = 0 := by omega
        subst hn0 hk0
        have hdr : Hid (L.drop 0 = []) := h0
        have hsrc : ∀ w3, Below w1.heap.size w1 w3 → True := fun _ _ => trivial
        clear hst
        go_wp2_with (first
          | (at_builtin; refine wpList_appT _ rfl (.tmp 60) (.tmp 66) 69 rfl 102 i0 _ 24 Try.underlying69 hi0 hz0 hz1 hz2 rfl none 0 0 [] rfl (World.ownsRow_nil _ _ _ _) none 0 _ (flatL (L.take 0)) rfl (by rw [flatL_len, List.length_take]; omega) (fun _ => ⟨by omega, rfl⟩) (fun ad had => by cases had) ho1 (Nat.le_trans (m := 35184372088832) (by omega) (by decide)) (by omega) ?_; intro ao2 cap2 w2 hr2 hg2 hm2; have lo2 := moved_lo hm2 (M := w1.heap.size) (fun g h => by cases h) (Nat.le_refl _); have b2 : Below w1.heap.size w1 w2 := (Below.refl _ w1).grown hg2 (Nat.le_refl _) (fun k e => by cases e); rw [Nat.zero_add, List.nil_append] at hr2)
          | (at_builtin; refine wpList_appT _ rfl (.tmp 68) (.tmp 73) 69 rfl 102 i0 _ 24 Try.underlying69 hi0 hz0 hz1 hz2 rfl ao2 0 cap2 (flatL (L.take 0)) rfl (hr2.alloc _) (some ⟨w2.heap.size, 0, none⟩) 1 1 (En.cells ⟨i, t, .int .i64 x⟩) rfl rfl (fun h => by cases h) (fun ad had => by cases had; exact new_cells _ _ _) (fun u hu => by simp [En.cells] at hu; rcases hu with rfl | rfl | rfl <;> rfl) (Nat.le_trans (m := 35184372088832) (by omega) (by decide)) (by omega) ?_; intro ao3 cap3 w3 hr3 hg3 hm3; have b3 := app_below (b2.alloc b2.size _) lo2 hg3; have lo3 := moved_lo hm3 lo2 (by have := b2.size; simp; omega); have d0 : w3.cell? ⟨d, 0, none⟩ = some (.slice none 0 0) := cells_at ((b3.block d R.out.lt).trans R.out.blk) (by rw [hn]; rfl); have hs3 := hsrc w3 b3)
          | (at_builtin; refine wpList_appT _ rfl (.tmp 76) (.tmp 82) 69 rfl 102 i0 _ 24 Try.underlying69 hi0 hz0 hz1 hz2 rfl ao3 (0 + 1) cap3 (flatL (L.take 0) ++ En.cells ⟨i, t, .int .i64 x⟩) rfl hr3 none 0 _ (flatL (L.drop 0)) rfl (by rw [hdr.out]; rfl) (fun _ => ⟨rfl, rfl⟩) (fun ad had => by cases had) ho2 (Nat.le_trans (m := 35184372088832) (by omega) (by decide)) (by omega) ?_; intro ao4 cap4 w4 hr4 hg4 hm4; have b4 := app_below b3 lo3 hg4; have e0 : w4.cell? ⟨d, 0, none⟩ = some (.slice none 0 0) := cells_at ((b4.block d R.out.lt).trans R.out.blk) (by rw [hn]; rfl); have e1 : w4.frozen? ⟨d, 0, none⟩ = false := frozen_at ((b4.block d R.out.lt).trans R.out.blk)))
        go_ret
        have hins := insL_cut ⟨i, t, .int .i64 x⟩ L
        rw [hq] at hins
        obtain ⟨q1, q2⟩ := ref_set (w := w1) (m := 0 + 1 + 0) ((b4.block d R.out.lt).trans R.out.blk) (RefRow.of_owns (n := 0 + 1 + 0) (L := insL ⟨i, t, .int .i64 x⟩ L) (by rw [hins, flatL_app]; simpa [flatL] using hr4) (by rw [len_insL]; omega)) (by rw [len_insL]; omega) (Chg.of_below b4 _)
        exact ⟨rfl, q1, (Chg.of_below b1 _).trans q2 (fun _ _ h => h)⟩
      · have hle := hr.le
        rw [hn] at hle
        have hs1 := hr.src 0 k (by omega)
        rw [Nat.zero_mul, Nat.add_zero, List.drop_zero] at hs1
        have hsrc : ∀ w3, Below w1.heap.size w1 w3 → ∀ j u, (flatL (L.drop k))[j]? = some u → w3.cell? ((⟨g, o + k * 3, none⟩ : Addr).add j) = some u := fun w3 hb => by
          have hr' : RefAt w3 g o cap L cur := ⟨(hb.block g (Array.getElem?_eq_some_iff.1 hr.blk).1).trans hr.blk, hr.le, hr.at_⟩
          have := hr'.src k (n - k) (by omega)
          rwa [List.take_of_length_le (by rw [List.length_drop]; omega)] at this
        have HR : Hid _ := hr
        clear hr
        by_cases hcap : cap = k
        · subst hcap
          have hdr : Hid (L.drop cap = []) := List.drop_of_length_le (by omega)
          have hnk : n = cap := by omega
          clear hst
          subst hnk
          go_wp2_with (first
            | (at_builtin; refine wpList_appT _ rfl (.tmp 60) (.tmp 66) 69 rfl 102 i0 _ 24 Try.underlying69 hi0 hz0 hz1 hz2 rfl none 0 0 [] rfl (World.ownsRow_nil _ _ _ _) (some ⟨g, o, none⟩) n _ (flatL (L.take n)) rfl (by rw [flatL_len, List.length_take]; omega) (fun h => by cases h) (fun ad had => by cases had; exact hs1) ho1 (Nat.le_trans (m := 35184372088832) (by omega) (by decide)) (by omega) ?_; intro ao2 cap2 w2 hr2 hg2 hm2; have lo2 := moved_lo hm2 (M := w1.heap.size) (fun g h => by cases h) (Nat.le_refl _); have b2 : Below w1.heap.size w1 w2 := (Below.refl _ w1).grown hg2 (Nat.le_refl _) (fun k e => by cases e); rw [Nat.zero_add, List.nil_append] at hr2)
            | (at_builtin; refine wpList_appT _ rfl (.tmp 68) (.tmp 73) 69 rfl 102 i0 _ 24 Try.underlying69 hi0 hz0 hz1 hz2 rfl ao2 n cap2 (flatL (L.take n)) rfl (hr2.alloc _) (some ⟨w2.heap.size, 0, none⟩) 1 1 (En.cells ⟨i, t, .int .i64 x⟩) rfl rfl (fun h => by cases h) (fun ad had => by cases had; exact new_cells _ _ _) (fun u hu => by simp [En.cells] at hu; rcases hu with rfl | rfl | rfl <;> rfl) (Nat.le_trans (m := 35184372088832) (by omega) (by decide)) (by omega) ?_; intro ao3 cap3 w3 hr3 hg3 hm3; have b3 := app_below (b2.alloc b2.size _) lo2 hg3; have lo3 := moved_lo hm3 lo2 (by have := b2.size; simp; omega); have d0 : w3.cell? ⟨d, 0, none⟩ = some (.slice (some ⟨g, o, none⟩) n _) := cells_at ((b3.block d R.out.lt).trans R.out.blk) (by rw [← hn]; rfl); have hs3 := hsrc w3 b3)
            | (at_builtin; refine wpList_appT _ rfl (.tmp 76) (.tmp 82) 69 rfl 102 i0 _ 24 Try.underlying69 hi0 hz0 hz1 hz2 rfl ao3 (n + 1) cap3 (flatL (L.take n) ++ En.cells ⟨i, t, .int .i64 x⟩) rfl hr3 (some ⟨g, o, none⟩) 0 _ (flatL (L.drop n)) rfl (by rw [hdr.out]; rfl) (fun h => by cases h) (fun ad had j u hu => by rw [hdr.out] at hu; simp [flatL] at hu) ho2 (Nat.le_trans (m := 35184372088832) (by omega) (by decide)) (by omega) ?_; intro ao4 cap4 w4 hr4 hg4 hm4; have b4 := app_below b3 lo3 hg4; have e0 : w4.cell? ⟨d, 0, none⟩ = some (.slice (some ⟨g, o, none⟩) n _) := cells_at ((b4.block d R.out.lt).trans R.out.blk) (by rw [← hn]; rfl); have e1 : w4.frozen? ⟨d, 0, none⟩ = false := frozen_at ((b4.block d R.out.lt).trans R.out.blk)))
          go_ret
          have hins := insL_cut ⟨i, t, .int .i64 x⟩ L
          rw [hq] at hins
          obtain ⟨q1, q2⟩ := ref_set (w := w1) (m := n + 1 + 0) ((b4.block d R.out.lt).trans R.out.blk) (RefRow.of_owns (n := n + 1 + 0) (L := insL ⟨i, t, .int .i64 x⟩ L) (by rw [hins, flatL_app]; simpa [flatL] using hr4) (by rw [len_insL]; omega)) (by rw [len_insL]; omega) (Chg.of_below b4 _)
          exact ⟨rfl, q1, (Chg.of_below b1 _).trans q2 (fun _ _ h => h)⟩
        · have hcap' : k < cap := by omega
          by_cases hkn : k < n
          · obtain ⟨f, hfk⟩ : ∃ f, L[k]? = some f := ⟨_, List.getElem?_eq_getElem (by omega)⟩
            obtain ⟨y0, y1, _⟩ := HR.out.cell hfk
            have hnb : ¬ bef f ⟨i, t, .int .i64 x⟩ = true := fun hb => absurd (hst.2 ⟨f, hfk, hb⟩) (by omega)
            rw [bef_iff] at hnb
            simp only at hnb
            clear hst
            by_cases ht : t < f.tm
            · have ht2 : (f.tm == t) = false := by simp; omega
              go_wp2_with (first
                | (at_builtin; refine wpList_appT _ rfl (.tmp 60) (.tmp 66) 69 rfl 102 i0 _ 24 Try.underlying69 hi0 hz0 hz1 hz2 rfl none 0 0 [] rfl (World.ownsRow_nil _ _ _ _) (some ⟨g, o, none⟩) k _ (flatL (L.take k)) rfl (by rw [flatL_len, List.length_take]; omega) (fun h => by cases h) (fun ad had => by cases had; exact hs1) ho1 (Nat.le_trans (m := 35184372088832) (by omega) (by decide)) (by omega) ?_; intro ao2 cap2 w2 hr2 hg2 hm2; have lo2 := moved_lo hm2 (M := w1.heap.size) (fun g h => by cases h) (Nat.le_refl _); have b2 : Below w1.heap.size w1 w2 := (Below.refl _ w1).grown hg2 (Nat.le_refl _) (fun k e => by cases e); rw [Nat.zero_add, List.nil_append] at hr2)
                | (at_builtin; refine wpList_appT _ rfl (.tmp 68) (.tmp 73) 69 rfl 102 i0 _ 24 Try.underlying69 hi0 hz0 hz1 hz2 rfl ao2 k cap2 (flatL (L.take k)) rfl (hr2.alloc _) (some ⟨w2.heap.size, 0, none⟩) 1 1 (En.cells ⟨i, t, .int .i64 x⟩) rfl rfl (fun h => by cases h) (fun ad had => by cases had; exact new_cells _ _ _) (fun u hu => by simp [En.cells] at hu; rcases hu with rfl | rfl | rfl <;> rfl) (Nat.le_trans (m := 35184372088832) (by omega) (by decide)) (by omega) ?_; intro ao3 cap3 w3 hr3 hg3 hm3; have b3 := app_below (b2.alloc b2.size _) lo2 hg3; have lo3 := moved_lo hm3 lo2 (by have := b2.size; simp; omega); have d0 : w3.cell? ⟨d, 0, none⟩ = some (.slice (some ⟨g, o, none⟩) n _) := cells_at ((b3.block d R.out.lt).trans R.out.blk) (by rw [← hn]; rfl); have hs3 := hsrc w3 b3)
                | (at_builtin; refine wpList_appT _ rfl (.tmp 76) (.tmp 82) 69 rfl 102 i0 _ 24 Try.underlying69 hi0 hz0 hz1 hz2 rfl ao3 (k + 1) cap3 (flatL (L.take k) ++ En.cells ⟨i, t, .int .i64 x⟩) rfl hr3 (some ⟨g, o + k * 3, none⟩) (n - k) _ (flatL (L.drop k)) rfl (by rw [flatL_len, List.length_drop]; omega) (fun h => by cases h) (fun ad had => by cases had; exact hs3) ho2 (Nat.le_trans (m := 35184372088832) (by omega) (by decide)) (by omega) ?_; intro ao4 cap4 w4 hr4 hg4 hm4; have b4 := app_below b3 lo3 hg4; have e0 : w4.cell? ⟨d, 0, none⟩ = some (.slice (some ⟨g, o, none⟩) n _) := cells_at ((b4.block d R.out.lt).trans R.out.blk) (by rw [← hn]; rfl); have e1 : w4.frozen? ⟨d, 0, none⟩ = false := frozen_at ((b4.block d R.out.lt).trans R.out.blk)))
              go_ret
              have hins := insL_cut ⟨i, t, .int .i64 x⟩ L
              rw [hq] at hins
              obtain ⟨q1, q2⟩ := ref_set (w := w1) (m := k + 1 + (n - k)) ((b4.block d R.out.lt).trans R.out.blk) (RefRow.of_owns (n := k + 1 + (n - k)) (L := insL ⟨i, t, .int .i64 x⟩ L) (by rw [hins, flatL_app]; simpa [flatL] using hr4) (by rw [len_insL]; omega)) (by rw [len_insL]; omega) (Chg.of_below b4 _)
              exact ⟨rfl, q1, (Chg.of_below b1 _).trans q2 (fun _ _ h => h)⟩
            · have ht2 : f.tm = t := by omega
              have hid : ¬ f.id < i := by omega
              rw [ht2] at y1
              go_wp2_with (first
                | (at_builtin; refine wpList_appT _ rfl (.tmp 60) (.tmp 66) 69 rfl 102 i0 _ 24 Try.underlying69 hi0 hz0 hz1 hz2 rfl none 0 0 [] rfl (World.ownsRow_nil _ _ _ _) (some ⟨g, o, none⟩) k _ (flatL (L.take k)) rfl (by rw [flatL_len, List.length_take]; omega) (fun h => by cases h) (fun ad had => by cases had; exact hs1) ho1 (Nat.le_trans (m := 35184372088832) (by omega) (by decide)) (by omega) ?_; intro ao2 cap2 w2 hr2 hg2 hm2; have lo2 := moved_lo hm2 (M := w1.heap.size) (fun g h => by cases h) (Nat.le_refl _); have b2 : Below w1.heap.size w1 w2 := (Below.refl _ w1).grown hg2 (Nat.le_refl _) (fun k e => by cases e); rw [Nat.zero_add, List.nil_append] at hr2)
                | (at_builtin; refine wpList_appT _ rfl (.tmp 68) (.tmp 73) 69 rfl 102 i0 _ 24 Try.underlying69 hi0 hz0 hz1 hz2 rfl ao2 k cap2 (flatL (L.take k)) rfl (hr2.alloc _) (some ⟨w2.heap.size, 0, none⟩) 1 1 (En.cells ⟨i, t, .int .i64 x⟩) rfl rfl (fun h => by cases h) (fun ad had => by cases had; exact new_cells _ _ _) (fun u hu => by simp [En.cells] at hu; rcases hu with rfl | rfl | rfl <;> rfl) (Nat.le_trans (m := 35184372088832) (by omega) (by decide)) (by omega) ?_; intro ao3 cap3 w3 hr3 hg3 hm3; have b3 := app_below (b2.alloc b2.size _) lo2 hg3; have lo3 := moved_lo hm3 lo2 (by have := b2.size; simp; omega); have d0 : w3.cell? ⟨d, 0, none⟩ = some (.slice (some ⟨g, o, none⟩) n _) := cells_at ((b3.block d R.out.lt).trans R.out.blk) (by rw [← hn]; rfl); have hs3 := hsrc w3 b3)
                | (at_builtin; refine wpList_appT _ rfl (.tmp 76) (.tmp 82) 69 rfl 102 i0 _ 24 Try.underlying69 hi0 hz0 hz1 hz2 rfl ao3 (k + 1) cap3 (flatL (L.take k) ++ En.cells ⟨i, t, .int .i64 x⟩) rfl hr3 (some ⟨g, o + k * 3, none⟩) (n - k) _ (flatL (L.drop k)) rfl (by rw [flatL_len, List.length_drop]; omega) (fun h => by cases h) (fun ad had => by cases had; exact hs3) ho2 (Nat.le_trans (m := 35184372088832) (by omega) (by decide)) (by omega) ?_; intro ao4 cap4 w4 hr4 hg4 hm4; have b4 := app_below b3 lo3 hg4; have e0 : w4.cell? ⟨d, 0, none⟩ = some (.slice (some ⟨g, o, none⟩) n _) := cells_at ((b4.block d R.out.lt).trans R.out.blk) (by rw [← hn]; rfl); have e1 : w4.frozen? ⟨d, 0, none⟩ = false := frozen_at ((b4.block d R.out.lt).trans R.out.blk)))
              go_ret
              have hins := insL_cut ⟨i, t, .int .i64 x⟩ L
              rw [hq] at hins
              obtain ⟨q1, q2⟩ := ref_set (w := w1) (m := k + 1 + (n - k)) ((b4.block d R.out.lt).trans R.out.blk) (RefRow.of_owns (n := k + 1 + (n - k)) (L := insL ⟨i, t, .int .i64 x⟩ L) (by rw [hins, flatL_app]; simpa [flatL] using hr4) (by rw [len_insL]; omega)) (by rw [len_insL]; omega) (Chg.of_below b4 _)
              exact ⟨rfl, q1, (Chg.of_below b1 _).trans q2 (fun _ _ h => h)⟩
          · have hkn2 : n ≤ k := by omega
            have hdr : Hid (L.drop k = []) := List.drop_of_length_le (by omega)
            clear hst
            go_wp2_with (first
              | (at_builtin; refine wpList_appT _ rfl (.tmp 60) (.tmp 66) 69 rfl 102 i0 _ 24 Try.underlying69 hi0 hz0 hz1 hz2 rfl none 0 0 [] rfl (World.ownsRow_nil _ _ _ _) (some ⟨g, o, none⟩) k _ (flatL (L.take k)) rfl (by rw [flatL_len, List.length_take]; omega) (fun h => by cases h) (fun ad had => by cases had; exact hs1) ho1 (Nat.le_trans (m := 35184372088832) (by omega) (by decide)) (by omega) ?_; intro ao2 cap2 w2 hr2 hg2 hm2; have lo2 := moved_lo hm2 (M := w1.heap.size) (fun g h => by cases h) (Nat.le_refl _); have b2 : Below w1.heap.size w1 w2 := (Below.refl _ w1).grown hg2 (Nat.le_refl _) (fun k e => by cases e); rw [Nat.zero_add, List.nil_append] at hr2)
              | (at_builtin; refine wpList_appT _ rfl (.tmp 68) (.tmp 73) 69 rfl 102 i0 _ 24 Try.underlying69 hi0 hz0 hz1 hz2 rfl ao2 k cap2 (flatL (L.take k)) rfl (hr2.alloc _) (some ⟨w2.heap.size, 0, none⟩) 1 1 (En.cells ⟨i, t, .int .i64 x⟩) rfl rfl (fun h => by cases h) (fun ad had => by cases had; exact new_cells _ _ _) (fun u hu => by simp [En.cells] at hu; rcases hu with rfl | rfl | rfl <;> rfl) (Nat.le_trans (m := 35184372088832) (by omega) (by decide)) (by omega) ?_; intro ao3 cap3 w3 hr3 hg3 hm3; have b3 := app_below (b2.alloc b2.size _) lo2 hg3; have lo3 := moved_lo hm3 lo2 (by have := b2.size; simp; omega); have d0 : w3.cell? ⟨d, 0, none⟩ = some (.slice (some ⟨g, o, none⟩) n _) := cells_at ((b3.block d R.out.lt).trans R.out.blk) (by rw [← hn]; rfl); have hs3 := hsrc w3 b3)
              | (at_builtin; refine wpList_appT _ rfl (.tmp 76) (.tmp 82) 69 rfl 102 i0 _ 24 Try.underlying69 hi0 hz0 hz1 hz2 rfl ao3 (k + 1) cap3 (flatL (L.take k) ++ En.cells ⟨i, t, .int .i64 x⟩) rfl hr3 (some ⟨g, o + k * 3, none⟩) 0 _ (flatL (L.drop k)) rfl (by rw [hdr.out]; rfl) (fun h => by cases h) (fun ad had => by cases had; exact hs3) ho2 (Nat.le_trans (m := 35184372088832) (by omega) (by decide)) (by omega) ?_; intro ao4 cap4 w4 hr4 hg4 hm4; have b4 := app_below b3 lo3 hg4; have e0 : w4.cell? ⟨d, 0, none⟩ = some (.slice (some ⟨g, o, none⟩) n _) := cells_at ((b4.block d R.out.lt).trans R.out.blk) (by rw [← hn]; rfl); have e1 : w4.frozen? ⟨d, 0, none⟩ = false := frozen_at ((b4.block d R.out.lt).trans R.out.blk)))
            go_ret
            have hins := insL_cut ⟨i, t, .int .i64 x⟩ L
            rw [hq] at hins
            obtain ⟨q1, q2⟩ := ref_set (w := w1) (m := k + 1 + 0) ((b4.block d R.out.lt).trans R.out.blk) (RefRow.of_owns (n := k + 1 + 0) (L := insL ⟨i, t, .int .i64 x⟩ L) (by rw [hins, flatL_app]; simpa [flatL] using hr4) (by rw [len_insL]; omega)) (by rw [len_insL]; omega) (Chg.of_below b4 _)
            exact ⟨rfl, q1, (Chg.of_below b1 _).trans q2 (fun _ _ h => h)⟩
end Go.Proofs.Ytjmiifgofedcnaa
