/-
  LAYER 12: package ledger and its reference: has, Own, List, Sum, Clone.
  LAYER 12: package ledger and its reference: Sum, Charge.
  LAYER 12: package ledger and its reference: Open, Clone.
-/
import Derived.Test.YtegpamoglifojaaDoorLgA
namespace Go.Proofs.YtegpamoglifojaaDoor
open Go.RowKit Wd Ld Cg Lg

theorem okA_of {l : List Int} {a : Int} (h0 : 0 ≤ a) (h1 : a < l.length) : okA l a = true := okA_iff.2 ⟨h0, h1⟩
theorem okA_lo {l : List Int} {a : Int} (h0 : ¬ 0 ≤ a) : okA l a = false := by simp [okA]; omega
theorem okA_hi {l : List Int} {a : Int} (h1 : ¬ a < l.length) : okA l a = false := by simp [okA]; omega
theorem own_of {l : List Int} {k : Nat} {u : Int} (h : l[k]? = some u) : ownV l k = u := by
  have hk := (List.getElem?_eq_some_iff.1 h).1
  unfold ownV
  rw [if_pos (okA_of (by omega) (by omega))]
  simp [h]
theorem own_no {l : List Int} {a : Int} (h : okA l a = false) : ownV l a = 0 := by unfold ownV; simp [h]

theorem has_any {n f : Int} {B : Nat} {w : World} {d : Nat} {v : Value} {l : List Int} (h : Led n f B w d v l) (a : Int) :
    Calls Tryd.prog 46 #[.pointer (some ⟨d, 0, none⟩), .int .i64 a] w fun e w' => e = .returned (.bool (okA l a)) ∧ w' = w := by
  obtain ⟨ao, c, rfl, _, _⟩ := h.shape
  have c0 := h.c0
  clear h
  by_cases h0 : 0 ≤ a
  · by_cases h1 : a < l.length
    · rw [okA_of h0 h1]
      go_enter Tryd.func46, Tryd.ntmps46
      go_wp2
      go_ret
      exact ⟨rfl, rfl⟩
    · rw [okA_hi h1]
      go_enter Tryd.func46, Tryd.ntmps46
      go_wp2
      go_ret
      exact ⟨rfl, rfl⟩
  · rw [okA_lo h0]
    go_enter Tryd.func46, Tryd.ntmps46
    go_wp2
    go_ret
    exact ⟨rfl, rfl⟩
theorem own_any {n f : Int} {B : Nat} {w : World} {d : Nat} {v : Value} {l : List Int} (h : Led n f B w d v l) (a : Int) :
    Calls Tryd.prog 26 #[.pointer (some ⟨d, 0, none⟩), .int .i64 a] w fun e w' => e = .returned (.int .u64 (ownV l a)) ∧ w' = w := by
  have hh := has_any h a
  cases hb : okA l a with
  | false =>
    rw [own_no hb]
    rw [hb] at hh
    go_enter Tryd.func26, Tryd.ntmps26
    go_wp2_with fail
    refine hh.mono ?_
    rintro e w1 ⟨rfl, rfl⟩
    go_wp2
    go_ret
    exact ⟨rfl, rfl⟩
  | true =>
    rw [hb] at hh
    obtain ⟨h0, h1⟩ := okA_iff.1 hb
    obtain ⟨k, rfl⟩ : ∃ k : Nat, a = k := ⟨a.toNat, by omega⟩
    obtain ⟨u, hu⟩ : ∃ u, l[k]? = some u := ⟨_, List.getElem?_eq_getElem (by omega)⟩
    rw [own_of hu]
    obtain ⟨g, c, rfl, hc, _⟩ := h.at hu
    have c0 := h.c0
    clear h hu
    go_enter Tryd.func26, Tryd.ntmps26
    go_wp2_with fail
    refine hh.mono ?_
    rintro e w1 ⟨rfl, rfl⟩
    go_wp2
    go_ret
    exact ⟨rfl, rfl⟩
theorem rown_any {c : Cf} {f : Int} {B : Nat} {w : World} {d : Nat} {v : Value} {l : List Int} (h : RLed c f B w d v l) (a : Int) :
    Calls Tryd.prog 38 #[.pointer (some ⟨d, 0, none⟩), .int .i64 a] w fun e w' => e = .returned (.int .u64 (ownV l a)) ∧ w' = w := by
  by_cases h0 : 0 ≤ a
  · by_cases h1 : a < l.length
    · obtain ⟨k, rfl⟩ : ∃ k : Nat, a = k := ⟨a.toNat, by omega⟩
      obtain ⟨u, hu⟩ : ∃ u, l[k]? = some u := ⟨_, List.getElem?_eq_getElem (by omega)⟩
      rw [own_of hu]
      obtain ⟨g, c, rfl, hc, _⟩ := h.at hu
      have c0 := RLed.c9 h
      clear h hu
      go_enter Tryd.func38, Tryd.ntmps38
      go_wp2
      go_ret
      exact ⟨rfl, rfl⟩
    · rw [own_no (okA_hi h1)]
      obtain ⟨ao, c, rfl, _, _⟩ := h.shape
      have c0 := RLed.c9 h
      clear h
      go_enter Tryd.func38, Tryd.ntmps38
      go_wp2
      go_ret
      exact ⟨rfl, rfl⟩
  · rw [own_no (okA_lo h0)]
    go_enter Tryd.func38, Tryd.ntmps38
    go_wp2
    go_ret
    exact ⟨rfl, rfl⟩
set_option maxRecDepth 20000 in
theorem sclone_any {w : World} {ao : Option Addr} {l : List Int} {c : Nat} (h2 : WdsAt w ao l) (hn : ao = none → l.length = 0 ∧ c = 0) (hf : l.length ≤ 1000000) :
    Calls Tryd.prog 31 #[.slice ao l.length c] w fun e w' => ∃ v, e = .returned v ∧ w'.ownsRow w.heap.size 28 1 v l.length (u64s l) ∧ Below w.heap.size w w' := by
  cases ao with
  | none =>
    obtain ⟨h0, rfl⟩ := hn rfl
    have hl : l = [] := List.eq_nil_of_length_eq_zero h0
    subst hl
    simp only [List.length_nil]
    have hq := fun w => Lib.run_eql_slice_nil (P := Tryd.prog) w 24 28 none 0 0 0 0 Tryd.underlying24
    go_enter Tryd.func31, Tryd.ntmps31
    go_wp2
    go_ret
    exact ⟨_, rfl, World.ownsRow_nil _ _ _ _, Below.refl _ _⟩
  | some ad =>
    obtain ⟨i0, hi0, hz0, hz1, hz2⟩ := info_parts Tryd.inf28
    have b0 : Below w.heap.size w (w.alloc (.cells #[] 28)) := (Below.refl _ w).alloc (Nat.le_refl _) _
    have hcell := (h2.below b0).cells
    have hfl := u64s_len l
    obtain ⟨q, hq⟩ : ∃ q, l.length = q := ⟨_, rfl⟩
    rw [hq] at hf hfl ⊢
    have hq := fun w => Lib.run_eql_slice_nil (P := Tryd.prog) w 24 28 (some ad) q c 0 0 Tryd.underlying24
    have HFL : Hid ((u64s l).length = q * 1) := show (u64s l).length = q * 1 by omega
    have HC : Hid _ := hcell
    have HM : Hid _ := made0 w 28 1
    clear h2 hfl hcell hn
    go_enter Tryd.func31, Tryd.ntmps31
    go_wp2_with (at_builtin; refine wpList_append_any rfl (.tmp 5) (.tmp 6) 24 rfl w.heap.size 28 i0 _ 1 8 Tryd.underlying24 hi0 hz0 hz1 hz2 rfl (by decide) (.slice (some ⟨w.heap.size, 0, none⟩) 0 0) 0 [] rfl HM.out (some ad) q c (u64s l) rfl (fun h => by cases h) HFL.out HC.out (u64s_one l) ?_ ?_ ?_ ?_; exact (Nat.le_trans (m := 35184372088832) (by omega) (by decide)); omega; (simp); intro v' w5 hown hgr)
    go_ret
    refine ⟨_, rfl, by simpa using hown, ?_⟩
    exact b0.grown hgr (by simp) (fun k e => by simp [Value.ownBlock] at e; omega)
theorem list_any {n f : Int} {B : Nat} {w : World} {d : Nat} {v : Value} {l : List Int} (h : Led n f B w d v l) :
    Calls Tryd.prog 23 #[.pointer (some ⟨d, 0, none⟩)] w fun e w' => ∃ v, e = .returned v ∧ w'.ownsRow w.heap.size 28 1 v l.length (u64s l) ∧ Below w.heap.size w w' := by
  obtain ⟨ao, c, rfl, h2, h3⟩ := h.shape
  have c0 := h.c0
  have hc := sclone_any (c := c) h2 h3 h.few
  clear h h2 h3
  go_enter Tryd.func23, Tryd.ntmps23
  go_wp2_with fail
  refine hc.mono ?_
  rintro e w1 ⟨v, rfl, h1, h2⟩
  go_wp2
  go_ret
  exact ⟨v, rfl, h1, h2⟩
set_option maxRecDepth 20000 in
theorem rlist_any {c : Cf} {f : Int} {B : Nat} {w : World} {d : Nat} {v : Value} {l : List Int} (h : RLed c f B w d v l) :
    Calls Tryd.prog 34 #[.pointer (some ⟨d, 0, none⟩)] w fun e w' => ∃ v, e = .returned v ∧ w'.ownsRow w.heap.size 28 1 v l.length (u64s l) ∧ Below w.heap.size w w' := by
  have hf := h.few
  obtain ⟨ao, c, rfl, h2, h3⟩ := h.shape
  have c0 := RLed.c9 h
  obtain ⟨i0, hi0, hz0, hz1, hz2⟩ := info_parts Tryd.inf28
  have hfl := u64s_len l
  have hcell := h2.cells
  obtain ⟨q, hq⟩ : ∃ q, l.length = q := ⟨_, rfl⟩
  rw [hq] at c0 hf hfl h3 ⊢
  have HFL : Hid ((u64s l).length = q * 1) := show (u64s l).length = q * 1 by omega
  have HC : Hid _ := hcell
  have HN : Hid (ao = none → q = 0 ∧ c = 0) := h3
  clear h h2 h3 hfl hcell
  go_enter Tryd.func34, Tryd.ntmps34
  go_wp2_with (at_builtin; refine wpList_append_any rfl (.tmp 4) (.tmp 8) 24 rfl w.heap.size 28 i0 _ 1 8 Tryd.underlying24 hi0 hz0 hz1 hz2 rfl (by decide) (.slice none 0 0) 0 [] rfl (World.ownsRow_nil _ _ _ _) ao q c (u64s l) rfl HN.out HFL.out HC.out (u64s_one l) ?_ ?_ (Nat.le_refl _) ?_; exact (Nat.le_trans (m := 35184372088832) (by omega) (by decide)); omega; intro v' w5 hown hgr)
  go_ret
  refine ⟨_, rfl, by simpa using hown, ?_⟩
  exact (Below.refl _ w).grown hgr (Nat.le_refl _) (fun k e => by simp [Value.ownBlock] at e)
end Go.Proofs.YtegpamoglifojaaDoor
namespace Go.Proofs.YtegpamoglifojaaDoor
open Go.RowKit Wd Ld Cg Lg

theorem nar_min {s n : Int} (hs : Word s) (hn : Word n) : narV (s + n) = s + (if n ≤ 18446744073709551615 - s then n else 18446744073709551615 - s) := by
  obtain ⟨a, b⟩ := hs
  obtain ⟨c, d⟩ := hn
  unfold narV
  split <;> split <;> omega
set_option maxRecDepth 20000 in
set_option maxHeartbeats 1000000 in
theorem sum_any {n f : Int} {B : Nat} {w : World} {d : Nat} {v : Value} {l : List Int} (h : Led n f B w d v l) {ao : Option Addr} {xs : List Int} {c : Nat} (hA : IntsAt w ao xs) (hl : xs.length ≤ 140737488355328) :
    Calls Tryd.prog 17 #[.pointer (some ⟨d, 0, none⟩), .slice ao xs.length c] w fun e w' => e = .returned (.int .u64 (sumV l xs 0)) ∧ w' = w := by
  obtain ⟨q, hq⟩ : ∃ q, xs.length = q := ⟨_, rfl⟩
  obtain ⟨g, o, hg, hc⟩ := hA
  rw [hq] at hg hl ⊢
  have hw := h.wds
  have ho := own_any h
  have HL : Hid (Led n f B w d v l) := h
  clear h
  go_enter Tryd.func17, Tryd.ntmps17
  go_wp2
  go_loopg [5, 10] q (fun gk ps pj wr => ∃ (j : Nat) (s : Int), j + gk = q ∧ pj = .int .i64 j ∧ ps = .int .u64 s ∧ Word s ∧ w = wr ∧ sumV l xs 0 = sumV l (xs.drop j) s)
  case atStart => exact ⟨0, 0, by omega, rfl, rfl, wd0, rfl, by simp⟩
  case round =>
    obtain ⟨j, s, hj, rfl, rfl, hs, rfl, hinv⟩ := hrel
    by_cases hlt : j < q
    · have hlt' : (j : Int) < q := by omega
      obtain ⟨a, ha⟩ : ∃ a, xs[j]? = some a := ⟨_, List.getElem?_eq_getElem (by omega)⟩
      obtain rfl := hg (by omega)
      have d0 := hc j a ha
      rw [sum_drop ha] at hinv
      have hx := own_word hw a
      have hoa := ho a
      have hm := nar_min hs hx
      have hs2 : Word (narV (s + ownV l a)) := nar_word (by have := hs.1; have := hx.1; omega)
      generalize ownV l a = u at hinv hx hoa hm hs2
      have HI : Hid _ := hinv
      have HS : Hid _ := hs2
      obtain ⟨s0, s1⟩ := hs
      obtain ⟨x0, x1⟩ := hx
      clear hc hg ha hinv hs2 ho
      by_cases hcmp : u ≤ 18446744073709551615 - s
      · rw [if_pos hcmp] at hm
        have HM : Hid _ := hm
        clear hm
        go_wp2_with fail
        refine hoa.mono ?_
        rintro e w1 ⟨rfl, rfl⟩
        go_wp2
        go_roundg (q - (j + 1))
        case measure => omega
        case rel => exact ⟨j + 1, _, by omega, rfl, by rw [HM.out], HS.out, rfl, HI.out⟩
      · rw [if_neg hcmp] at hm
        have HM : Hid _ := hm
        clear hm
        go_wp2_with fail
        refine hoa.mono ?_
        rintro e w1 ⟨rfl, rfl⟩
        go_wp2
        go_roundg (q - (j + 1))
        case measure => omega
        case rel => exact ⟨j + 1, _, by omega, rfl, by rw [HM.out], HS.out, rfl, HI.out⟩
    · obtain rfl : j = q := by omega
      have e : Hid (sumV l xs 0 = s) := show sumV l xs 0 = s by rw [hinv, List.drop_of_length_le (by omega)]; rfl
      clear hinv
      go_wp2
      go_ret
      exact ⟨by rw [e.out]; rfl, rfl⟩
set_option maxRecDepth 20000 in
set_option maxHeartbeats 1000000 in
theorem rsum_any {c : Cf} {f : Int} {B : Nat} {w : World} {d : Nat} {v : Value} {l : List Int} (h : RLed c f B w d v l) {ao : Option Addr} {xs : List Int} {cp : Nat} (hA : IntsAt w ao xs) (hl : xs.length ≤ 140737488355328) :
    Calls Tryd.prog 18 #[.pointer (some ⟨d, 0, none⟩), .slice ao xs.length cp] w fun e w' => e = .returned (.int .u64 (sumV l xs 0)) ∧ w' = w := by
  obtain ⟨q, hq⟩ : ∃ q, xs.length = q := ⟨_, rfl⟩
  obtain ⟨g, o, hg, hc⟩ := hA
  rw [hq] at hg hl ⊢
  have hw := h.wds
  have ho := rown_any h
  clear h
  go_enter Tryd.func18, Tryd.ntmps18
  go_wp2
  go_loopg [5, 11] q (fun gk ps pj wr => ∃ (j : Nat) (s : Int), j + gk = q ∧ pj = .int .i64 j ∧ ps = .int .u64 s ∧ Word s ∧ w = wr ∧ sumV l xs 0 = sumV l (xs.drop j) s)
  case atStart => exact ⟨0, 0, by omega, rfl, rfl, wd0, rfl, by simp⟩
  case round =>
    obtain ⟨j, s, hj, rfl, rfl, hs, rfl, hinv⟩ := hrel
    by_cases hlt : j < q
    · have hlt' : (j : Int) < q := by omega
      obtain ⟨a, ha⟩ : ∃ a, xs[j]? = some a := ⟨_, List.getElem?_eq_getElem (by omega)⟩
      obtain rfl := hg (by omega)
      have d0 := hc j a ha
      rw [sum_drop ha] at hinv
      have hx := own_word hw a
      have hoa := ho a
      have hs2 : Word (narV (s + ownV l a)) := nar_word (by have := hs.1; have := hx.1; omega)
      have hmax : narV (s + ownV l a) = 18446744073709551615 → sumV l xs 0 = 18446744073709551615 := fun e => by rw [hinv, e, sum_max hw]
      generalize ownV l a = u at hinv hx hoa hs2 hmax
      have HI : Hid _ := hinv
      have HS : Hid _ := hs2
      obtain ⟨s0, s1⟩ := hs
      obtain ⟨x0, x1⟩ := hx
      clear hc hg ha hinv hs2 ho
      by_cases hcmp : s + u < 18446744073709551616
      · have HM : Hid (narV (s + u) = s + u) := show narV (s + u) = s + u by unfold narV; rw [if_pos hcmp]
        have hwr : IntKind.u64.wrap (s + u) = s + u := by rw [IntKind.wrap_u64]; omega
        have hge : ¬ s + u < s := by omega
        clear hmax
        go_wp2_with fail
        refine hoa.mono ?_
        rintro e w1 ⟨rfl, rfl⟩
        go_wp2
        go_roundg (q - (j + 1))
        case measure => omega
        case rel => exact ⟨j + 1, _, by omega, rfl, by rw [HM.out], HS.out, rfl, HI.out⟩
      · have HM : Hid (sumV l xs 0 = 18446744073709551615) := hmax (by unfold narV; rw [if_neg hcmp])
        have hwr : IntKind.u64.wrap (s + u) = s + u - 18446744073709551616 := by rw [IntKind.wrap_u64]; omega
        have hge : s + u - 18446744073709551616 < s := by omega
        clear hmax
        go_wp2_with fail
        refine hoa.mono ?_
        rintro e w1 ⟨rfl, rfl⟩
        go_wp2
        go_ret
        exact ⟨by rw [HM.out]; rfl, rfl⟩
    · obtain rfl : j = q := by omega
      have e : Hid (sumV l xs 0 = s) := show sumV l xs 0 = s by rw [hinv, List.drop_of_length_le (by omega)]; rfl
      clear hinv
      go_wp2
      go_ret
      exact ⟨by rw [e.out]; rfl, rfl⟩
end Go.Proofs.YtegpamoglifojaaDoor
namespace Go.Proofs.YtegpamoglifojaaDoor
open Go.RowKit Wd Ld Cg Lg

theorem Lg1.opened {T : TypeId} {hd : Value → Array Value} {B q : Nat} {W w1 : World} {d : Nat} {v v' : Value} {l : List Int} (h : Lg1 T hd B W d v l) (hT : T ≠ 28) (hf : l.length < 1000000) (hset : (hd v).setIfInBounds q v' = hd v')
    (hrow : w1.ownsRow B 28 1 v' (l.length + 1) (u64s l ++ [.int .u64 0])) (hg : (W.alloc (.cells #[.int .u64 0] 28)).grownBy w1 v.ownBlock) (hat : v'.ownBlock = v.ownBlock ∨ v'.ownBlock = some (W.alloc (.cells #[.int .u64 0] 28)).heap.size) :
    w1.heap[d]? = some (.cells (hd v) T (0, 0)) ∧ Lg1 T hd B (w1.setCell ⟨d, q, none⟩ v') d v' (l ++ [0]) ∧ Chg (LK d v) W (w1.setCell ⟨d, q, none⟩ v') ∧ (v'.ownBlock = v.ownBlock ∨ ∃ k, W.heap.size ≤ k ∧ v'.ownBlock = some k) := by
  have hdl := h.lk_lt d (.inl rfl)
  have c1 : Chg (LK d v) W w1 := ((Chg.refl (LK d v) W).alloc _).trans (Chg.of_gr (K := LK d v) hg (fun k e => .inl (.inr e))) (fun _ _ e => e)
  have hdv : ¬ v.ownBlock = some d := fun e => by
    obtain ⟨cs, hcs⟩ := own_tag h.row d e
    rw [h.blk] at hcs
    cases hcs
    exact hT rfl
  have hblk : w1.heap[d]? = some (.cells (hd v) T (0, 0)) := (hg.block d (by simp; omega) (fun e => hdv e.symm)).trans ((Below.heap_alloc _ _ _ hdl).trans h.blk)
  have hdv' : ¬ v'.ownBlock = some d := fun e => by
    obtain ⟨cs, hcs⟩ := own_tag hrow d e
    rw [hblk] at hcs
    cases hcs
    exact hT rfl
  refine ⟨hblk, ⟨?_, ?_, h.lo, ?_, by simp; omega⟩, c1.setCell _ _ (.inl (.inl rfl)), ?_⟩
  · have := heap_setCell_same w1 d q _ T v' hblk
    rw [hset] at this
    exact this
  · have e : u64s l ++ [.int .u64 0] = u64s (l ++ [0]) := by simp [u64s]
    rw [e] at hrow
    have hl : (l ++ [(0 : Int)]).length = l.length + 1 := by simp
    rw [hl]
    exact row_same hrow (fun k hk => Below.heap_setCell _ _ _ _ (fun e => hdv' (by rw [hk, e])))
  · intro u hu
    rcases List.mem_append.1 hu with x | x
    · exact h.wds u x
    · simp at x
      subst x
      exact wd0
  · rcases hat with e | e
    · exact .inl e
    · exact .inr ⟨_, by simp, e⟩
set_option maxRecDepth 20000 in
set_option maxHeartbeats 1000000 in
theorem open_led {n f : Int} {B : Nat} {w : World} {d : Nat} {v : Value} {l : List Int} (h : Led n f B w d v l) (hB : B ≤ w.heap.size) (hf : l.length < 1000000) :
    Calls Tryd.prog 29 #[.pointer (some ⟨d, 0, none⟩)] w fun e w' => e = .returned (.int .i64 l.length) ∧ ∃ v', Led n f B w' d v' (l ++ [0]) ∧ Chg (LK d v) w w' ∧ (v'.ownBlock = v.ownBlock ∨ ∃ k, w.heap.size ≤ k ∧ v'.ownBlock = some k) := by
  obtain ⟨i0, hi0, hz0, hz1, hz2⟩ := info_parts Tryd.inf28
  obtain ⟨q, hq⟩ : ∃ q, l.length = q := ⟨_, rfl⟩
  have hrow := h.row
  have hdl := h.lk_lt d (.inl rfl)
  obtain ⟨ao, c, hv, _, _⟩ := h.shape
  have c0 := h.c0
  have HH : Hid (Led n f B w d v l) := h
  subst hv
  rw [hq] at hrow hf c0 HH ⊢
  have HQ : Hid (l.length = q) := hq
  clear h hq
  go_enter Tryd.func29, Tryd.ntmps29
  go_wp2_with (at_builtin; refine wpList_append_own_at _ rfl (.tmp 7) (.tmp 8) 24 rfl B 28 i0 _ 1 8 Tryd.underlying24 hi0 hz0 hz1 hz2 rfl (by decide) _ q (u64s l) rfl (hrow.alloc _) ⟨w.heap.size, 0, none⟩ 1 1 [.int .u64 0] rfl rfl (cell_one_new _ _ _) (fun u hu => by simp at hu; subst hu; rfl) (Nat.le_trans (m := 35184372088832) (by omega) (by decide)) (by omega) (by simp; omega) ?_; intro v' w1 hown hgr _ hat; obtain ⟨b', c', e', l'⟩ := own_some hown; subst e'; have hfin := Lg1.opened (q := 0) HH.out (by decide) (by rw [HQ.out]; omega) rfl (by rw [HQ.out]; exact hown) hgr hat; have z0 := cells_at (k := 0) hfin.1 rfl; have z1 := frozen_at (k := 0) hfin.1; have HF : Hid _ := hfin.2; clear hfin hown hgr hat)
  go_ret
  exact ⟨by simp, _, HF.out⟩
set_option maxRecDepth 20000 in
set_option maxHeartbeats 1000000 in
theorem ropen_led {c : Cf} {f : Int} {B : Nat} {w : World} {d : Nat} {v : Value} {l : List Int} (h : RLed c f B w d v l) (hB : B ≤ w.heap.size) (hf : l.length < 1000000) :
    Calls Tryd.prog 35 #[.pointer (some ⟨d, 0, none⟩)] w fun e w' => e = .returned (.int .i64 l.length) ∧ ∃ v', RLed c f B w' d v' (l ++ [0]) ∧ Chg (LK d v) w w' ∧ (v'.ownBlock = v.ownBlock ∨ ∃ k, w.heap.size ≤ k ∧ v'.ownBlock = some k) := by
  obtain ⟨i0, hi0, hz0, hz1, hz2⟩ := info_parts Tryd.inf28
  obtain ⟨q, hq⟩ : ∃ q, l.length = q := ⟨_, rfl⟩
  have hrow := h.row
  have hdl := h.lk_lt d (.inl rfl)
  obtain ⟨ao, cp, hv, _, _⟩ := h.shape
  have c9 := RLed.c9 h
  have HH : Hid (RLed c f B w d v l) := h
  subst hv
  rw [hq] at hrow hf c9 HH ⊢
  have HQ : Hid (l.length = q) := hq
  clear h hq
  go_enter Tryd.func35, Tryd.ntmps35
  go_wp2_with (at_builtin; refine wpList_append_own_at _ rfl (.tmp 7) (.tmp 8) 24 rfl B 28 i0 _ 1 8 Tryd.underlying24 hi0 hz0 hz1 hz2 rfl (by decide) _ q (u64s l) rfl (hrow.alloc _) ⟨w.heap.size, 0, none⟩ 1 1 [.int .u64 0] rfl rfl (cell_one_new _ _ _) (fun u hu => by simp at hu; subst hu; rfl) (Nat.le_trans (m := 35184372088832) (by omega) (by decide)) (by omega) (by simp; omega) ?_; intro v' w1 hown hgr _ hat; obtain ⟨b', c', e', l'⟩ := own_some hown; subst e'; have hfin := Lg1.opened (q := 9) HH.out (by decide) (by rw [HQ.out]; omega) rfl (by rw [HQ.out]; exact hown) hgr hat; have z0 := cells_at (k := 9) hfin.1 rfl; have z1 := frozen_at (k := 9) hfin.1; have HF : Hid _ := hfin.2; clear hfin hown hgr hat)
  go_ret
  exact ⟨by simp, _, HF.out⟩
end Go.Proofs.YtegpamoglifojaaDoor
