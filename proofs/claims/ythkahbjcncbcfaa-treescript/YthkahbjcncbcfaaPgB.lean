/-
  Package tree: the calls that only read: Len, has, Find, changeable, refuses, Depth, Get.
-/
import Derived.Test.YthkahbjcncbcfaaPgT
import Derived.Lib.SliceRun
namespace Go.Proofs.Ythkahbjcncbcfaa
open Go.RowKit Tr

theorem plen_any {W : World} {t : Nat} {v : Value} {m : Nat} {kv : Value} {ks : List Nat} {l : List Ac} {K : Nat → Nat → Bool} (h : PT W t v m kv ks l K) :
    Calls Try.prog 21 #[.pointer (some ⟨t, 0, none⟩)] W fun e w' => e = .returned (.int .i64 l.length) ∧ W = w' := by
  obtain ⟨ao, c, rfl, c0, _, _, _⟩ := h.cells
  clear h
  go_enter Try.func21, Try.ntmps21
  go_wp2
  go_ret
  exact ⟨rfl, rfl⟩
set_option maxHeartbeats 1000000 in
set_option maxRecDepth 20000 in
theorem phas_any {W : World} {t : Nat} {v : Value} {m : Nat} {kv : Value} {ks : List Nat} {l : List Ac} {K : Nat → Nat → Bool} (h : PT W t v m kv ks l K) (n : Int) :
    Calls Try.prog 54 #[.pointer (some ⟨t, 0, none⟩), .int .i64 n] W fun e w' => e = .returned (.bool (thereB l n)) ∧ W = w' := by
  obtain ⟨ao, c, rfl, c0, _, _, _⟩ := h.cells
  clear h
  unfold thereB
  by_cases h0 : 0 ≤ n
  · by_cases h1 : n < l.length
    · rw [decide_eq_true h0, decide_eq_true h1]
      go_enter Try.func54, Try.ntmps54
      go_wp2
      go_ret
      exact ⟨rfl, rfl⟩
    · rw [decide_eq_true h0, decide_eq_false h1]
      go_enter Try.func54, Try.ntmps54
      go_wp2
      go_ret
      exact ⟨rfl, rfl⟩
  · rw [decide_eq_false h0]
    go_enter Try.func54, Try.ntmps54
    go_wp2
    go_ret
    exact ⟨rfl, rfl⟩
set_option maxHeartbeats 1000000 in
set_option maxRecDepth 20000 in
theorem pfind_any {W : World} {t : Nat} {v : Value} {m : Nat} {kv : Value} {ks : List Nat} {l : List Ac} {K : Nat → Nat → Bool} (h : PT W t v m kv ks l K) {s : ByteArray} (hs : s.size ≤ maxLen) :
    Calls Try.prog 26 #[.pointer (some ⟨t, 0, none⟩), .string s] W fun e w' => e = .returned (.tuple #[.int .i64 ((findV l s).getD 0 : Nat), .bool (findV l s).isSome]) ∧ W = w' := by
  obtain ⟨ao, c, rfl, _, c1, _, _⟩ := h.cells
  obtain ⟨D, h1, h2⟩ := h.nms
  have hl := look_names h1 h2 hs
  clear h h1 h2
  go_enter Try.func26, Try.ntmps26
  go_wp2
  go_ret2
  exact ⟨rfl, rfl⟩
set_option maxHeartbeats 1000000 in
set_option maxRecDepth 20000 in
theorem change_any {W : World} {t : Nat} {v : Value} {m : Nat} {kv : Value} {ks : List Nat} {l : List Ac} {K : Nat → Nat → Bool} (h : PT W t v m kv ks l K) {s : ByteArray} (hs : s.size ≤ maxLen) :
    Calls Try.prog 57 #[.pointer (some ⟨t, 0, none⟩), .string s] W fun e w' => e = .returned (.tuple #[.int .i64 (knownV l s).1, .int .i64 (knownV l s).2]) ∧ W = w' := by
  have hf := pfind_any h hs
  clear h
  cases hk : findV l s with
  | none =>
    have kv : knownV l s = (0, 62) := by unfold knownV; rw [hk]
    rw [hk] at hf
    rw [kv]
    go_enter Try.func57, Try.ntmps57
    go_wp2_with fail
    refine hf.mono ?_
    rintro e w1 ⟨rfl, rfl⟩
    simp only [Option.getD_none, Option.isSome_none]
    go_wp2
    go_ret2
    exact ⟨rfl, rfl⟩
  | some k =>
    rw [hk] at hf
    cases k with
    | zero =>
      have kv : knownV l s = (0, 66) := by unfold knownV; rw [hk]
      rw [kv]
      go_enter Try.func57, Try.ntmps57
      go_wp2_with fail
      refine hf.mono ?_
      rintro e w1 ⟨rfl, rfl⟩
      simp only [Option.getD_some, Option.isSome_some]
      go_wp2
      go_ret2
      exact ⟨rfl, rfl⟩
    | succ k =>
      have kv : knownV l s = (k + 1, 0) := by unfold knownV; rw [hk]
      obtain ⟨m', hm⟩ : ∃ m, k + 1 = m := ⟨_, rfl⟩
      rw [kv]
      rw [hm] at hf ⊢
      have k0 : ¬ (m' : Int) = 0 := by omega
      clear hm hk kv
      go_enter Try.func57, Try.ntmps57
      go_wp2_with fail
      refine hf.mono ?_
      rintro e w1 ⟨rfl, rfl⟩
      simp only [Option.getD_some, Option.isSome_some]
      go_wp2
      go_ret2
      exact ⟨rfl, rfl⟩
/-- What is wrong with an account that is to come. -/
def refV (l : List Ac) (s : ByteArray) (known : Bool) (sh : Int) : Int :=
  if okName s = false then 60 else if (findV l s).isSome = true then 61 else if known = false then 62 else if okSh sh = false then 63 else 0
set_option maxHeartbeats 1000000 in
set_option maxRecDepth 20000 in
theorem refuses_any {W : World} {t : Nat} {v : Value} {m : Nat} {kv : Value} {ks : List Nat} {l : List Ac} {K : Nat → Nat → Bool} (h : PT W t v m kv ks l K) {s : ByteArray} (hs : s.size ≤ maxLen) (kn : Bool) (sh : Int) :
    Calls Try.prog 49 #[.pointer (some ⟨t, 0, none⟩), .string s, .bool kn, .int .i64 sh] W fun e w' => e = .returned (.int .i64 (refV l s kn sh)) ∧ W = w' := by
  obtain ⟨ao, c, rfl, _, c1, _, _⟩ := h.cells
  obtain ⟨D, h1, h2⟩ := h.nms
  have hl := look_names h1 h2 hs
  have hn := pname_any s W
  have hsh := pshares_any sh W
  clear h h1 h2
  unfold refV
  obtain ⟨o1, q1⟩ : ∃ o, okName s = o := ⟨_, rfl⟩
  obtain ⟨o2, q2⟩ : ∃ o, findV l s = o := ⟨_, rfl⟩
  obtain ⟨o3, q3⟩ : ∃ o, okSh sh = o := ⟨_, rfl⟩
  rw [q1] at hn ⊢
  rw [q2] at hl ⊢
  rw [q3] at hsh ⊢
  clear q1 q2 q3
  cases o1 with
  | false =>
    go_enter Try.func49, Try.ntmps49
    go_wp2_with fail
    refine hn.mono ?_
    rintro e w1 ⟨rfl, rfl⟩
    go_wp2
    go_ret
    exact ⟨rfl, rfl⟩
  | true =>
    cases o2 with
    | some k =>
      simp only [Option.getD_some, Option.isSome_some] at hl
      go_enter Try.func49, Try.ntmps49
      go_wp2_with fail
      refine hn.mono ?_
      rintro e w1 ⟨rfl, rfl⟩
      go_wp2
      go_ret
      exact ⟨rfl, rfl⟩
    | none =>
      simp only [Option.getD_none, Option.isSome_none] at hl
      cases kn with
      | false =>
        go_enter Try.func49, Try.ntmps49
        go_wp2_with fail
        refine hn.mono ?_
        rintro e w1 ⟨rfl, rfl⟩
        go_wp2
        go_ret
        exact ⟨rfl, rfl⟩
      | true =>
        go_enter Try.func49, Try.ntmps49
        go_wp2_with fail
        refine hn.mono ?_
        rintro e w1 ⟨rfl, rfl⟩
        go_wp2_with fail
        refine hsh.mono ?_
        rintro e w1 ⟨rfl, rfl⟩
        cases o3 with
        | false =>
          go_wp2
          go_ret
          exact ⟨rfl, rfl⟩
        | true =>
          go_wp2
          go_ret
          exact ⟨rfl, rfl⟩
theorem Tr.Wf.paok {l : List Ac} (h : Wf l) : PaOk l := fun k a ha hk => ⟨(h.row k a ha hk).2.1, (h.row k a ha hk).2.2.1⟩
set_option maxHeartbeats 1000000 in
set_option maxRecDepth 20000 in
theorem pdepth_any {W : World} {t : Nat} {v : Value} {m : Nat} {kv : Value} {ks : List Nat} {l : List Ac} {K : Nat → Nat → Bool} (h : PT W t v m kv ks l K) (hw : Wf l) (n : Int) :
    Calls Try.prog 24 #[.pointer (some ⟨t, 0, none⟩), .int .i64 n] W fun e w' => e = .returned (.int .i64 (depZ l n)) ∧ W = w' := by
  have hh := phas_any h n
  obtain ⟨ao, c, rfl, c0, _, _, ha⟩ := h.cells
  clear h
  unfold depZ
  cases hb : thereB l n with
  | false =>
    rw [hb] at hh
    go_enter Try.func24, Try.ntmps24
    go_wp2_with fail
    refine hh.mono ?_
    rintro e w1 ⟨rfl, rfl⟩
    go_wp2
    go_ret
    exact ⟨rfl, rfl⟩
  | true =>
    rw [hb] at hh
    obtain ⟨h0, h1⟩ : 0 ≤ n ∧ n < l.length := by simpa [thereB] using hb
    obtain ⟨k, rfl⟩ : ∃ k : Nat, n = k := ⟨n.toNat, by omega⟩
    have hk : k < l.length := by omega
    obtain ⟨d, d1, d2, d3⟩ := hw.depth hk
    have d4 := dep_lt (fun i hi => hw.up_lt hi) hk d3
    have hs := steps_any (c := c) ha (by have := hw.len; omega) hw.paok hk
    rw [dep_depN d3 d4] at hs
    simp only [stepsI] at hs
    simp only [if_true, Int.toNat_natCast, d1]
    clear ha d1 d3
    go_enter Try.func24, Try.ntmps24
    go_wp2_with fail
    refine hh.mono ?_
    rintro e w1 ⟨rfl, rfl⟩
    go_wp2_with fail
    refine hs.mono ?_
    rintro e w1 ⟨rfl, rfl⟩
    go_wp2
    go_ret
    exact ⟨rfl, rfl⟩
set_option maxHeartbeats 1000000 in
set_option maxRecDepth 20000 in
theorem pget_any {W : World} {t : Nat} {v : Value} {m : Nat} {kv : Value} {ks : List Nat} {l : List Ac} {K : Nat → Nat → Bool} (h : PT W t v m kv ks l K) (hn : l.length * 48 ≤ 140737488355328) (n : Int) :
    Calls Try.prog 25 #[.pointer (some ⟨t, 0, none⟩), .int .i64 n] W fun e w' => e = .returned (getA l n) ∧ Below W.heap.size W w' := by
  obtain ⟨w0, hw0⟩ : ∃ w0, W.alloc (.cells #[.string ⟨#[]⟩, .int .i64 0, .int .i64 0, .bool false, .int .u64 0] 39) = w0 := ⟨_, rfl⟩
  have b0 : Below W.heap.size W w0 := by rw [← hw0]; exact (Below.refl _ W).alloc (Nat.le_refl _) _
  have y0 : w0.heap[W.heap.size]? = some (.cells #[.string ⟨#[]⟩, .int .i64 0, .int .i64 0, .bool false, .int .u64 0] 39 (0, 0)) := by rw [← hw0]; exact heap_alloc_new W _
  have h0 := h.below b0
  have hh := phas_any h0 n
  obtain ⟨ao, c, rfl, c0, _, _, ha⟩ := h0.cells
  obtain ⟨⟨x0, x1, x2, x3, x4⟩, x'⟩ := cells5 y0
  have HW0 : Hid _ := hw0
  clear hw0 h h0
  unfold getA
  cases hb : thereB l n with
  | false =>
    rw [hb] at hh
    go_enter Try.func25, Try.ntmps25
    go_wp2_with (first | (go_at_call 54; rw [HW0.out]; refine hh.mono ?_; rintro e w1 ⟨rfl, rfl⟩))
    have S := set5 y0 (.string ⟨#[]⟩) (.int .i64 0) (.int .i64 0) (.bool false) (.int .u64 0)
    obtain ⟨⟨z0, z1, z2, z3, z4⟩, _⟩ := cells5 S
    exact bodyPost_ret (v := .tuple #[acV noAc, .bool false]) (by simp [results, Try.results25, go_sem, acV, noAc, z0, z1, z2, z3, z4]) rfl ⟨rfl, b0.set5 (Nat.le_refl _) _ _ _ _ _⟩
  | true =>
    rw [hb] at hh
    obtain ⟨h0, h1⟩ : 0 ≤ n ∧ n < l.length := by simpa [thereB] using hb
    obtain ⟨k, rfl⟩ : ∃ k : Nat, n = k := ⟨n.toNat, by omega⟩
    obtain ⟨a, hak⟩ : ∃ a, l[k]? = some a := ⟨_, List.getElem?_eq_getElem (by omega)⟩
    obtain ⟨g, o, hg, hc⟩ := ha
    obtain rfl := hg (by omega)
    obtain ⟨d0, d1, d2, d3, d4⟩ := hc k a hak
    clear hc hg
    simp only [if_true, Int.toNat_natCast, hak, Option.getD_some]
    go_enter Try.func25, Try.ntmps25
    go_wp2_with (first | (go_at_call 54; rw [HW0.out]; refine hh.mono ?_; rintro e w1 ⟨rfl, rfl⟩))
    have S := set5 y0 (.string a.nm) (.int .i64 a.pa) (.int .i64 a.sh) (.bool a.cl) (.int .u64 a.us)
    obtain ⟨⟨z0, z1, z2, z3, z4⟩, _⟩ := cells5 S
    exact bodyPost_ret (v := .tuple #[acV a, .bool true]) (by simp [results, Try.results25, go_sem, acV, z0, z1, z2, z3, z4]) rfl ⟨rfl, b0.set5 (Nat.le_refl _) _ _ _ _ _⟩
theorem made0 (w : World) (te sz : Nat) : (w.alloc (.cells #[] te)).ownsRow w.heap.size te sz (.slice (some ⟨w.heap.size, 0, none⟩) 0 0) 0 [] := ⟨by simp, .inr ⟨w.heap.size, 0, #[], rfl, Nat.le_refl _, heap_alloc_new w _, Nat.le_refl _, by decide, by simp, by simp⟩⟩
set_option maxHeartbeats 1000000 in
set_option maxRecDepth 20000 in
theorem sclone_any {w : World} {ad : Addr} {l : List Ac} {c : Nat} (h2 : AcsAt w (some ad) l) (hn : l.length * 48 ≤ 140737488355328) :
    Calls Try.prog 32 #[.slice (some ad) l.length c] w fun e w' => ∃ v, e = .returned v ∧ w'.ownsRow w.heap.size 39 5 v l.length (flatA l) ∧ Below w.heap.size w w' := by
  obtain ⟨i0, hi0, hz0, hz1, hz2⟩ := info_parts Try.inf39
  have b0 : Below w.heap.size w (w.alloc (.cells #[] 39)) := (Below.refl _ w).alloc (Nat.le_refl _) _
  have hcell := acs_flat (h2.below b0)
  have hfl := flatA_len l
  obtain ⟨q, hq⟩ : ∃ q, l.length = q := ⟨_, rfl⟩
  rw [hq] at hn hfl ⊢
  have hq := fun w => Lib.run_eql_slice_nil (P := Try.prog) w 36 39 (some ad) q c 0 0 Try.underlying36
  have HFL : Hid _ := hfl
  have HC : Hid _ := hcell
  have HM : Hid _ := made0 w 39 5
  clear h2 hfl hcell
  go_enter Try.func32, Try.ntmps32
  go_wp2_with (at_builtin; refine wpList_append_any rfl (.tmp 5) (.tmp 6) 36 rfl w.heap.size 39 i0 _ 5 48 Try.underlying36 hi0 hz0 hz1 hz2 rfl (by decide) (.slice (some ⟨w.heap.size, 0, none⟩) 0 0) 0 [] rfl HM.out (some ad) q c (flatA l) rfl (fun h => by cases h) HFL.out HC.out (flatA_one l) ?_ ?_ ?_ ?_; exact (Nat.le_trans (m := 35184372088832) (by omega) (by decide)); omega; (simp); intro v' w5 hown hgr)
  go_ret
  refine ⟨_, rfl, by simpa using hown, ?_⟩
  exact b0.grown hgr (by simp) (fun k e => by simp [Value.ownBlock] at e; omega)
theorem plist_any {W : World} {t : Nat} {v : Value} {m : Nat} {kv : Value} {ks : List Nat} {l : List Ac} {K : Nat → Nat → Bool} (h : PT W t v m kv ks l K) (hn : l.length * 48 ≤ 140737488355328) (hl : l ≠ []) :
    Calls Try.prog 20 #[.pointer (some ⟨t, 0, none⟩)] W fun e w' => ∃ v, e = .returned v ∧ w'.ownsRow W.heap.size 39 5 v l.length (flatA l) ∧ Below W.heap.size W w' := by
  obtain ⟨ao, c, rfl, c0, _, _, ha⟩ := h.cells
  obtain ⟨ad, rfl⟩ : ∃ ad, ao = some ad := by
    obtain ⟨g, o, hg, _⟩ := ha
    exact ⟨_, hg (List.length_pos_iff.2 hl)⟩
  have hc := sclone_any (c := c) ha hn
  clear h ha
  go_enter Try.func20, Try.ntmps20
  go_wp2_with fail
  refine hc.mono ?_
  rintro e w1 ⟨v, rfl, h1, h2⟩
  go_wp2
  go_ret
  exact ⟨v, rfl, h1, h2⟩
end Go.Proofs.Ythkahbjcncbcfaa
