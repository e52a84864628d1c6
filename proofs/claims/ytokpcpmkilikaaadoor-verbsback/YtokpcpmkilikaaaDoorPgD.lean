/-
  Package verbs: kinds.
-/
import Derived.Test.YtokpcpmkilikaaaDoorPgC
import Derived.Laws.Panics
namespace Go.Proofs.YtokpcpmkilikaaaDoor
open Go.RowKit Vb

theorem kind_word {k : Nat} (h : k < 13) : kindV (wordV ((k : Int) + 1)).1 = k + 1 := by
  have : ∀ k : Fin 13, kindV (wordV ((k.val : Int) + 1)).1 = k.val + 1 := by decide
  exact this ⟨k, h⟩
theorem iskind_any (k : Int) (w : World) : Calls Tryd.prog 30 #[.int .i64 k] w fun e w' => e = .returned (.bool (decide (1 ≤ k) && decide (k ≤ 13))) ∧ w = w' := by
  by_cases h : 1 ≤ k
  · by_cases h' : k ≤ 13
    · go_enter Tryd.func30, Tryd.ntmps30
      go_wp2
      go_ret
      exact ⟨by simp [h, h'], rfl⟩
    · go_enter Tryd.func30, Tryd.ntmps30
      go_wp2
      go_ret
      exact ⟨by simp [h'], rfl⟩
  · go_enter Tryd.func30, Tryd.ntmps30
    go_wp2
    go_ret
    exact ⟨by simp; omega, rfl⟩
def kindA (k : Nat) : Value := .tuple #[.int .i64 k, .bool (decide (k ≠ 0))]
theorem Tryd.cells52 : Tryd.prog.cellsOf 52 = 4 := by kernel_rfl
set_option maxHeartbeats 2000000 in
theorem kind_any (p : Bs) (w : World) (hT : Tab w) : Calls Tryd.prog 17 #[.string (str p)] w fun e w' => e = .returned (kindA (kindV p)) ∧ w = w' := by
  go_enter Tryd.func17, Tryd.ntmps17
  go_wp2
  go_loopg [4] 13 (fun gk v wr => ∃ j : Nat, j + gk = 13 ∧ v = .int .i64 ((j : Int) + 1) ∧ w = wr ∧ kindTo p j = 0)
  case atStart => exact ⟨0, by omega, rfl, rfl, rfl⟩
  case round =>
    obtain ⟨j, hj, rfl, rfl, hinv⟩ := hrel
    by_cases hlt : j < 13
    · have hlt' : (j : Int) + 1 ≤ 13 := by omega
      have hc := hT.word (j + 1) (by omega)
      rw [show (((j + 1 : Nat)) : Int) = (j : Int) + 1 by omega] at hc
      have hst := kindTo_step p j
      by_cases he : (wordV ((j : Int) + 1)).1 = p
      · have hk := kind_word hlt
        rw [he] at hk hc
        have heq := list_eq (a := p) rfl
        have HK : Hid _ := hk
        clear hk hst hinv he
        go_wp2
        go_ret2
        refine ⟨?_, rfl⟩
        rw [HK.out]
        unfold kindA
        rw [decide_eq_true (by omega), show ((j + 1 : Nat) : Int) = (j : Int) + 1 by omega]
        rfl
      · rw [if_neg he, hinv] at hst
        have HK : Hid _ := hst
        have heq := list_ne he
        clear hst hinv he
        go_wp2
        go_roundg (13 - (j + 1))
        case measure => omega
        case rel => exact ⟨j + 1, by omega, by go_num, rfl, HK.out⟩
    · obtain rfl : j = 13 := by omega
      have HK : Hid (kindV p = 0) := hinv
      clear hinv
      go_wp2
      go_ret2
      refine ⟨?_, rfl⟩
      rw [HK.out]
      rfl

def fints (l : Bs) : List Value := l.map fun x => .int .i64 (fnum x)
theorem Tryd.inf3 : (Tryd.prog.info? 3).map (fun i => (i.zero, i.size, i.bytes)) = some (some (.int .i64 0), 1, 8) := by kernel_rfl
theorem idx_fld (f : Nat → Int) {j : Nat} (hj : j < 3) (w : World) : (Instr.index 50 (.agg #[.int .i64 (f 0), .int .i64 (f 1), .int .i64 (f 2)]) (.int .i64 j)).run Tryd.prog w = .ok (.int .i64 (f j)) w := by
  obtain rfl | rfl | rfl : j = 0 ∨ j = 1 ∨ j = 2 := by omega
  all_goals simp [Instr.index, run_underlying Tryd.underlying50, asIntOf, go_sem]
theorem fints_more (P : Bs) (x : UInt8) : fints (P ++ [x]) = fints P ++ [.int .i64 (fnum x : Nat)] := by simp [fints]
theorem fnum_pos (x : UInt8) : 1 ≤ fnum x := by
  unfold fnum offS offI
  repeat' split
  all_goals omega
theorem fld_some {k i : Nat} {x : UInt8} (h : (wordV (k : Int)).2[i]? = some x) : fldV k i = (fnum x : Nat) := by unfold fldV; rw [h]
theorem fld_none {k i : Nat} (h : (wordV (k : Int)).2[i]? = none) : fldV k i = 0 := by unfold fldV; rw [h]
set_option maxHeartbeats 4000000 in
set_option maxRecDepth 20000 in
theorem fields_any (k : Nat) (h1 : 1 ≤ k) (h2 : k ≤ 13) (w : World) (hT : Tab w) : Calls Tryd.prog 18 #[.int .i64 k] w fun e w' => ∃ v, e = .returned v ∧ w'.ownsRow w.heap.size 3 1 v (wordV (k : Int)).2.length (fints (wordV (k : Int)).2) ∧ Below w.heap.size w w' := by
  obtain ⟨i0, hi0, hz0, hz1, hz2⟩ := info_parts Tryd.inf3
  have c0 := hT.fld k 0 (by omega) (by omega)
  have c1 := hT.fld k 1 (by omega) (by omega)
  have c2 := hT.fld k 2 (by omega) (by omega)
  have hfl := form_len (k : Int)
  have HS : Hid (∀ i x, (wordV (k : Int)).2[i]? = some x → fldV k i = (fnum x : Nat)) := fun i x h => fld_some h
  have HN : Hid (∀ i, (wordV (k : Int)).2[i]? = none → fldV k i = 0) := fun i h => fld_none h
  generalize (wordV (k : Int)).2 = F at *
  have k1 : (0 : Int) ≤ k := by omega
  have k2 : (k : Int) < 14 := by omega
  obtain ⟨f, hf⟩ : ∃ f, f = fldV k := ⟨_, rfl⟩
  rw [← hf] at c0 c1 c2 HS HN
  clear hf hT
  go_enter Tryd.func18, Tryd.ntmps18
  go_wp2
  clear c0 c1 c2
  go_loopg [3, 10] 3 (fun gk v p wr => ∃ (j : Nat) (u : Value), j + gk = 3 ∧ p = .int .i64 j ∧ u = v ∧ wr.ownsRow w.heap.size 3 1 u (F.take j).length (fints (F.take j)) ∧ Below w.heap.size w wr)
  case atStart => exact ⟨0, _, by omega, rfl, rfl, World.ownsRow_nil w _ 3 1, Below.refl _ _⟩
  case round =>
    obtain ⟨j, u, hj, rfl, rfl, hrow, hb⟩ := hrel
    have hz := hb.size
    by_cases hlt : j < 3
    · have hlt' : (j : Int) < 3 := by omega
      obtain ⟨o, ho⟩ : ∃ o, F[j]? = o := ⟨_, rfl⟩
      have htk : F.take (j + 1) = F.take j ++ o.toList := by rw [List.take_add_one, ho]
      have htl : (F.take j).length ≤ 3 := by simp; omega
      cases o with
      | none =>
        have hv0 : (f j == 0) = true := by rw [HN.out j ho]; rfl
        have HR : Hid (wr.ownsRow w.heap.size 3 1 u (F.take (j + 1)).length (fints (F.take (j + 1)))) := by rw [htk, show F.take j ++ (none : Option UInt8).toList = F.take j by simp]; exact hrow
        have HB : Hid (Below w.heap.size w wr) := hb
        have hix := idx_fld f hlt
        clear ho htk hrow htl hb
        go_wp2
        go_roundg (3 - (j + 1))
        case measure => omega
        case rel => exact ⟨j + 1, u, by omega, by go_num, rfl, HR.out, HB.out⟩
      | some x =>
        have hv : f j = (fnum x : Nat) := HS.out j x ho
        have hv0 : (f j == 0) = false := by rw [hv, beq_eq_false_iff_ne]; have := fnum_pos x; omega
        have HR : Hid (F.take (j + 1) = F.take j ++ [x]) := htk
        have HV : Hid _ := hv
        have HB : Hid (Below w.heap.size w wr) := hb
        generalize F.take j = P at *
        have hnc : ∀ i z, [Value.int .i64 (f j)][i]? = some z → (wr.alloc (.cells #[.int .i64 (f j)] 3)).cell? ((⟨wr.heap.size, 0, none⟩ : Addr).add i) = some z := cell_one_new wr (.int .i64 (f j)) 3
        have hix := idx_fld f hlt
        clear ho htk hb hv
        go_wp2_with (at_builtin; refine wpList_append_own_at _ rfl (.tmp 15) (.tmp 17) 38 rfl w.heap.size 3 i0 _ 1 8 Tryd.underlying38 hi0 hz0 hz1 hz2 rfl (by decide) u P.length (fints P) rfl (hrow.alloc _) ⟨wr.heap.size, 0, none⟩ 1 1 [.int .i64 (f j)] rfl rfl hnc (fun u hu => by simp at hu; subst hu; rfl) ?_ ?_ ?_ ?_; exact (Nat.le_trans (m := 35184372088832) (by omega) (by decide)); omega; (simp; omega); intro v' w5 hown hgr _ _)
        go_roundg (3 - (j + 1))
        case measure => omega
        case rel =>
          refine ⟨j + 1, v', by omega, by go_num, rfl, ?_, below_gr (HB.out.alloc hz _) (hrow.alloc _) (Nat.le_refl _) hgr⟩
          rw [HR.out, fints_more, ← HV.out]
          simpa using hown
    · obtain rfl : j = 3 := by omega
      have e : F.take 3 = F := List.take_of_length_le hfl
      rw [e] at hrow
      go_wp2
      go_ret
      exact ⟨u, rfl, hrow, hb⟩
end Go.Proofs.YtokpcpmkilikaaaDoor
