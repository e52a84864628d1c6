/-
  Layer 5's reference: Steps.
-/
import Derived.Test.YtdkibcagbidelaaPrM
import Derived.Maps.AppendAt
import Derived.Deep.DeepAppendWide
namespace Go.Proofs.Ytdkibcagbidelaa
open Go.RowKit Pr

/-- The cells of steps. -/
def flatS : List Stp → List Value
  | [] => []
  | s :: l => .int .i64 s.at_ :: .int .i64 s.fr :: flatS l
theorem flatS_len (l : List Stp) : (flatS l).length = l.length * 2 := by
  induction l with
  | nil => rfl
  | cons s l ih => simp [flatS, ih]; omega
theorem flatS_app (a b : List Stp) : flatS (a ++ b) = flatS a ++ flatS b := by
  induction a with
  | nil => rfl
  | cons s l ih => simp [flatS, ih]
theorem new_cells (w : World) (l : List Value) (t : TypeId) : ∀ j u, l[j]? = some u → (w.alloc (.cells l.toArray t)).cell? ((⟨w.heap.size, 0, none⟩ : Addr).add j) = some u := by
  intro j u hu
  have ha : (⟨w.heap.size, 0, none⟩ : Addr).add j = ⟨w.heap.size, j, none⟩ := by unfold Addr.add; split <;> simp_all
  rw [ha]
  unfold World.cell?
  rw [heap_alloc_new]
  simpa using hu
theorem own_new (w : World) (s : Stp) (B : Nat) (hB : B ≤ w.heap.size) : (w.alloc (.cells #[.int .i64 s.at_, .int .i64 s.fr] 82)).ownsRow B 82 2 (.slice (some ⟨w.heap.size, 0, none⟩) 1 1) 1 (flatS [s]) :=
  ⟨rfl, .inr ⟨w.heap.size, 1, #[.int .i64 s.at_, .int .i64 s.fr], rfl, hB, heap_alloc_new w _, by omega, by decide, rfl, rfl⟩⟩
theorem row_kept {w w1 : World} {B n : Nat} {v : Value} {vs : List Value} (h : w.ownsRow B 82 2 v n vs) (b : Below w.heap.size w w1) : w1.ownsRow B 82 2 v n vs := by
  refine ⟨h.1, ?_⟩
  rcases h.2 with h0 | ⟨g, cap, cur, rfl, hb, hg, r⟩
  · exact .inl h0
  · exact .inr ⟨g, cap, cur, rfl, hb, (b.block g (Array.getElem?_eq_some_iff.1 hg).1).trans hg, r⟩
theorem Try.inf82 : (Try.prog.info? 82).map (fun i => (i.zero, i.size, i.bytes)) = some (some (.agg #[.int .i64 0, .int .i64 0]), 2, 16) := by kernel_rfl
theorem below_gr {w w1 w2 : World} {v : Value} {vs : List Value} {n B : Nat} (h : Below w.heap.size w w1) (hr : w1.ownsRow B 82 2 v n vs) (hB : w.heap.size ≤ B) (hg : w1.grownBy w2 v.ownBlock) : Below w.heap.size w w2 :=
  h.grown hg h.size (fun k e => by have := (hr.lt k e).1; omega)

set_option maxHeartbeats 4000000 in
set_option maxRecDepth 20000 in
theorem steps_any {w : World} {ao : Option Addr} {l : List Rn} {c : Nat} (hA : RunsAt w ao l) (hn : l.length * 16 ≤ 140737488355328) (now free : Int) :
    Calls Try.prog 34 #[.int .i64 now, .int .i64 free, .slice ao l.length c] w fun e w' => ∃ v, e = .returned v ∧ w'.ownsRow w.heap.size 82 2 v (stepsV now free l).length (flatS (stepsV now free l)) ∧ Below w.heap.size w w' := by
  by_cases hr : right free l = true
  · obtain ⟨i0, hi0, hz0, hz1, hz2⟩ := info_parts Try.inf82
    have hst : stepsV now free l = ⟨now, atV free l now⟩ :: restV free l now := by unfold stepsV; rw [if_pos hr]
    go_enter Try.func34, Try.ntmps34
    go_wp2_with fail
    refine (right_any hA (by omega) free).mono ?_
    rw [hr]
    rintro e w1 ⟨rfl, b1⟩
    obtain ⟨hf, hok⟩ : okF free = true ∧ l.all okR = true := by simpa [right] using hr
    obtain ⟨f0, f1⟩ : 0 ≤ free ∧ free ≤ 256 := by simpa [okF] using hf
    go_wp2_with fail
    refine (at_any (hA.below b1) (by omega) free now f0 f1 hok).mono ?_
    rintro e w2 ⟨rfl, b2⟩
    have bb : Below w.heap.size w w2 := b1.trans (b2.mono b1.size)
    have z2 := bb.size
    have HST : Hid _ := hst
    clear hst hf hr
    go_wp2_with fail
    go_loopg [7, 8] (cnt l now) (fun gk p i wr => ∃ (v : Value) (xs : List Stp) (t : Int), gk = cnt l t ∧ p = v ∧ i = .int .i64 t ∧ wr.ownsRow w.heap.size 82 2 v xs.length (flatS xs) ∧ Below w.heap.size w wr ∧ stepsV now free l = xs ++ restV free l t ∧ xs.length + cnt l t ≤ l.length + 1)
    case atStart =>
      refine ⟨_, [⟨now, atV free l now⟩], now, rfl, rfl, rfl, own_new w2 ⟨now, atV free l now⟩ _ z2, bb.alloc z2 _, HST.out, ?_⟩
      have := cnt_le l now
      simp
      omega
    case round =>
      obtain ⟨v, xs, t, hgk, hp, rfl, hrow, hbw, hinv, hlen⟩ := hrel
      subst hp
      go_wp2_with fail
      refine (next_any (hA.below hbw) (by omega) t).mono ?_
      cases hnx : nextV none l t with
      | none =>
        rintro e w3 ⟨rfl, b3⟩
        unfold nextA
        have HI : Hid _ := hinv
        clear hinv
        go_wp2
        go_ret
        have e1 := HI.out
        rw [rest_none hnx, List.append_nil] at e1
        rw [e1]
        exact ⟨_, rfl, row_kept hrow b3, hbw.trans (b3.mono hbw.size)⟩
      | some nn =>
        rintro e w3 ⟨rfl, b3⟩
        unfold nextA
        simp only [Option.getD_some, Option.isSome_some]
        have b03 := hbw.trans (b3.mono hbw.size)
        have hlt := cnt_lt (next_some hnx).1 (next_some hnx).2.1
        rw [rest_some hnx] at hinv
        have HI : Hid _ := hinv
        clear hinv
        go_wp2_with fail
        refine (at_any (hA.below b03) (by omega) free nn f0 f1 hok).mono ?_
        rintro e w4 ⟨rfl, b4⟩
        have b04 := b03.trans (b4.mono b03.size)
        have hrow4 := row_kept (row_kept hrow b3) b4
        have hz4 := b04.size
        go_wp2_with (first
          | (at_builtin; refine wpList_append_own_wide _ rfl (.tmp 33) (.tmp 40) 79 rfl w.heap.size 82 i0 _ 2 16 Try.underlying79 hi0 hz0 hz1 hz2 rfl (by decide) _ _ _ rfl (hrow4.alloc _) ⟨_, 0, none⟩ 1 1 [.int .i64 nn, .int .i64 (atV free l nn)] rfl rfl (new_cells _ _ _) (fun u hu => by simp at hu; rcases hu with rfl | rfl <;> rfl) (Nat.le_trans (m := 35184372088832) (by omega) (by decide)) (by omega) (by simp; omega) ?_; intro v' w5 hown hgr _))
        go_roundg (cnt l nn)
        case measure => omega
        case rel =>
          refine ⟨v', xs ++ [⟨nn, atV free l nn⟩], nn, rfl, rfl, rfl, ?_, ?_, ?_, ?_⟩
          · rw [flatS_app, List.length_append]
            exact hown
          · exact below_gr (b04.alloc hz4 _) (hrow4.alloc _) (Nat.le_refl _) hgr
          · rw [HI.out]; simp
          · simp; omega
  · have hst : stepsV now free l = [] := by unfold stepsV; rw [if_neg hr]
    have HST : Hid _ := hst
    clear hst
    go_enter Try.func34, Try.ntmps34
    go_wp2_with fail
    refine (right_any hA (by omega) free).mono ?_
    rw [show right free l = false by simpa using hr]
    rintro e w1 ⟨rfl, b1⟩
    go_wp2
    go_ret
    rw [HST.out]
    exact ⟨_, rfl, World.ownsRow_nil _ _ _ _, b1⟩
end Go.Proofs.Ytdkibcagbidelaa
