/-
  The statements' filled.
-/
import Derived.Test.YtjmiifgofedcnaaLis
import Derived.Test.YtjmiifgofedcnaaShown
namespace Go.Proofs.Ytjmiifgofedcnaa
open Go.RowKit Ag

namespace Ag
/-- An act of the statements: five numbers. -/
structure Act5 where
  kind : Int
  which : Int
  id : Int
  tm : Int
  x : Int
def Act5.en (f : Act5) : En := ⟨f.id, f.tm, .int .i64 f.x⟩
/-- One is laid in, if its number is not there. -/
def addL (L : List En) (e : En) : List En := if (∃ f ∈ L, f.id = e.id) then L else insL e L
def fillL (f : Nat → Act5) : Nat → List En
  | 0 => []
  | k + 1 => addL (fillL f k) (f k).en
theorem fill_len (f : Nat → Act5) (k : Nat) : (fillL f k).length ≤ k := by
  induction k with
  | zero => exact Nat.le_refl _
  | succ k ih =>
    unfold fillL addL
    split
    · omega
    · rw [len_insL]; omega
theorem fill_int (f : Nat → Act5) (k : Nat) : ∀ e ∈ fillL f k, ∃ x, e.x = .int .i64 x := by
  induction k with
  | zero => intro e he; simp [fillL] at he
  | succ k ih =>
    intro e he
    unfold fillL addL at he
    split at he
    · exact ih e he
    · rcases (mem_insL _ _ _).1 he with rfl | he
      · exact ⟨_, rfl⟩
      · exact ih e he
end Ag
/-- The acts of a slice, in memory. -/
def ActsAt (W : World) (ao : Option Addr) (n : Nat) (f : Nat → Act5) : Prop := ∃ g o, (0 < n → ao = some ⟨g, o, none⟩) ∧ ∀ k, k < n → W.cell? ⟨g, o + k * 5, none⟩ = some (.int .i64 (f k).kind) ∧ W.cell? ⟨g, o + k * 5 + 1, none⟩ = some (.int .i64 (f k).which) ∧ W.cell? ⟨g, o + k * 5 + 2, none⟩ = some (.int .i64 (f k).id) ∧ W.cell? ⟨g, o + k * 5 + 3, none⟩ = some (.int .i64 (f k).tm) ∧ W.cell? ⟨g, o + k * 5 + 4, none⟩ = some (.int .i64 (f k).x)
theorem ActsAt.below {W W' : World} {ao : Option Addr} {n : Nat} {f : Nat → Act5} (h : ActsAt W ao n f) (b : Below W.heap.size W W') : ActsAt W' ao n f := by
  obtain ⟨g, o, h1, h2⟩ := h
  have c := Chg.of_below b (fun _ => False)
  exact ⟨g, o, h1, fun k hk => ⟨c.cell (h2 k hk).1 (fun h => h), c.cell (h2 k hk).2.1 (fun h => h), c.cell (h2 k hk).2.2.1 (fun h => h), c.cell (h2 k hk).2.2.2.1 (fun h => h), c.cell (h2 k hk).2.2.2.2 (fun h => h)⟩⟩

set_option maxHeartbeats 2000000 in
theorem filled_any {w : World} {ao : Option Addr} {n c : Nat} {f : Nat → Act5} (hA : ActsAt w ao n f) (hwf : ∀ k, k < n → wfI (f k).id ∧ wfI (f k).tm) (hn : n * 40 ≤ 140737488351232) :
    Calls Try.prog 16 #[.slice ao n c] w fun e w' => ∃ a m ao', e = .returned (.pointer (some ⟨a, 0, none⟩)) ∧ Nw 68 76 w a m ao' (fillL f n) w' := by
  go_enter Try.func16, Try.ntmps16
  go_wp2_with fail
  refine (new_I w).mono ?_
  rintro e w1 ⟨rfl, r1, b1⟩
  have n1 : Nw 68 76 w (w.heap.size + 1) w.heap.size none [] w1 := ⟨r1, b1, by rintro k (rfl | rfl | ⟨g, hg, _⟩) <;> first | omega | cases hg⟩
  clear r1 b1
  generalize w.heap.size + 1 = a at n1 ⊢
  generalize w.heap.size = m at n1 ⊢
  have N1 : Hid _ := n1
  clear n1
  go_wp2
  go_loopg [9] n (fun gk p wr => ∃ k : Nat, k + gk = n ∧ p = .int .i64 k ∧ ∃ ao', Nw 68 76 w a m ao' (fillL f k) wr)
  case atStart => exact ⟨0, by omega, rfl, none, N1.out⟩
  case round =>
    obtain ⟨k, hk, rfl, ao', nw⟩ := hrel
    by_cases hlt : k < n
    · obtain ⟨g, o, hao, hcs⟩ := hA.below nw.bel
      have hao := hao (by omega)
      subst hao
      obtain ⟨x0, x1, x2, x3, x4⟩ := hcs k hlt
      clear hcs
      have hfl := fill_len f k
      have NW : Hid _ := nw
      clear nw
      obtain ⟨wi, wt⟩ := hwf k hlt
      obtain ⟨wn, hwn⟩ : ∃ wn, wr.alloc (.cells #[.int .i64 (f k).kind, .int .i64 (f k).which, .int .i64 (f k).id, .int .i64 (f k).tm, .int .i64 (f k).x] 31) = wn := ⟨_, rfl⟩
      have y2 : wn.cell? ⟨wr.heap.size, 2, none⟩ = some (.int .i64 (f k).id) := by rw [← hwn]; exact cell_nw wr rfl
      have y3 : wn.cell? ⟨wr.heap.size, 3, none⟩ = some (.int .i64 (f k).tm) := by rw [← hwn]; exact cell_nw wr rfl
      have y4 : wn.cell? ⟨wr.heap.size, 4, none⟩ = some (.int .i64 (f k).x) := by rw [← hwn]; exact cell_nw wr rfl
      have nn := NW.out.grown (w1 := wn) (by rw [← hwn]; exact (Below.refl _ _).alloc (Nat.le_refl _) _)
      by_cases hin : ∃ e ∈ fillL f k, e.id = (f k).id
      · have hf1 : fillL f (k + 1) = fillL f k := by
          have hin' : ∃ e ∈ fillL f k, e.id = ((f k).en).id := hin
          rw [fillL, addL, if_pos hin']
        obtain ⟨e, he, hid⟩ := hin
        have hcon := add_no_I nn.agn e he (f k).tm (f k).x
        rw [hid] at hcon
        go_wp2_with fail
        refine hcon.mono ?_
        rintro e w2 ⟨rfl, rfl⟩
        go_wp2
        go_roundg (n - (k + 1))
        case measure => omega
        case rel => exact ⟨k + 1, by omega, rfl, ao', hf1 ▸ nn⟩
      · have hf1 : fillL f (k + 1) = insL (f k).en (fillL f k) := by
          have hin' : ¬ ∃ e ∈ fillL f k, e.id = ((f k).en).id := hin
          rw [fillL, addL, if_neg hin']
        have hcon := add_yes_I nn.agn (f k).id (f k).tm (f k).x wi wt (fun e he hid => hin ⟨e, he, hid⟩) (by omega)
        go_wp2_with fail
        refine hcon.mono ?_
        rintro e w2 ⟨rfl, ao2, r2, m2, c2⟩
        have n2 := nn.turned r2 m2 c2
        go_wp2
        go_roundg (n - (k + 1))
        case measure => omega
        case rel => exact ⟨k + 1, by omega, rfl, ao2, hf1 ▸ n2⟩
    · obtain rfl : k = n := by omega
      have NW : Hid _ := nw
      clear nw
      go_wp2
      go_ret
      exact ⟨a, m, ao', rfl, NW.out⟩
end Go.Proofs.Ytjmiifgofedcnaa
