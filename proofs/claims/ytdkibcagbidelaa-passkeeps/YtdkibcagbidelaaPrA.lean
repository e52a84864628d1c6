/-
  Layer 5's reference: runs in memory, and what is reckoned of them: Right, at, next.
-/
import Derived.Test.YtdkibcagbidelaaRows
import Derived.WalkKit
import Derived.WalkSpells
import Derived.WalkLawsBesides
import Derived.Deep.LoopGhost
import Derived.Deep.RegionHeld3
import Derived.Deep.QuietTactic
import Derived.BigQuiet
import Derived.RowKit3
namespace Go.Proofs.Ytdkibcagbidelaa
open Go.RowKit

namespace Pr
/-- A run. -/
structure Rn where
  nd : Int
  en : Int
def okR (r : Rn) : Bool := decide (1 ≤ r.nd) && decide (r.nd ≤ 256)
def okF (free : Int) : Bool := decide (0 ≤ free) && decide (free ≤ 256)
def right (free : Int) (l : List Rn) : Bool := okF free && l.all okR
/-- How many are free at a time. -/
def atV (free : Int) : List Rn → Int → Int
  | [], _ => free
  | r :: l, t => atV (if r.en ≤ t then free + r.nd else free) l t
/-- The least end above a time. -/
def nextV (best : Option Int) : List Rn → Int → Option Int
  | [], _ => best
  | r :: l, t => nextV (if t < r.en ∧ (∀ b, best = some b → r.en < b) then some r.en else best) l t
theorem all_drop {l : List Rn} {k : Nat} {r : Rn} (h : l[k]? = some r) : (l.drop k).all okR = (okR r && (l.drop (k + 1)).all okR) := by
  obtain ⟨hk, rfl⟩ := List.getElem?_eq_some_iff.1 h
  rw [List.drop_eq_getElem_cons hk]
  rfl
theorem drop_c {l : List Rn} {k : Nat} {r : Rn} (h : l[k]? = some r) : l.drop k = r :: l.drop (k + 1) := by
  obtain ⟨hk, rfl⟩ := List.getElem?_eq_some_iff.1 h
  exact List.drop_eq_getElem_cons hk
end Pr
open Pr

/-- Runs that lie in memory. -/
def RunsAt (W : World) (ao : Option Addr) (l : List Rn) : Prop := ∃ g o, (0 < l.length → ao = some ⟨g, o, none⟩) ∧ ∀ k r, l[k]? = some r → W.cell? ⟨g, o + k * 2, none⟩ = some (.int .i64 r.nd) ∧ W.cell? ⟨g, o + k * 2 + 1, none⟩ = some (.int .i64 r.en)
theorem RunsAt.below {W W' : World} {ao : Option Addr} {l : List Rn} (h : RunsAt W ao l) (b : Below W.heap.size W W') : RunsAt W' ao l := by
  obtain ⟨g, o, h1, h2⟩ := h
  exact ⟨g, o, h1, fun k r hr => ⟨(b.cell (World.block_lt_of_cell? W _ (h2 k r hr).1)).trans (h2 k r hr).1, (b.cell (World.block_lt_of_cell? W _ (h2 k r hr).2)).trans (h2 k r hr).2⟩⟩

set_option maxHeartbeats 1000000 in
theorem right_any {w : World} {ao : Option Addr} {l : List Rn} {c : Nat} (hA : RunsAt w ao l) (hn : l.length * 16 ≤ 140737488355328) (free : Int) :
    Calls Try.prog 33 #[.int .i64 free, .slice ao l.length c] w fun e w' => e = .returned (.bool (right free l)) ∧ Below w.heap.size w w' := by
  obtain ⟨q, hq⟩ : ∃ q, l.length = q := ⟨_, rfl⟩
  unfold right
  by_cases h1 : free < 0
  · have : okF free = false := by simp [okF]; omega
    rw [this, hq]
    go_enter Try.func33, Try.ntmps33
    go_wp2
    go_ret
    exact ⟨rfl, Below.refl _ _⟩
  by_cases h2 : 256 < free
  · have : okF free = false := by simp [okF]; omega
    rw [this, hq]
    go_enter Try.func33, Try.ntmps33
    go_wp2
    go_ret
    exact ⟨rfl, Below.refl _ _⟩
  have hf : okF free = true := by simp [okF]; omega
  obtain ⟨g, o, hg, hc⟩ := hA
  rw [hf, Bool.true_and, hq]
  rw [hq] at hg hn
  go_enter Try.func33, Try.ntmps33
  go_wp2
  go_loopg [5] q (fun gk p wr => ∃ j : Nat, j + gk = q ∧ p = .int .i64 j ∧ w = wr ∧ l.all okR = (l.drop j).all okR)
  case atStart => exact ⟨0, by omega, rfl, rfl, by simp⟩
  case round =>
    obtain ⟨j, hj, rfl, rfl, hinv⟩ := hrel
    by_cases hlt : j < q
    · obtain ⟨r, hr⟩ : ∃ r, l[j]? = some r := ⟨_, List.getElem?_eq_getElem (by omega)⟩
      obtain rfl := hg (by omega)
      obtain ⟨c1, _⟩ := hc j r hr
      rw [all_drop hr] at hinv
      clear hc hg hr
      by_cases a1 : r.nd < 1
      · have e : Hid (l.all okR = false) := show l.all okR = false by rw [hinv]; simp [okR]; omega
        clear hinv
        go_wp2
        go_ret
        exact ⟨by rw [e.out]; rfl, Below.refl _ _⟩
      · by_cases a2 : 256 < r.nd
        · have e : Hid (l.all okR = false) := show l.all okR = false by rw [hinv]; simp [okR]; omega
          clear hinv
          go_wp2
          go_ret
          exact ⟨by rw [e.out]; rfl, Below.refl _ _⟩
        · have e : okR r = true := by simp [okR]; omega
          rw [e, Bool.true_and] at hinv
          have HI : Hid _ := hinv
          clear hinv
          go_wp2
          go_roundg (q - (j + 1))
          case measure => omega
          case rel => exact ⟨j + 1, by omega, rfl, rfl, HI.out⟩
    · obtain rfl : j = q := by omega
      have e : Hid (l.all okR = true) := by rw [hinv, List.drop_of_length_le (by omega)]; exact rfl
      clear hinv
      go_wp2
      go_ret
      exact ⟨by rw [e.out]; rfl, Below.refl _ _⟩

theorem at_step {free : Int} {l : List Rn} {j : Nat} {r : Rn} (t : Int) (h : l[j]? = some r) : atV free (l.drop j) t = atV (if r.en ≤ t then free + r.nd else free) (l.drop (j + 1)) t := by
  rw [drop_c h]; rfl

set_option maxHeartbeats 1000000 in
theorem at_any {w : World} {ao : Option Addr} {l : List Rn} {c : Nat} (hA : RunsAt w ao l) (hn : l.length * 16 ≤ 140737488355328) (free t : Int) (h0 : 0 ≤ free) (h1 : free ≤ 256) (hok : l.all okR = true) :
    Calls Try.prog 44 #[.int .i64 free, .slice ao l.length c, .int .i64 t] w fun e w' => e = .returned (.int .i64 (atV free l t)) ∧ Below w.heap.size w w' := by
  obtain ⟨q, hq⟩ : ∃ q, l.length = q := ⟨_, rfl⟩
  obtain ⟨g, o, hg, hc⟩ := hA
  rw [hq]
  rw [hq] at hg hn
  go_enter Try.func44, Try.ntmps44
  go_wp2
  go_loopg [7, 8] q (fun gk p i wr => ∃ (j : Nat) (x : Int), j + gk = q ∧ p = .int .i64 x ∧ i = .int .i64 j ∧ w = wr ∧ 0 ≤ x ∧ x ≤ 256 * (j + 1) ∧ atV free l t = atV x (l.drop j) t)
  case atStart => exact ⟨0, free, by omega, rfl, rfl, rfl, h0, by omega, by simp⟩
  case round =>
    obtain ⟨j, x, hj, rfl, rfl, rfl, x0, x1, hinv⟩ := hrel
    by_cases hlt : j < q
    · obtain ⟨r, hr⟩ : ∃ r, l[j]? = some r := ⟨_, List.getElem?_eq_getElem (by omega)⟩
      obtain rfl := hg (by omega)
      obtain ⟨c1, c2⟩ := hc j r hr
      have hokr : okR r = true := List.all_eq_true.1 hok r (List.mem_of_getElem? hr)
      obtain ⟨o1, o2⟩ : 1 ≤ r.nd ∧ r.nd ≤ 256 := by simpa [okR] using hokr
      rw [at_step t hr] at hinv
      clear hc hg hr hokr
      by_cases a1 : r.en ≤ t
      · rw [if_pos a1] at hinv
        have HI : Hid _ := hinv
        clear hinv
        go_wp2
        go_roundg (q - (j + 1))
        case measure => omega
        case rel => exact ⟨j + 1, x + r.nd, by omega, rfl, rfl, rfl, by omega, by omega, HI.out⟩
      · rw [if_neg a1] at hinv
        have HI : Hid _ := hinv
        clear hinv
        go_wp2
        go_roundg (q - (j + 1))
        case measure => omega
        case rel => exact ⟨j + 1, x, by omega, rfl, rfl, rfl, by omega, by omega, HI.out⟩
    · obtain rfl : j = q := by omega
      have e : Hid (atV free l t = x) := by rw [hinv, List.drop_of_length_le (by omega)]; exact rfl
      clear hinv
      go_wp2
      go_ret
      exact ⟨by rw [e.out]; rfl, Below.refl _ _⟩

theorem next_step {best : Option Int} {l : List Rn} {j : Nat} {r : Rn} (t : Int) (h : l[j]? = some r) : nextV best (l.drop j) t = nextV (if t < r.en ∧ (∀ b, best = some b → r.en < b) then some r.en else best) (l.drop (j + 1)) t := by
  rw [drop_c h]; rfl
/-- What 'next' answers. -/
def nextA (o : Option Int) : Value := .tuple #[.int .i64 (o.getD 0), .bool o.isSome]

set_option maxHeartbeats 2000000 in
theorem next_any {w : World} {ao : Option Addr} {l : List Rn} {c : Nat} (hA : RunsAt w ao l) (hn : l.length * 16 ≤ 140737488355328) (t : Int) :
    Calls Try.prog 45 #[.slice ao l.length c, .int .i64 t] w fun e w' => e = .returned (nextA (nextV none l t)) ∧ Below w.heap.size w w' := by
  obtain ⟨q, hq⟩ : ∃ q, l.length = q := ⟨_, rfl⟩
  obtain ⟨g, o, hg, hc⟩ := hA
  rw [hq]
  rw [hq] at hg hn
  go_enter Try.func45, Try.ntmps45
  go_wp2
  go_loopg [6, 7, 8] q (fun gk p b i wr => ∃ (j : Nat) (x : Option Int), j + gk = q ∧ p = .int .i64 (x.getD 0) ∧ b = .bool x.isSome ∧ i = .int .i64 j ∧ w = wr ∧ nextV none l t = nextV x (l.drop j) t)
  case atStart => exact ⟨0, none, by omega, rfl, rfl, rfl, rfl, by simp⟩
  case round =>
    obtain ⟨j, x, hj, rfl, rfl, rfl, rfl, hinv⟩ := hrel
    by_cases hlt : j < q
    · obtain ⟨r, hr⟩ : ∃ r, l[j]? = some r := ⟨_, List.getElem?_eq_getElem (by omega)⟩
      obtain rfl := hg (by omega)
      obtain ⟨c1, c2⟩ := hc j r hr
      rw [next_step t hr] at hinv
      clear hc hg hr c1
      by_cases a1 : t < r.en
      · cases x with
        | none =>
          rw [if_pos ⟨a1, fun b hb => by cases hb⟩] at hinv
          have HI : Hid _ := hinv
          clear hinv
          go_wp2
          go_roundg (q - (j + 1))
          case measure => omega
          case rel => exact ⟨j + 1, some r.en, by omega, rfl, rfl, rfl, rfl, HI.out⟩
        | some b =>
          simp only [Option.getD_some, Option.isSome_some] at *
          by_cases a2 : r.en < b
          · rw [if_pos ⟨a1, fun b' hb => by cases hb; exact a2⟩] at hinv
            have HI : Hid _ := hinv
            clear hinv
            go_wp2
            go_roundg (q - (j + 1))
            case measure => omega
            case rel => exact ⟨j + 1, some r.en, by omega, rfl, rfl, rfl, rfl, HI.out⟩
          · rw [if_neg (fun h => a2 (h.2 b rfl))] at hinv
            have HI : Hid _ := hinv
            clear hinv
            go_wp2
            go_roundg (q - (j + 1))
            case measure => omega
            case rel => exact ⟨j + 1, some b, by omega, rfl, rfl, rfl, rfl, HI.out⟩
      · rw [if_neg (fun h => a1 h.1)] at hinv
        have HI : Hid _ := hinv
        clear hinv
        go_wp2
        go_roundg (q - (j + 1))
        case measure => omega
        case rel => exact ⟨j + 1, x, by omega, rfl, rfl, rfl, rfl, HI.out⟩
    · obtain rfl : j = q := by omega
      have e : nextV none l t = x := by rw [hinv, List.drop_of_length_le (by omega)]; rfl
      go_wp2
      go_ret2
      exact ⟨by rw [e]; rfl, Below.refl _ _⟩
end Go.Proofs.Ytdkibcagbidelaa
