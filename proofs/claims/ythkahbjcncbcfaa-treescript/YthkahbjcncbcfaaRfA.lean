/-
  Layer 6's reference: accounts in memory; find, Name, depth.
-/
import Derived.Test.YthkahbjcncbcfaaTrM
import Derived.WalkKit
import Derived.WalkSpells
import Derived.WalkLawsBesides
import Derived.Deep.LoopGhost
import Derived.Deep.RegionHeld3
import Derived.Deep.QuietTactic
import Derived.BigQuiet
import Derived.RowKit3
import Derived.Lib.Strings
namespace Go.Proofs.Ythkahbjcncbcfaa
open Go.RowKit Tr

theorem ba_eq {a b : ByteArray} (h : a = b) : (a.toList == b.toList) = true := by rw [h]; simp
theorem ba_ne {a b : ByteArray} (h : a ≠ b) : (a.toList == b.toList) = false := by
  rw [Lib.toList_data, Lib.toList_data]
  simp only [beq_eq_false_iff_ne, ne_eq]
  intro e
  cases a with
  | mk x =>
    cases b with
    | mk y =>
      have := Array.toList_inj.1 e
      simp only at this
      exact h (by rw [this])
/-- The cells of an account, at an offset. -/
structure AcAt (W : World) (g o : Nat) (a : Ac) : Prop where
  nm : W.cell? ⟨g, o, none⟩ = some (.string a.nm)
  pa : W.cell? ⟨g, o + 1, none⟩ = some (.int .i64 a.pa)
  sh : W.cell? ⟨g, o + 2, none⟩ = some (.int .i64 a.sh)
  cl : W.cell? ⟨g, o + 3, none⟩ = some (.bool a.cl)
  us : W.cell? ⟨g, o + 4, none⟩ = some (.int .u64 a.us)
theorem cellB {w w' : World} (b : Below w.heap.size w w') {a : Addr} {v : Value} (h : w.cell? a = some v) : w'.cell? a = some v := (b.cell (World.block_lt_of_cell? w _ h)).trans h
theorem AcAt.below {W W' : World} {g o : Nat} {a : Ac} (h : AcAt W g o a) (b : Below W.heap.size W W') : AcAt W' g o a := ⟨cellB b h.nm, cellB b h.pa, cellB b h.sh, cellB b h.cl, cellB b h.us⟩
/-- Accounts that lie in memory. -/
def AcsAt (W : World) (ao : Option Addr) (l : List Ac) : Prop := ∃ g o, (0 < l.length → ao = some ⟨g, o, none⟩) ∧ ∀ k a, l[k]? = some a → AcAt W g (o + k * 5) a
theorem AcsAt.below {W W' : World} {ao : Option Addr} {l : List Ac} (h : AcsAt W ao l) (b : Below W.heap.size W W') : AcsAt W' ao l := by
  obtain ⟨g, o, h1, h2⟩ := h
  exact ⟨g, o, h1, fun k a ha => (h2 k a ha).below b⟩
def findI : Option Nat → Int
  | none => -1
  | some k => k
theorem find_drop {l : List Ac} {s : ByteArray} {j : Nat} {a : Ac} (h : l[j]? = some a) : findV (l.drop j) s = if a.nm = s then some 0 else (findV (l.drop (j + 1)) s).map (· + 1) := by
  obtain ⟨hj, rfl⟩ := List.getElem?_eq_some_iff.1 h
  rw [List.drop_eq_getElem_cons hj]
  rfl

set_option maxHeartbeats 1000000 in
theorem find_any {w : World} {ao : Option Addr} {l : List Ac} {c : Nat} (hA : AcsAt w ao l) (hn : l.length * 48 ≤ 140737488355328) (s : ByteArray) :
    Calls Try.prog 60 #[.slice ao l.length c, .string s] w fun e w' => e = .returned (.int .i64 (findI (findV l s))) ∧ Below w.heap.size w w' := by
  obtain ⟨q, hq⟩ : ∃ q, l.length = q := ⟨_, rfl⟩
  obtain ⟨g, o, hg, hc⟩ := hA
  rw [hq] at hg hn ⊢
  go_enter Try.func60, Try.ntmps60
  go_wp2
  go_loopg [9] q (fun gk p wr => ∃ j : Nat, j + gk = q ∧ p = .int .i64 j ∧ Below w.heap.size w wr ∧ findV l s = (findV (l.drop j) s).map (· + j))
  case atStart => exact ⟨0, by omega, rfl, Below.refl _ _, by simp⟩
  case round =>
    obtain ⟨j, hj, rfl, hb, hinv⟩ := hrel
    by_cases hlt : j < q
    · obtain ⟨a, ha⟩ : ∃ a, l[j]? = some a := ⟨_, List.getElem?_eq_getElem (by omega)⟩
      obtain rfl := hg (by omega)
      obtain ⟨d0, d1, d2, d3, d4⟩ := (hc j a ha).below hb
      rw [find_drop ha] at hinv
      clear hc hg ha
      have hz := hb.size
      by_cases e : a.nm = s
      · rw [if_pos e] at hinv
        have HE : Hid (findV l s = some j) := show findV l s = some j by simpa using hinv
        have HB : Hid _ := hb
        have eb := ba_eq e
        clear hinv hb e
        go_wp2
        go_ret
        exact ⟨by rw [HE.out]; rfl, HB.out.alloc hz _⟩
      · rw [if_neg e] at hinv
        have HE : Hid (findV l s = (findV (l.drop (j + 1)) s).map (· + (j + 1))) := show findV l s = (findV (l.drop (j + 1)) s).map (· + (j + 1)) by
          rw [hinv]
          cases findV (l.drop (j + 1)) s with
          | none => rfl
          | some k => simp; omega
        have HB : Hid _ := hb
        have eb := ba_ne e
        clear hinv hb e
        go_wp2
        go_roundg (q - (j + 1))
        case measure => omega
        case rel => exact ⟨j + 1, by omega, rfl, HB.out.alloc hz _, HE.out⟩
    · obtain rfl : j = q := by omega
      have e : Hid (findV l s = none) := show findV l s = none by rw [hinv, List.drop_of_length_le (by omega)]; rfl
      clear hinv
      go_wp2
      go_ret
      exact ⟨by rw [e.out]; rfl, hb⟩
end Go.Proofs.Ythkahbjcncbcfaa
