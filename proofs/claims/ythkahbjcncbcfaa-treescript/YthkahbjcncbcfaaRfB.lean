/-
  Layer 6's reference: depth, known, there, Name.
-/
import Derived.Test.YthkahbjcncbcfaaRfA
namespace Go.Proofs.Ythkahbjcncbcfaa
open Go.RowKit Tr

/-- Parents that are numbers of accounts. -/
def PaOk (l : List Ac) : Prop := ∀ (k : Nat) (a : Ac), l[k]? = some a → 0 < k → 0 ≤ a.pa ∧ a.pa < (l.length : Int)

set_option maxHeartbeats 1000000 in
theorem depth_any {w : World} {ao : Option Addr} {l : List Ac} {c : Nat} (hA : AcsAt w ao l) (hn : l.length * 48 ≤ 140737488355328) (hp : PaOk l) {n : Nat} (hnl : n < l.length) :
    Calls Try.prog 53 #[.slice ao l.length c, .int .i64 n] w fun e w' => e = .returned (.int .i64 (findI (depthV l n))) ∧ Below w.heap.size w w' := by
  obtain ⟨q, hq⟩ : ∃ q, l.length = q := ⟨_, rfl⟩
  obtain ⟨g, o, hg, hc⟩ := hA
  unfold depthV
  rw [hq] at hg hn hnl ⊢
  obtain rfl := hg (by omega)
  go_enter Try.func53, Try.ntmps53
  go_wp2
  go_loopg [1, 5] (q + 1) (fun gk pn p wr => ∃ (j m : Nat), j + gk = q + 1 ∧ p = .int .i64 j ∧ pn = .int .i64 m ∧ m < q ∧ w = wr ∧ depN l (q + 1) n = (depN l gk m).map (· + j))
  case atStart => exact ⟨0, n, by omega, rfl, rfl, hnl, rfl, by simp⟩
  case round =>
    obtain ⟨j, m, hj, rfl, rfl, hm, rfl, hinv⟩ := hrel
    by_cases hlt : j ≤ q
    · have hlt' : (j : Int) ≤ q := by omega
      obtain ⟨f, rfl⟩ : ∃ f, gk = f + 1 := ⟨gk - 1, by omega⟩
      rw [show depN l (f + 1) m = if m = 0 then some 0 else (depN l f (up l m)).map (· + 1) from rfl] at hinv
      by_cases e0 : m = 0
      · subst e0
        simp at hinv
        have HE : Hid _ := hinv
        clear hinv hc
        go_wp2
        go_ret
        exact ⟨by rw [HE.out]; rfl, Below.refl _ _⟩
      · rw [if_neg e0] at hinv
        obtain ⟨a, ha⟩ : ∃ a, l[m]? = some a := ⟨_, List.getElem?_eq_getElem (by omega)⟩
        obtain ⟨p0, p1⟩ := hp m a ha (by omega)
        obtain ⟨pn, hpn⟩ : ∃ pn : Nat, a.pa = pn := ⟨a.pa.toNat, by omega⟩
        have hup : up l m = pn := by rw [up_of ha, hpn]; simp
        rw [hup] at hinv
        have d1 := (hc m a ha).pa
        rw [hpn] at d1 p1
        rw [hq] at p1
        have HE : Hid (depN l (q + 1) n = (depN l f pn).map (· + (j + 1))) := show depN l (q + 1) n = (depN l f pn).map (· + (j + 1)) by
          rw [hinv]
          cases depN l f pn with
          | none => rfl
          | some k => simp; omega
        have e0' : ¬ (m : Int) = 0 := by omega
        have hm' : (m : Int) < q := by omega
        clear hinv hc ha hpn hup
        go_wp2
        go_roundg f
        case measure => omega
        case rel => exact ⟨j + 1, pn, by omega, rfl, rfl, by omega, rfl, HE.out⟩
    · have hlt' : ¬ (j : Int) ≤ q := by omega
      obtain rfl : gk = 0 := by omega
      have HE : Hid (depN l (q + 1) n = none) := show depN l (q + 1) n = none by rw [hinv]; rfl
      clear hinv hc
      go_wp2
      go_ret
      exact ⟨by rw [HE.out]; rfl, Below.refl _ _⟩

/-- The reference's tree at d. -/
def RefT (W : World) (d : Nat) (l : List Ac) : Prop := ∃ ao c, W.heap[d]? = some (.cells #[.slice ao l.length c] 69 (0, 0)) ∧ AcsAt W ao l ∧ (ao = none → l = [] ∧ c = 0)
theorem cells_at {w : World} {b k : Nat} {cs : Array Value} {e : TypeId} {f : Nat × Nat} {v : Value} (h : w.heap[b]? = some (.cells cs e f)) (hv : cs[k]? = some v) : w.cell? ⟨b, k, none⟩ = some v := by
  unfold World.cell?
  rw [h]
  simpa using hv
theorem RefT.below {W W' : World} {d : Nat} {l : List Ac} (h : RefT W d l) (b : Below W.heap.size W W') : RefT W' d l := by
  obtain ⟨ao, c, h1, h2, h3⟩ := h
  exact ⟨ao, c, (b.block d (Array.getElem?_eq_some_iff.1 h1).1).trans h1, h2.below b, h3⟩

set_option maxHeartbeats 1000000 in
theorem known_any {w : World} {d : Nat} {l : List Ac} (hT : RefT w d l) (hn : l.length * 48 ≤ 140737488355328) (s : ByteArray) :
    Calls Try.prog 63 #[.pointer (some ⟨d, 0, none⟩), .string s] w fun e w' => e = .returned (.tuple #[.int .i64 (knownV l s).1, .int .i64 (knownV l s).2]) ∧ Below w.heap.size w w' := by
  obtain ⟨ao, c, h1, h2, _⟩ := hT
  have c0 : w.cell? ⟨d, 0, none⟩ = some (.slice ao l.length c) := cells_at h1 rfl
  have hf := find_any (c := c) h2 hn s
  clear h1
  cases hk : findV l s with
  | none =>
    have kv : knownV l s = (0, 62) := by unfold knownV; rw [hk]
    rw [hk] at hf
    rw [kv]
    go_enter Try.func63, Try.ntmps63
    go_wp2_with fail
    refine hf.mono ?_
    rintro e w1 ⟨rfl, b1⟩
    unfold findI
    go_wp2
    go_ret2
    exact ⟨rfl, b1⟩
  | some k =>
    rw [hk] at hf
    cases k with
    | zero =>
      have kv : knownV l s = (0, 66) := by unfold knownV; rw [hk]
      rw [kv]
      go_enter Try.func63, Try.ntmps63
      go_wp2_with fail
      refine hf.mono ?_
      rintro e w1 ⟨rfl, b1⟩
      unfold findI
      go_wp2
      go_ret2
      exact ⟨rfl, b1⟩
    | succ k =>
      have kv : knownV l s = (k + 1, 0) := by unfold knownV; rw [hk]
      obtain ⟨m, hm⟩ : ∃ m, k + 1 = m := ⟨_, rfl⟩
      rw [kv]
      rw [hm] at hf ⊢
      have k0 : ¬ (m : Int) = 0 := by omega
      have k1 : ¬ (m : Int) < 0 := by omega
      clear hm hk kv
      go_enter Try.func63, Try.ntmps63
      go_wp2_with fail
      refine hf.mono ?_
      rintro e w1 ⟨rfl, b1⟩
      unfold findI
      go_wp2
      go_ret2
      exact ⟨rfl, b1⟩

def thereB (l : List Ac) (n : Int) : Bool := decide (0 ≤ n) && decide (n < l.length)
set_option maxHeartbeats 1000000 in
theorem there_any {w : World} {d : Nat} {l : List Ac} (hT : RefT w d l) (n : Int) :
    Calls Try.prog 64 #[.pointer (some ⟨d, 0, none⟩), .int .i64 n] w fun e w' => e = .returned (.bool (thereB l n)) ∧ Below w.heap.size w w' := by
  obtain ⟨ao, c, h1, h2, _⟩ := hT
  have c0 : w.cell? ⟨d, 0, none⟩ = some (.slice ao l.length c) := cells_at h1 rfl
  unfold thereB
  clear h1 h2
  by_cases h0 : 0 ≤ n
  · by_cases h1 : n < l.length
    · go_enter Try.func64, Try.ntmps64
      go_wp2
      go_ret
      exact ⟨by simp [h0, h1], Below.refl _ _⟩
    · go_enter Try.func64, Try.ntmps64
      go_wp2
      go_ret
      exact ⟨by simp [h1], Below.refl _ _⟩
  · go_enter Try.func64, Try.ntmps64
    go_wp2
    go_ret
    have e : decide (0 ≤ n) = false := by simp; omega
    exact ⟨by rw [e]; rfl, Below.refl _ _⟩
end Go.Proofs.Ythkahbjcncbcfaa
