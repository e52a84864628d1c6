/-
  Package tree: names, shares, the way to the root; what needs no tree.
-/
import Derived.Test.YtioldijdmefljaaGreatDoorRfX
namespace Go.Proofs.YtioldijdmefljaaGreatDoor
open Go.RowKit Tr

set_option maxHeartbeats 2000000 in
set_option maxRecDepth 20000 in
theorem sign_any (c : UInt8) (w : World) : Calls Tryz.prog 110 #[.int .u8 c.toNat] w fun e w' => e = .returned (.bool (okByte c)) ∧ w = w' := by
  obtain ⟨b, hb⟩ : ∃ b, c.toNat = b := ⟨_, rfl⟩
  obtain ⟨ob, hob⟩ : ∃ ob, okByte c = ob := ⟨_, rfl⟩
  have hbo : ob = ((decide (97 ≤ b) && decide (b ≤ 122)) || (decide (65 ≤ b) && decide (b ≤ 90)) || (decide (48 ≤ b) && decide (b ≤ 57)) || b == 45 || b == 95) := by rw [← hob, ← hb]; rfl
  rw [hb, hob]
  clear hb hob
  have hc : (97 ≤ b ∧ b ≤ 122) ∨ (122 < b) ∨ (b = 95) ∨ (91 ≤ b ∧ b ≤ 96 ∧ b ≠ 95) ∨ (65 ≤ b ∧ b ≤ 90) ∨ (58 ≤ b ∧ b ≤ 64) ∨ (48 ≤ b ∧ b ≤ 57) ∨ (b = 45) ∨ (b < 48 ∧ b ≠ 45) := by omega
  rcases hc with h | h | h | h | h | h | h | h | h
  · have ok : ob = true := by rw [hbo]; simp; omega
    clear hbo
    subst ok
    have f0 : (97 : Int) ≤ b := by omega
    have f1 : (b : Int) ≤ 122 := by omega
    clear h
    go_enter Tryz.func110, Tryz.ntmps110
    go_wp2
    go_ret
    exact ⟨rfl, rfl⟩
  · have ok : ob = false := by rw [hbo]; simp; omega
    clear hbo
    subst ok
    have f0 : (97 : Int) ≤ b := by omega
    have f1 : ¬ (b : Int) ≤ 122 := by omega
    have f2 : (65 : Int) ≤ b := by omega
    have f3 : ¬ (b : Int) ≤ 90 := by omega
    have f4 : (48 : Int) ≤ b := by omega
    have f5 : ¬ (b : Int) ≤ 57 := by omega
    have f6 : ((b : Int) == 45) = false := by simp; omega
    have f7 : ((b : Int) == 95) = false := by simp; omega
    clear h
    go_enter Tryz.func110, Tryz.ntmps110
    go_wp2
    go_ret
    exact ⟨rfl, rfl⟩
  · have ok : ob = true := by rw [hbo, h]; rfl
    clear hbo
    subst ok
    subst h
    go_enter Tryz.func110, Tryz.ntmps110
    go_wp2
    go_ret
    exact ⟨rfl, rfl⟩
  · have ok : ob = false := by rw [hbo]; simp; omega
    clear hbo
    subst ok
    have f0 : ¬ (97 : Int) ≤ b := by omega
    have f1 : (65 : Int) ≤ b := by omega
    have f2 : ¬ (b : Int) ≤ 90 := by omega
    have f3 : (48 : Int) ≤ b := by omega
    have f4 : ¬ (b : Int) ≤ 57 := by omega
    have f5 : ((b : Int) == 45) = false := by simp; omega
    have f6 : ((b : Int) == 95) = false := by simp; omega
    clear h
    go_enter Tryz.func110, Tryz.ntmps110
    go_wp2
    go_ret
    exact ⟨rfl, rfl⟩
  · have ok : ob = true := by rw [hbo]; simp; omega
    clear hbo
    subst ok
    have f0 : ¬ (97 : Int) ≤ b := by omega
    have f1 : (65 : Int) ≤ b := by omega
    have f2 : (b : Int) ≤ 90 := by omega
    clear h
    go_enter Tryz.func110, Tryz.ntmps110
    go_wp2
    go_ret
    exact ⟨rfl, rfl⟩
  · have ok : ob = false := by rw [hbo]; simp; omega
    clear hbo
    subst ok
    have f0 : ¬ (97 : Int) ≤ b := by omega
    have f1 : ¬ (65 : Int) ≤ b := by omega
    have f2 : (48 : Int) ≤ b := by omega
    have f3 : ¬ (b : Int) ≤ 57 := by omega
    have f4 : ((b : Int) == 45) = false := by simp; omega
    have f5 : ((b : Int) == 95) = false := by simp; omega
    clear h
    go_enter Tryz.func110, Tryz.ntmps110
    go_wp2
    go_ret
    exact ⟨rfl, rfl⟩
  · have ok : ob = true := by rw [hbo]; simp; omega
    clear hbo
    subst ok
    have f0 : ¬ (97 : Int) ≤ b := by omega
    have f1 : ¬ (65 : Int) ≤ b := by omega
    have f2 : (48 : Int) ≤ b := by omega
    have f3 : (b : Int) ≤ 57 := by omega
    clear h
    go_enter Tryz.func110, Tryz.ntmps110
    go_wp2
    go_ret
    exact ⟨rfl, rfl⟩
  · have ok : ob = true := by rw [hbo, h]; rfl
    clear hbo
    subst ok
    subst h
    go_enter Tryz.func110, Tryz.ntmps110
    go_wp2
    go_ret
    exact ⟨rfl, rfl⟩
  · have ok : ob = false := by rw [hbo]; simp; omega
    clear hbo
    subst ok
    have f0 : ¬ (97 : Int) ≤ b := by omega
    have f1 : ¬ (65 : Int) ≤ b := by omega
    have f2 : ¬ (48 : Int) ≤ b := by omega
    have f3 : ((b : Int) == 45) = false := by simp; omega
    have f4 : ((b : Int) == 95) = false := by simp; omega
    clear h
    go_enter Tryz.func110, Tryz.ntmps110
    go_wp2
    go_ret
    exact ⟨rfl, rfl⟩

set_option maxHeartbeats 2000000 in
set_option maxRecDepth 20000 in
theorem pname_any (s : ByteArray) (w : World) : Calls Tryz.prog 97 #[.string s] w fun e w' => e = .returned (.bool (okName s)) ∧ w = w' := by
  unfold okName
  by_cases h1 : s.size < 1
  · have e : decide (1 ≤ s.size) = false := decide_eq_false (by omega)
    rw [e]
    go_enter Tryz.func97, Tryz.ntmps97
    go_wp2
    go_ret
    exact ⟨rfl, rfl⟩
  by_cases h2 : 32 < s.size
  · have e : decide (s.size ≤ 32) = false := decide_eq_false (by omega)
    rw [e]
    have h1' : ¬ (s.size : Int) < 1 := by omega
    go_enter Tryz.func97, Tryz.ntmps97
    go_wp2
    go_ret
    exact ⟨by simp, rfl⟩
  have e1 : decide (1 ≤ s.size) = true := decide_eq_true (by omega)
  have e2 : decide (s.size ≤ 32) = true := decide_eq_true (by omega)
  rw [e1, e2, Bool.true_and, Bool.true_and]
  obtain ⟨q, hq⟩ : ∃ q, s.size = q := ⟨_, rfl⟩
  have h1' : ¬ (s.size : Int) < 1 := by omega
  have h2' : ¬ (32 : Int) < s.size := by omega
  go_enter Tryz.func97, Tryz.ntmps97
  go_wp2
  go_loopg [14] q (fun gk p wr => ∃ j : Nat, j + gk = q ∧ p = .int .i64 j ∧ w = wr ∧ s.data.toList.all okByte = (s.data.toList.drop j).all okByte)
  case atStart => exact ⟨0, by omega, rfl, rfl, by simp⟩
  case round =>
    obtain ⟨j, hj, rfl, rfl, hinv⟩ := hrel
    by_cases hlt : j < q
    · have hlt' : (j : Int) < q := by omega
      have hjs : j < s.size := by omega
      rw [drop_all hjs] at hinv
      have hsg := sign_any s[j] w
      obtain ⟨ob, hob⟩ : ∃ ob, okByte s[j] = ob := ⟨_, rfl⟩
      rw [hob] at hinv hsg
      have HI : Hid _ := hinv
      clear hinv hob
      go_wp2_with fail
      refine hsg.mono ?_
      rintro e w1 ⟨rfl, rfl⟩
      cases ob with
      | true =>
        have HJ : Hid (s.data.toList.all okByte = (s.data.toList.drop (j + 1)).all okByte) := show s.data.toList.all okByte = (s.data.toList.drop (j + 1)).all okByte by rw [HI.out, Bool.true_and]
        clear HI
        go_wp2
        go_roundg (q - (j + 1))
        case measure => omega
        case rel => exact ⟨j + 1, by omega, rfl, rfl, HJ.out⟩
      | false =>
        have HJ : Hid (s.data.toList.all okByte = false) := show s.data.toList.all okByte = false by rw [HI.out, Bool.false_and]
        clear HI
        go_wp2
        go_ret
        exact ⟨by rw [HJ.out]; rfl, rfl⟩
    · obtain rfl : j = q := by omega
      have HI : Hid (s.data.toList.all okByte = true) := show s.data.toList.all okByte = true by
        rw [hinv, List.drop_of_length_le (by simp; exact Nat.le_of_eq hq)]
        rfl
      clear hinv
      go_wp2
      go_ret
      exact ⟨by rw [HI.out]; rfl, rfl⟩

set_option maxRecDepth 20000 in
theorem pshares_any (n : Int) (w : World) : Calls Tryz.prog 98 #[.int .i64 n] w fun e w' => e = .returned (.bool (okSh n)) ∧ w = w' := by
  unfold okSh
  by_cases h1 : 1 ≤ n
  · by_cases h2 : n ≤ 4096
    · rw [decide_eq_true h1, decide_eq_true h2]
      go_enter Tryz.func98, Tryz.ntmps98
      go_wp2
      go_ret
      exact ⟨rfl, rfl⟩
    · rw [decide_eq_true h1, decide_eq_false h2]
      go_enter Tryz.func98, Tryz.ntmps98
      go_wp2
      go_ret
      exact ⟨rfl, rfl⟩
  · rw [decide_eq_false h1]
    go_enter Tryz.func98, Tryz.ntmps98
    go_wp2
    go_ret
    exact ⟨rfl, rfl⟩

def stepsI : Option Nat → Int × Bool
  | none => (0, false)
  | some d => (d, true)
set_option maxHeartbeats 1000000 in
set_option maxRecDepth 20000 in
theorem steps_any {w : World} {ao : Option Addr} {l : List Ac} {c : Nat} (hA : AcsAt w ao l) (hn : l.length * 48 ≤ 140737488355328) (hp : PaOk l) {n : Nat} (hnl : n < l.length) :
    Calls Tryz.prog 99 #[.slice ao l.length c, .int .i64 n] w fun e w' => e = .returned (.tuple #[.int .i64 (stepsI (depN l l.length n)).1, .bool (stepsI (depN l l.length n)).2]) ∧ w = w' := by
  obtain ⟨q, hq⟩ : ∃ q, l.length = q := ⟨_, rfl⟩
  obtain ⟨g, o, hg, hc⟩ := hA
  rw [hq] at hg hn hnl ⊢
  obtain rfl := hg (by omega)
  go_enter Tryz.func99, Tryz.ntmps99
  go_wp2
  go_loopg [1, 9] q (fun gk pn p wr => ∃ (j m : Nat), j + gk = q ∧ p = .int .i64 j ∧ pn = .int .i64 m ∧ m < q ∧ w = wr ∧ depN l q n = (depN l gk m).map (· + j))
  case atStart => exact ⟨0, n, by omega, rfl, rfl, hnl, rfl, by simp⟩
  case round =>
    obtain ⟨j, m, hj, rfl, rfl, hm, rfl, hinv⟩ := hrel
    by_cases hlt : j < q
    · have hlt' : (j : Int) < q := by omega
      obtain ⟨f, rfl⟩ : ∃ f, gk = f + 1 := ⟨gk - 1, by omega⟩
      rw [show depN l (f + 1) m = if m = 0 then some 0 else (depN l f (up l m)).map (· + 1) from rfl] at hinv
      by_cases e0 : m = 0
      · subst e0
        simp at hinv
        have HE : Hid _ := hinv
        clear hinv hc
        go_wp2
        go_ret2
        exact ⟨by rw [HE.out]; rfl, rfl⟩
      · rw [if_neg e0] at hinv
        obtain ⟨a, ha⟩ : ∃ a, l[m]? = some a := ⟨_, List.getElem?_eq_getElem (by omega)⟩
        obtain ⟨p0, p1⟩ := hp m a ha (by omega)
        obtain ⟨pn, hpn⟩ : ∃ pn : Nat, a.pa = pn := ⟨a.pa.toNat, by omega⟩
        have hup : up l m = pn := by rw [up_of ha, hpn]; simp
        rw [hup] at hinv
        have d1 := (hc m a ha).pa
        rw [hpn] at d1 p1
        rw [hq] at p1
        have HE : Hid (depN l q n = (depN l f pn).map (· + (j + 1))) := show depN l q n = (depN l f pn).map (· + (j + 1)) by
          rw [hinv]
          cases depN l f pn with
          | none => rfl
          | some k => simp; omega
        have e0' : ¬ (m : Int) = 0 := by omega
        have hm' : (m : Int) < q := by omega
        clear hinv hc ha hpn hup
        go_wp2
        go_roundg f
        case measure => omega
        case rel => exact ⟨j + 1, pn, by omega, rfl, rfl, by omega, rfl, HE.out⟩
    · have hlt' : ¬ (j : Int) < q := by omega
      obtain rfl : gk = 0 := by omega
      have HE : Hid (depN l q n = none) := show depN l q n = none by rw [hinv]; rfl
      clear hinv hc
      go_wp2
      go_ret2
      exact ⟨by rw [HE.out]; rfl, rfl⟩
end Go.Proofs.YtioldijdmefljaaGreatDoor
