/-
  Package verbs: names.
-/
import Derived.Test.YtokpcpmkilikaaaDoorRvB
namespace Go.Proofs.YtokpcpmkilikaaaDoor
open Go.RowKit Vb

set_option maxHeartbeats 2000000 in
set_option maxRecDepth 20000 in
theorem sign_any (c : UInt8) (w : World) : Calls Tryd.prog 26 #[.int .u8 c.toNat] w fun e w' => e = .returned (.bool (okByte c)) ∧ w = w' := by
  obtain ⟨b, hb⟩ : ∃ b, c.toNat = b := ⟨_, rfl⟩
  obtain ⟨ob, hob⟩ : ∃ ob, okByte c = ob := ⟨_, rfl⟩
  have hbo : ob = ((decide (97 ≤ b) && decide (b ≤ 122)) || (decide (65 ≤ b) && decide (b ≤ 90)) || (decide (48 ≤ b) && decide (b ≤ 57)) || b == 45 || b == 95) := by rw [← hob, ← hb]; rfl
  rw [hb, hob]
  clear hb hob
  have hc : (97 ≤ b ∧ b ≤ 122) ∨ (122 < b) ∨ (b = 95) ∨ (91 ≤ b ∧ b ≤ 96 ∧ b ≠ 95) ∨ (65 ≤ b ∧ b ≤ 90) ∨ (58 ≤ b ∧ b ≤ 64) ∨ (48 ≤ b ∧ b ≤ 57) ∨ (b = 45) ∨ (b < 48 ∧ b ≠ 45) := by omega
  rcases hc with h | h | h | h | h | h | h | h | h
  · have ok : ob = true := by rw [hbo]; simp; omega
    clear hbo
    subst ok
    have f0 : (97 : Int) ≤ b := by omega
    have f1 : (b : Int) ≤ 122 := by omega
    clear h
    go_enter Tryd.func26, Tryd.ntmps26
    go_wp2
    go_ret
    exact ⟨rfl, rfl⟩
  · have ok : ob = false := by rw [hbo]; simp; omega
    clear hbo
    subst ok
    have f0 : (97 : Int) ≤ b := by omega
    have f1 : ¬ (b : Int) ≤ 122 := by omega
    have f2 : (65 : Int) ≤ b := by omega
    have f3 : ¬ (b : Int) ≤ 90 := by omega
    have f4 : (48 : Int) ≤ b := by omega
    have f5 : ¬ (b : Int) ≤ 57 := by omega
    have f6 : ((b : Int) == 45) = false := by simp; omega
    have f7 : ((b : Int) == 95) = false := by simp; omega
    clear h
    go_enter Tryd.func26, Tryd.ntmps26
    go_wp2
    go_ret
    exact ⟨rfl, rfl⟩
  · have ok : ob = true := by rw [hbo, h]; rfl
    clear hbo
    subst ok
    subst h
    go_enter Tryd.func26, Tryd.ntmps26
    go_wp2
    go_ret
    exact ⟨rfl, rfl⟩
  · have ok : ob = false := by rw [hbo]; simp; omega
    clear hbo
    subst ok
    have f0 : ¬ (97 : Int) ≤ b := by omega
    have f1 : (65 : Int) ≤ b := by omega
    have f2 : ¬ (b : Int) ≤ 90 := by omega
    have f3 : (48 : Int) ≤ b := by omega
    have f4 : ¬ (b : Int) ≤ 57 := by omega
    have f5 : ((b : Int) == 45) = false := by simp; omega
    have f6 : ((b : Int) == 95) = false := by simp; omega
    clear h
    go_enter Tryd.func26, Tryd.ntmps26
    go_wp2
    go_ret
    exact ⟨rfl, rfl⟩
  · have ok : ob = true := by rw [hbo]; simp; omega
    clear hbo
    subst ok
    have f0 : ¬ (97 : Int) ≤ b := by omega
    have f1 : (65 : Int) ≤ b := by omega
    have f2 : (b : Int) ≤ 90 := by omega
    clear h
    go_enter Tryd.func26, Tryd.ntmps26
    go_wp2
    go_ret
    exact ⟨rfl, rfl⟩
  · have ok : ob = false := by rw [hbo]; simp; omega
    clear hbo
    subst ok
    have f0 : ¬ (97 : Int) ≤ b := by omega
    have f1 : ¬ (65 : Int) ≤ b := by omega
    have f2 : (48 : Int) ≤ b := by omega
    have f3 : ¬ (b : Int) ≤ 57 := by omega
    have f4 : ((b : Int) == 45) = false := by simp; omega
    have f5 : ((b : Int) == 95) = false := by simp; omega
    clear h
    go_enter Tryd.func26, Tryd.ntmps26
    go_wp2
    go_ret
    exact ⟨rfl, rfl⟩
  · have ok : ob = true := by rw [hbo]; simp; omega
    clear hbo
    subst ok
    have f0 : ¬ (97 : Int) ≤ b := by omega
    have f1 : ¬ (65 : Int) ≤ b := by omega
    have f2 : (48 : Int) ≤ b := by omega
    have f3 : (b : Int) ≤ 57 := by omega
    clear h
    go_enter Tryd.func26, Tryd.ntmps26
    go_wp2
    go_ret
    exact ⟨rfl, rfl⟩
  · have ok : ob = true := by rw [hbo, h]; rfl
    clear hbo
    subst ok
    subst h
    go_enter Tryd.func26, Tryd.ntmps26
    go_wp2
    go_ret
    exact ⟨rfl, rfl⟩
  · have ok : ob = false := by rw [hbo]; simp; omega
    clear hbo
    subst ok
    have f0 : ¬ (97 : Int) ≤ b := by omega
    have f1 : ¬ (65 : Int) ≤ b := by omega
    have f2 : ¬ (48 : Int) ≤ b := by omega
    have f3 : ((b : Int) == 45) = false := by simp; omega
    have f4 : ((b : Int) == 95) = false := by simp; omega
    clear h
    go_enter Tryd.func26, Tryd.ntmps26
    go_wp2
    go_ret
    exact ⟨rfl, rfl⟩

set_option maxHeartbeats 2000000 in
set_option maxRecDepth 20000 in
theorem pname_any (s : ByteArray) (w : World) : Calls Tryd.prog 10 #[.string s] w fun e w' => e = .returned (.bool (okName s)) ∧ w = w' := by
  unfold okName
  by_cases h1 : s.size < 1
  · have e : decide (1 ≤ s.size) = false := decide_eq_false (by omega)
    rw [e]
    go_enter Tryd.func10, Tryd.ntmps10
    go_wp2
    go_ret
    exact ⟨rfl, rfl⟩
  by_cases h2 : 32 < s.size
  · have e : decide (s.size ≤ 32) = false := decide_eq_false (by omega)
    rw [e]
    have h1' : ¬ (s.size : Int) < 1 := by omega
    go_enter Tryd.func10, Tryd.ntmps10
    go_wp2
    go_ret
    exact ⟨by simp, rfl⟩
  have e1 : decide (1 ≤ s.size) = true := decide_eq_true (by omega)
  have e2 : decide (s.size ≤ 32) = true := decide_eq_true (by omega)
  rw [e1, e2, Bool.true_and, Bool.true_and]
  obtain ⟨q, hq⟩ : ∃ q, s.size = q := ⟨_, rfl⟩
  have h1' : ¬ (s.size : Int) < 1 := by omega
  have h2' : ¬ (32 : Int) < s.size := by omega
  go_enter Tryd.func10, Tryd.ntmps10
  go_wp2
  go_loopg [14] q (fun gk p wr => ∃ j : Nat, j + gk = q ∧ p = .int .i64 j ∧ w = wr ∧ s.data.toList.all okByte = (s.data.toList.drop j).all okByte)
  case atStart => exact ⟨0, by omega, rfl, rfl, by simp⟩
  case round =>
    obtain ⟨j, hj, rfl, rfl, hinv⟩ := hrel
    by_cases hlt : j < q
    · have hlt' : (j : Int) < q := by omega
      have hjs : j < s.size := by omega
      rw [drop_all hjs] at hinv
      have hsg := sign_any s[j] w
      obtain ⟨ob, hob⟩ : ∃ ob, okByte s[j] = ob := ⟨_, rfl⟩
      rw [hob] at hinv hsg
      have HI : Hid _ := hinv
      clear hinv hob
      go_wp2_with fail
      refine hsg.mono ?_
      rintro e w1 ⟨rfl, rfl⟩
      cases ob with
      | true =>
        have HJ : Hid (s.data.toList.all okByte = (s.data.toList.drop (j + 1)).all okByte) := show s.data.toList.all okByte = (s.data.toList.drop (j + 1)).all okByte by rw [HI.out, Bool.true_and]
        clear HI
        go_wp2
        go_roundg (q - (j + 1))
        case measure => omega
        case rel => exact ⟨j + 1, by omega, rfl, rfl, HJ.out⟩
      | false =>
        have HJ : Hid (s.data.toList.all okByte = false) := show s.data.toList.all okByte = false by rw [HI.out, Bool.false_and]
        clear HI
        go_wp2
        go_ret
        exact ⟨by rw [HJ.out]; rfl, rfl⟩
    · obtain rfl : j = q := by omega
      have HI : Hid (s.data.toList.all okByte = true) := show s.data.toList.all okByte = true by
        rw [hinv, List.drop_of_length_le (by simp; exact Nat.le_of_eq hq)]
        rfl
      clear hinv
      go_wp2
      go_ret
      exact ⟨by rw [HI.out]; rfl, rfl⟩

theorem pvalid_any (s : Bs) (w : World) : Calls Tryd.prog 10 #[.string (str s)] w fun e w' => e = .returned (.bool (validV s)) ∧ w = w' := by
  rw [← ok_valid]
  exact pname_any (str s) w
end Go.Proofs.YtokpcpmkilikaaaDoor
