/-
  Layer 6's reference: Name, Len, Find, Depth, Get.
-/
import Derived.Test.YthkahbjcncbcfaaRfB
import Derived.Deep.CutBlock
import Derived.Deep.DeepCutAuto
namespace Go.Proofs.Ythkahbjcncbcfaa
open Go.RowKit Tr

theorem len_any {w : World} {d : Nat} {l : List Ac} (hT : RefT w d l) :
    Calls Try.prog 43 #[.pointer (some ⟨d, 0, none⟩)] w fun e w' => e = .returned (.int .i64 l.length) ∧ Below w.heap.size w w' := by
  obtain ⟨ao, c, h1, h2, _⟩ := hT
  have c0 : w.cell? ⟨d, 0, none⟩ = some (.slice ao l.length c) := cells_at h1 rfl
  clear h1 h2
  go_enter Try.func43, Try.ntmps43
  go_wp2
  go_ret
  exact ⟨rfl, Below.refl _ _⟩
def findA (o : Option Nat) : Value := .tuple #[.int .i64 (o.getD 0), .bool o.isSome]
set_option maxHeartbeats 1000000 in
theorem rfind_any {w : World} {d : Nat} {l : List Ac} (hT : RefT w d l) (hn : l.length * 48 ≤ 140737488355328) (s : ByteArray) :
    Calls Try.prog 42 #[.pointer (some ⟨d, 0, none⟩), .string s] w fun e w' => e = .returned (findA (findV l s)) ∧ Below w.heap.size w w' := by
  obtain ⟨ao, c, h1, h2, _⟩ := hT
  have c0 : w.cell? ⟨d, 0, none⟩ = some (.slice ao l.length c) := cells_at h1 rfl
  have hf := find_any (c := c) h2 hn s
  clear h1
  cases hk : findV l s with
  | none =>
    rw [hk] at hf
    go_enter Try.func42, Try.ntmps42
    go_wp2_with fail
    refine hf.mono ?_
    rintro e w1 ⟨rfl, b1⟩
    unfold findI
    go_wp2
    go_ret2
    exact ⟨rfl, b1⟩
  | some k =>
    rw [hk] at hf
    have k1 : ¬ (k : Int) < 0 := by omega
    go_enter Try.func42, Try.ntmps42
    go_wp2_with fail
    refine hf.mono ?_
    rintro e w1 ⟨rfl, b1⟩
    unfold findI
    go_wp2
    go_ret2
    exact ⟨rfl, b1⟩
def depZ (l : List Ac) (n : Int) : Int := if thereB l n then findI (depthV l n.toNat) else -1
set_option maxHeartbeats 1000000 in
theorem rdepth_any {w : World} {d : Nat} {l : List Ac} (hT : RefT w d l) (hn : l.length * 48 ≤ 140737488355328) (hp : PaOk l) (n : Int) :
    Calls Try.prog 47 #[.pointer (some ⟨d, 0, none⟩), .int .i64 n] w fun e w' => e = .returned (.int .i64 (depZ l n)) ∧ Below w.heap.size w w' := by
  have ht := there_any hT n
  unfold depZ
  cases hb : thereB l n with
  | false =>
    rw [hb] at ht
    go_enter Try.func47, Try.ntmps47
    go_wp2_with fail
    refine ht.mono ?_
    rintro e w1 ⟨rfl, b1⟩
    go_wp2
    go_ret
    exact ⟨rfl, b1⟩
  | true =>
    rw [hb] at ht
    obtain ⟨h0, h1⟩ : 0 ≤ n ∧ n < l.length := by simpa [thereB] using hb
    obtain ⟨m, rfl⟩ : ∃ m : Nat, n = m := ⟨n.toNat, by omega⟩
    simp only [if_true, Int.toNat_natCast]
    go_enter Try.func47, Try.ntmps47
    go_wp2_with fail
    refine ht.mono ?_
    rintro e w1 ⟨rfl, b1⟩
    obtain ⟨ao, c, g1, g2, _⟩ := hT.below b1
    have c0 : w1.cell? ⟨d, 0, none⟩ = some (.slice ao l.length c) := cells_at g1 rfl
    have hd := depth_any (c := c) g2 hn hp (n := m) (by omega)
    clear g1
    go_wp2_with fail
    refine hd.mono ?_
    rintro e w2 ⟨rfl, b2⟩
    go_wp2
    go_ret
    exact ⟨rfl, b1.trans (b2.mono b1.size)⟩

theorem drop_all {s : ByteArray} {j : Nat} (h : j < s.size) : (s.data.toList.drop j).all okByte = (okByte s[j] && (s.data.toList.drop (j + 1)).all okByte) := by
  have hj : j < s.data.toList.length := by simpa using h
  rw [List.drop_eq_getElem_cons hj, List.all_cons]
  rfl
set_option maxHeartbeats 2000000 in
theorem name_any (s : ByteArray) (w : World) : Calls Try.prog 61 #[.string s] w fun e w' => e = .returned (.bool (okName s)) ∧ Below w.heap.size w w' := by
  unfold okName
  by_cases h1 : s.size < 1
  · have e : decide (1 ≤ s.size) = false := decide_eq_false (by omega)
    rw [e]
    go_enter Try.func61, Try.ntmps61
    go_wp2
    go_ret
    exact ⟨rfl, Below.refl _ _⟩
  by_cases h2 : 32 < s.size
  · have e : decide (s.size ≤ 32) = false := decide_eq_false (by omega)
    rw [e]
    have h1' : ¬ (s.size : Int) < 1 := by omega
    go_enter Try.func61, Try.ntmps61
    go_wp2
    go_ret
    exact ⟨by simp, Below.refl _ _⟩
  have e1 : decide (1 ≤ s.size) = true := decide_eq_true (by omega)
  have e2 : decide (s.size ≤ 32) = true := decide_eq_true (by omega)
  rw [e1, e2, Bool.true_and, Bool.true_and]
  obtain ⟨q, hq⟩ : ∃ q, s.size = q := ⟨_, rfl⟩
  have h1' : ¬ (s.size : Int) < 1 := by omega
  have h2' : ¬ (32 : Int) < s.size := by omega
  go_enter Try.func61, Try.ntmps61
  go_wp2
  go_loopg [15] q (fun gk p wr => ∃ j : Nat, j + gk = q ∧ p = .int .i64 j ∧ w = wr ∧ s.data.toList.all okByte = (s.data.toList.drop j).all okByte)
  case atStart => exact ⟨0, by omega, rfl, rfl, by simp⟩
  case round =>
    obtain ⟨j, hj, rfl, rfl, hinv⟩ := hrel
    by_cases hlt : j < q
    · have hlt' : (j : Int) < q := by omega
      have hjs : j < s.size := by omega
      rw [drop_all hjs] at hinv
      have HI : Hid _ := hinv
      clear hinv
      go_upto_region 7 with fail
      obtain ⟨b, hb⟩ : ∃ b, s[j].toNat = b := ⟨_, rfl⟩
      obtain ⟨ob, hob⟩ : ∃ ob, okByte s[j] = ob := ⟨_, rfl⟩
      have hbo : ob = ((decide (97 ≤ b) && decide (b ≤ 122)) || (decide (65 ≤ b) && decide (b ≤ 90)) || (decide (48 ≤ b) && decide (b ≤ 57)) || b == 45 || b == 95) := by rw [← hob, ← hb]; rfl
      rw [hb]
      rw [hob] at HI
      clear hb hob
      go_cut [51] (fun t wc => t = .bool (!ob) ∧ w = wc)
      case first =>
        have hc : (97 ≤ b ∧ b ≤ 122) ∨ (122 < b) ∨ (b = 95) ∨ (91 ≤ b ∧ b ≤ 96 ∧ b ≠ 95) ∨ (65 ≤ b ∧ b ≤ 90) ∨ (58 ≤ b ∧ b ≤ 64) ∨ (48 ≤ b ∧ b ≤ 57) ∨ (b = 45) ∨ (b < 48 ∧ b ≠ 45) := by omega
        rcases hc with h | h | h | h | h | h | h | h | h
        · have ok : ob = true := by rw [hbo]; simp; omega
          clear hbo
          subst ok
          have f0 : (97 : Int) ≤ b := by omega
          have f1 : (b : Int) ≤ 122 := by omega
          clear h
          go_wp2
          go_meet
          first | exact ⟨rfl, rfl⟩ | exact ⟨by simp; omega, rfl⟩
        · have ok : ob = false := by rw [hbo]; simp; omega
          clear hbo
          subst ok
          have f0 : (97 : Int) ≤ b := by omega
          have f1 : ¬ (b : Int) ≤ 122 := by omega
          have f2 : (65 : Int) ≤ b := by omega
          have f3 : ¬ (b : Int) ≤ 90 := by omega
          have f4 : (48 : Int) ≤ b := by omega
          have f5 : ¬ (b : Int) ≤ 57 := by omega
          have f6 : ¬ (b : Int) = 45 := by omega
          have f7 : ¬ (b : Int) = 95 := by omega
          clear h
          go_wp2
          go_meet
          first | exact ⟨rfl, rfl⟩ | exact ⟨by simp; omega, rfl⟩
        · have ok : ob = true := by rw [hbo, h]; rfl
          clear hbo
          subst ok
          subst h
          go_wp2
          go_meet
          first | exact ⟨rfl, rfl⟩ | exact ⟨by simp; omega, rfl⟩
        · have ok : ob = false := by rw [hbo]; simp; omega
          clear hbo
          subst ok
          have f0 : ¬ (97 : Int) ≤ b := by omega
          have f1 : (65 : Int) ≤ b := by omega
          have f2 : ¬ (b : Int) ≤ 90 := by omega
          have f3 : (48 : Int) ≤ b := by omega
          have f4 : ¬ (b : Int) ≤ 57 := by omega
          have f5 : ¬ (b : Int) = 45 := by omega
          have f6 : ¬ (b : Int) = 95 := by omega
          clear h
          go_wp2
          go_meet
          first | exact ⟨rfl, rfl⟩ | exact ⟨by simp; omega, rfl⟩
        · have ok : ob = true := by rw [hbo]; simp; omega
          clear hbo
          subst ok
          have f0 : ¬ (97 : Int) ≤ b := by omega
          have f1 : (65 : Int) ≤ b := by omega
          have f2 : (b : Int) ≤ 90 := by omega
          clear h
          go_wp2
          go_meet
          first | exact ⟨rfl, rfl⟩ | exact ⟨by simp; omega, rfl⟩
        · have ok : ob = false := by rw [hbo]; simp; omega
          clear hbo
          subst ok
          have f0 : ¬ (97 : Int) ≤ b := by omega
          have f1 : ¬ (65 : Int) ≤ b := by omega
          have f2 : (48 : Int) ≤ b := by omega
          have f3 : ¬ (b : Int) ≤ 57 := by omega
          have f4 : ¬ (b : Int) = 45 := by omega
          have f5 : ¬ (b : Int) = 95 := by omega
          clear h
          go_wp2
          go_meet
          first | exact ⟨rfl, rfl⟩ | exact ⟨by simp; omega, rfl⟩
        · have ok : ob = true := by rw [hbo]; simp; omega
          clear hbo
          subst ok
          have f0 : ¬ (97 : Int) ≤ b := by omega
          have f1 : ¬ (65 : Int) ≤ b := by omega
          have f2 : (48 : Int) ≤ b := by omega
          have f3 : (b : Int) ≤ 57 := by omega
          clear h
          go_wp2
          go_meet
          first | exact ⟨rfl, rfl⟩ | exact ⟨by simp; omega, rfl⟩
        · have ok : ob = true := by rw [hbo, h]; rfl
          clear hbo
          subst ok
          subst h
          go_wp2
          go_meet
          first | exact ⟨rfl, rfl⟩ | exact ⟨by simp; omega, rfl⟩
        · have ok : ob = false := by rw [hbo]; simp; omega
          clear hbo
          subst ok
          have f0 : ¬ (97 : Int) ≤ b := by omega
          have f1 : ¬ (65 : Int) ≤ b := by omega
          have f2 : ¬ (48 : Int) ≤ b := by omega
          have f3 : ¬ (b : Int) = 45 := by omega
          have f4 : ¬ (b : Int) = 95 := by omega
          clear h
          go_wp2
          go_meet
          first | exact ⟨rfl, rfl⟩ | exact ⟨by simp; omega, rfl⟩
      case rest =>
        obtain ⟨rfl, rfl⟩ := hcut
        clear hbo
        cases ob with
        | true =>
          have HJ : Hid (s.data.toList.all okByte = (s.data.toList.drop (j + 1)).all okByte) := show s.data.toList.all okByte = (s.data.toList.drop (j + 1)).all okByte by rw [HI.out, Bool.true_and]
          clear HI
          go_wp2
          go_roundg (q - (j + 1))
          case measure => omega
          case rel => exact ⟨j + 1, by omega, rfl, rfl, HJ.out⟩
        | false =>
          have HJ : Hid (s.data.toList.all okByte = false) := show s.data.toList.all okByte = false by rw [HI.out, Bool.false_and]
          clear HI
          go_wp2
          go_ret
          exact ⟨by rw [HJ.out]; rfl, Below.refl _ _⟩
    · obtain rfl : j = q := by omega
      have HI : Hid (s.data.toList.all okByte = true) := show s.data.toList.all okByte = true by
        rw [hinv, List.drop_of_length_le (by simp; exact Nat.le_of_eq hq)]
        rfl
      clear hinv
      go_wp2
      go_ret
      exact ⟨by rw [HI.out]; rfl, Below.refl _ _⟩
end Go.Proofs.Ythkahbjcncbcfaa
