/-
  Layer 8's reference: number.
-/
import Derived.Test.YtokpcpmkilikaaaDoorRvB
namespace Go.Proofs.YtokpcpmkilikaaaDoor
open Go.RowKit Vb

def numA (o : Option Nat) : Value := .tuple #[.int .i64 ((o.getD 0 : Nat) : Int), .bool o.isSome]
theorem drop_num {s : ByteArray} {j n : Nat} (h : j < s.size) : numFrom n (s.data.toList.drop j) = if dig s[j] = true then (if (9223372036854775807 - dv s[j]) / 10 < n then none else numFrom (10 * n + dv s[j]) (s.data.toList.drop (j + 1))) else none := by
  have hj : j < s.data.toList.length := by simpa using h
  rw [List.drop_eq_getElem_cons hj]
  rfl
theorem head_ba {s : ByteArray} (h : 0 < s.size) : s.data.toList.head? = some s[0] := by
  have hj : 0 < s.data.toList.length := by simpa using h
  rw [List.head?_eq_getElem?, List.getElem?_eq_getElem hj]
  rfl
set_option maxHeartbeats 2000000 in
theorem number_ba (s : ByteArray) (w : World) : Calls Tryd.prog 24 #[.string s] w fun e w' => e = .returned (numA (numV s.data.toList)) ∧ w' = w := by
  have hsz := Lib.size_eq s
  unfold numV
  by_cases h1 : s.size < 1
  · rw [if_pos (.inl (by omega))]
    clear hsz
    go_enter Tryd.func24, Tryd.ntmps24
    go_wp2
    go_ret2
    exact ⟨rfl, rfl⟩
  by_cases h2 : 19 < s.size
  · rw [if_pos (.inr (.inl (by omega)))]
    clear hsz
    have h1' : ¬ (s.size : Int) < 1 := by omega
    go_enter Tryd.func24, Tryd.ntmps24
    go_wp2
    go_ret2
    exact ⟨rfl, rfl⟩
  have h1' : ¬ (s.size : Int) < 1 := by omega
  have h2' : ¬ (19 : Int) < s.size := by omega
  have hp : 0 < s.size := by omega
  have hh := head_ba hp
  by_cases h3 : 1 < s.size ∧ s[0] = 48
  · rw [if_pos (.inr (.inr ⟨by omega, by rw [hh, h3.2]⟩))]
    obtain ⟨h3, h4⟩ := h3
    have h4' : (s[0].toNat : Int) = 48 := by rw [h4]; rfl
    have h3' : (1 : Int) < s.size := by omega
    clear hsz hh
    go_enter Tryd.func24, Tryd.ntmps24
    go_wp2
    go_ret2
    exact ⟨rfl, rfl⟩
  · rw [if_neg (by rw [hh]; rw [← hsz]; intro hc; rcases hc with hc | hc | ⟨hc, hd⟩ <;> first | omega | exact h3 ⟨hc, Option.some.inj hd⟩)]
    obtain ⟨q, hq⟩ : ∃ q, s.size = q := ⟨_, rfl⟩
    have hcase : (¬ (1 : Int) < s.size) ∨ ((1 : Int) < s.size ∧ ((s[0].toNat : Int) == 48) = false) := by
      by_cases hc : 1 < s.size
      · refine .inr ⟨by omega, ?_⟩
        exact byte_ne (n := 48) (fun e => h3 ⟨hc, e⟩)
      · exact .inl (by omega)
    have HSZ : Hid _ := hsz
    clear h3 hh hsz
    rcases hcase with hc | ⟨hc, hc'⟩
    · skip
      go_enter Tryd.func24, Tryd.ntmps24
      go_wp2
      go_loopg [4, 5] q (fun gk m p wr => ∃ j n : Nat, j + gk = q ∧ p = .int .i64 j ∧ m = .int .i64 n ∧ n ≤ 9223372036854775807 ∧ wr = w ∧ numFrom 0 s.data.toList = numFrom n (s.data.toList.drop j))
      case atStart => exact ⟨0, 0, by omega, rfl, rfl, by omega, rfl, by simp⟩
      case round =>
        obtain ⟨j, n, hj, rfl, rfl, hn, rfl, hinv⟩ := hrel
        by_cases hlt : j < q
        · have hlt' : (j : Int) < q := by omega
          have hjs : j < s.size := by omega
          rw [drop_num hjs] at hinv
          obtain ⟨b, hb⟩ : ∃ b, s[j].toNat = b := ⟨_, rfl⟩
          have hdv : dv s[j] = b - 48 := by unfold dv; rw [hb]
          have hdg : dig s[j] = (decide (48 ≤ b) && decide (b ≤ 57)) := by unfold dig; rw [hb]
          rw [hdv, hdg] at hinv
          clear hdv hdg
          by_cases g1 : b < 48
          · have HI : Hid (numFrom 0 s.data.toList = none) := by
              rw [hinv, if_neg (by simp; omega)]; exact rfl
            have g1' : (b : Int) < 48 := by omega
            clear hinv
            go_wp2
            go_ret2
            exact ⟨by rw [HI.out]; rfl, rfl⟩
          · by_cases g2 : 57 < b
            · have HI : Hid (numFrom 0 s.data.toList = none) := by
                rw [hinv, if_neg (by simp; omega)]; exact rfl
              have g1' : ¬ (b : Int) < 48 := by omega
              have g2' : (57 : Int) < b := by omega
              clear hinv
              go_wp2
              go_ret2
              exact ⟨by rw [HI.out]; rfl, rfl⟩
            · rw [if_pos (by simp; omega)] at hinv
              have g1' : ¬ (b : Int) < 48 := by omega
              have g2' : ¬ (57 : Int) < b := by omega
              have g0 : (48 : Int) ≤ b := by omega
              by_cases g3 : (9223372036854775807 - (b - 48)) / 10 < n
              · rw [if_pos g3] at hinv
                have HI : Hid _ := hinv
                have g3' : (9223372036854775807 - ((b : Int) - 48)) / 10 < n := by omega
                clear hinv g3
                go_wp2
                go_ret2
                exact ⟨by rw [HI.out]; rfl, rfl⟩
              · rw [if_neg g3] at hinv
                have HI : Hid _ := hinv
                have g3' : ¬ (9223372036854775807 - ((b : Int) - 48)) / 10 < n := by omega
                have g4 : 10 * n + (b - 48) ≤ 9223372036854775807 := by omega
                have HG : Hid _ := g4
                have g5 : 10 * (n : Int) ≤ 9223372036854775807 := by omega
                have g6 : 10 * (n : Int) + ((b : Int) - 48) ≤ 9223372036854775807 := by omega
                clear hinv g3 g4
                go_wp2
                go_roundg (q - (j + 1))
                case measure => omega
                case rel => exact ⟨j + 1, 10 * n + (b - 48), by omega, by go_num, by go_num, HG.out, rfl, HI.out⟩
        · obtain rfl : j = q := by omega
          have HI : Hid (numFrom 0 s.data.toList = some n) := by
            rw [hinv, List.drop_of_length_le (by rw [← HSZ.out]; omega)]; exact rfl
          clear hinv HSZ
          go_wp2
          go_ret2
          exact ⟨by rw [HI.out]; rfl, rfl⟩
    · skip
      go_enter Tryd.func24, Tryd.ntmps24
      go_wp2
      go_loopg [4, 5] q (fun gk m p wr => ∃ j n : Nat, j + gk = q ∧ p = .int .i64 j ∧ m = .int .i64 n ∧ n ≤ 9223372036854775807 ∧ wr = w ∧ numFrom 0 s.data.toList = numFrom n (s.data.toList.drop j))
      case atStart => exact ⟨0, 0, by omega, rfl, rfl, by omega, rfl, by simp⟩
      case round =>
        obtain ⟨j, n, hj, rfl, rfl, hn, rfl, hinv⟩ := hrel
        by_cases hlt : j < q
        · have hlt' : (j : Int) < q := by omega
          have hjs : j < s.size := by omega
          rw [drop_num hjs] at hinv
          obtain ⟨b, hb⟩ : ∃ b, s[j].toNat = b := ⟨_, rfl⟩
          have hdv : dv s[j] = b - 48 := by unfold dv; rw [hb]
          have hdg : dig s[j] = (decide (48 ≤ b) && decide (b ≤ 57)) := by unfold dig; rw [hb]
          rw [hdv, hdg] at hinv
          clear hdv hdg
          by_cases g1 : b < 48
          · have HI : Hid (numFrom 0 s.data.toList = none) := by
              rw [hinv, if_neg (by simp; omega)]; exact rfl
            have g1' : (b : Int) < 48 := by omega
            clear hinv
            go_wp2
            go_ret2
            exact ⟨by rw [HI.out]; rfl, rfl⟩
          · by_cases g2 : 57 < b
            · have HI : Hid (numFrom 0 s.data.toList = none) := by
                rw [hinv, if_neg (by simp; omega)]; exact rfl
              have g1' : ¬ (b : Int) < 48 := by omega
              have g2' : (57 : Int) < b := by omega
              clear hinv
              go_wp2
              go_ret2
              exact ⟨by rw [HI.out]; rfl, rfl⟩
            · rw [if_pos (by simp; omega)] at hinv
              have g1' : ¬ (b : Int) < 48 := by omega
              have g2' : ¬ (57 : Int) < b := by omega
              have g0 : (48 : Int) ≤ b := by omega
              by_cases g3 : (9223372036854775807 - (b - 48)) / 10 < n
              · rw [if_pos g3] at hinv
                have HI : Hid _ := hinv
                have g3' : (9223372036854775807 - ((b : Int) - 48)) / 10 < n := by omega
                clear hinv g3
                go_wp2
                go_ret2
                exact ⟨by rw [HI.out]; rfl, rfl⟩
              · rw [if_neg g3] at hinv
                have HI : Hid _ := hinv
                have g3' : ¬ (9223372036854775807 - ((b : Int) - 48)) / 10 < n := by omega
                have g4 : 10 * n + (b - 48) ≤ 9223372036854775807 := by omega
                have HG : Hid _ := g4
                have g5 : 10 * (n : Int) ≤ 9223372036854775807 := by omega
                have g6 : 10 * (n : Int) + ((b : Int) - 48) ≤ 9223372036854775807 := by omega
                clear hinv g3 g4
                go_wp2
                go_roundg (q - (j + 1))
                case measure => omega
                case rel => exact ⟨j + 1, 10 * n + (b - 48), by omega, by go_num, by go_num, HG.out, rfl, HI.out⟩
        · obtain rfl : j = q := by omega
          have HI : Hid (numFrom 0 s.data.toList = some n) := by
            rw [hinv, List.drop_of_length_le (by rw [← HSZ.out]; omega)]; exact rfl
          clear hinv HSZ
          go_wp2
          go_ret2
          exact ⟨by rw [HI.out]; rfl, rfl⟩
end Go.Proofs.YtokpcpmkilikaaaDoor
