/-
  Layer 8's reference: digits.
-/
import Derived.Test.YtokpcpmkilikaaaDoorRvC
import Derived.Laws.BytesArg
namespace Go.Proofs.YtokpcpmkilikaaaDoor
open Go.RowKit Vb

theorem str_append (a b : Bs) : str a ++ str b = str (a ++ b) := by
  unfold str
  apply ByteArray.ext
  simp
def bt (v : Int) : UInt8 := UInt8.ofNat v.toNat
/-- One byte as a text. -/
theorem conv_one (w : World) (v : Int) : (convert 63 9 (.slice (some ⟨w.heap.size, 0, none⟩) 1 1)).run Tryd.prog (w.alloc (.cells #[.int .u8 v] 5)) = .ok (.string (str [bt v])) (w.alloc (.cells #[.int .u8 v] 5)) := by
  refine run_convert_bytes_arg (P := Tryd.prog) _ 63 5 Tryd.underlying63 Tryd.underlying5 _ 0 1 1 [v] rfl ?_ 9 Tryd.underlying9
  intro i hi
  obtain rfl : i = 0 := by omega
  simp [go_sem]
def preV (m : Nat) : Bs := if m < 10 then [] else digV (m / 10)
theorem pre_digit (m : Nat) : digV m = preV m ++ [digB (m % 10)] := by
  unfold preV
  by_cases h : m < 10
  · rw [if_pos h, digV_small h, Nat.mod_eq_of_lt h]; rfl
  · rw [if_neg h, digV_great (by omega)]
theorem digit_int (m : Nat) : bt (48 + (m : Int) % 10) = digB (m % 10) := by
  unfold bt digB; congr 1
set_option maxHeartbeats 2000000 in
theorem digits_any (n : Nat) (hn : n ≤ 9223372036854775807) (w : World) : Calls Tryd.prog 29 #[.int .i64 (n : Int)] w fun e w' => e = .returned (.string (str (digV n))) ∧ Below w.heap.size w w' := by
  have hd := digit_int n
  go_enter Tryd.func29, Tryd.ntmps29
  go_wp2_with (simp only [conv_one])
  go_loopg [0, 3] n (fun k m t wr => ∃ s : Bs, k ≤ n ∧ m = .int .i64 (k : Int) ∧ t = .string (str s) ∧ digV n = preV k ++ s ∧ Below w.heap.size w wr)
  case atStart => exact ⟨[digB (n % 10)], Nat.le_refl _, rfl, rfl, pre_digit n, (Below.refl _ _).alloc (Nat.le_refl _) _⟩
  case round =>
    obtain ⟨s, hk, rfl, rfl, hs, hb⟩ := hrel
    by_cases hlt : gk < 10
    · have HS : Hid (digV n = s) := by rw [hs]; unfold preV; rw [if_pos hlt]; exact rfl
      have hlt' : ¬ (10 : Int) ≤ gk := by omega
      clear hs
      go_wp2
      go_ret
      exact ⟨by rw [HS.out]; rfl, hb⟩
    · have hd' : bt (48 + (gk : Int) / 10 % 10) = digB (gk / 10 % 10) := digit_int (gk / 10)
      have HS : Hid (digV n = preV (gk / 10) ++ (digB (gk / 10 % 10) :: s)) := by
        rw [hs, show preV gk = digV (gk / 10) by unfold preV; rw [if_neg hlt], pre_digit (gk / 10)]
        exact (List.append_assoc _ _ _)
      have hge : (10 : Int) ≤ gk := by omega
      have hl : s.length ≤ 19 := by
        have h1 := digV_length 18 n (by omega)
        rw [hs, List.length_append] at h1
        omega
      have hsz : (str s).size = s.length := by unfold str; rw [Lib.size_eq]
      have hs1 : (str [digB (gk / 10 % 10)]).size = 1 := rfl
      have hz := hb.size
      clear hs hd
      go_wp2_with (simp only [conv_one])
      go_roundg (gk / 10)
      case measure => omega
      case rel => exact ⟨digB (gk / 10 % 10) :: s, by omega, by go_num, by rw [str_append]; rfl, HS.out, hb.alloc hz _⟩
end Go.Proofs.YtokpcpmkilikaaaDoor
