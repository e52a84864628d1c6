/-
  lowest, List: lists of free nodes, in memory of their own.
-/
import Derived.Test.YtmfecocbadekhaaDoorSet
import Derived.Deep.LoopGhost
import Derived.WalkSpells
namespace Go.Proofs.YtmfecocbadekhaaDoor
open Go.RowKit Nd

theorem Tryd.info3 : (Tryd.prog.info? 3).map (fun i => (i.zero, i.size, i.bytes)) = some (some (.int .i64 0), 1, 8) := by kernel_rfl

/-- Nodes as values. -/
def vals (l : List Nat) : List Value := l.map fun k : Nat => .int .i64 (k : Int)
theorem vals_len (l : List Nat) : (vals l).length = l.length := by simp [vals]

namespace Nd
theorem take_step (A : List Nat) (x many : Nat) (h : (A.take many).length < many) : (A ++ [x]).take many = A.take many ++ [x] := by
  have : A.length < many := by simp at h; omega
  rw [List.take_of_length_le (by simp; omega), List.take_of_length_le (by omega)]
theorem take_full (F a d many : Nat) (h : ¬ ((frees F a).take many).length < many) : (frees F (a + d)).take many = (frees F a).take many :=
  frees_take F a d many (by simp at h; omega)
end Nd

theorem idx_any (F i : Nat) (hi : i < 4) (w : World) : (Instr.index 52 (.agg #[.int .u64 (wd F 0), .int .u64 (wd F 1), .int .u64 (wd F 2), .int .u64 (wd F 3)]) (.int .i64 i)).run Tryd.prog w = .ok (.int .u64 (wd F i)) w := by
  obtain rfl | rfl | rfl | rfl : i = 0 ∨ i = 1 ∨ i = 2 ∨ i = 3 := by omega
  · kernel_rfl
  · kernel_rfl
  · kernel_rfl
  · kernel_rfl

/-- The list so far: its own row, below all else as it was. -/
def LowRel (w : World) (F many N : Nat) (v : Value) (wr : World) : Prop :=
  v = .slice (some ⟨w.heap.size, 0, none⟩) ((frees F N).take many).length many ∧ wr.ownsRow w.heap.size 3 1 (.slice (some ⟨w.heap.size, 0, none⟩) ((frees F N).take many).length many) ((frees F N).take many).length (vals ((frees F N).take many)) ∧ Below w.heap.size w wr
theorem low_on {w wr : World} {F many N M : Nat} {v : Value} (h : LowRel w F many N v wr) (e : (frees F M).take many = (frees F N).take many) : LowRel w F many M v wr := by
  unfold LowRel
  rw [e]
  exact h
theorem low_app {w wr w1 : World} {F many N M x : Nat} {y : Int} {L : List Nat} (hL : (frees F N).take many = L) (hy : y = (x : Int)) (e : frees F M = frees F N ++ [x]) (hl : L.length < many) (hb : Below w.heap.size w wr)
    (ho : w1.ownsRow w.heap.size 3 1 (.slice (some ⟨w.heap.size, 0, none⟩) (L.length + 1) many) (L.length + 1) (vals L ++ [.int .i64 y]))
    (hg : (wr.alloc (.cells #[.int .i64 y] 3)).grownBy w1 (some w.heap.size)) :
    LowRel w F many M (.slice (some ⟨w.heap.size, 0, none⟩) (L.length + 1) many) w1 := by
  subst hL
  subst hy
  have es : (frees F M).take many = (frees F N).take many ++ [x] := by rw [e]; exact take_step _ _ _ hl
  have ev : vals ((frees F N).take many ++ [x]) = vals ((frees F N).take many) ++ [.int .i64 (x : Int)] := by simp [vals]
  unfold LowRel
  rw [es, ev, List.length_append, List.length_singleton]
  exact ⟨rfl, ho, (hb.alloc hb.size _).grown hg (by have := hb.size; simp; omega) (fun k hk => by simp at hk; omega)⟩

set_option maxHeartbeats 2000000 in
theorem low_any (b n F many : Nat) (w : World) (h : SetIn w b n F) (hm : many ≤ 256) :
    Calls Tryd.prog 31 #[.pointer (some ⟨b, 0, none⟩), .int .i64 many] w fun e w' =>
      e = .returned (.slice (some ⟨w.heap.size, 0, none⟩) ((lst F).take many).length many) ∧ w'.ownsRow w.heap.size 3 1 (.slice (some ⟨w.heap.size, 0, none⟩) ((lst F).take many).length many) ((lst F).take many).length (vals ((lst F).take many)) ∧ Below w.heap.size w w' := by
  obtain ⟨i0, hi, hz0, hz1, hz2⟩ := info_parts Tryd.info3
  go_enter Tryd.func31, Tryd.ntmps31
  go_wp2_with (at_make; refine wpList_make_own _ rfl _ _ 37 rfl w.heap.size 3 i0 (.int .i64 0) 1 Tryd.underlying37 hi hz0 hz1 _ _ _ many rfl rfl rfl (by rw [hz2]; omega) (by unfold maxLen; omega) (Nat.le_refl _) ?_; intro w0 hown0 hgrow0; have hs0 := h.below ⟨hgrow0.os, hgrow0.tape, hgrow0.output, hgrow0.size, fun k hk => hgrow0.block k hk (by simp)⟩; have c0 := hs0.word 0 (by decide); have c1 := hs0.word 1 (by decide); have c2 := hs0.word 2 (by decide); have c3 := hs0.word 3 (by decide))
  have hb0 : Below w.heap.size w w0 := ⟨hgrow0.os, hgrow0.tape, hgrow0.output, hgrow0.size, fun k hk => hgrow0.block k hk (by simp)⟩
  have R0 : Hid (LowRel w F many 0 (.slice (some ⟨w.heap.size, 0, none⟩) 0 many) w0) := ⟨by simp [frees_zero], by simpa [frees_zero, vals] using hown0, hb0⟩
  clear c0 c1 c2 c3 hs0 hown0 hgrow0 hb0
  go_loopg [5, 14] 4 (fun gk v c wr => ∃ i : Nat, i + gk = 4 ∧ c = .int .i64 i ∧ LowRel w F many (64 * i) v wr)
  case atStart => exact ⟨0, rfl, rfl, R0.out⟩
  case round =>
    obtain ⟨i, hi4, rfl, hR⟩ := hrel
    by_cases h4 : i < 4
    · have hix := fun wx => idx_any F i h4 wx
      have hd4 : decide ((i : Int) < 4) = true := by simp; omega
      obtain ⟨rfl, hown, hbel⟩ := hR
      go_wp2
      clear hix
      go_loopg [5, 7] 64 (fun gj v u wi => ∃ k x : Nat, k + gj = 64 ∧ u = .int .u64 x ∧ WdRest F i k x ∧ LowRel w F many (64 * i + k) v wi)
      case atStart => exact ⟨0, wd F i, rfl, rfl, left_start F i, rfl, hown, hbel⟩
      case round =>
        clear hown hbel
        obtain ⟨k, x, hk, rfl, hL, hR⟩ := hrel
        obtain ⟨L, hLd⟩ : ∃ L, (frees F (64 * i + k)).take many = L := ⟨_, rfl⟩
        have HL : Hid ((frees F (64 * i + k)).take many = L) := hLd
        obtain ⟨rfl, hown, hbel⟩ := hR
        rw [hLd] at hown ⊢
        clear hLd
        by_cases hx : x = 0
        · subst hx
          have R1 : Hid (LowRel w F many (64 * (i + 1)) (.slice (some ⟨w.heap.size, 0, none⟩) L.length many) wr) := low_on (N := 64 * i + k) (by unfold LowRel; rw [HL.out]; exact ⟨rfl, hown, hbel⟩) (by rw [left_none F i k (by omega) hL])
          clear hown hbel hL
          go_wp2
          go_roundg (3 - i)
          case measure => omega
          case rel => exact ⟨i + 1, by omega, by go_num, R1.out⟩
        · by_cases hlen : L.length < many
          · obtain ⟨s1, s2, s3, s4⟩ := left_step F i k x (by omega) hL hx
            have hT := below_tab hbel h.tab
            have hxl := hL.lt
            have hxs : IntKind.u64.wrap ((x : Int) - 1) = ((x - 1 : Nat) : Int) := by
              rw [IntKind.wrap_u64]
              omega
            have hxa := bits_and_u64_nat x (x - 1) hL.lt (by omega)
            have HS : Hid (frees F (64 * i + (Lib.ctz 64 x + 1)) = frees F (64 * i + k) ++ [64 * i + Lib.ctz 64 x]) := s3
            clear s3
            go_wp2_with (first | (go_at_call 37; refine (tz_any x hxl hx _ hT).mono ?_; rintro e w' ⟨rfl, rfl⟩) | (at_builtin; refine wpList_append_fits _ rfl (.tmp 26) (.tmp 32) 37 rfl w.heap.size 3 i0 1 Tryd.underlying37 hi hz1 w.heap.size L.length many _ rfl (hown.alloc _) ⟨_, 0, none⟩ 1 1 [.int .i64 ((i : Int) * 64 + (Lib.ctz 64 x : Nat))] rfl rfl (cell_one_new _ _ _) (by intro u hu; simp at hu; subst hu; rfl) (by omega) ?_; intro w2 hown2 hgrow2))
            have R1 := low_app HL.out (by omega) HS.out hlen hbel hown2 hgrow2
            go_roundg (64 - (Lib.ctz 64 x + 1))
            case measure => omega
            case rel => exact ⟨Lib.ctz 64 x + 1, x &&& (x - 1), by omega, rfl, s4, R1⟩
          · have R1 : Hid (LowRel w F many (64 * (i + 1)) (.slice (some ⟨w.heap.size, 0, none⟩) L.length many) wr) := low_on (N := 64 * i + k) (by unfold LowRel; rw [HL.out]; exact ⟨rfl, hown, hbel⟩) (by rw [show 64 * (i + 1) = 64 * i + k + (64 - k) by omega, take_full F _ _ many (by rw [HL.out]; exact hlen)])
            clear hown hbel hL
            go_wp2
            go_roundg (3 - i)
            case measure => omega
            case rel => exact ⟨i + 1, by omega, by go_num, R1.out⟩
    · have hi' : i = 4 := by omega
      subst hi'
      have HR : Hid (LowRel w F many 256 _ wr) := hR
      obtain ⟨rfl, hown, hbel⟩ := hR
      go_wp2
      go_ret
      exact ⟨rfl, HR.out.2⟩

theorem list_any (b n F : Nat) (w : World) (h : SetIn w b n F) :
    Calls Tryd.prog 12 #[.pointer (some ⟨b, 0, none⟩)] w fun e w' =>
      e = .returned (.slice (some ⟨w.heap.size, 0, none⟩) (lst F).length (lst F).length) ∧ w'.ownsRow w.heap.size 3 1 (.slice (some ⟨w.heap.size, 0, none⟩) (lst F).length (lst F).length) (lst F).length (vals (lst F)) ∧ Below w.heap.size w w' := by
  have hl := low_any b n F (lst F).length w h (lst_len F)
  rw [List.take_length] at hl
  go_enter Tryd.func12, Tryd.ntmps12
  go_wp2_with (first | (go_at_call 17; refine (free_any b n F _ h).mono ?_; rintro e w' ⟨rfl, rfl⟩) | (go_at_call 31; refine hl.mono ?_; rintro e w1 ⟨rfl, ho, hb⟩))
  go_ret
  exact ⟨rfl, ho, hb⟩
end Go.Proofs.YtmfecocbadekhaaDoor
