/-
  among, same.
-/
import Derived.Test.YtjmiifgofedcnaaRefC
namespace Go.Proofs.Ytjmiifgofedcnaa
open Go.RowKit Ag

namespace Ag
def amgV (i n : Int) : Int := if i.tmod n < 0 then i.tmod n + n else i.tmod n
theorem tmod_lo (i n : Int) (h : 1 ≤ n) : -n < i.tmod n ∧ i.tmod n < n := by
  refine ⟨?_, Int.tmod_lt_of_pos i (by omega)⟩
  have h1 := Int.tmod_lt_of_pos (-i) (show 0 < n by omega)
  rw [Int.neg_tmod] at h1
  omega
theorem amgV_in (i n : Int) (h : 1 ≤ n) : 0 ≤ amgV i n ∧ amgV i n < n := by
  have := tmod_lo i n h
  unfold amgV
  split <;> omega
end Ag
theorem among_any (i n : Int) (w : World) (h1 : 1 ≤ n) (h2 : n ≤ 1000) : Calls Try.prog 11 #[.int .i64 i, .int .i64 n] w fun e w' => e = .returned (.int .i64 (amgV i n)) ∧ w' = w := by
  obtain ⟨t1, t2⟩ := tmod_lo i n h1
  by_cases h0 : i.tmod n < 0
  · have e0 : amgV i n = i.tmod n + n := by unfold amgV; rw [if_pos h0]
    rw [e0]
    go_enter Try.func11, Try.ntmps11
    go_wp2
    go_ret
    exact ⟨rfl, rfl⟩
  · have e0 : amgV i n = i.tmod n := by unfold amgV; rw [if_neg h0]
    rw [e0]
    go_enter Try.func11, Try.ntmps11
    go_wp2
    go_ret
    exact ⟨rfl, rfl⟩
namespace Ag
def hdI : List En → Int
  | [] => 0
  | f :: _ => f.id
def hdT : List En → Int
  | [] => 0
  | f :: _ => f.tm
def hdB : List En → Bool
  | [] => false
  | _ :: _ => true
end Ag
theorem first_any {w : World} {a m : Nat} {ao : Option Addr} {L : List En} (r : Agn 68 76 w a m ao L) :
    Calls Try.prog 20 #[.pointer (some ⟨a, 0, none⟩)] w fun e w' => e = .returned (.tuple #[.int .i64 (hdI L), .int .i64 (hdT L), .bool (hdB L)]) ∧ Below w.heap.size w w' := by
  cases L with
  | nil => exact (first_no_I r).mono (fun e w' h => ⟨h.1, by rw [h.2]; exact Below.refl _ _⟩)
  | cons f L => exact (first_yes_I r).mono (fun e w' h => ⟨h.1, Grew.below h.2⟩)
theorem rfirst_any {w : World} {d : Nat} {L : List En} (r : Rf w d L) (hlen : L.length ≤ 35184372088832) :
    Calls Try.prog 48 #[.pointer (some ⟨d, 0, none⟩)] w fun e w' => e = .returned (.tuple #[.int .i64 (hdI L), .int .i64 (hdT L), .bool (hdB L)]) ∧ Below w.heap.size w w' := by
  cases L with
  | nil => exact (rfirst_no r).mono (fun e w' h => ⟨h.1, by rw [h.2]; exact Below.refl _ _⟩)
  | cons f L => exact (rfirst_yes r hlen).mono (fun e w' h => ⟨h.1, Grew.below h.2⟩)
theorem same_any {w : World} {a m d : Nat} {ao : Option Addr} {L : List En} (r : Agn 68 76 w a m ao L) (q : Rf w d L) (hone : ∀ e ∈ L, e.x.oneCell' = true) (hlen : L.length * 40 ≤ 140737488355328) :
    Calls Try.prog 15 #[.pointer (some ⟨a, 0, none⟩), .pointer (some ⟨d, 0, none⟩)] w fun e w' => e = .returned (.bool true) ∧ Below w.heap.size w w' := by
  obtain ⟨n, hn⟩ : ∃ n, L.length = n := ⟨_, rfl⟩
  have hlen' := hlen
  rw [hn] at hlen'
  have hl := rlen_any q
  have hls := listed_any r ((n : Int) + 1) hlen
  have ht : L.take ((n : Int) + 1).toNat = L := List.take_of_length_le (by omega)
  rw [ht] at hls
  rw [hn] at hl
  have RA : Hid _ := r
  have RB : Hid _ := q
  clear r q ht
  go_enter Try.func15, Try.ntmps15
  go_wp2_with (first
    | (go_at_call 47; refine hl.mono ?_; rintro e w1 ⟨rfl, hw1⟩; subst hw1)
    | (go_at_call 18; refine hls.mono ?_; rintro e w2 ⟨v1, v2, rfl, o1, o2, b2, hap⟩; rw [← ids_len L] at o1; have el2 : (tms L).length = L.length := (by simp [tms]); rw [← el2] at o2; have x1 := rd_own o1; have x2 := rd_own o2; have q2 := Rf.below RB.out b2; have r2 := Agn.below RA.out b2; clear o1 o2 hap)
    | (go_at_call 46; refine (rall_any q2 hone hlen).mono ?_; rintro e w3 ⟨v3, v4, rfl, o3, o4, b3⟩; rw [← ids_len L] at o3; rw [← el2] at o4; have x3 := rd_own o3; have x4 := rd_own o4; have x1' := x1.below b3; have x2' := x2.below b3; have q3 := Rf.below q2 b3; have r3 := Agn.below r2 b3; clear o3 o4 x1 x2 q2 r2)
    | (go_at_call 20; refine (first_any r3).mono ?_; rintro e w4 ⟨rfl, b4⟩; have q4 := Rf.below q3 b4; have r4 := Agn.below r3 b4)
    | (go_at_call 48; refine (rfirst_any q4 (by omega)).mono ?_; rintro e w5 ⟨rfl, b5⟩; have q5 := Rf.below q4 b5; have r5 := Agn.below r4 b5; have y1 := (x1'.below b4).below b5; have y2 := (x2'.below b4).below b5; have y3 := (x3.below b4).below b5; have y4 := (x4.below b4).below b5; have c5 := (((b2.trans (b3.mono b2.size)).trans (b4.mono (b2.trans (b3.mono b2.size)).size)).trans (b5.mono ((b2.trans (b3.mono b2.size)).trans (b4.mono (b2.trans (b3.mono b2.size)).size)).size)); have l5 := rlen_any q5; have k5 := len_I r5; rw [hn] at l5 k5; clear x1' x2' x3 x4 q3 r3 q4 r4 b2 b3 b4 b5 q5 r5)
    | (go_at_call 17; refine k5.mono ?_; rintro e w6 ⟨rfl, hw6⟩; subst hw6)
    | (go_at_call 47; refine l5.mono ?_; rintro e w7 ⟨rfl, hw7⟩; subst hw7)
    | (go_at_call 21; refine (numbers_any y1 y3 (by rw [ids_len]; omega) (by rw [ids_len]; omega)).mono ?_; rintro e w8 ⟨rfl, g8⟩; have z2 := y2.below (Grew.below g8); have z4 := y4.below (Grew.below g8); clear y1 y3)
    | (go_at_call 21; refine (numbers_any z2 z4 (by rw [el2]; omega) (by rw [el2]; omega)).mono ?_; rintro e w9 ⟨rfl, g9⟩))
  go_ret
  exact ⟨rfl, (c5.trans ((Grew.below g8).mono c5.size)).trans ((Grew.below g9).mono (c5.trans ((Grew.below g8).mono c5.size)).size)⟩
end Go.Proofs.Ytjmiifgofedcnaa
