/-
  One act: All.
-/
import Derived.Test.YtjmiifgofedcnaaActD
namespace Go.Proofs.Ytjmiifgofedcnaa
open Go.RowKit Ag

theorem owns_slice {w : World} {B e sz n : Nat} {v : Value} {xs : List Value} (h : w.ownsRow B e sz v n xs) : ∃ ao cap, v = .slice ao n cap ∧ n ≤ cap := by
  rcases owns_shape h with ⟨h1, h0⟩ | ⟨g, cap, h1, _, hc⟩
  · exact ⟨none, 0, by rw [h1, h0], by omega⟩
  · exact ⟨_, cap, h1, hc⟩
/-- The first ones of a list. -/
theorem rd_take {w : World} {B n cap : Nat} {ao : Option Addr} {xs : List Int} (h : w.ownsRow B 3 1 (.slice ao n cap) n (ints xs)) (hn : xs.length = n) (k : Nat) (hk : k ≤ n) : RdI w (.slice ao k cap) (xs.take k) := by
  have hl : (xs.take k).length = k := by rw [List.length_take]; omega
  rcases h.2 with ⟨hv, h0⟩ | ⟨g, cap', cur, hv, _, hg, _, _, _, ht⟩
  · simp at hv
    obtain ⟨rfl, rfl, rfl⟩ := hv
    obtain rfl : k = 0 := by omega
    exact ⟨none, 0, 0, 0, rfl, fun h => by simp at h, fun j x hx => by simp at hx⟩
  · simp at hv
    obtain ⟨rfl, rfl⟩ := hv
    refine ⟨some ⟨g, 0, none⟩, cap, g, 0, by rw [hl], fun _ => rfl, fun j x hx => ?_⟩
    have hj : j < k := by have := (List.getElem?_eq_some_iff.1 hx).1; omega
    rw [List.getElem?_take_of_lt hj] at hx
    refine cells_at hg ?_
    have h1 : (ints xs)[j]? = some (.int .i64 x) := by simp [ints, hx]
    rw [← ht, List.getElem?_take_of_lt (by omega), Array.getElem?_toList] at h1
    simpa using h1

theorem ids_min (L : List En) (p n : Nat) (hn : L.length = n) : (ids L).take (min (p : Int) n).toNat = ids (L.take p) ∧ (tms L).take (min (p : Int) n).toNat = tms (L.take p) := by
  have e : (min (p : Int) n).toNat = min p L.length := by omega
  rw [e]
  have h2 : L.take p = L.take (min p L.length) := by
    by_cases h : p ≤ L.length
    · rw [Nat.min_eq_left h]
    · rw [Nat.min_eq_right (by omega), List.take_of_length_le (by omega), List.take_of_length_le (by omega)]
  rw [h2]
  simp [ids, tms]
theorem tms_len (L : List En) : (tms L).length = L.length := by simp [tms]

set_option maxHeartbeats 2000000 in
set_option maxRecDepth 20000 in
theorem act_all {w : World} {a m d : Nat} {ao : Option Addr} {L : List En} (r : Agn 68 76 w a m ao L) (q : Rf w d L) (hi : IntL L) (kd wh id tm xv : Int) (hlen : L.length * 40 ≤ 140737488355328) (hk : amgV kd 6 = 5) :
    Calls Try.prog 14 #[.agg #[.int .i64 kd, .int .i64 wh, .int .i64 id, .int .i64 tm, .int .i64 xv], .pointer (some ⟨a, 0, none⟩), .pointer (some ⟨d, 0, none⟩)] w (ActPost w a m ao d L) := by
  go_enter Try.func14, Try.ntmps14
  go_wp2_with fail
  obtain ⟨w0, hw0⟩ : ∃ w0, w.alloc (.cells #[.int .i64 kd, .int .i64 wh, .int .i64 id, .int .i64 tm, .int .i64 xv] 31) = w0 := ⟨_, rfl⟩
  rw [hw0]
  obtain ⟨b0, as0⟩ := act_open hw0
  clear hw0
  have hlt := r.lt
  have r0 := r.below b0
  have q0 := q.below b0
  have ha := among_any kd 6 w0 (by omega) (by omega)
  rw [hk] at ha
  obtain ⟨y2, y3, y4⟩ := as0.cells
  have ha9 := among_any xv 9 w0 (by omega) (by omega)
  obtain ⟨hp0, hp9⟩ := amgV_in xv 9 (by omega)
  obtain ⟨p, hp⟩ : ∃ p : Nat, amgV xv 9 = p := ⟨(amgV xv 9).toNat, by omega⟩
  rw [hp] at ha9 hp0 hp9
  have RA : Hid _ := r0
  have RB : Hid _ := q0
  have AS : Hid _ := as0
  clear as0
  have hls := listed_any r0 (p : Int) hlen
  obtain ⟨n, hn⟩ : ∃ n, L.length = n := ⟨_, rfl⟩
  have hlen' := hlen
  rw [hn] at hlen'
  rw [Int.toNat_natCast] at hls
  clear r q r0 q0
  go_wp2_with (first
    | (go_at_call_of 11 (Value.int IntKind.i64 kd); refine ha.mono ?_; rintro e w1 ⟨rfl, hw⟩; obtain rfl := hw.symm)
    | (go_at_call_of 11 (Value.int IntKind.i64 xv); refine ha9.mono ?_; rintro e w1 ⟨rfl, hw⟩; obtain rfl := hw.symm)
    | (go_at_call 18; refine hls.mono ?_; rintro e w2 ⟨v1, v2, rfl, o1, o2, b2, hap⟩; have q2 := Rf.below RB.out b2; clear hap)
    | (go_at_call 46; refine (rall_any q2 hi.one hlen).mono ?_; rintro e w3 ⟨v3, v4, rfl, o3, o4, b3⟩; rw [hn] at o3 o4; obtain ⟨a3, c3, h3, k3⟩ : ∃ ao cap, v3 = .slice ao n cap ∧ n ≤ cap := owns_slice o3; obtain ⟨a4, c4, h4, k4⟩ : ∃ ao cap, v4 = .slice ao n cap ∧ n ≤ cap := owns_slice o4; subst h3; subst h4; have x3 := rd_take o3 (by rw [ids_len, hn]) (min (p : Int) n).toNat (by omega); have x4 := rd_take o4 (by rw [tms_len, hn]) (min (p : Int) n).toNat (by omega); rw [(ids_min L p n hn).1] at x3; rw [(ids_min L p n hn).2] at x4; rw [← ids_len (L.take p)] at o1; rw [← tms_len (L.take p)] at o2; have x1 := (rd_own o1).below b3; have x2 := (rd_own o2).below b3; clear o1 o2 o3 o4)
    | (go_at_call_of 21 v1; refine (numbers_any x1 x3 (by rw [ids_len, List.length_take]; omega) (by rw [ids_len, List.length_take]; omega)).mono ?_; rintro e w4 ⟨rfl, g4⟩; have z2 := x2.below (Grew.below g4); have z4 := x4.below (Grew.below g4); clear x1 x3)
    | (go_at_call_of 21 v2; refine (numbers_any z2 z4 (by rw [tms_len, List.length_take]; omega) (by rw [tms_len, List.length_take]; omega)).mono ?_; rintro e w5 ⟨rfl, g5⟩))
  go_ret
  have b4 := b2.trans (b3.mono b2.size)
  have b5 := b4.trans ((Grew.below g4).mono b4.size)
  have b6 := b5.trans ((Grew.below g5).mono b5.size)
  exact ActPost.from0 b0 (ActPost.still RA.out RB.out hi b6)
end Go.Proofs.Ytjmiifgofedcnaa
