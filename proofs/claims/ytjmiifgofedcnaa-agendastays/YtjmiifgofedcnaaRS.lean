/-
  rise, sink.
-/
import Derived.Test.YtjmiifgofedcnaaHS
import Derived.Test.YtjmiifgofedcnaaHeap
namespace Go.Proofs.Ytjmiifgofedcnaa
open Go.RowKit Ag

set_option maxHeartbeats 1000000 in
theorem rise_S {w : World} {a m : Nat} {ao : Option Addr} {cap n : Nat} {h : Nat → En} (r : Raw 95 97 w a m ao cap n h) (p : Nat) (hp : p < n) (u : UpTo h n p) :
    Calls Try.prog 59 #[.pointer (some ⟨a, 0, none⟩), .int .i64 p] w fun e w' => e = .returned (.tuple #[]) ∧ ∃ h', Way 95 97 w a m ao cap n h w' h' ∧ Heap h' n := by
  have ht := r.top
  have R : Hid _ := r
  clear r
  go_enter Try.func59, Try.ntmps59
  go_wp2
  go_loopg [1] p (fun gk c wr => ∃ k : Nat, k = gk ∧ c = .int .i64 k ∧ k < n ∧ ∃ h', Way 95 97 w a m ao cap n h wr h' ∧ UpTo h' n k)
  case atStart => exact ⟨p, rfl, rfl, hp, h, ⟨R.out, Same.refl _ _, Chg.refl _ _⟩, u⟩
  case round =>
    obtain ⟨gk, hgk, rfl, hk, h', hw, hu⟩ := hrel
    have HGK : Hid _ := hgk
    clear hgk
    by_cases k0 : gk = 0
    · subst k0
      have W : Hid _ := hw
      clear hw
      go_wp2
      go_end0
      exact ⟨rfl, h', W.out, hu.top⟩
    · have hpar : par gk < n := by have := par_lt (k := gk) (by omega); omega
      have e1 : ((gk : Int) - 1) / 2 = (par gk : Int) := by
        unfold par
        omega
      have hk0 : 0 < gk := by omega
      have W : Hid _ := hw
      cases hb : bef (h' (par gk)) (h' gk)
      · go_wp2_with (first
          | (go_at_call 73; refine (ahead_S hw.raw (par gk) gk hpar hk).mono ?_; rw [hb]; rintro e w1 ⟨rfl, hg⟩; have hw1 := hw.grew hg)
          | (go_at_call 74; refine (swap_S hw1.raw (par gk) gk hpar hk).mono ?_; rintro e w2 ⟨rfl, hr2, hc2⟩; have hw2 := hw1.swap hpar hk hr2 hc2))
        go_roundg (par gk)
        case measure => have := par_lt hk0; have := HGK.out; omega
        case rel => exact ⟨_, rfl, rfl, hpar, _, hw2, hu.step hk0 hk (le_of _ _ hb)⟩
      · go_wp2_with (first
          | (go_at_call 73; refine (ahead_S hw.raw (par gk) gk hpar hk).mono ?_; rw [hb]; rintro e w1 ⟨rfl, hg⟩; have hw1 := hw.grew hg))
        refine bodyPost_ret (results_none rfl _ _ _) rfl ?_
        exact ⟨rfl, h', hw1, hu.stop (le_of' _ _ hb)⟩

set_option maxHeartbeats 2000000 in
theorem sink_S {w : World} {a m : Nat} {ao : Option Addr} {cap n : Nat} {h : Nat → En} (r : Raw 95 97 w a m ao cap n h) (p : Nat) (hp : p < n) (u : Hole h n p) :
    Calls Try.prog 81 #[.pointer (some ⟨a, 0, none⟩), .int .i64 p] w fun e w' => e = .returned (.tuple #[]) ∧ ∃ h', Way 95 97 w a m ao cap n h w' h' ∧ UpTo h' n p := by
  have ht := r.top
  have R : Hid _ := r
  clear r
  go_enter Try.func81, Try.ntmps81
  go_wp2
  go_loopg [1] (n - p) (fun gk c wr => ∃ k : Nat, gk = n - k ∧ c = .int .i64 k ∧ k < n ∧ ∃ h', Way 95 97 w a m ao cap n h wr h' ∧ SinkAt h' n p k)
  case atStart => exact ⟨p, rfl, rfl, hp, h, ⟨R.out, Same.refl _ _, Chg.refl _ _⟩, .inl ⟨rfl, u⟩⟩
  case round =>
    obtain ⟨gk, hgk, rfl, hk, h', hw, hu⟩ := hrel
    have HGK : Hid _ := hgk
    clear hgk
    have c0 := hw.raw.c0
    obtain ⟨b, hb⟩ : ∃ b, b = 2 * gk + 1 := ⟨_, rfl⟩
    obtain ⟨c, hc⟩ : ∃ c, c = b + 1 := ⟨_, rfl⟩
    have e1 : 2 * (gk : Int) + 1 = (b : Int) := by omega
    have e2 : (b : Int) + 1 = (c : Int) := by omega
    have HB : Hid _ := hb
    have HC : Hid _ := hc
    by_cases hbn : n ≤ b
    · have W : Hid _ := hw
      clear hw hb hc
      go_wp2
      refine bodyPost_ret (results_none rfl _ _ _) rfl ?_
      exact ⟨rfl, h', W.out, hu.stop (fun k a1 a2 a3 => by have := HB.out; unfold par at a3; omega)⟩
    · have hbn' : b < n := by omega
      by_cases hcn : c < n
      · cases hbc : bef (h' c) (h' b)
        · have hl : Least h' n gk b := least_left HB.out HC.out hcn hbc
          cases hpb : bef (h' gk) (h' b)
          · clear hb hc
            go_wp2_with fail
            refine (ahead_S hw.raw c b hcn hbn').mono ?_
            rw [hbc]
            rintro e w0 ⟨rfl, hg0⟩
            replace hw := hw.grew hg0
            replace c0 := hw.raw.c0
            go_wp2_with fail
            refine (ahead_S hw.raw gk b hk hbn').mono ?_
            rw [hpb]
            rintro e w1 ⟨rfl, hg⟩
            have hw1 := hw.grew hg
            go_wp2_with fail
            refine (swap_S hw1.raw gk b hk hbn').mono ?_
            rintro e w2 ⟨rfl, hr2, hc2⟩
            have hw2 := hw1.swap hk hbn' hr2 hc2
            go_wp2
            go_roundg (n - b)
            case measure => have := HGK.out; have := HB.out; have := HC.out; omega
            case rel => exact ⟨_, rfl, rfl, hbn', _, hw2, .inr (hu.hole.step hl (le_of _ _ hpb))⟩
          · clear hb hc
            go_wp2_with fail
            refine (ahead_S hw.raw c b hcn hbn').mono ?_
            rw [hbc]
            rintro e w0 ⟨rfl, hg0⟩
            replace hw := hw.grew hg0
            replace c0 := hw.raw.c0
            go_wp2_with fail
            refine (ahead_S hw.raw gk b hk hbn').mono ?_
            rw [hpb]
            rintro e w1 ⟨rfl, hg⟩
            have hw1 := hw.grew hg
            go_wp2
            refine bodyPost_ret (results_none rfl _ _ _) rfl ?_
            exact ⟨rfl, h', hw1, hu.stop (fun k a1 a2 a3 => (le_of' _ _ hpb).trans (hl.2.2.2 k a1 a2 a3))⟩
        · have hl : Least h' n gk c := least_right HB.out HC.out hcn hbc
          cases hpb : bef (h' gk) (h' c)
          · clear hb hc
            go_wp2_with fail
            refine (ahead_S hw.raw c b hcn hbn').mono ?_
            rw [hbc]
            rintro e w0 ⟨rfl, hg0⟩
            replace hw := hw.grew hg0
            replace c0 := hw.raw.c0
            go_wp2_with fail
            refine (ahead_S hw.raw gk c hk hcn).mono ?_
            rw [hpb]
            rintro e w1 ⟨rfl, hg⟩
            have hw1 := hw.grew hg
            go_wp2_with fail
            refine (swap_S hw1.raw gk c hk hcn).mono ?_
            rintro e w2 ⟨rfl, hr2, hc2⟩
            have hw2 := hw1.swap hk hcn hr2 hc2
            go_wp2
            go_roundg (n - c)
            case measure => have := HGK.out; have := HB.out; have := HC.out; omega
            case rel => exact ⟨_, rfl, rfl, hcn, _, hw2, .inr (hu.hole.step hl (le_of _ _ hpb))⟩
          · clear hb hc
            go_wp2_with fail
            refine (ahead_S hw.raw c b hcn hbn').mono ?_
            rw [hbc]
            rintro e w0 ⟨rfl, hg0⟩
            replace hw := hw.grew hg0
            replace c0 := hw.raw.c0
            go_wp2_with fail
            refine (ahead_S hw.raw gk c hk hcn).mono ?_
            rw [hpb]
            rintro e w1 ⟨rfl, hg⟩
            have hw1 := hw.grew hg
            go_wp2
            refine bodyPost_ret (results_none rfl _ _ _) rfl ?_
            exact ⟨rfl, h', hw1, hu.stop (fun k a1 a2 a3 => (le_of' _ _ hpb).trans (hl.2.2.2 k a1 a2 a3))⟩
      · have hl : Least h' n gk b := least_one HB.out HC.out hbn' hcn
        cases hpb : bef (h' gk) (h' b)
        · clear hb hc
          go_wp2_with fail
          refine (ahead_S hw.raw gk b hk hbn').mono ?_
          rw [hpb]
          rintro e w1 ⟨rfl, hg⟩
          have hw1 := hw.grew hg
          go_wp2_with fail
          refine (swap_S hw1.raw gk b hk hbn').mono ?_
          rintro e w2 ⟨rfl, hr2, hc2⟩
          have hw2 := hw1.swap hk hbn' hr2 hc2
          go_wp2
          go_roundg (n - b)
          case measure => have := HGK.out; have := HB.out; have := HC.out; omega
          case rel => exact ⟨_, rfl, rfl, hbn', _, hw2, .inr (hu.hole.step hl (le_of _ _ hpb))⟩
        · clear hb hc
          go_wp2_with fail
          refine (ahead_S hw.raw gk b hk hbn').mono ?_
          rw [hpb]
          rintro e w1 ⟨rfl, hg⟩
          have hw1 := hw.grew hg
          go_wp2
          refine bodyPost_ret (results_none rfl _ _ _) rfl ?_
          exact ⟨rfl, h', hw1, hu.stop (fun k a1 a2 a3 => (le_of' _ _ hpb).trans (hl.2.2.2 k a1 a2 a3))⟩
end Go.Proofs.Ytjmiifgofedcnaa
