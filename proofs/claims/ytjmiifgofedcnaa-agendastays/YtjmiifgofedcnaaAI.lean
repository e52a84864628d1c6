/-
  Len, New, First, Get, Drop, Add.
-/
import Derived.Test.YtjmiifgofedcnaaMI
import Derived.Test.YtjmiifgofedcnaaAddM
import Derived.Maps.AppendAt
namespace Go.Proofs.Ytjmiifgofedcnaa
open Go.RowKit Ag

theorem len_I {w : World} {a m : Nat} {ao : Option Addr} {L : List En} (r : Agn 68 76 w a m ao L) :
    Calls Try.prog 17 #[.pointer (some ⟨a, 0, none⟩)] w fun e w' => e = .returned (.int .i64 L.length) ∧ w' = w := by
  obtain ⟨cap, n, h, r⟩ := r
  have c0 := r.raw.c0
  rw [r.len]
  clear r
  go_enter Try.func17, Try.ntmps17
  go_wp2
  go_ret
  exact ⟨rfl, rfl⟩

theorem new_I (w : World) : Calls Try.prog 9 #[] w fun e w' => e = .returned (.pointer (some ⟨w.heap.size + 1, 0, none⟩)) ∧ Agn 68 76 w' (w.heap.size + 1) w.heap.size none [] ∧ Below w.heap.size w w' := by
  have hmm := @run_makeMap Try.prog
  go_enter Try.func9, Try.ntmps9
  go_wp2
  go_ret
  refine ⟨rfl, ⟨0, 0, fun _ => default, ⟨?_, .inl ⟨rfl, rfl, rfl⟩, ⟨.map [], ownsMap_at rfl _, ⟨⟨_, rfl⟩, ⟨_, rfl, List.Pairwise.nil⟩, rfl, fun k hk => (by omega), fun i _ => ⟨rfl, rfl⟩⟩⟩, by omega, fun g e => (by cases e), fun k hk => (by omega), by omega⟩, fun k _ hk => (by omega), isL_nil _⟩, ((Below.refl _ w).alloc (Nat.le_refl _) _).alloc (by simp) _⟩
  have := heap_alloc_new (w.alloc (.map #[] 0)) (.cells #[.slice none 0 0, .map (some w.heap.size)] 68)
  rwa [World.size_alloc] at this

theorem first_no_I {w : World} {a m : Nat} {ao : Option Addr} (r : Agn 68 76 w a m ao []) :
    Calls Try.prog 20 #[.pointer (some ⟨a, 0, none⟩)] w fun e w' => e = .returned (.tuple #[.int .i64 0, .int .i64 0, .bool false]) ∧ w' = w := by
  obtain ⟨cap, n, h, r⟩ := r
  have c0 := r.raw.c0
  obtain rfl := r.isL.nil
  clear r
  go_enter Try.func20, Try.ntmps20
  go_wp2
  refine bodyPost_ret (v := .tuple #[.int .i64 0, .int .i64 0, .bool false]) (by simp [results, Try.results20, go_sem]) rfl ?_
  exact ⟨rfl, rfl⟩

set_option maxHeartbeats 1000000 in
theorem first_yes_I {w : World} {a m : Nat} {ao : Option Addr} {f : En} {L : List En} (r : Agn 68 76 w a m ao (f :: L)) :
    Calls Try.prog 20 #[.pointer (some ⟨a, 0, none⟩)] w fun e w' => e = .returned (.tuple #[.int .i64 f.id, .int .i64 f.tm, .bool true]) ∧ Grew w w' := by
  obtain ⟨cap, n, h, r⟩ := r
  have c0 := r.raw.c0
  obtain ⟨hn, hf⟩ := r.isL.head r.heap
  obtain ⟨g, cur, rfl, hr, _, _⟩ := r.raw.has hn
  obtain ⟨i0, i1, _⟩ := hr.cell hn
  have ht := r.raw.top
  rw [hf, Nat.zero_mul] at i0 i1
  rw [Nat.zero_add] at i1
  clear r hr hf
  go_enter Try.func20, Try.ntmps20
  go_wp2_with fail
  go_quiet (fail)
  all_goals
    go_wp2
    refine bodyPost_ret (v := .tuple #[.int .i64 f.id, .int .i64 f.tm, .bool true]) (by simp [results, Try.results20, go_sem]) rfl ?_
    exact ⟨rfl, Grew.drN _ _⟩

set_option maxHeartbeats 1000000 in
theorem get_yes_I {w : World} {a m : Nat} {ao : Option Addr} {L : List En} (r : Agn 68 76 w a m ao L) (f : En) (hf : f ∈ L) :
    Calls Try.prog 22 #[.pointer (some ⟨a, 0, none⟩), .int .i64 f.id] w fun e w' => e = .returned (.tuple #[.int .i64 f.tm, f.x, .bool true]) ∧ Grew w w' := by
  obtain ⟨cap, n, h, r⟩ := r
  have c0 := r.raw.c0
  have c1 := r.raw.c1
  obtain ⟨k, hk, rfl⟩ := (r.isL.mem f).1 hf
  obtain ⟨g, cur, rfl, hr, _, _⟩ := r.raw.has (by omega)
  obtain ⟨i0, i1, i2⟩ := hr.cell hk
  have ht := r.raw.top
  have hl := r.raw.look_yes hk
  have sx := fun (p : Addr) (W : World) => run_store Try.prog W p _ .plain (r.raw.ok k hk).2.2
  clear r hr hf
  go_enter Try.func22, Try.ntmps22
  go_wp2_with fail
  go_quiet (fail)
  all_goals
    go_wp2
    refine bodyPost_ret (v := .tuple #[.int .i64 (h k).tm, (h k).x, .bool true]) (by simp [results, Try.results22, go_sem]) rfl ?_
    exact ⟨rfl, Grew.alN _ _ _⟩

theorem get_no_I {w : World} {a m : Nat} {ao : Option Addr} {L : List En} (r : Agn 68 76 w a m ao L) (i : Int) (hi : wfI i) (hf : ∀ f ∈ L, f.id ≠ i) :
    Calls Try.prog 22 #[.pointer (some ⟨a, 0, none⟩), .int .i64 i] w fun e w' => e = .returned (.tuple #[.int .i64 0, .int .i64 0, .bool false]) ∧ w' = w := by
  obtain ⟨cap, n, h, r⟩ := r
  have c0 := r.raw.c0
  have c1 := r.raw.c1
  have hl := r.raw.look_no hi (fun k hk => hf _ ((r.isL.mem _).2 ⟨k, hk, rfl⟩))
  clear r hf
  go_enter Try.func22, Try.ntmps22
  go_wp2
  refine bodyPost_ret (v := .tuple #[.int .i64 0, .int .i64 0, .bool false]) (by simp [results, Try.results22, go_sem]) rfl ?_
  exact ⟨rfl, rfl⟩

theorem drop_no_I {w : World} {a m : Nat} {ao : Option Addr} {L : List En} (r : Agn 68 76 w a m ao L) (i : Int) (hi : wfI i) (hf : ∀ f ∈ L, f.id ≠ i) :
    Calls Try.prog 25 #[.pointer (some ⟨a, 0, none⟩), .int .i64 i] w fun e w' => e = .returned (.bool false) ∧ w' = w := by
  obtain ⟨cap, n, h, r⟩ := r
  have c1 := r.raw.c1
  have hl := r.raw.look_no hi (fun k hk => hf _ ((r.isL.mem _).2 ⟨k, hk, rfl⟩))
  clear r hf
  go_enter Try.func25, Try.ntmps25
  go_wp2
  go_ret
  exact ⟨rfl, rfl⟩

theorem drop_yes_I {w : World} {a m : Nat} {ao : Option Addr} {L : List En} (r : Agn 68 76 w a m ao L) (f : En) (hf : f ∈ L) :
    Calls Try.prog 25 #[.pointer (some ⟨a, 0, none⟩), .int .i64 f.id] w fun e w' => e = .returned (.bool true) ∧ Agn 68 76 w' a m ao (delL f.id L) ∧ Chg (Kag a m ao) w w' := by
  obtain ⟨cap, n, h, r⟩ := r
  have c1 := r.raw.c1
  obtain ⟨k, hk, rfl⟩ := (r.isL.mem f).1 hf
  obtain ⟨l, rfl⟩ : ∃ l, n = l + 1 := ⟨n - 1, by omega⟩
  have hl := r.raw.look_yes hk
  have R : Hid _ := r
  clear r hf
  go_enter Try.func25, Try.ntmps25
  go_wp2_with fail
  refine (remove_I R.out.raw k hk R.out.heap).mono ?_
  rintro e w1 ⟨rfl, h1, W, H1⟩
  go_wp2
  go_ret
  exact ⟨rfl, ⟨cap, l, h1, W.raw, H1, (R.out.isL.del R.out.raw.inj hk).same W.same⟩, W.chg⟩

theorem add_no_I {w : World} {a m : Nat} {ao : Option Addr} {L : List En} (r : Agn 68 76 w a m ao L) (f : En) (hf : f ∈ L) (t : Int) (xv : Int) :
    Calls Try.prog 23 #[.pointer (some ⟨a, 0, none⟩), .int .i64 f.id, .int .i64 t, .int .i64 xv] w fun e w' => e = .returned (.int .i64 30) ∧ w' = w := by
  obtain ⟨cap, n, h, r⟩ := r
  have c1 := r.raw.c1
  obtain ⟨k, hk, rfl⟩ := (r.isL.mem f).1 hf
  have hl := r.raw.look_yes hk
  clear r hf
  go_enter Try.func23, Try.ntmps23
  go_wp2
  go_ret
  exact ⟨rfl, rfl⟩

theorem Try.inf76 : (Try.prog.info? 76).map (fun i => (i.zero, i.size, i.bytes)) = some (some (.agg #[.int .i64 0, .int .i64 0, .int .i64 0]), 3, 24) := by kernel_rfl

set_option maxHeartbeats 2000000 in
theorem add_yes_I {w : World} {a m : Nat} {ao : Option Addr} {L : List En} (r : Agn 68 76 w a m ao L) (i t : Int) (xv : Int) (hi : wfI i) (hit : wfI t) (hf : ∀ f ∈ L, f.id ≠ i) (hb : (L.length + 1) * 40 ≤ 140737488355328) :
    Calls Try.prog 23 #[.pointer (some ⟨a, 0, none⟩), .int .i64 i, .int .i64 t, .int .i64 xv] w fun e w' => e = .returned (.int .i64 0) ∧ ∃ ao', Agn 68 76 w' a m ao' (insL ⟨i, t, .int .i64 xv⟩ L) ∧ Moved w ao ao' ∧ Chg (Kag a m ao) w w' := by
  obtain ⟨cap, n, h, r⟩ := r
  have c0 := r.raw.c0
  have c1 := r.raw.c1
  have hne := fun k (hk : k < n) => hf _ ((r.isL.mem _).2 ⟨k, hk, rfl⟩)
  have hl := r.raw.look_no hi hne
  rw [r.len] at hb
  obtain ⟨i0, hi0, hz0, hz1, hz2⟩ := info_parts Try.inf76
  have hown := r.raw.row.owns
  have R : Hid _ := r
  go_enter Try.func23, Try.ntmps23
  go_wp2_with (first
    | (at_builtin; refine wpList_app _ rfl (.tmp 31) (.tmp 37) 66 rfl 76 i0 _ 24 Try.underlying66 hi0 hz0 3 hz1 hz2 rfl (by decide) ao n cap _ rfl (hown.alloc _) ⟨_, 0, none⟩ 1 1 (En.cells ⟨i, t, .int .i64 xv⟩) rfl rfl (new_cells _ _ _) (fun u hu => by simp [En.cells] at hu; rcases hu with rfl | rfl | rfl <;> rfl) (Nat.le_trans (m := 35184372088832) (by omega) (by decide)) (by omega) ?_; intro ao' cap' w1 hrow hgr hmv; obtain ⟨d0, f0, d1, w3, hrun, R3, C3, M3⟩ := add_mid R.out.raw (e := ⟨i, t, .int .i64 xv⟩) ⟨hi, hit, rfl⟩ hne (by omega) hrow hgr hmv)
    | (go_at_call 50; refine (rise_I R3 n (by omega) (heap_upTo R.out.heap _)).mono ?_; rintro e w4 ⟨rfl, h4, W4, H4⟩))
  go_ret
  exact ⟨rfl, ao', ⟨cap', n + 1, h4, W4.raw, H4, (R.out.isL.add hf).same W4.same⟩, M3, C3.trans W4.chg (fun k hk hK => kag_moved M3 hk hK)⟩
end Go.Proofs.Ytjmiifgofedcnaa
