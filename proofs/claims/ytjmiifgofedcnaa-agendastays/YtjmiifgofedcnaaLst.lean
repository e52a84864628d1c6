/-
  listed, All, and what All hands back.
-/
import Derived.Test.YtjmiifgofedcnaaSort
import Derived.Test.YtjmiifgofedcnaaDI
import Derived.Test.YtjmiifgofedcnaaCI
import Derived.Test.YtjmiifgofedcnaaNum
import Derived.Laws.OwnMore
namespace Go.Proofs.Ytjmiifgofedcnaa
open Go.RowKit Go.Shelf Ag

attribute [local go_sem] Oper.semAt_some

theorem Try.inf74 : (Try.prog.info? 74).map (fun i => (i.zero, i.size, i.bytes)) = some (some (.agg #[.int .i64 0, .int .i64 0]), 2, 16) := by kernel_rfl

theorem allI (a : Nat) (w : World) : Calls Try.prog 24 #[.pointer (some ⟨a, 0, none⟩)] w fun e w' => e = .returned (.func (.func 51) #[] #[.pointer (some ⟨w.heap.size, 0, none⟩)]) ∧ w' = w.alloc (.cells #[.pointer (some ⟨a, 0, none⟩)] 24) := by
  go_enter Try.func24, Try.ntmps24
  go_wp2
  go_ret
  exact ⟨rfl, rfl⟩

namespace Ag
theorem IsL.perm {L : List En} {h : Nat → En} {n : Nat} (l : IsL L h n) (hi : ∀ k k', k < n → k' < n → (h k).id = (h k').id → k = k') : ((List.range n).map (fun j => (h j).pr)).Perm (L.map En.pr) := by
  have p : ((List.range n).map h).Nodup := by
    have q : (List.range n).Pairwise (fun a b => h a ≠ h b) := by
      refine (List.nodup_range (n := n)).imp_of_mem (fun {a b} ha hb hne => ?_)
      intro e
      exact hne (hi a b (List.mem_range.1 ha) (List.mem_range.1 hb) (by rw [e]))
    exact List.pairwise_map.2 q
  have := ((List.perm_ext_iff_of_nodup p l.srt.nodup).2 (fun e => by
    rw [l.mem e]
    simp [List.mem_map, List.mem_range])).map En.pr
  rwa [List.map_map] at this
theorem srt_pr {L : List En} (s : Srt L) : (L.map En.pr).Pairwise (fun x y => ltOf cfP x y = true) := List.pairwise_map.2 s
end Ag
/-- The list's block, the first k of n laid. -/
structure Lay (b n : Nat) (h : Nat → En) (k : Nat) (w : World) : Prop where
  blk : ∃ cur, w.heap[b]? = some (.cells cur 74 (0, 0)) ∧ cur.size = n * 2 ∧ ∀ j, j < k → cur[j * 2]? = some (.int .i64 (h j).id) ∧ cur[j * 2 + 1]? = some (.int .i64 (h j).tm)
section
variable {b n k : Nat} {h : Nat → En} {w w1 : World}
theorem Lay.lt (l : Lay b n h k w) : b < w.heap.size := l.blk.elim fun _ hc => (Array.getElem?_eq_some_iff.1 hc.1).1
theorem Lay.there (l : Lay b n h k w) {o : Nat} (ho : o < n * 2) : (∃ v, w.cell? ⟨b, o, none⟩ = some v) ∧ w.frozen? ⟨b, o, none⟩ = false := by
  obtain ⟨cur, hc, hz, _⟩ := l.blk
  exact ⟨⟨_, cells_at hc (Array.getElem?_eq_getElem (by omega))⟩, frozen_at hc⟩
theorem Lay.step (l : Lay b n h k w) (hk : k < n) (o : Obj) : Lay b n h (k + 1) (((w.setCell ⟨b, k * 2, none⟩ (.int .i64 (h k).id)).setCell ⟨b, k * 2 + 1, none⟩ (.int .i64 (h k).tm)).alloc o) := by
  have hb := l.lt
  obtain ⟨cur, hc, hz, hj⟩ := l.blk
  have h1 := heap_setCell_same w b (k * 2) cur 74 (.int .i64 (h k).id) hc
  have h2 := heap_setCell_same _ b (k * 2 + 1) _ 74 (.int .i64 (h k).tm) h1
  refine ⟨_, (Below.heap_alloc _ _ _ (by simpa using hb)).trans h2, by simp [hz], fun j hjk => ?_⟩
  by_cases e : j = k
  · subst e
    constructor
    · rw [Array.getElem?_setIfInBounds_ne (by omega)]
      exact Array.getElem?_setIfInBounds_self_of_lt (by omega)
    · exact Array.getElem?_setIfInBounds_self_of_lt (by simp; omega)
  · rw [Array.getElem?_setIfInBounds_ne (by omega), Array.getElem?_setIfInBounds_ne (by omega), Array.getElem?_setIfInBounds_ne (by omega), Array.getElem?_setIfInBounds_ne (by omega)]
    exact hj j (by omega)
end

set_option maxHeartbeats 2000000 in
theorem listed_I {w : World} {a m : Nat} {ao : Option Addr} {L : List En} (r : Agn 68 76 w a m ao L) (hlen : L.length * 20 ≤ 140737488355328) :
    Calls Try.prog 52 #[.pointer (some ⟨a, 0, none⟩)] w fun e w' => ∃ b, e = .returned (.slice (some ⟨b, 0, none⟩) L.length L.length) ∧ w.heap.size ≤ b ∧ b < w'.heap.size ∧ (∀ j x, L[j]? = some x → w'.cell? ⟨b, j * 2, none⟩ = some (.int .i64 x.id) ∧ w'.cell? ⟨b, j * 2 + 1, none⟩ = some (.int .i64 x.tm)) ∧ Below w.heap.size w w' := by
  obtain ⟨cap, n, h, r⟩ := r
  have hl := r.len
  rw [hl] at hlen ⊢
  have c0 := r.raw.c0
  obtain ⟨i0, hi0, hz0, hz1, hz2⟩ := info_parts Try.inf74
  obtain ⟨w1, hmk, ho1, hg1⟩ := run_make_full (P := Try.prog) w 0 85 74 i0 _ 2 Try.underlying85 hi0 hz0 hz1 .i64 .i64 n (by rw [hz2]; omega) (Nat.le_trans (m := 35184372088832) (by omega) (by decide)) (Nat.zero_le _)
  have l1 : Lay w.heap.size n h 0 w1 := by
    rcases ho1.2 with ⟨hv, _⟩ | ⟨g, cp, cur, hv, _, hgg, _, _, hsz, _⟩
    · simp at hv
    · simp at hv
      obtain ⟨rfl, rfl⟩ := hv
      exact ⟨cur, hgg, hsz, fun j hj => by omega⟩
  have b1 : Below w.heap.size w w1 := (Below.refl _ w).grown hg1 (Nat.le_refl _) (fun k e => by cases e)
  have d0 : w1.cell? ⟨a, 0, none⟩ = some (.slice ao n cap) := (Chg.of_below b1 (fun _ => False)).cell c0 (fun h => h)
  have L1 : Hid _ := l1
  have B1 : Hid _ := b1
  have R : Hid _ := r
  clear l1 b1 r ho1 hg1
  go_enter Try.func52, Try.ntmps52
  go_wp2
  generalize hb0 : w.heap.size = b at *
  go_loopg [17] n (fun gk c wr => ∃ k : Nat, k + gk = n ∧ c = .int .i64 k ∧ Lay b n h k wr ∧ Below b w wr)
  case atStart => exact ⟨0, by omega, rfl, L1.out, B1.out⟩
  case round =>
    obtain ⟨k, hk, rfl, hly, hbw⟩ := hrel
    have HB : Hid _ := hb0
    clear hb0
    by_cases hlt : k < n
    · have rk := R.out.raw.below (w' := wr) (by rw [HB.out]; exact hbw)
      obtain ⟨g, cur, rfl, hr, _, _⟩ := rk.has (by omega)
      obtain ⟨e0, e1, e2⟩ := hr.cell hlt
      have sx := fun (p : Addr) (W : World) => run_store Try.prog W p _ .plain (rk.ok k hlt).2.2
      obtain ⟨⟨v0, x0⟩, f0⟩ := hly.there (o := k * 2) (by omega)
      obtain ⟨⟨v1, x1⟩, f1⟩ := hly.there (o := k * 2 + 1) (by omega)
      have hbl := hly.lt
      have HL : Hid _ := hly
      have HBW : Hid _ := hbw
      have RK : Hid _ := rk
      clear hly hbw rk hr
      go_wp2
      go_roundg (n - (k + 1))
      case measure => omega
      case rel => exact ⟨k + 1, by omega, rfl, HL.out.step hlt _, ((HBW.out.setCell (p := ⟨b, k * 2, none⟩) (Nat.le_refl _) _).setCell (p := ⟨b, k * 2 + 1, none⟩) (Nat.le_refl _) _).alloc (by have := hbl; simp; omega) _⟩
    · obtain rfl : k = n := by omega
      have hbl := hly.lt
      obtain ⟨cur, hc, hz, hj⟩ := hly.blk
      have hsort := sort_any (w := wr) (blk := b) (cap := k) (d := (List.range k).map (fun j => (h j).pr)) (M := L.map En.pr) (R.out.isL.perm R.out.raw.inj) (srt_pr R.out.isL.srt) hbl (by simp; omega) hc (fun j x hx => by
        have hjk : j < k := by have := (List.getElem?_eq_some_iff.1 hx).1; simpa using this
        have hxe : x = (h j).pr := by simp [hjk] at hx; exact hx.symm
        subst hxe
        exact hj j hjk)
      rw [List.length_map, List.length_range] at hsort
      have HBW : Hid _ := hbw
      clear hly hbw hc
      go_wp2_with fail
      refine hsort.mono ?_
      rintro e w2 ⟨rfl, hM, hC⟩
      go_wp2
      go_ret
      have hb2 : Below b w w2 := HBW.out.trans ⟨hC.os, hC.tape, hC.output, hC.size, fun j hj => hC.block j (by omega) (by omega)⟩
      rw [HB.out]
      exact ⟨b, rfl, Nat.le_refl _, Nat.lt_of_lt_of_le hbl hC.size, fun j x hx => hM j x.pr (by simp [hx]), hb2⟩

/-- The pairs of L lie at b. -/
def LsAt (b : Nat) (L : List En) (W : World) : Prop := ∀ j x, L[j]? = some x → W.cell? ⟨b, j * 2, none⟩ = some (.int .i64 x.id) ∧ W.cell? ⟨b, j * 2 + 1, none⟩ = some (.int .i64 x.tm)
theorem LsAt.chg {b : Nat} {L : List En} {W W' : World} {K : Nat → Prop} (h : LsAt b L W) (c : Chg K W W') (hb : ¬ K b) : LsAt b L W' := fun j x hx => ⟨c.cell (h j x hx).1 hb, c.cell (h j x hx).2 hb⟩
def natOf (v : Value) : Nat := match v with
  | .int _ z => z.toNat
  | _ => 0

set_option maxRecDepth 100000 in
set_option maxHeartbeats 2000000 in
theorem all1_I {n : Nat} (hn : 1 ≤ n) {l bA a m : Nat} {ao : Option Addr} {L : List En} {N : Nat → Prop} {T : Nat → Nat → World → Prop} {Tx : World → Prop} (W : World) (c1 : W.cell? ⟨bA, 0, none⟩ = some (.pointer (some ⟨a, 0, none⟩))) (hA : Agn 68 76 W a m ao L) (hlen : L.length * 20 ≤ 140737488355328)
    (hN : ∀ k, N k → k < W.heap.size) (h0 : ∀ W', Below W.heap.size W W' → T W'.heap.size 0 W') (hT : ∀ B k A A', T B k A → Below A.heap.size A A' → T B k A')
    (hY : ∀ B k e A, W.heap.size ≤ B → L[k]? = some e → T B k A → YieldAt Fence.wide (n - 1) Try.prog l #[.int .i64 e.id, .int .i64 e.tm] A fun r A' => (r = .returned (.bool true) ∧ T B (k + 1) A' ∧ Chg (fun j => N j ∨ B ≤ j) A A') ∨ (r = .returned (.bool false) ∧ Tx A')) :
    CallsIn Fence.wide n Try.prog 51 #[.func (.yield l) #[] #[], .pointer (some ⟨bA, 0, none⟩)] W fun e W' => (∃ v, e = .returned v) ∧ ((∃ B, T B L.length W') ∨ Tx W') := by
  refine callsIn_of_wp Try.func51 rfl trivial ?_ rfl
  simp only [Try.ntmps51, List.size_toArray, List.length_cons, List.length_nil, Nat.reduceAdd, Nat.reduceSub, Array.replicate_succ, Array.replicate_zero, List.push_toArray, List.append_toArray, List.nil_append, List.cons_append]
  gi_wp2_with (first
    | (refine ⟨trivial, ?_⟩; gi_at_call 52; refine (callsIn_wide.2 (listed_I hA hlen)).mono ?_; rintro e w1 ⟨b, rfl, hb1, hb2, hls, hbw⟩))
  obtain ⟨q, hq⟩ : ∃ q, L.length = q := ⟨_, rfl⟩
  rw [hq] at hlen ⊢
  have T0 : Hid _ := h0 w1 hbw
  have LS : Hid (LsAt b L w1) := hls
  clear hls
  gi_loopw [8] (fun p wr => ∃ k : Nat, p = .int .i64 k ∧ k ≤ q ∧ LsAt b L wr ∧ T w1.heap.size k wr ∧ w1.heap.size ≤ wr.heap.size) (fun p _ => q - natOf p)
  case atStart => exact ⟨0, rfl, by omega, LS.out, T0.out, Nat.le_refl _⟩
  case round =>
    obtain ⟨k, rfl, hkq, hls, hTk, hwz⟩ := hrel
    by_cases hlt : k < q
    · obtain ⟨e, he⟩ : ∃ e, L[k]? = some e := ⟨_, List.getElem?_eq_getElem (by omega)⟩
      obtain ⟨x0, x1⟩ := hls k e he
      obtain ⟨wn, hwn⟩ : ∃ wn, wr.alloc (.cells #[.int .i64 e.id, .int .i64 e.tm] 74) = wn := ⟨_, rfl⟩
      have bn : Below wr.heap.size wr wn := by rw [← hwn]; exact (Below.refl _ _).alloc (Nat.le_refl _) _
      obtain ⟨fn, tmps, assign, body, hy, hR⟩ := hY w1.heap.size k e wn hbw.size he (hT _ _ _ _ hTk bn)
      have LSn : Hid (LsAt b L wn) := hls.chg (Chg.of_below bn (fun _ => False)) (fun h => h)
      have HWZ : Hid (w1.heap.size ≤ wn.heap.size) := Nat.le_trans hwz bn.size
      have y0 : wn.cell? ⟨wr.heap.size, 0, none⟩ = some (.int .i64 e.id) := by rw [← hwn]; exact cell_nw wr rfl
      have y1 : wn.cell? ⟨wr.heap.size, 1, none⟩ = some (.int .i64 e.tm) := by rw [← hwn]; exact cell_nw wr rfl
      clear hls hTk
      gi_wp2
      refine hR.mono ?_
      rintro r w3 (⟨rfl, hT3, hC3⟩ | ⟨rfl, hx3⟩)
      · gi_wp2
        go_roundw
        case rel => exact ⟨k + 1, rfl, by omega, LSn.out.chg hC3 (by rintro (h | h); exact absurd (hN b h) (by omega); omega), hT3, Nat.le_trans HWZ.out hC3.size⟩
        case measure => simp [natOf]; omega
      · gi_wp2
        refine bodyPost_ret (results_none rfl _ _ _) rfl ?_
        exact ⟨⟨_, rfl⟩, .inr hx3⟩
    · obtain rfl : k = q := by omega
      have TK : Hid _ := hTk
      clear hTk hls
      gi_wp2
      go_end0
      exact ⟨⟨_, rfl⟩, .inl ⟨_, hq ▸ TK.out⟩⟩
end Go.Proofs.Ytjmiifgofedcnaa
