/-
  Add, of things that are numbers, where the row may pass 2^47 bytes.
-/
import Derived.Test.YtjmiifgofedcnaaAI
import Derived.Deep.DeepAppendWide
namespace Go.Proofs.Ytjmiifgofedcnaa
open Go.RowKit Ag

/-- A row of k things of so many bytes each may be grown to. -/
structure Fits (k bytes : Nat) : Prop where
  le : (k + k / 4 + 192) * bytes ≤ 281474976710656
theorem fits24 {k : Nat} (h : k * 20 ≤ 140737488355368) : Fits k 24 := by
  have h1 : k ≤ 7036874417768 := by omega
  have h2 : k + k / 4 + 192 ≤ 8796093022402 := by omega
  exact ⟨Nat.le_trans (Nat.mul_le_mul_right 24 h2) (by decide)⟩
section
variable {P : Program}
theorem wpList_appW (w : World) {ops : Array Oper} {rest : List Oper} {o : Oper} {a : Act} {Q : Exit → Act → World → Prop}
    (hgd : o.guard = none) (s x : Operand) (t : TypeId) (ho : o.op = .call { callee := .builtin .append, args := #[s, x], argTypes := #[t, t] })
    (e : TypeId) (i : TypeInfo) (z : Value) (bytes : Nat) (h1 : P.underlying t = some (.slice e)) (h2 : P.info? e = some i) (h3 : i.zero = some z) (sz : Nat) (h4 : i.size = sz) (h5 : i.bytes = bytes) (h6 : z.cells.size = sz) (h7 : 0 < sz)
    (ao : Option Addr) (n cap : Nat) (xs : List Value) (hs : a.eval s = .slice ao n cap) (hown : w.ownsRow 0 e sz (.slice ao n cap) n xs)
    (ad : Addr) (m c : Nat) (news : List Value) (hx : a.eval x = .slice (some ad) m c) (hl : news.length = m * sz) (hnews : ∀ j u, news[j]? = some u → w.cell? (ad.add j) = some u) (hone : ∀ u ∈ news, u.oneCell' = true)
    (b1 : n + m ≤ maxLen) (b3 : Fits (n + m) bytes)
    (hK : ∀ ao' cap' w', w'.ownsRow 0 e sz (.slice ao' (n + m) cap') (n + m) (xs ++ news) → w.grownBy w' (ao.map (·.block)) → Moved w ao ao' → wpList P ops Q rest (a.put o.dst (.slice ao' (n + m) cap')) w') :
    wpList P ops Q (o :: rest) a w := by
  have b2 := b3.le
  have hsmall : n + m ≤ 9223372036854775807 := by simp only [maxLen] at b1; omega
  rcases owns_shape hown with ⟨hv, hn0⟩ | ⟨g, cap', hv, _, hnc⟩
  · simp only [Value.slice.injEq] at hv
    obtain ⟨rfl, rfl, rfl⟩ := hv
    have hxs : xs = [] := List.eq_nil_of_length_eq_zero (by simpa using hown.1)
    subst hxs
    refine wpList_append_own_wide w hgd s x t ho w.heap.size e i z sz bytes h1 h2 h3 h4 h5 h6 h7 _ 0 [] hs (World.ownsRow_nil w _ e sz) ad m c news hx hl hnews hone b1 b2 (Nat.le_refl _) fun v' w' k1 k2 k3 => ?_
    rcases owns_shape k1 with ⟨rfl, h0⟩ | ⟨g, cap', rfl, hg, _⟩
    · obtain ⟨_, rfl⟩ := k3.1 rfl
      exact hK none 0 w' (owns_low k1) k2 (.inl rfl)
    · exact hK _ cap' w' (owns_low k1) k2 (.inr ⟨g, hg, rfl⟩)
  · simp only [Value.slice.injEq, true_and] at hv
    obtain ⟨rfl, rfl⟩ := hv
    by_cases hfit : n + m ≤ cap
    · refine wpList_append_fits w hgd s x t ho 0 e i sz h1 h2 h4 g n cap xs hs hown ad m c news hx hl hnews hone hfit fun w' k1 k2 => ?_
      exact hK _ cap w' k1 k2 (.inl rfl)
    · subst h4
      subst h5
      have hlen : (xs ++ news).length = (n + m) * i.size := by rw [List.length_append, hown.1, hl, Nat.add_mul]
      have holds : ∀ j u, xs[j]? = some u → w.cell? ((⟨g, 0, none⟩ : Addr).add j) = some u := hown.cells (g := g) rfl
      have hr := run_append_grow (P := P) w t o.type e i z h1 h2 h3 ⟨g, 0, none⟩ n cap xs hown.1 holds ad m c news hl hnews (by omega) (by omega) (growslice_fits_wide (by omega) b2)
      have hge := grownCap_ge w (n + m) cap e
      have hcm : grownCap w (n + m) cap e ≤ maxLen := grownCap_le_maxLen w (n + m) cap e b1
      obtain ⟨cap', w', hr', ho', hg'⟩ : ∃ cap' w', (Builtin.append_ #[t, t] o.type #[.slice (some ⟨g, 0, none⟩) n cap, .slice (some ad) m c]).run P w = .ok (.slice (some ⟨w.heap.size, 0, none⟩) (n + m) cap') w' ∧ w'.ownsRow 0 e i.size (.slice (some ⟨w.heap.size, 0, none⟩) (n + m) cap') (n + m) (xs ++ news) ∧ w.grownBy w' (some g) := by
        refine ⟨_, _, hr, ⟨hlen, .inr ⟨w.heap.size, _, _, rfl, Nat.zero_le _, Go.heap_alloc_new w.drew _, hge, hcm, ?_, ?_⟩⟩, ⟨rfl, rfl, rfl, by simp, fun k hk _ => Go.heap_alloc_old w.drew _ hk⟩⟩
        · simp only [Array.size_append, List.size_toArray, size_zeroCells, h6, hown.1, hl, ← Nat.add_mul]
          congr 1
          omega
        · simp only [Array.toList_append, List.append_assoc]
          rw [← List.append_assoc, ← hlen]
          exact List.take_left
      refine wpList_plain hgd fun K hK' => ?_
      unfold Oper.wp
      simp [execOp, ho, resolve, invoke, builtin, hs, hx, hr', Result.andThen]
      exact hK' _ _ (hK _ _ _ ho' hg' (.inr ⟨w.heap.size, Nat.le_refl _, rfl⟩))
end


set_option maxHeartbeats 2000000 in
theorem add_yes_W {w : World} {a m : Nat} {ao : Option Addr} {L : List En} (r : Agn 68 76 w a m ao L) (i t : Int) (xv : Int) (hi : wfI i) (hit : wfI t) (hf : ∀ f ∈ L, f.id ≠ i) (hb : (L.length + 1) * 20 ≤ 140737488355368) :
    Calls Try.prog 23 #[.pointer (some ⟨a, 0, none⟩), .int .i64 i, .int .i64 t, .int .i64 xv] w fun e w' => e = .returned (.int .i64 0) ∧ ∃ ao', Agn 68 76 w' a m ao' (insL ⟨i, t, .int .i64 xv⟩ L) ∧ Moved w ao ao' ∧ Chg (Kag a m ao) w w' := by
  obtain ⟨cap, n, h, r⟩ := r
  have c0 := r.raw.c0
  have c1 := r.raw.c1
  have hne := fun k (hk : k < n) => hf _ ((r.isL.mem _).2 ⟨k, hk, rfl⟩)
  have hl := r.raw.look_no hi hne
  rw [r.len] at hb
  obtain ⟨i0, hi0, hz0, hz1, hz2⟩ := info_parts Try.inf76
  have hown := r.raw.row.owns
  have R : Hid _ := r
  have hfits := fits24 hb
  go_enter Try.func23, Try.ntmps23
  go_wp2_with (first
    | (at_builtin; refine wpList_appW _ rfl (.tmp 31) (.tmp 37) 66 rfl 76 i0 _ 24 Try.underlying66 hi0 hz0 3 hz1 hz2 rfl (by decide) ao n cap _ rfl (hown.alloc _) ⟨_, 0, none⟩ 1 1 (En.cells ⟨i, t, .int .i64 xv⟩) rfl rfl (new_cells _ _ _) (fun u hu => by simp [En.cells] at hu; rcases hu with rfl | rfl | rfl <;> rfl) (Nat.le_trans (m := 35184372088832) (by omega) (by decide)) hfits ?_; intro ao' cap' w1 hrow hgr hmv; obtain ⟨d0, f0, d1, w3, hrun, R3, C3, M3⟩ := add_mid R.out.raw (e := ⟨i, t, .int .i64 xv⟩) ⟨hi, hit, rfl⟩ hne (by omega) hrow hgr hmv)
    | (go_at_call 50; refine (rise_I R3 n (by omega) (heap_upTo R.out.heap _)).mono ?_; rintro e w4 ⟨rfl, h4, W4, H4⟩))
  go_ret
  exact ⟨rfl, ao', ⟨cap', n + 1, h4, W4.raw, H4, (R.out.isL.add hf).same W4.same⟩, M3, C3.trans W4.chg (fun k hk hK => kag_moved M3 hk hK)⟩
end Go.Proofs.Ytjmiifgofedcnaa
