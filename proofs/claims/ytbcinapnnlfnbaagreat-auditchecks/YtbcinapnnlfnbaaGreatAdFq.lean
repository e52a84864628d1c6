/-
  LAYER 17: slices.Grow, slices.Concat on turns; turnsOf (made by gen17cc.py).
-/
import Derived.Test.YtbcinapnnlfnbaaGreatXsw
import Derived.Test.YtbcinapnnlfnbaaGreatXsh
import Derived.Test.YtbcinapnnlfnbaaGreatXlu
import Derived.Test.YtbcinapnnlfnbaaGreatRuFq
import Derived.Lib.AppendZeros
namespace Go.Proofs.YtbcinapnnlfnbaaGreat
open Go.RowKit Wd Tr Cg Lg Go.Lib

theorem Tryz.infTurn : (Tryz.prog.info? 63).map (fun i => (i.zero, i.size, i.bytes)) = some (some (.agg #[.int .i64 0, .bool false, .slice none 0 0]), 3, 40) := by kernel_rfl
theorem grow_none (w : World) : Calls Tryz.prog 96 #[.slice none 0 0, .int .i64 0] w fun e w' => e = .returned (.slice none 0 0) ∧ w' = w := by
  go_enter Tryz.func96, Tryz.ntmps96
  go_wp2
  go_ret
  exact ⟨rfl, rfl⟩
set_option maxHeartbeats 1000000 in
set_option maxRecDepth 20000 in
theorem grow_some (w : World) (n : Nat) (h0 : 0 < n) (hn : n ≤ 1000000) : Calls Tryz.prog 96 #[.slice none 0 0, .int .i64 n] w fun e w' => ∃ v, e = .returned v ∧ w'.ownsRow w.heap.size 63 3 v 0 [] ∧ Below w.heap.size w w' := by
  obtain ⟨i0, hi0, hz0, hz1, hz2⟩ := info_parts Tryz.infTurn
  have hap := run_append_nil_zeros (P := Tryz.prog) w 60 3 60 63 i0 _ .i64 .i64 Tryz.underlying60 Tryz.underlying3 hi0 hz0 n h0 (by rw [hz1]; omega) (by omega) (by rw [hz2]; omega)
  have hge := grownCap_ge w n 0 63
  have hle := grownCap_le_maxLen w n 0 63 (by unfold maxLen; omega)
  obtain ⟨C, hC⟩ : ∃ C, grownCap w n 0 63 = C := ⟨_, rfl⟩
  rw [hC] at hap hge hle
  obtain ⟨W, hW⟩ : ∃ W, (w.drew.alloc (.cells (Builtin.zeroCells (Value.agg #[.int .i64 0, .bool false, .slice none 0 0]).cells n ++ Builtin.zeroCells (Value.agg #[.int .i64 0, .bool false, .slice none 0 0]).cells (C - n)) 63)) = W := ⟨_, rfl⟩
  have HO : Hid (W.ownsRow w.heap.size 63 3 (.slice (some ⟨w.heap.size, 0, none⟩) 0 C) 0 [] ∧ Below w.heap.size w W) := by
    constructor
    · refine ⟨rfl, .inr ⟨w.heap.size, C, _, rfl, Nat.le_refl _, by rw [← hW]; exact heap_alloc_new w.drew _, by omega, hle, ?_, by simp⟩⟩
      simp [Builtin.zeroCells, Value.cells]
      omega
    · rw [← hW]
      exact ((Below.refl _ w).drew).alloc (by exact Nat.le_refl _) _
  rw [hW] at hap
  have h1 : ¬ ((n : Int) < 0) := by omega
  have h2 : (0 : Int) < (n : Int) := by omega
  have hn' : (n : Int) ≤ 1000000 := by omega
  clear hC hW hge hle hn
  go_enter Tryz.func96, Tryz.ntmps96
  go_wp2_with (at_builtin; refine wpList_append_run _ rfl (.tmp 20) (.tmp 21) 60 3 rfl _ _ rfl rfl _ _ hap ?_)
  go_ret
  exact ⟨_, rfl, HO.out⟩
theorem grow_any (w : World) (n : Nat) (hn : n ≤ 1000000) : Calls Tryz.prog 96 #[.slice none 0 0, .int .i64 n] w fun e w' => ∃ v, e = .returned v ∧ w'.ownsRow w.heap.size 63 3 v 0 [] ∧ Below w.heap.size w w' := by
  by_cases h : n = 0
  · subst h
    exact (grow_none w).mono (fun e w' h => ⟨_, h.1, by rw [h.2]; exact own_nil _ _ _ _, by rw [h.2]; exact Below.refl _ _⟩)
  · exact grow_some w n (by omega) hn
theorem own_bel {W W' : World} {B n : Nat} {v : Value} {xs : List Value} (h : W.ownsRow B 63 3 v n xs) (g : W.grownBy W' v.ownBlock) (hB : B ≤ W.heap.size) : Below B W W' := ⟨g.os, g.tape, g.output, g.size, fun k hk => g.block k (by omega) (fun e => by have := (h.lt k e.symm).1; omega)⟩
/-- An own row's cells. -/
theorem own_src {W : World} {B n c : Nat} {ga : Option Addr} {xs : List Value} (h : W.ownsRow B 63 3 (.slice ga n c) n xs) : (ga = none → n = 0 ∧ c = 0) ∧ ∀ ad, ga = some ad → ∀ j u, xs[j]? = some u → W.cell? (ad.add j) = some u := by
  rcases h.2 with ⟨h1, h2⟩ | ⟨g, cap, cur, h1, h2, h3, h4, h5, h6, h7⟩
  · injection h1 with e1 e2 e3
    subst e1
    exact ⟨fun _ => ⟨h2, e3⟩, fun ad e => by cases e⟩
  · injection h1 with e1 e2 e3
    subst e1
    refine ⟨(fun e => by cases e), fun ad e j u hu => ?_⟩
    cases e
    rw [Addr.add_lit, Nat.zero_add]
    refine cells_at h3 ?_
    rw [← h7] at hu
    have hj := (List.getElem?_eq_some_iff.1 hu).1
    rw [List.length_take] at hj
    rw [List.getElem?_take_of_lt (by omega)] at hu
    simpa using hu
set_option maxHeartbeats 2000000 in
set_option maxRecDepth 20000 in
theorem concat_any {S : Slx} {w : World} {q B B' na nb ca cb : Nat} {ga gb : Option Addr} (A D : List Ev) (hA : w.ownsRow B 63 3 (.slice ga na ca) na (flatE S A)) (hD : w.ownsRow B' 63 3 (.slice gb nb cb) nb (flatE S D)) (hla : A.length = na) (hlb : D.length = nb) (hsz : na + nb ≤ 1000000)
    (q0 : w.cell? ⟨q, 0, none⟩ = some (.slice ga na ca)) (q1 : w.cell? ⟨q, 1, none⟩ = some (.slice gb nb cb)) :
    Calls Tryz.prog 65 #[.slice (some ⟨q, 0, none⟩) 2 2] w fun e w' => ∃ v, e = .returned v ∧ w'.ownsRow w.heap.size 63 3 v (na + nb) (flatE S (A ++ D)) ∧ Below w.heap.size w w' := by
  obtain ⟨i0, hi0, hz0, hz1, hz2⟩ := info_parts Tryz.infTurn
  have HSA := own_src hA
  have HSB := own_src hD
  have cG := grow_any w (na + nb) hsz
  have hn1 : (na : Int) ≤ 1000000 := by omega
  have hn2 : (nb : Int) ≤ 1000000 := by omega
  have HL : Hid ((flatE S A).length = na * 3 ∧ (flatE S D).length = nb * 3 ∧ na + nb ≤ 1000000) := ⟨by rw [flatE_len, hla], by rw [flatE_len, hlb], hsz⟩
  have HS : Hid ((∀ x, Below w.heap.size w x → ∀ ad, ga = some ad → ∀ j u, (flatE S A)[j]? = some u → x.cell? (ad.add j) = some u) ∧ (∀ x, Below w.heap.size w x → ∀ ad, gb = some ad → ∀ j u, (flatE S D)[j]? = some u → x.cell? (ad.add j) = some u)) := ⟨fun x hx ad e j u hu => cellB hx (HSA.2 ad e j u hu), fun x hx ad e j u hu => cellB hx (HSB.2 ad e j u hu)⟩
  have HNA : Hid (ga = none → na = 0 ∧ ca = 0) := HSA.1
  have HNB : Hid (gb = none → nb = 0 ∧ cb = 0) := HSB.1
  have w0 : ((na + nb : Nat) : Int) = (na : Int) + (nb : Int) := by omega
  rw [w0] at cG
  clear hA hD hla hlb hsz HSA HSB w0
  go_enter Tryz.func65, Tryz.ntmps65
  go_wp2
  refine wp_loop_rounds 3 ?_
  rw [rounds_succ]
  go_wp2
  rw [rounds_succ]
  go_wp2
  rw [rounds_succ]
  go_upto_region 10 with (go_at_call 96; refine cG.mono ?_; rintro e w1 ⟨v, rfl, hr1, hb1⟩)
  have q0' := cellB hb1 q0
  have q1' := cellB hb1 q1
  have HR1 : Hid (w1.ownsRow w.heap.size 63 3 v 0 []) := hr1
  have HB1 : Hid (Below w.heap.size w w1) := hb1
  have HC1 := HS.out.1 w1 hb1
  have hsz1 := hb1.size
  clear hr1 hb1 cG
  go_wp2
  refine wp_loop_rounds 3 ?_
  rw [rounds_succ]
  go_wp2_with (at_builtin; refine wpList_append_mv rfl (.tmp 31) (.tmp 32) 60 rfl w.heap.size 63 i0 _ 3 40 Tryz.underlying60 hi0 hz0 hz1 hz2 rfl (by decide) v 0 [] rfl HR1.out ga na ca (flatE S A) rfl HNA.out HL.out.1 HC1 (flatE_one S A) ?_ ?_ ?_ ?_; exact (Nat.le_trans (m := 35184372088832) (by omega) (by decide)); omega; exact hsz1; intro v2 w2 r2 g2 m2; rw [Nat.zero_add, List.nil_append] at r2; have hb2 : Below w.heap.size w w2 := HB1.out.trans (own_bel HR1.out g2 hsz1); have q1'' := cellB hb2 q1)
  have HR2 : Hid (w2.ownsRow w.heap.size 63 3 v2 na (flatE S A)) := r2
  have HB2 : Hid (Below w.heap.size w w2) := hb2
  have HC2 := HS.out.2 w2 hb2
  have hsz2 := hb2.size
  clear r2 g2 m2 hb2 HC1 q0' q1' hsz1
  rw [rounds_succ]
  go_wp2_with (at_builtin; refine wpList_append_mv rfl (.tmp 31) (.tmp 32) 60 rfl w.heap.size 63 i0 _ 3 40 Tryz.underlying60 hi0 hz0 hz1 hz2 rfl (by decide) v2 na (flatE S A) rfl HR2.out gb nb cb (flatE S D) rfl HNB.out HL.out.2.1 HC2 (flatE_one S D) ?_ ?_ ?_ ?_; exact (Nat.le_trans (m := 35184372088832) (by omega) (by decide)); omega; exact hsz2; intro v3 w3 r3 g3 m3)
  have HR3 : Hid (w3.ownsRow w.heap.size 63 3 v3 (na + nb) (flatE S (A ++ D)) ∧ Below w.heap.size w w3) := ⟨by rw [flatE_app]; exact r3, HB2.out.trans (own_bel HR2.out g3 hsz2)⟩
  clear r3 g3 m3 HC2 q1'' hsz2
  rw [rounds_succ]
  go_wp2
  go_ret
  exact ⟨v3, rfl, HR3.out⟩
/-- Where the jobs' lists lie. -/
def slxOf (ps : List Pj) : Slx := ⟨fun k => match ps[k]? with | none => none | some p => p.sa, fun k => match ps[k]? with | none => 0 | some p => p.v.set.length, fun k => match ps[k]? with | none => 0 | some p => p.sc⟩
/-- What stands between two rounds of turnsOf. -/
structure Tu (S : Slx) (w0 wr : World) (v3 v4 : Value) (gs ts : List Ev) : Prop where
  g : wr.ownsRow w0.heap.size 63 3 v3 gs.length (flatE S gs)
  t : wr.ownsRow w0.heap.size 63 3 v4 ts.length (flatE S ts)
  d : ∀ b, v3.ownBlock = some b → v4.ownBlock ≠ some b
  bel : Below w0.heap.size w0 wr
section
variable {S : Slx} {w0 wr X w7 : World} {v3 v4 v7 : Value} {gs ts : List Ev} {e : Ev}
theorem Tu.on (h : Tu S w0 wr v3 v4 gs ts) (b : Below wr.heap.size wr X) : Tu S w0 X v3 v4 gs ts :=
  ⟨row_stand h.g (fun k hk => b.block k (h.g.lt k hk).2), row_stand h.t (fun k hk => b.block k (h.t.lt k hk).2), h.d, h.bel.trans (b.mono h.bel.size)⟩
theorem Tu.take (h : Tu S w0 X v3 v4 gs ts) (r7 : w7.ownsRow w0.heap.size 63 3 v7 (ts.length + 1) (flatE S ts ++ flatE S [e])) (g7 : X.grownBy w7 v4.ownBlock) (m7 : v7.ownBlock = v4.ownBlock ∨ v7.ownBlock = some X.heap.size) : Tu S w0 w7 v3 v7 gs (ts ++ [e]) := by
  refine ⟨row_stand h.g (fun k hk => g7.block k (h.g.lt k hk).2 (fun q => h.d k hk q.symm)), by rw [flatE_app, List.length_append]; exact r7, fun k hk q => ?_, h.bel.trans (own_bel h.t g7 h.bel.size)⟩
  rcases m7 with m | m
  · rw [m] at q; exact h.d k hk q
  · rw [m] at q; have := (h.g.lt k hk).2; cases q; omega
theorem Tu.give (h : Tu S w0 X v3 v4 gs ts) (r7 : w7.ownsRow w0.heap.size 63 3 v7 (gs.length + 1) (flatE S gs ++ flatE S [e])) (g7 : X.grownBy w7 v3.ownBlock) (m7 : v7.ownBlock = v3.ownBlock ∨ v7.ownBlock = some X.heap.size) : Tu S w0 w7 v7 v4 (gs ++ [e]) ts := by
  refine ⟨by rw [flatE_app, List.length_append]; exact r7, row_stand h.t (fun k hk => g7.block k (h.t.lt k hk).2 (fun q => h.d k q.symm hk)), fun k hk q => ?_, h.bel.trans (own_bel h.g g7 h.bel.size)⟩
  rcases m7 with m | m
  · rw [m] at hk; exact h.d k hk q
  · rw [m] at hk; have := (h.t.lt k q).2; cases hk; omega
end
theorem three_cells (Y : World) (a b c : Value) (t : TypeId) : ∀ ad, some (⟨Y.heap.size, 0, none⟩ : Addr) = some ad → ∀ j u, [a, b, c][j]? = some u → (Y.alloc (.cells #[a, b, c] t)).cell? (ad.add j) = some u := by
  intro ad e j u hu
  cases e
  rw [Addr.add_lit, Nat.zero_add]
  refine cells_at (heap_alloc_new Y _) ?_
  simpa using hu
set_option maxHeartbeats 4000000 in
set_option maxRecDepth 20000 in
theorem turnsOf_any {w : World} {jo : Option Addr} {ps : List Pj} {cj : Nat} (hJ : PjsAt w jo ps) (hl : ps.length ≤ 4096) :
    Calls Tryz.prog 35 #[.slice jo ps.length cj] w fun e w' => ∃ (v : Value) (C : List Ev), e = .returned v ∧ C.Perm (evA (ps.map Pj.v)) ∧ SrtE C ∧ w'.ownsRow w.heap.size 63 3 v C.length (flatE (slxOf ps) C) ∧ Below w.heap.size w w' := by
  obtain ⟨i0, hi0, hz0, hz1, hz2⟩ := info_parts Tryz.infTurn
  obtain ⟨g, o, hg, hrow⟩ := row_at hJ
  have HROW : Hid (∀ x, Below w.heap.size w x → ∀ (k : Nat) (q : Pj), ps[k]? = some q → JbAt x g (o + k * 8) q.jb) := hrow
  have HGET : Hid (∀ k, k < ps.length → ∃ q, ps[k]? = some q ∧ (ps.map Pj.v)[k]? = some q.v) := fun k hk => ⟨_, List.getElem?_eq_getElem hk, vmap_at (List.getElem?_eq_getElem hk)⟩
  have HSX : Hid (∀ (k : Nat) (q : Pj), ps[k]? = some q → (slxOf ps).so k = q.sa ∧ (slxOf ps).sl k = q.v.set.length ∧ (slxOf ps).sc k = q.sc) := fun k q h => by simp [slxOf, h]
  have HST : Hid (∀ x (p : Pj), Calls Tryz.prog 63 #[pjV p] x fun e w' => e = .returned (.bool (startB p.v.st)) ∧ Below x.heap.size x w') := fun x p => started_any p
  have HVL : Hid ((ps.map Pj.v).length = ps.length) := by show (ps.map Pj.v).length = ps.length; simp
  obtain ⟨S, hS⟩ : ∃ S, slxOf ps = S := ⟨_, rfl⟩
  rw [hS] at HSX ⊢
  obtain ⟨vs, hvs⟩ : ∃ vs, ps.map Pj.v = vs := ⟨_, rfl⟩
  rw [hvs] at HGET HVL ⊢
  obtain ⟨N, hN⟩ : ∃ N, ps.length = N := ⟨_, rfl⟩
  rw [hN] at hl hg HGET HVL ⊢
  have HG : Hid (0 < N → jo = some ⟨g, o, none⟩) := hg
  clear hN hg hrow hJ hvs hS
  have hlI : (N : Int) ≤ 4096 := by omega
  go_enter Tryz.func35, Tryz.ntmps35
  go_wp2
  go_loopg [3, 4, 10] N (fun gk z3 z4 z10 wr => ∃ (k : Nat) (v3 v4 : Value), k + gk = N ∧ v3 = z3 ∧ v4 = z4 ∧ z10 = .int .i64 (k : Int) ∧ (evL evG vs k).length ≤ k ∧ (evL evT vs k).length ≤ k ∧ Tu S w wr v3 v4 (evL evG vs k) (evL evT vs k))
  case atStart => exact ⟨0, _, _, by omega, rfl, rfl, rfl, by simp [evL], by simp [evL], ⟨own_nil _ _ _ _, own_nil _ _ _ _, (fun b e => by cases e), Below.refl _ _⟩⟩
  case round =>
    obtain ⟨k, v3, v4, hk, rfl, rfl, rfl, hgl, htl, htu⟩ := hrel
    have HK : Hid (k + gk = N) := hk
    have HTU : Hid (Tu S w wr v3 v4 (evL evG vs k) (evL evT vs k)) := htu
    clear htu
    by_cases hlt : k < N
    · have hlt' : (k : Int) < (N : Int) := by omega
      obtain ⟨p, hp, hv⟩ := HGET.out k hlt
      obtain rfl := HG.out (by omega)
      obtain ⟨y0, y1, y2, y3, y4, y5, y6, y7⟩ := HROW.out wr HTU.out.bel k p hp
      obtain ⟨sx1, sx2, sx3⟩ := HSX.out k p hp
      have HG1 : Hid (evL evG vs (k + 1) = evL evG vs k ++ evG p.v k) := evL_succ _ hv
      have HT1 : Hid (evL evT vs (k + 1) = evL evT vs k ++ evT p.v k) := evL_succ _ hv
      have cS := fun x => HST.out x p
      clear hp hv
      obtain ⟨⟨ac, nd, lm, sb, st, sr, en, xs⟩, sa, sc⟩ := p
      dsimp only [Pj.jb] at y0 y1 y2 y3 y4 y5 y6 y7 HG1 HT1 sx1 sx2 sx3
      unfold pjV at cS
      dsimp only at cS
      obtain ⟨X, hX⟩ : ∃ X, wr.alloc (.cells #[.int .i64 ac, .int .i64 nd, .int .i64 lm, .int .i64 sb, .int .i64 st, .int .i64 sr, .int .i64 en, .slice sa xs.length sc] 36) = X := ⟨_, rfl⟩
      have hbX : Below wr.heap.size wr X := by rw [← hX]; exact (Below.refl _ wr).alloc (Nat.le_refl _) _
      have n0 : X.cell? ⟨wr.heap.size, 0, none⟩ = some (.int .i64 ac) := by rw [← hX]; exact cells_at (heap_alloc_new wr _) rfl
      have n1 : X.cell? ⟨wr.heap.size, 1, none⟩ = some (.int .i64 nd) := by rw [← hX]; exact cells_at (heap_alloc_new wr _) rfl
      have n2 : X.cell? ⟨wr.heap.size, 2, none⟩ = some (.int .i64 lm) := by rw [← hX]; exact cells_at (heap_alloc_new wr _) rfl
      have n3 : X.cell? ⟨wr.heap.size, 3, none⟩ = some (.int .i64 sb) := by rw [← hX]; exact cells_at (heap_alloc_new wr _) rfl
      have n4 : X.cell? ⟨wr.heap.size, 4, none⟩ = some (.int .i64 st) := by rw [← hX]; exact cells_at (heap_alloc_new wr _) rfl
      have n5 : X.cell? ⟨wr.heap.size, 5, none⟩ = some (.int .i64 sr) := by rw [← hX]; exact cells_at (heap_alloc_new wr _) rfl
      have n6 : X.cell? ⟨wr.heap.size, 6, none⟩ = some (.int .i64 en) := by rw [← hX]; exact cells_at (heap_alloc_new wr _) rfl
      have n7 : X.cell? ⟨wr.heap.size, 7, none⟩ = some (.slice sa xs.length sc) := by rw [← hX]; exact cells_at (heap_alloc_new wr _) rfl
      have HTX : Hid (Tu S w X v3 v4 (evL evG vs k) (evL evT vs k)) := HTU.out.on hbX
      go_upto_region 5 with fail
      try rw [hX]
      clear hX y0 y1 y2 y3 y4 y5 y6 y7 hbX
      cases hs : startB st with
      | false =>
        rw [hs] at cS
        have HNG : Hid (evG ⟨ac, nd, lm, sb, st, sr, en, xs⟩ k = [] ∧ evT ⟨ac, nd, lm, sb, st, sr, en, xs⟩ k = []) := ⟨by simp [evG, actB, hs], by simp [evT, actB, hs]⟩
        clear hs
        go_wp2_with (go_at_call 63; refine (cS _).mono ?_; rintro e Y1 ⟨rfl, hb1⟩)
        have HTY : Hid (Tu S w Y1 v3 v4 (evL evG vs k) (evL evT vs k)) := HTX.out.on hb1
        clear hb1
        go_roundg (N - (k + 1))
        case measure => have := HK.out; omega
        case rel => exact ⟨k + 1, _, _, by omega, rfl, rfl, by simp, by rw [HG1.out, HNG.out.1, List.append_nil]; omega, by rw [HT1.out, HNG.out.2, List.append_nil]; omega, by rw [HG1.out, HT1.out, HNG.out.1, HNG.out.2, List.append_nil, List.append_nil]; exact HTY.out⟩
      | true =>
        rw [hs] at cS
        by_cases hse : sr = en
        · subst hse
          have HNG : Hid (evG ⟨ac, nd, lm, sb, st, sr, sr, xs⟩ k = [] ∧ evT ⟨ac, nd, lm, sb, st, sr, sr, xs⟩ k = []) := ⟨by simp [evG, actB], by simp [evT, actB]⟩
          clear hs
          go_wp2_with (go_at_call 63; refine (cS _).mono ?_; rintro e Y1 ⟨rfl, hb1⟩; have b5 := cellB hb1 n5; have b6 := cellB hb1 n6)
          have HTY : Hid (Tu S w Y1 v3 v4 (evL evG vs k) (evL evT vs k)) := HTX.out.on hb1
          clear hb1
          go_roundg (N - (k + 1))
          case measure => have := HK.out; omega
          case rel => exact ⟨k + 1, _, _, by omega, rfl, rfl, by simp, by rw [HG1.out, HNG.out.1, List.append_nil]; omega, by rw [HT1.out, HNG.out.2, List.append_nil]; omega, by rw [HG1.out, HT1.out, HNG.out.1, HNG.out.2, List.append_nil, List.append_nil]; exact HTY.out⟩
        · have HNT : Hid (evT ⟨ac, nd, lm, sb, st, sr, en, xs⟩ k = [⟨sr, true, k⟩]) := by show evT ⟨ac, nd, lm, sb, st, sr, en, xs⟩ k = _; simp [evT, actB, hs, hse]
          have HNG : Hid (evG ⟨ac, nd, lm, sb, st, sr, en, xs⟩ k = if st = 2 then [] else [⟨en, false, k⟩]) := by
            show evG ⟨ac, nd, lm, sb, st, sr, en, xs⟩ k = _
            by_cases h2 : st = 2
            · simp [evG, h2]
            · simp [evG, actB, hs, hse, h2]
          clear hs
          go_upto_region 6 with (go_at_call 63; refine (cS _).mono ?_; rintro e Y1 ⟨rfl, hb1⟩; have b5 := cellB hb1 n5; have b6 := cellB hb1 n6)
          have b4 := cellB hb1 n4
          have b7 := cellB hb1 n7
          have HTY : Hid (Tu S w Y1 v3 v4 (evL evG vs k) (evL evT vs k)) := HTX.out.on hb1
          clear hb1 cS n0 n1 n2 n3 n4 n5 n6 n7 HTX
          obtain ⟨Y2, hY2⟩ : ∃ Y2, Y1.alloc (.cells #[.int .i64 sr, .bool true, .slice sa xs.length sc] 63) = Y2 := ⟨_, rfl⟩
          have hb2 : Below Y1.heap.size Y1 Y2 := by rw [← hY2]; exact (Below.refl _ Y1).alloc (Nat.le_refl _) _
          have HTY2 : Hid (Tu S w Y2 v3 v4 (evL evG vs k) (evL evT vs k)) := HTY.out.on hb2
          have HC3 : Hid (∀ ad, some (⟨Y1.heap.size, 0, none⟩ : Addr) = some ad → ∀ j u, (flatE S [⟨sr, true, k⟩])[j]? = some u → Y2.cell? (ad.add j) = some u) := by
            rw [← hY2]
            simp only [flatE, sx1, sx2, sx3]
            exact three_cells Y1 _ _ _ _
          have hsw := HTY2.out.bel.size
          have d4 := cellB hb2 b4
          have d6 := cellB hb2 b6
          have d7 := cellB hb2 b7
          have HBX2 : Hid (wr.heap.size < Y2.heap.size) := World.block_lt_of_cell? Y2 ⟨wr.heap.size, 4, none⟩ d4
          have HNB : Hid (v4.ownBlock ≠ some wr.heap.size ∧ v3.ownBlock ≠ some wr.heap.size) := ⟨fun q => by have := (HTU.out.t.lt _ q).2; omega, fun q => by have := (HTU.out.g.lt _ q).2; omega⟩
          have HRT := HTY2.out.t
          have HTL : Hid ((evL evT vs k).length ≤ k) := htl
          generalize hlt3 : (evL evT vs k).length = LT at HRT
          have HLT : Hid ((evL evT vs k).length = LT) := hlt3
          have hLT : LT ≤ 4096 := by omega
          clear hb2 hlt3
          go_upto_region 7 with (at_builtin; refine wpList_append_mv rfl (.tmp 24) (.tmp 30) 60 rfl w.heap.size 63 i0 _ 3 40 Tryz.underlying60 hi0 hz0 hz1 hz2 rfl (by decide) v4 LT (flatE S (evL evT vs k)) rfl HRT (some ⟨Y1.heap.size, 0, none⟩) 1 1 (flatE S [⟨sr, true, k⟩]) rfl (fun e => by cases e) rfl HC3.out (flatE_one S _) ?_ ?_ ?_ ?_; exact (Nat.le_trans (m := 35184372088832) (by omega) (by decide)); omega; exact hsw; intro v7 w7 r7 g7 m7)
          have HT7 : Hid (Tu S w w7 v3 v7 (evL evG vs k) (evL evT vs k ++ [⟨sr, true, k⟩])) := HTY2.out.take (by rw [HLT.out]; exact r7) g7 m7
          have e4 : w7.cell? ⟨wr.heap.size, 4, none⟩ = some (.int .i64 st) := g7.cell d4 (fun q => HNB.out.1 q.symm)
          have e6 : w7.cell? ⟨wr.heap.size, 6, none⟩ = some (.int .i64 en) := g7.cell d6 (fun q => HNB.out.1 q.symm)
          have e7 : w7.cell? ⟨wr.heap.size, 7, none⟩ = some (.slice sa xs.length sc) := g7.cell d7 (fun q => HNB.out.1 q.symm)
          clear r7 g7 m7 HRT hLT d4 d6 d7 b4 b5 b6 b7 hY2 hsw HC3 HTY HTY2
          by_cases h2 : st = 2
          · subst h2
            go_wp2
            go_roundg (N - (k + 1))
            case measure => have := HK.out; omega
            case rel => exact ⟨k + 1, _, _, by omega, rfl, rfl, by simp, by rw [HG1.out, HNG.out]; (first | rw [if_pos rfl] | rw [if_pos trivial]); rw [List.append_nil]; omega, by rw [HT1.out, HNT.out, List.length_append]; simp; exact HTL.out, by rw [HG1.out, HT1.out, HNT.out, HNG.out]; (first | rw [if_pos rfl] | rw [if_pos trivial]); rw [List.append_nil]; exact HT7.out⟩
          · obtain ⟨Y3, hY3⟩ : ∃ Y3, w7.alloc (.cells #[.int .i64 en, .bool false, .slice sa xs.length sc] 63) = Y3 := ⟨_, rfl⟩
            have hb3 : Below w7.heap.size w7 Y3 := by rw [← hY3]; exact (Below.refl _ w7).alloc (Nat.le_refl _) _
            have HTY3 : Hid (Tu S w Y3 v3 v7 (evL evG vs k) (evL evT vs k ++ [⟨sr, true, k⟩])) := HT7.out.on hb3
            have HC4 : Hid (∀ ad, some (⟨w7.heap.size, 0, none⟩ : Addr) = some ad → ∀ j u, (flatE S [⟨en, false, k⟩])[j]? = some u → Y3.cell? (ad.add j) = some u) := by
              rw [← hY3]
              simp only [flatE, sx1, sx2, sx3]
              exact three_cells w7 _ _ _ _
            have hsw3 := HTY3.out.bel.size
            have HRG := HTY3.out.g
            have HGL : Hid ((evL evG vs k).length ≤ k) := hgl
            generalize hlg3 : (evL evG vs k).length = LG at HRG
            have HLG : Hid ((evL evG vs k).length = LG) := hlg3
            have hLG : LG ≤ 4096 := by omega
            clear hb3 hlg3
            go_wp2_with (at_builtin; refine wpList_append_mv rfl (.tmp 35) (.tmp 41) 60 rfl w.heap.size 63 i0 _ 3 40 Tryz.underlying60 hi0 hz0 hz1 hz2 rfl (by decide) v3 LG (flatE S (evL evG vs k)) rfl HRG (some ⟨w7.heap.size, 0, none⟩) 1 1 (flatE S [⟨en, false, k⟩]) rfl (fun e => by cases e) rfl HC4.out (flatE_one S _) ?_ ?_ ?_ ?_; exact (Nat.le_trans (m := 35184372088832) (by omega) (by decide)); omega; exact hsw3; intro v8 w8 r8 g8 m8)
            have HT8 : Hid (Tu S w w8 v8 v7 (evL evG vs k ++ [⟨en, false, k⟩]) (evL evT vs k ++ [⟨sr, true, k⟩])) := HTY3.out.give (by rw [HLG.out]; exact r8) g8 m8
            clear r8 g8 m8 HRG hLG hY3 hsw3 HC4 HTY3
            go_roundg (N - (k + 1))
            case measure => have := HK.out; omega
            case rel => exact ⟨k + 1, _, _, by omega, rfl, rfl, by simp, by rw [HG1.out, HNG.out, if_neg h2, List.length_append]; simp; exact HGL.out, by rw [HT1.out, HNT.out, List.length_append]; simp; exact HTL.out, by rw [HG1.out, HT1.out, HNT.out, HNG.out, if_neg h2]; exact HT8.out⟩
    · obtain rfl : k = N := by omega
      have HEV : Hid (evL evG vs k ++ evL evT vs k = evA vs) := by show _ = evA vs; unfold evA; rw [HVL.out]
      obtain ⟨G, hG⟩ : ∃ G, evL evG vs k = G := ⟨_, rfl⟩
      obtain ⟨T, hT⟩ : ∃ T, evL evT vs k = T := ⟨_, rfl⟩
      rw [hG, hT] at HTU HEV
      rw [hG] at hgl
      rw [hT] at htl
      clear hG hT
      obtain ⟨ga, ca, rfl, hca, _, _⟩ := own_val HTU.out.g
      obtain ⟨gb, cb, rfl, hcb, _, _⟩ := own_val HTU.out.t
      obtain ⟨LG, hLG⟩ : ∃ LG, G.length = LG := ⟨_, rfl⟩
      obtain ⟨LT, hLT⟩ : ∃ LT, T.length = LT := ⟨_, rfl⟩
      obtain ⟨X, hX⟩ : ∃ X, wr.alloc (.cells #[.slice ga LG ca, .slice gb LT cb] 60) = X := ⟨_, rfl⟩
      have hbX : Below wr.heap.size wr X := by rw [← hX]; exact (Below.refl _ wr).alloc (Nat.le_refl _) _
      have x0 : X.cell? ⟨wr.heap.size, 0, none⟩ = some (.slice ga LG ca) := by rw [← hX]; exact cells_at (heap_alloc_new wr _) rfl
      have x1 : X.cell? ⟨wr.heap.size, 1, none⟩ = some (.slice gb LT cb) := by rw [← hX]; exact cells_at (heap_alloc_new wr _) rfl
      have HTX := HTU.out.on hbX
      have HBX : Hid (Below w.heap.size w X) := HTX.bel
      have tg := HTX.g
      have tt := HTX.t
      rw [hLG] at tg hgl
      rw [hLT] at tt htl
      have cC := concat_any (S := S) (w := X) (q := wr.heap.size) G T tg tt hLG hLT (by omega) x0 x1
      have HLL : Hid ((G ++ T).length = LG + LT ∧ LG + LT ≤ 10000) := ⟨by rw [List.length_append, hLG, hLT], by omega⟩
      rw [hLG, hLT]
      clear tg tt HTX hgl htl hLG hLT hca hcb x0 x1 hbX
      rw [HEV.out] at cC HLL
      go_upto_region 11 with (go_at_call 65; refine cC.mono ?_; rintro e Y1 ⟨v, rfl, hr1, hb1⟩)
      have HB1 : Hid (Below w.heap.size w Y1) := HBX.out.trans (hb1.mono HBX.out.size)
      clear cC
      have HCL : Hid (Calls Tryz.prog 66 #[v, .func (.func 67) #[] #[]] Y1 fun e w' => e = .returned (.tuple #[]) ∧ ∃ C, C.Perm (evA vs) ∧ SrtE C ∧ w'.ownsRow w.heap.size 63 3 v C.length (flatE S C) ∧ Below w.heap.size w w') := by
        rcases hr1.2 with ⟨h1, h0⟩ | ⟨b, cap, cur, h1, hge, h3, h4, h5, h6, h7⟩
        · have e0 : evA vs = [] := List.eq_nil_of_length_eq_zero (by rw [HLL.out.1]; exact h0)
          rw [h1]
          refine (sort_none (w := Y1)).mono ?_
          rintro e w' ⟨rfl, rfl⟩
          exact ⟨rfl, [], by rw [e0], SrtE.nil, own_nil _ _ _ _, HB1.out⟩
        · rw [h1]
          have hR : RwE S Y1 b (evA vs) (cur.toList.drop ((LG + LT) * 3)) := by
            unfold RwE
            rw [h3, ← h7, List.take_append_drop]
          refine (sort_some (S := S) (cap := cap) (evA vs) HLL.out.1 (by have := HLL.out.2; omega) (evA_ord vs) hR).mono ?_
          rintro e w' ⟨rfl, ⟨C, p1, s1, hR2⟩, hc⟩
          have hl2 := p1.length_eq
          have hbw : w.heap.size ≤ b := Nat.le_trans (Nat.le_trans HBX.out.size (Nat.le_refl _)) hge
          refine ⟨rfl, C, p1, s1, ⟨by rw [flatE_len], .inr ⟨b, cap, _, by rw [hl2, HLL.out.1], hbw, hR2, by rw [hl2, HLL.out.1]; exact h4, h5, ?_, ?_⟩⟩, HB1.out.trans ⟨hc.os, hc.tape, hc.output, hc.size, fun j hj => hc.block j (Nat.lt_of_lt_of_le hj HB1.out.size) (by omega)⟩⟩
          · simp only [List.size_toArray, List.length_append, flatE_len, List.length_drop, hl2, HLL.out.1]
            have : cur.toList.length = cap * 3 := by rw [Array.length_toList]; exact h6
            have hc4 : (LG + LT) * 3 ≤ cap * 3 := Nat.mul_le_mul_right 3 h4
            omega
          · dsimp only
            rw [List.take_append_of_le_length (by rw [flatE_len]; exact Nat.le_refl _), List.take_of_length_le (by rw [flatE_len]; exact Nat.le_refl _)]
      clear hr1 hb1
      go_wp2_with (go_at_call 66; refine HCL.out.mono ?_; rintro e Y2 ⟨rfl, C, p1, s1, hr2, hb2⟩)
      go_ret
      exact ⟨v, C, rfl, p1, s1, hr2, hb2⟩
end Go.Proofs.YtbcinapnnlfnbaaGreat
