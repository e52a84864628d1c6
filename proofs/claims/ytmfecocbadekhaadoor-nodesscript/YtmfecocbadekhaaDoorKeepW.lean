/-
  keep, walked.
-/
import Derived.Test.YtmfecocbadekhaaDoorKeep
import Derived.Deep.CutBlock
import Derived.Deep.DeepCutAuto
namespace Go.Proofs.YtmfecocbadekhaaDoor
open Go.RowKit Nd

section
variable {P : Program}
/-- 'append(row, src...)', src whatever: nil, or a list somewhere. -/
theorem wpList_appSrc (w : World) {ops : Array Oper} {rest : List Oper} {o : Oper} {a : Act} {Q : Exit → Act → World → Prop}
    (hgd : o.guard = none) (s x : Operand) (t : TypeId) (ho : o.op = .call { callee := .builtin .append, args := #[s, x], argTypes := #[t, t] })
    (e : TypeId) (i : TypeInfo) (z : Value) (bytes : Nat) (h1 : P.underlying t = some (.slice e)) (h2 : P.info? e = some i) (h3 : i.zero = some z) (h4 : i.size = 1) (h5 : i.bytes = bytes) (h6 : z.cells.size = 1)
    (ao : Option Addr) (n cap : Nat) (xs : List Value) (hs : a.eval s = .slice ao n cap) (hown : w.ownsRow 0 e 1 (.slice ao n cap) n xs)
    (sa : Option Addr) (m c : Nat) (news : List Value) (hx : a.eval x = .slice sa m c) (hl : news.length = m) (hsa : sa = none → m = 0 ∧ c = 0) (hnews : ∀ ad, sa = some ad → ∀ j u, news[j]? = some u → w.cell? (ad.add j) = some u) (hone : ∀ u ∈ news, u.oneCell' = true)
    (b1 : n + m ≤ maxLen) (b2 : (n + m) * bytes ≤ 140737488355328)
    (hK : ∀ ao' cap' w', w'.ownsRow 0 e 1 (.slice ao' (n + m) cap') (n + m) (xs ++ news) → w.grownBy w' (ao.map (·.block)) → Moved w ao ao' → wpList P ops Q rest (a.put o.dst (.slice ao' (n + m) cap')) w') :
    wpList P ops Q (o :: rest) a w := by
  cases sa with
  | none =>
    obtain ⟨rfl, rfl⟩ := hsa rfl
    have hn : news = [] := List.eq_nil_of_length_eq_zero hl
    subst hn
    refine wpList_append_own_none hgd s x t ho 0 e i 1 h1 h2 _ n xs hs hown hx ?_
    have := hK ao cap w (by simpa using hown) (gr_refl _ _) (.inl rfl)
    simpa using this
  | some ad => exact wpList_app w hgd s x t ho e i z bytes h1 h2 h3 h4 h5 h6 ao n cap xs hs hown ad m c news hx hl (hnews ad rfl) hone b1 b2 hK
end
theorem ints_one (xs : List Int) : ∀ u ∈ ints xs, u.oneCell' = true := by
  intro u hu
  obtain ⟨x, _, rfl⟩ := List.mem_map.1 hu
  rfl
theorem own_none {w : World} {base e n cap : Nat} {ao : Option Addr} {xs : List Value} (h : w.ownsRow base e 1 (.slice ao n cap) n xs) : ao = none → n = 0 ∧ cap = 0 := by
  intro ha
  subst ha
  rcases owns_shape h with ⟨hv, h0⟩ | ⟨g, c, hv, _⟩
  · simp at hv
    exact ⟨h0, hv.2⟩
  · simp at hv
theorem own_src {w : World} {base e n cap : Nat} {ao : Option Addr} {xs : List Value} (h : w.ownsRow base e 1 (.slice ao n cap) n xs) : ∀ ad, ao = some ad → ∀ j u, xs[j]? = some u → w.cell? (ad.add j) = some u := by
  intro ad ha j u hu
  subst ha
  rcases owns_shape h with ⟨hv, h0⟩ | ⟨g, c, hv, _⟩
  · simp at hv
  · simp at hv
    obtain ⟨rfl, _⟩ := hv
    exact h.cells (g := g) rfl j u hu

set_option maxHeartbeats 1000000 in
theorem keep_any (H : Nat) (ao aw : Option Addr) (co cw : Nat) (es : List Ent) (va : Option Addr) (vc : Nat) (xs : List Int) (w : World) (h : Nums w H ao aw co cw es) (hfew : es.length ≤ 900)
    (hv : w.ownsRow 0 3 1 (.slice va xs.length vc) xs.length (ints xs)) (hx : xs.length ≤ 256) (hap : ∀ i ∈ ablk va, i ≠ H ∧ i ∉ foot ao aw es) :
    Calls Tryd.prog 22 #[.pointer (some ⟨H, 0, none⟩), .slice va xs.length vc] w fun e w' => e = .returned (.tuple #[]) ∧ ∃ ao' aw' co' cw' gw cw1, Nums w' H ao' aw' co' cw' (es ++ [⟨va, vc, gw, cw1, xs⟩]) ∧
      (∀ i ∈ foot ao' aw' (es ++ [⟨va, vc, gw, cw1, xs⟩]), i ∈ foot ao aw es ∨ i ∈ ablk va ∨ w.heap.size ≤ i) ∧ Chg (fun i => i = H ∨ i ∈ foot ao aw es) w w' := by
  obtain ⟨i3, hi3, hz30, hz31, hz32⟩ := info_parts Tryd.info3
  obtain ⟨i7, hi7, hz70, hz71, hz72⟩ := info_parts Tryd.info37
  have hr0 := empty_row w 0 (Nat.zero_le _)
  have hv0 := hv.alloc (.cells #[] 3)
  have hfl := h.foot_lt
  have hHlt := h.lt
  have hvl := own_head hv
  obtain ⟨n, hn⟩ : ∃ n, es.length = n := ⟨_, rfl⟩
  have HN : Hid (es.length = n) := hn
  rw [hn] at hfew
  have hX := h.x
  have hlo : (es.map Ent.o).length = n := by simp [hn]
  have hlw : (es.map Ent.w).length = n := by simp [hn]
  clear hn
  generalize hos : es.map Ent.o = os at hX hlo
  generalize hws : es.map Ent.w = ws at hX hlw
  have HO : Hid (es.map Ent.o = os) := hos
  have HW : Hid (es.map Ent.w = ws) := hws
  clear hos hws
  go_enter Tryd.func22, Tryd.ntmps22
  go_upto_region 2 with (first | (at_builtin; refine wpList_appSrc _ rfl (.tmp 6) (.tmp 7) 37 rfl 3 i3 (.int .i64 0) 8 Tryd.underlying37 hi3 hz30 hz31 hz32 rfl (some ⟨w.heap.size, 0, none⟩) 0 0 [] rfl hr0 va xs.length vc (ints xs) rfl (ints_len xs) (own_none hv0) (own_src hv0) (ints_one xs) (by unfold maxLen; omega) (by omega) ?_; intro ma mc w1 hm1 hg1 hmv1))
  rw [Nat.zero_add, List.nil_append] at hm1
  have hb1 : Below w.heap.size w w1 := ((Below.refl _ _).alloc (Nat.le_refl _) _).grown hg1 (by simp) (fun k hk => by simp at hk; omega)
  obtain ⟨gm, hgm, hgm1⟩ : ∃ gm, ma = some ⟨gm, 0, none⟩ ∧ w.heap.size ≤ gm := by
    rcases hmv1 with e | ⟨g, hg, e⟩
    · exact ⟨_, e, Nat.le_refl _⟩
    · simp at hg
      exact ⟨g, e, by omega⟩
  subst hgm
  have hgm2 := own_lt hm1
  clear hg1 hmv1 hr0 hv0
  have hX1 : NumsX w1 H ao aw co cw os ws := hX.chg (Chg.of_below hb1 (fun _ => False)) (fun h => h) (fun _ _ h => h) (fun _ _ h => h)
  have k0 := hX1.c0
  have ho1 := hX1.out
  rw [hlo] at k0 ho1
  have hz1 := hb1.size
  have HLo : Hid (os.length = n) := hlo
  have HLw : Hid (ws.length = n) := hlw
  clear hlo hlw
  go_upto_region 3 with (first | (at_builtin; refine wpList_app _ rfl (.tmp 13) (.tmp 15) 32 rfl 37 i7 (.slice none 0 0) 24 Tryd.underlying32 hi7 hz70 hz71 hz72 rfl ao n co os rfl (ho1.alloc _) ⟨_, 0, none⟩ 1 1 [.slice va xs.length vc] rfl rfl (cell_one_new _ _ _) (by intro u hu; simp at hu; subst hu; rfl) (by unfold maxLen; omega) (by omega) ?_; intro ao1 co1 w2 ho2 hg2 hmv2; obtain ⟨hc2, hf2, hX2, hC2, hN2⟩ := hX1.outApp (by rw [HLo.out]) ho2 hg2 hmv2; rw [HLo.out] at hc2))
  clear ho1 ho2 hg2 hmv2 hc2 hf2 k0
  generalize w2.setCell ⟨H, 0, none⟩ (.slice ao1 (n + 1) co1) = w3 at *
  have k1 := hX2.c1
  have ho3 := hX2.want
  rw [HLw.out] at k1 ho3
  have hz3 := hC2.size
  go_wp2_with (first | (at_builtin; refine wpList_app _ rfl (.tmp 23) (.tmp 25) 32 rfl 37 i7 (.slice none 0 0) 24 Tryd.underlying32 hi7 hz70 hz71 hz72 rfl aw n cw ws rfl (ho3.alloc _) ⟨_, 0, none⟩ 1 1 [.slice (some ⟨gm, 0, none⟩) xs.length mc] rfl rfl (cell_one_new _ _ _) (by intro u hu; simp at hu; subst hu; rfl) (by unfold maxLen; omega) (by omega) ?_; intro aw1 cw1 w4 ho4 hg4 hmv4; obtain ⟨hc4, hf4, hX4, hC4, hN4⟩ := hX2.wantApp (by rw [HLw.out]) ho4 hg4 hmv4; rw [HLw.out] at hc4))
  go_end0
  clear ho3 ho4 hg4 hmv4 hc4 hf4 k1
  generalize w4.setCell ⟨H, 1, none⟩ (.slice aw1 (n + 1) cw1) = w5 at *
  rw [← HO.out, ← HW.out] at hX4
  have inO : ∀ i, i ∈ ablk ao → i ∈ foot ao aw es := fun i hi => List.mem_append.2 (.inl hi)
  have inW : ∀ i, i ∈ ablk aw → i ∈ foot ao aw es := fun i hi => List.mem_append.2 (.inr (List.mem_append.2 (.inl hi)))
  have c : Chg (fun i => i = H ∨ i ∈ ablk ao ∨ i ∈ ablk aw) w w5 :=
    ((Chg.of_below hb1 (fun i => i = H ∨ i ∈ ablk ao ∨ i ∈ ablk aw)).trans hC2 (fun i _ h => h.elim .inl (fun h => .inr (.inl h)))).trans hC4 (fun i _ h => h.elim .inl (fun h => .inr (.inr h)))
  have he : EntIn w5 ⟨va, vc, gm, mc, xs⟩ := by
    refine ⟨c.own hv (fun i hi hK => ?_), hC4.own (hC2.own hm1 (fun i hi hK => ?_)) (fun i hi hK => ?_), by simp; omega⟩
    · rcases hK with h1 | h1 | h1
      · exact (hap i hi).1 h1
      · exact (hap i hi).2 (inO i h1)
      · exact (hap i hi).2 (inW i h1)
    · simp [ablk] at hi
      subst hi
      rcases hK with h1 | h1
      · omega
      · have := hfl _ (inO _ h1); omega
    · simp [ablk] at hi
      subst hi
      rcases hK with h1 | h1
      · omega
      · have := hfl _ (inW _ h1); omega
  obtain ⟨hNums, hfoot⟩ := Nums.more h hX4 (by rw [HN.out]; omega) (m := w1.heap.size) c he hN2 (fun i hi => (hN4 i hi).elim .inl (fun h => .inr (by omega))) hz1 (fun i hi => ⟨hap i hi, by have := (hvl i hi).1; omega⟩) (fun hi => by have := (hvl _ hi).1; simp at this; omega) hgm1 hgm2
  exact ⟨rfl, ao1, aw1, co1, cw1, gm, mc, hNums, hfoot, c.mono (fun i _ h => h.elim .inl (fun h => .inr (h.elim (inO i) (inW i))))⟩
end Go.Proofs.YtmfecocbadekhaaDoor
