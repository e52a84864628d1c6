/-
  LAYER 17: a state's own copy that is written: usages; jobs cut off behind.
  AUDITLESS walked, over what is asked of audit.Check (made by gen17i.py).
  LAYER 17: a state turned: its accounts, its jobs' nodes; a copy that is written so.
-/
import Derived.Test.YtbcinapnnlfnbaaLaAq
import Derived.Test.YtbcinapnnlfnbaaAuPq
import Derived.Laws.OwnMore
import Derived.Test.YtbcinapnnlfnbaaXld
namespace Go.Proofs.Ytbcinapnnlfnbaa
open Go.RowKit Wd Tr Cg Lg

theorem flatA_us : ∀ (l : List Ac) (n : Nat) (a : Ac) (x : Int), l[n]? = some a → (flatA l).set (n * 5 + 4) (.int .u64 x) = flatA (l.set n { a with us := x })
  | [], n, a, x, h => by simp at h
  | b :: l, 0, a, x, h => by
    simp at h
    subst h
    simp [flatA]
  | b :: l, n + 1, a, x, h => by
    have := flatA_us l n a x (by simpa using h)
    rw [show (n + 1) * 5 + 4 = n * 5 + 4 + 1 + 1 + 1 + 1 + 1 by omega]
    simp only [flatA, List.set_cons_succ, this]
theorem Cpy.keep {x0 y z : World} {ao jo : Option Addr} {la : List Ac} {ca cj : Nat} {qs : List Pj} (k : Cpy x0 y ao la ca jo qs cj) (b : Below y.heap.size y z) : Cpy x0 z ao la ca jo qs cj :=
  ⟨k.bel.trans (b.mono k.bel.size), row_kept k.acc b, row_kept k.job b, fun q hq => row_kept (k.sets q hq) b, k.aj, k.ap⟩
/-- A block of one's own that is none of the copy's is written. -/
theorem Cpy.aside {x0 y : World} {ao jo : Option Addr} {la : List Ac} {ca cj : Nat} {qs : List Pj} (k : Cpy x0 y ao la ca jo qs cj) {p : Addr} (h0 : x0.heap.size ≤ p.block) (h1 : (Value.slice ao la.length ca).ownBlock ≠ some p.block) (h2 : (Value.slice jo qs.length cj).ownBlock ≠ some p.block) (h3 : ∀ q ∈ qs, (Value.slice q.sa q.v.set.length q.sc).ownBlock ≠ some p.block) (v : Value) : Cpy x0 (y.setCell p v) ao la ca jo qs cj :=
  ⟨k.bel.setCell h0 v, row_stand k.acc (fun g hg => Below.heap_setCell _ _ _ _ (fun e => h1 (by rw [← e]; exact hg))), row_stand k.job (fun g hg => Below.heap_setCell _ _ _ _ (fun e => h2 (by rw [← e]; exact hg))), fun q hq => row_stand (k.sets q hq) (fun g hg => Below.heap_setCell _ _ _ _ (fun e => h3 q hq (by rw [← e]; exact hg))), k.aj, k.ap⟩
theorem Cpy.used {x0 y : World} {g : Nat} {jo : Option Addr} {la : List Ac} {ca cj : Nat} {qs : List Pj} (k : Cpy x0 y (some ⟨g, 0, none⟩) la ca jo qs cj) {n : Nat} {a : Ac} (ha : la[n]? = some a) (v : Int) : Cpy x0 (y.setCell ⟨g, n * 5 + 4, none⟩ (.int .u64 v)) (some ⟨g, 0, none⟩) (la.set n { a with us := v }) ca jo qs cj := by
  have hg := k.acc.lt g rfl
  have hl : (la.set n { a with us := v }).length = la.length := List.length_set
  refine ⟨k.bel.setCell hg.1 _, ?_, row_stand k.job (fun b hb => Below.heap_setCell _ _ _ _ (fun e => k.aj g rfl (by rw [← show b = g from e]; exact hb))), fun q hq => row_stand (k.sets q hq) (fun b hb => Below.heap_setCell _ _ _ _ (fun e => (k.ap q hq b hb).1 (by rw [show b = g from e]; rfl))), ?_, ?_⟩
  · rw [hl, ← flatA_us la n a v ha]
    exact (World.ownsRow.stored k.acc (n * 5 + 4) (.int .u64 v)).1
  · rw [hl]; exact k.aj
  · rw [hl]; exact k.ap
theorem Cpy.stin' {w w' : World} {ao ao' jo jo' : Option Addr} {la M : List Ac} {ca ca' cj cj' : Nat} {ps qs : List Pj} (h : StIn w ao la ca jo ps cj) (k : Cpy w w' ao' M ca' jo' qs cj') (hM : M.length = la.length) (hu : ∀ (n : Nat) (a : Ac), M[n]? = some a → Word a.us) (hnm : ∀ a ∈ M, a.nm.size ≤ maxLen) (hv : qs.map Pj.v = ps.map Pj.v) : StIn w' ao' M ca' jo' qs cj' := by
  obtain ⟨_, _, e1, a1, a2, _⟩ := own_val k.acc
  cases e1
  obtain ⟨_, _, e2, b1, b2, _⟩ := own_val k.job
  cases e2
  have hs : ∀ q ∈ qs, q.v.set.length ≤ q.sc ∧ (q.sa = none → q.v.set.length = 0 ∧ q.sc = 0) := fun q hq => by
    obtain ⟨_, _, e3, c1, c2, _⟩ := own_val (k.sets q hq)
    cases e3
    exact ⟨c1, c2⟩
  exact ⟨acs_own k.acc, hu, hnm, by rw [hM]; exact h.l48, a1, fun e => ⟨List.length_eq_zero_iff.1 (a2 e).1, (a2 e).2⟩, ⟨jobs_own k.job, fun q hq => ints_own (k.sets q hq)⟩, by rw [vals_len hv]; exact h.l80, b1, fun e => ⟨List.length_eq_zero_iff.1 (b2 e).1, (b2 e).2⟩,
    fun q hq => by obtain ⟨p, hp, e⟩ := vals_mem hv hq; rw [← e]; exact h.sl p hp, fun q hq => (hs q hq).1, fun q hq e => ⟨List.length_eq_zero_iff.1 ((hs q hq).2 e).1, ((hs q hq).2 e).2⟩⟩
/-- The jobs but for the last one: the same row, cut. -/
theorem StIn.cut {w : World} {ao jo : Option Addr} {la : List Ac} {ca cj : Nat} {qs : List Pj} {q : Pj} (h : StIn w ao la ca jo (qs ++ [q]) cj) : StIn w ao la ca jo qs cj := by
  have hl : (qs ++ [q]).length = qs.length + 1 := by simp
  have hm : ∀ p ∈ qs, p ∈ qs ++ [q] := fun p hp => List.mem_append_left _ hp
  refine ⟨h.acs, h.us, h.nm, h.l48, h.cap, h.anil, ⟨?_, fun p hp => h.jobs.sets p (hm p hp)⟩, by have := h.l80; rw [hl] at this; omega, by have := h.jcap; rw [hl] at this; omega, fun e => by have := (h.jnil e).1; simp at this, fun p hp => h.sl p (hm p hp), fun p hp => h.sc p (hm p hp), fun p hp => h.snil p (hm p hp)⟩
  obtain ⟨g, o, h1, h2⟩ := h.jobs.jobs
  refine ⟨g, o, fun hp => h1 (by simp), fun k j hj => h2 k j ?_⟩
  rw [List.map_append, List.getElem?_append_left (List.getElem?_eq_some_iff.1 hj).1]
  exact hj
/-! ## Less usage -/
def lessA (u : Int) (a : Ac) : Ac := if 0 < a.us then { a with us := u % a.us } else a
def lessL (u : Int) (l : List Ac) (k : Nat) : List Ac := l.mapIdx fun n a => if n < k then lessA u a else a
theorem less_len (u : Int) (l : List Ac) (k : Nat) : (lessL u l k).length = l.length := by simp [lessL]
theorem less_get (u : Int) (l : List Ac) (k n : Nat) : (lessL u l k)[n]? = (l[n]?).map fun a => if n < k then lessA u a else a := by simp [lessL, List.getElem?_mapIdx]
theorem less_zero (u : Int) (l : List Ac) : lessL u l 0 = l := by
  apply List.ext_getElem?
  intro n
  rw [less_get]
  cases l[n]? <;> simp
theorem less_at {u : Int} {l : List Ac} {k : Nat} {a : Ac} (ha : l[k]? = some a) : (lessL u l k)[k]? = some a := by
  rw [less_get, ha]
  simp
theorem less_succ {u : Int} {l : List Ac} {k : Nat} {a : Ac} (ha : l[k]? = some a) : (lessL u l k).set k (lessA u a) = lessL u l (k + 1) := by
  apply List.ext_getElem?
  intro n
  rw [List.getElem?_set, less_get, less_get, less_len]
  have hk := (List.getElem?_eq_some_iff.1 ha).1
  by_cases h : k = n
  · subst h
    rw [if_pos rfl, if_pos hk, ha]
    simp
  · rw [if_neg h]
    cases l[n]? with
    | none => rfl
    | some b =>
      simp only [Option.map_some]
      by_cases h1 : n < k
      · rw [if_pos h1, if_pos (by omega)]
      · rw [if_neg h1, if_neg (by omega)]
theorem less_same {u : Int} {l : List Ac} {k : Nat} {a : Ac} (ha : l[k]? = some a) (h0 : ¬ 0 < a.us) : lessL u l k = lessL u l (k + 1) := by
  rw [← less_succ ha]
  have : lessA u a = a := by unfold lessA; rw [if_neg h0]
  rw [this]
  apply List.ext_getElem?
  intro n
  rw [List.getElem?_set]
  have hk := (List.getElem?_eq_some_iff.1 ha).1
  by_cases h : k = n
  · subst h
    rw [if_pos rfl, less_len, if_pos hk, less_at ha]
  · rw [if_neg h]
theorem lessA_us (u : Int) {a : Ac} (ha : Word a.us) : Word (lessA u a).us ∧ (lessA u a).us ≤ a.us ∧ (lessA u a).nm = a.nm := by
  unfold lessA
  split
  · rename_i h
    have h1 := Int.emod_nonneg u (show a.us ≠ 0 by omega)
    have h2 := Int.emod_lt_of_pos u h
    exact ⟨⟨h1, by have := ha.2; show u % a.us < 18446744073709551616; omega⟩, by show u % a.us ≤ a.us; omega, rfl⟩
  · exact ⟨ha, Int.le_refl _, rfl⟩
theorem less_plain (u : Int) (l : List Ac) (k : Nat) : (lessL u l k).map plainAc = l.map plainAc := by
  apply List.ext_getElem?
  intro n
  rw [List.getElem?_map, List.getElem?_map, less_get]
  cases l[n]? with
  | none => rfl
  | some a =>
    simp only [Option.map_some]
    split
    · unfold lessA
      split <;> rfl
    · rfl
end Go.Proofs.Ytbcinapnnlfnbaa
namespace Go.Proofs.Ytbcinapnnlfnbaa
open Go.RowKit Wd Tr Cg Lg

theorem find_plain (l : List Ac) (s : ByteArray) : findV (l.map plainAc) s = findV l s := by
  induction l with
  | nil => rfl
  | cons a l ih =>
    simp only [List.map_cons, findV]
    rw [ih]
    rfl
theorem rowE_plain (l : List Ac) (i : Nat) (a : Ac) : rowE (l.map plainAc) i (plainAc a) = rowE l i a := by
  unfold rowE
  rw [find_plain, List.length_map]
  rfl
theorem rowsE_plain (l : List Ac) : ∀ (f i : Nat), rowsE (l.map plainAc) f i = rowsE l f i
  | 0, _ => rfl
  | f + 1, i => by
    simp only [rowsE]
    rw [List.getElem?_map]
    cases l[i]? with
    | none => rfl
    | some a =>
      simp only [Option.map_some]
      rw [rowE_plain, rowsE_plain l f (i + 1)]
theorem up_plain (l : List Ac) (n : Nat) : up (l.map plainAc) n = up l n := by
  unfold up
  rw [List.getElem?_map]
  cases l[n]? <;> rfl
theorem depN_plain (l : List Ac) : ∀ f n : Nat, depN (l.map plainAc) f n = depN l f n
  | 0, _ => rfl
  | f + 1, n => by simp only [depN, up_plain, depN_plain l f]
theorem deepE_plain (l : List Ac) : ∀ (f i : Nat), deepE (l.map plainAc) f i = deepE l f i
  | 0, _ => rfl
  | f + 1, i => by
    simp only [deepE]
    rw [List.length_map, show depthV (l.map plainAc) i = depthV l i by unfold depthV; rw [List.length_map, depN_plain]]
    split
    · rfl
    · cases depthV l i with
      | none => rfl
      | some d => simp only; rw [deepE_plain l f (i + 1)]
theorem loadE_plain (l : List Ac) : loadE (l.map plainAc) = loadE l := by
  unfold loadE
  rw [List.getElem?_map]
  cases l[0]? with
  | none => rfl
  | some a =>
    simp only [Option.map_some]
    rw [List.length_map, rowsE_plain, deepE_plain]
    rfl
theorem less_load (u : Int) (l : List Ac) (k : Nat) : loadE (lessL u l k) = loadE l := by rw [← loadE_plain, less_plain, loadE_plain]
/-- The state with less usage is taken; so it is without a pending job behind. -/
theorem less_ok {c : Cf} {now hd : Int} {la : List Ac} {js : List Jv} (u : Int) (hu : ∀ (n : Nat) (a : Ac), la[n]? = some a → Word a.us) (h : auditV (chkZ c) ⟨c, now, la, js, hd⟩ = 0) : auditV (chkZ c) ⟨c, now, lessL u la la.length, js, -1⟩ = 0 ∧ ∀ js' j, js = js' ++ [j] → j.st = 1 → auditV (chkZ c) ⟨c, now, lessL u la la.length, js', -1⟩ = 0 := by
  obtain ⟨h1, h2⟩ := aud_ok.1 h
  have k := okay_less h2 (less_load u la la.length) (less_len u la _) (fun i a b ha hb => by
    rw [less_get, show la[i]? = some a from ha] at hb
    simp only [Option.map_some, Option.some.injEq] at hb
    rw [if_pos (List.getElem?_eq_some_iff.1 (show la[i]? = some a from ha)).1] at hb
    rw [← hb]
    exact (lessA_us u (hu i a ha)).2.1)
  exact ⟨aud_ok.2 ⟨h1, k⟩, fun js' j e hj => aud_ok.2 ⟨h1, okay_drop k e hj rfl⟩⟩
set_option maxRecDepth 20000 in
set_option maxHeartbeats 8000000 in
theorem less_any (hC : AChk) {w : World} (c : Cf) (now : Int) {ao : Option Addr} {la : List Ac} {ca : Nat} {jo : Option Addr} {ps : List Pj} {cj : Nat} (hd : Int) (u : Int) (hu : Word u) (h : StIn w ao la ca jo ps cj) :
    Calls Try.prog 5 #[.agg (stL c now ao la.length ca jo ps.length cj hd), .int .u64 u] w fun e w' => e = .returned (.bool true) ∧ Below w.heap.size w w' := by
  have HHV : Hid (∀ x, Below w.heap.size w x → Calls Try.prog 6 #[.agg (stL c now ao la.length ca jo ps.length cj hd)] x fun e w' => e = .returned (.bool (decide (2147483647 < wtN la ps))) ∧ Below x.heap.size x w') := fun x hx => heavy_any c now hd (h.below hx)
  have HSH := shown_any hC
  have HCP : Hid (∀ x, Below w.heap.size w x → Calls Try.prog 13 #[.agg (stL c now ao la.length ca jo ps.length cj hd)] x fun e w' => ∃ ao' ca' jo' cj' qs, e = .returned (.agg (stL c now ao' la.length ca' jo' ps.length cj' hd)) ∧ qs.map Pj.v = ps.map Pj.v ∧ Cpy x w' ao' la ca' jo' qs cj') := fun x hx => copied_any c now hd (h.below hx)
  have HCK : Hid (wtN la ps ≤ 2147483647 → ∀ x, Below w.heap.size w x → Calls Try.prog 8 #[.agg (stL c now ao la.length ca jo ps.length cj hd)] x fun e w' => e = .returned (.int .i64 (auditV (chkZ c) ⟨c, now, la, ps.map Pj.v, hd⟩)) ∧ Below x.heap.size x w') := fun hw x hx => hC x c now ao la ca jo ps cj hd (h.below hx) hw
  have HLS : Hid (auditV (chkZ c) ⟨c, now, la, ps.map Pj.v, hd⟩ = 0 → wtN la ps ≤ 2147483647 → ∀ (x0 x : World) (ao' : Option Addr) (ca' : Nat) (jo' : Option Addr) (cj' : Nat) (qs : List Pj), Below w.heap.size w x0 → qs.map Pj.v = ps.map Pj.v → Cpy x0 x ao' (lessL u la la.length) ca' jo' qs cj' →
      Calls Try.prog 8 #[.agg (stL c now ao' la.length ca' jo' ps.length cj' (-1))] x (fun e w' => e = .returned (.int .i64 0) ∧ Below x.heap.size x w') ∧ ∀ qs' q, qs = qs' ++ [q] → q.v.st = 1 → ∀ y, Below x.heap.size x y → Calls Try.prog 8 #[.agg (stL c now ao' la.length ca' jo' qs'.length cj' (-1))] y (fun e w' => e = .returned (.int .i64 0) ∧ Below y.heap.size y w')) := fun h0 hw x0 x ao' ca' jo' cj' qs hb hv k => by
    have hx0 := h.below hb
    have hin : StIn x ao' (lessL u la la.length) ca' jo' qs cj' := Cpy.stin' hx0 k (less_len _ _ _) (fun n a ha => by
      rw [less_get] at ha
      cases hx : la[n]? with
      | none => rw [hx] at ha; cases ha
      | some b =>
        rw [hx] at ha
        simp only [Option.map_some, Option.some.injEq] at ha
        rw [if_pos (List.getElem?_eq_some_iff.1 hx).1] at ha
        rw [← ha]
        exact (lessA_us u (h.us n b hx)).1) (fun a ha => by
      obtain ⟨n, hn⟩ := List.mem_iff_getElem?.1 ha
      rw [less_get] at hn
      cases hx : la[n]? with
      | none => rw [hx] at hn; cases hn
      | some b =>
        rw [hx] at hn
        simp only [Option.map_some, Option.some.injEq] at hn
        rw [if_pos (List.getElem?_eq_some_iff.1 hx).1] at hn
        rw [← hn, (lessA_us u (h.us n b hx)).2.2]
        exact h.nm b (List.mem_of_getElem? hx)) hv
    have hwt : wtN (lessL u la la.length) qs ≤ 2147483647 := by
      have e1 := wt_vals (la := la) hv
      unfold wtN at e1 hw ⊢
      rw [less_len]
      omega
    obtain ⟨l1, l2⟩ := less_ok (js := ps.map Pj.v) u h.us h0
    refine ⟨?_, fun qs' q e hq y hy => ?_⟩
    · have := hC x c now ao' _ ca' jo' qs cj' (-1) hin hwt
      rw [hv, l1, less_len, vals_len hv] at this
      exact this
    · have hin2 : StIn y ao' (lessL u la la.length) ca' jo' qs' cj' := StIn.cut (q := q) (by rw [← e]; exact hin.below hy)
      have hwt2 : wtN (lessL u la la.length) qs' ≤ 2147483647 := by
        rw [e] at hwt
        unfold wtN at hwt ⊢
        rw [sets_app, List.length_append] at hwt
        omega
      have := hC y c now ao' _ ca' jo' qs' cj' (-1) hin2 hwt2
      rw [l2 (qs'.map Pj.v) q.v (by rw [← hv, e, List.map_append]; rfl) hq, less_len] at this
      exact this
  have HUS : Hid (∀ (n : Nat) (a : Ac), la[n]? = some a → Word a.us) := h.us
  have HL80 : Hid (ps.length * 80 ≤ 140737488355328 ∧ la.length * 48 ≤ 140737488355328) := ⟨h.l80, h.l48⟩
  obtain ⟨L, hL⟩ : ∃ L, la.length = L := ⟨_, rfl⟩
  obtain ⟨N, hN⟩ : ∃ N, ps.length = N := ⟨_, rfl⟩
  have HLL : Hid (la.length = L) := hL
  have HNN : Hid (ps.length = N) := hN
  obtain ⟨AV, hAV⟩ : ∃ AV, auditV (chkZ c) ⟨c, now, la, ps.map Pj.v, hd⟩ = AV := ⟨_, rfl⟩
  rw [hL] at HHV HCP HCK HLS HL80 ⊢
  rw [hN] at HHV HCP HCK HLS HL80 ⊢
  rw [hAV] at HCK HLS
  obtain ⟨hu0, hu1⟩ := hu
  have HU : Hid (0 ≤ u ∧ u < 18446744073709551616) := ⟨hu0, hu1⟩
  clear hC h hL hN hAV hu1
  unfold stL at *
  obtain ⟨W, hW⟩ : ∃ W, w.alloc (.cells #[.int .i64 c.nodes, .int .i64 c.queue, .int .i64 c.limit, .int .i64 c.age, .int .i64 c.fair, .int .i64 c.size, .int .i64 c.period, .int .i64 c.half, .int .i64 now, .slice ao L ca, .slice jo N cj, .int .i64 hd] 27) = W := ⟨_, rfl⟩
  have HBW : Hid (Below w.heap.size w W) := by rw [← hW]; exact (Below.refl _ w).alloc (Nat.le_refl _) _
  have c0 : W.cell? ⟨w.heap.size, 0, none⟩ = some (.int .i64 c.nodes) := by rw [← hW]; exact cells_at (heap_alloc_new w _) rfl
  have c1 : W.cell? ⟨w.heap.size, 1, none⟩ = some (.int .i64 c.queue) := by rw [← hW]; exact cells_at (heap_alloc_new w _) rfl
  have c2 : W.cell? ⟨w.heap.size, 2, none⟩ = some (.int .i64 c.limit) := by rw [← hW]; exact cells_at (heap_alloc_new w _) rfl
  have c3 : W.cell? ⟨w.heap.size, 3, none⟩ = some (.int .i64 c.age) := by rw [← hW]; exact cells_at (heap_alloc_new w _) rfl
  have c4 : W.cell? ⟨w.heap.size, 4, none⟩ = some (.int .i64 c.fair) := by rw [← hW]; exact cells_at (heap_alloc_new w _) rfl
  have c5 : W.cell? ⟨w.heap.size, 5, none⟩ = some (.int .i64 c.size) := by rw [← hW]; exact cells_at (heap_alloc_new w _) rfl
  have c6 : W.cell? ⟨w.heap.size, 6, none⟩ = some (.int .i64 c.period) := by rw [← hW]; exact cells_at (heap_alloc_new w _) rfl
  have c7 : W.cell? ⟨w.heap.size, 7, none⟩ = some (.int .i64 c.half) := by rw [← hW]; exact cells_at (heap_alloc_new w _) rfl
  have c8 : W.cell? ⟨w.heap.size, 8, none⟩ = some (.int .i64 now) := by rw [← hW]; exact cells_at (heap_alloc_new w _) rfl
  have c9 : W.cell? ⟨w.heap.size, 9, none⟩ = some (.slice ao L ca) := by rw [← hW]; exact cells_at (heap_alloc_new w _) rfl
  have c10 : W.cell? ⟨w.heap.size, 10, none⟩ = some (.slice jo N cj) := by rw [← hW]; exact cells_at (heap_alloc_new w _) rfl
  have c11 : W.cell? ⟨w.heap.size, 11, none⟩ = some (.int .i64 hd) := by rw [← hW]; exact cells_at (heap_alloc_new w _) rfl
  have HK : Hid (W.cell? ⟨w.heap.size, 0, none⟩ = some (.int .i64 c.nodes) ∧ W.cell? ⟨w.heap.size, 1, none⟩ = some (.int .i64 c.queue) ∧ W.cell? ⟨w.heap.size, 2, none⟩ = some (.int .i64 c.limit) ∧ W.cell? ⟨w.heap.size, 3, none⟩ = some (.int .i64 c.age) ∧ W.cell? ⟨w.heap.size, 4, none⟩ = some (.int .i64 c.fair) ∧ W.cell? ⟨w.heap.size, 5, none⟩ = some (.int .i64 c.size) ∧ W.cell? ⟨w.heap.size, 6, none⟩ = some (.int .i64 c.period) ∧ W.cell? ⟨w.heap.size, 7, none⟩ = some (.int .i64 c.half) ∧ W.cell? ⟨w.heap.size, 8, none⟩ = some (.int .i64 now) ∧ W.cell? ⟨w.heap.size, 9, none⟩ = some (.slice ao L ca) ∧ W.cell? ⟨w.heap.size, 10, none⟩ = some (.slice jo N cj) ∧ W.cell? ⟨w.heap.size, 11, none⟩ = some (.int .i64 hd)) := ⟨c0, c1, c2, c3, c4, c5, c6, c7, c8, c9, c10, c11⟩
  have cH := HHV.out W HBW.out
  clear HHV
  go_enter Try.func5, Try.ntmps5
  go_wp2_with fail
  refine cH.mono ?_
  rintro e x1 ⟨rfl, b1⟩
  have HB1 : Hid (Below W.heap.size W x1) := b1
  clear b1 hW cH c0 c1 c2 c3 c4 c5 c6 c7 c8 c9 c10 c11
  by_cases hhv : 2147483647 < wtN la ps
  · rw [decide_eq_true hhv]
    clear hhv
    go_wp2
    go_ret
    exact ⟨rfl, HBW.out.trans (HB1.out.mono HBW.out.size)⟩
  rw [decide_eq_false hhv]
  have HWT : Hid (wtN la ps ≤ 2147483647) := (Nat.not_lt.1 hhv)
  clear hhv
  go_wp2_with fail
  refine (HSH _).mono ?_
  rintro e x2 ⟨rfl, b2⟩
  have HB2 : Hid (Below W.heap.size W x2) := HB1.out.trans (b2.mono HB1.out.size)
  clear b2 HB1 HSH
  obtain ⟨k0, k1, k2, k3, k4, k5, k6, k7, k8, k9, k10, k11⟩ := HK.out
  have m0 := cellB HB2.out k0
  have m1 := cellB HB2.out k1
  have m2 := cellB HB2.out k2
  have m3 := cellB HB2.out k3
  have m4 := cellB HB2.out k4
  have m5 := cellB HB2.out k5
  have m6 := cellB HB2.out k6
  have m7 := cellB HB2.out k7
  have m8 := cellB HB2.out k8
  have m9 := cellB HB2.out k9
  have m10 := cellB HB2.out k10
  have m11 := cellB HB2.out k11
  clear k0 k1 k2 k3 k4 k5 k6 k7 k8 k9 k10 k11
  have cC := HCK.out HWT.out x2 (HBW.out.trans (HB2.out.mono HBW.out.size))
  clear HCK
  go_wp2_with fail
  refine cC.mono ?_
  rintro e x3 ⟨rfl, b3⟩
  have HB3 : Hid (Below W.heap.size W x3) := HB2.out.trans (b3.mono HB2.out.size)
  clear b3 cC HB2 m0 m1 m2 m3 m4 m5 m6 m7 m8 m9 m10 m11
  by_cases hz : ¬ (AV = 0)
  · have hz' : (AV != 0) = true := by simpa using hz
    clear hz HLS
    go_wp2
    go_ret
    exact ⟨rfl, HBW.out.trans (HB3.out.mono HBW.out.size)⟩
  replace hz := Decidable.not_not.1 hz
  have HLS2 := HLS.out hz HWT.out
  subst hz
  have HLQ : Hid (∀ (x0 x : World) (ao' : Option Addr) (ca' : Nat) (jo' : Option Addr) (cj' : Nat) (qs : List Pj), Below w.heap.size w x0 → qs.map Pj.v = ps.map Pj.v → Cpy x0 x ao' (lessL u la L) ca' jo' qs cj' → Calls Try.prog 8 #[.agg #[.int .i64 c.nodes, .int .i64 c.queue, .int .i64 c.limit, .int .i64 c.age, .int .i64 c.fair, .int .i64 c.size, .int .i64 c.period, .int .i64 c.half, .int .i64 now, .slice ao' L ca', .slice jo' N cj', .int .i64 (-1)]] x (fun e w' => e = .returned (.int .i64 0) ∧ Below x.heap.size x w') ∧ ∀ qs' q, qs = qs' ++ [q] → q.v.st = 1 → ∀ y, Below x.heap.size x y → Calls Try.prog 8 #[.agg #[.int .i64 c.nodes, .int .i64 c.queue, .int .i64 c.limit, .int .i64 c.age, .int .i64 c.fair, .int .i64 c.size, .int .i64 c.period, .int .i64 c.half, .int .i64 now, .slice ao' L ca', .slice jo' qs'.length cj', .int .i64 (-1)]] y (fun e w' => e = .returned (.int .i64 0) ∧ Below y.heap.size y w')) := HLS2
  clear HLS2 HLS
  obtain ⟨k0, k1, k2, k3, k4, k5, k6, k7, k8, k9, k10, k11⟩ := HK.out
  have m0 := cellB HB3.out k0
  have m1 := cellB HB3.out k1
  have m2 := cellB HB3.out k2
  have m3 := cellB HB3.out k3
  have m4 := cellB HB3.out k4
  have m5 := cellB HB3.out k5
  have m6 := cellB HB3.out k6
  have m7 := cellB HB3.out k7
  have m8 := cellB HB3.out k8
  have m9 := cellB HB3.out k9
  have m10 := cellB HB3.out k10
  have m11 := cellB HB3.out k11
  clear k0 k1 k2 k3 k4 k5 k6 k7 k8 k9 k10 k11
  have cP := HCP.out x3 (HBW.out.trans (HB3.out.mono HBW.out.size))
  clear HCP
  go_wp2_with fail
  refine cP.mono ?_
  rintro e x4 ⟨ao', ca', jo', cj', qs, rfl, hv, hk⟩
  have HV : Hid (qs.map Pj.v = ps.map Pj.v ∧ Below w.heap.size w x3 ∧ qs.length = N) := ⟨hv, HBW.out.trans (HB3.out.mono HBW.out.size), by rw [vals_len hv]; exact HNN.out⟩
  have HB4 : Hid (Below W.heap.size W x4) := HB3.out.trans (hk.bel.mono HB3.out.size)
  obtain ⟨x5, hx5⟩ : ∃ x5, x4.alloc (.cells #[.int .i64 c.nodes, .int .i64 c.queue, .int .i64 c.limit, .int .i64 c.age, .int .i64 c.fair, .int .i64 c.size, .int .i64 c.period, .int .i64 c.half, .int .i64 now, .slice ao' L ca', .slice jo' N cj', .int .i64 (-1)] 27) = x5 := ⟨_, rfl⟩
  have h45 : Below x4.heap.size x4 x5 := by rw [← hx5]; exact (Below.refl _ x4).alloc (Nat.le_refl _) _
  have HT5 : Hid (x5.heap[x4.heap.size]? = some (.cells #[.int .i64 c.nodes, .int .i64 c.queue, .int .i64 c.limit, .int .i64 c.age, .int .i64 c.fair, .int .i64 c.size, .int .i64 c.period, .int .i64 c.half, .int .i64 now, .slice ao' L ca', .slice jo' N cj', .int .i64 (-1)] 27 (0, 0))) := by rw [← hx5]; exact heap_alloc_new x4 _
  have HK5 : Hid (Cpy x3 x5 ao' la ca' jo' qs cj') := hk.keep h45
  have HLT : Hid ((∀ b, (Value.slice ao' la.length ca').ownBlock = some b → b < x4.heap.size) ∧ x3.heap.size ≤ x4.heap.size ∧ (∀ b, (Value.slice jo' qs.length cj').ownBlock = some b → b < x4.heap.size) ∧ ∀ q ∈ qs, ∀ b, (Value.slice q.sa q.v.set.length q.sc).ownBlock = some b → b < x4.heap.size) := ⟨fun b hb => (hk.acc.lt b hb).2, hk.bel.size, fun b hb => (hk.job.lt b hb).2, fun q hq b hb => ((hk.sets q hq).lt b hb).2⟩
  clear hv hk h45 cP m0 m1 m2 m3 m4 m5 m6 m7 m8 m9 m10 m11
  have HX5 : Hid (x4.alloc (.cells #[.int .i64 c.nodes, .int .i64 c.queue, .int .i64 c.limit, .int .i64 c.age, .int .i64 c.fair, .int .i64 c.size, .int .i64 c.period, .int .i64 c.half, .int .i64 now, .slice ao' L ca', .slice jo' N cj', .int .i64 (-1)] 27) = x5) := hx5
  clear hx5
  have hlb : L * 48 ≤ 140737488355328 := HL80.out.2
  go_upto_region 9 with fail
  rw [HX5.out]
  have d9 : x5.cell? ⟨x4.heap.size, 9, none⟩ = some (.slice ao' L ca') := cells_at HT5.out rfl
  clear HX5
  go_wp2
  clear d9
  go_loopg [21] L (fun gk pk wr => ∃ k : Nat, k + gk = L ∧ pk = .int .i64 k ∧ Cpy x3 wr ao' (lessL u la k) ca' jo' qs cj' ∧ wr.heap[x4.heap.size]? = some (.cells #[.int .i64 c.nodes, .int .i64 c.queue, .int .i64 c.limit, .int .i64 c.age, .int .i64 c.fair, .int .i64 c.size, .int .i64 c.period, .int .i64 c.half, .int .i64 now, .slice ao' L ca', .slice jo' N cj', .int .i64 (-1)] 27 (0, 0)))
  case atStart => exact ⟨0, by omega, rfl, by rw [less_zero]; exact HK5.out, HT5.out⟩
  case round =>
    clear HK5 HT5
    obtain ⟨k, hk, rfl, hcp, hbx⟩ := hrel
    have HCP : Hid (Cpy x3 wr ao' (lessL u la k) ca' jo' qs cj') := hcp
    have HBX : Hid (wr.heap[x4.heap.size]? = some (.cells #[.int .i64 c.nodes, .int .i64 c.queue, .int .i64 c.limit, .int .i64 c.age, .int .i64 c.fair, .int .i64 c.size, .int .i64 c.period, .int .i64 c.half, .int .i64 now, .slice ao' L ca', .slice jo' N cj', .int .i64 (-1)] 27 (0, 0))) := hbx
    clear hcp hbx
    obtain ⟨V, hV⟩ : ∃ V, wr = V := ⟨_, rfl⟩
    rw [hV] at HCP HBX ⊢
    clear hV
    by_cases hlt : k < L
    · have hlt' : (k : Int) < L := by omega
      obtain ⟨a, ha⟩ : ∃ a, la[k]? = some a := ⟨_, List.getElem?_eq_getElem (by rw [HLL.out]; exact hlt)⟩
      obtain ⟨gA, rfl⟩ : ∃ gA, ao' = some ⟨gA, 0, none⟩ := by
        obtain ⟨_, _, e, _, h0, h1⟩ := own_val HCP.out.acc
        cases e
        cases ao' with
        | none => exact absurd (h0 rfl).1 (by rw [less_len, HLL.out]; omega)
        | some b => obtain ⟨g, e, _⟩ := h1 b rfl; exact ⟨g, by rw [e]⟩
      have hgl := HLT.out.1 gA rfl
      have d9 : V.cell? ⟨x4.heap.size, 9, none⟩ = some (.slice (some ⟨gA, 0, none⟩) L ca') := cells_at HBX.out rfl
      have hus : V.cell? ⟨gA, k * 5 + 4, none⟩ = some (.int .u64 a.us) := by
        have := HCP.out.acc.cells (g := gA) rfl (k * 5 + 4) _ (flatA_at _ k a (less_at ha)).2.2.2.2
        rw [Addr.add_lit] at this
        simpa using this
      have hfz : V.frozen? ⟨gA, k * 5 + 4, none⟩ = false := World.ownsRow.frozenAt HCP.out.acc (k * 5 + 4)
      have hw := HUS.out k a ha
      have HS1 : Hid (∀ v, Cpy x3 (V.setCell ⟨gA, k * 5 + 4, none⟩ (.int .u64 v)) (some ⟨gA, 0, none⟩) ((lessL u la k).set k { a with us := v }) ca' jo' qs cj') := fun v => HCP.out.used (less_at ha) v
      have HS2 : Hid (∀ v, (V.setCell ⟨gA, k * 5 + 4, none⟩ v).heap[x4.heap.size]? = some (.cells #[.int .i64 c.nodes, .int .i64 c.queue, .int .i64 c.limit, .int .i64 c.age, .int .i64 c.fair, .int .i64 c.size, .int .i64 c.period, .int .i64 c.half, .int .i64 now, .slice (some ⟨gA, 0, none⟩) L ca', .slice jo' N cj', .int .i64 (-1)] 27 (0, 0))) := fun v => (Below.heap_setCell _ _ _ _ (show x4.heap.size ≠ gA by omega)).trans HBX.out
      have HSU : Hid (lessL u la (k + 1) = (lessL u la k).set k (lessA u a)) := (less_succ ha).symm
      have HSA : Hid (¬ 0 < a.us → lessL u la k = lessL u la (k + 1)) := less_same ha
      have HLA : Hid (0 < a.us → lessA u a = { a with us := u % a.us }) := fun h => by unfold lessA; rw [if_pos h]
      clear ha
      by_cases hp : 0 < a.us
      · have hmod : u.tmod a.us = u % a.us := Int.tmod_eq_emod_of_nonneg hu0
        have hne : ¬ a.us = 0 := by omega
        have HR : Hid (lessL u la (k + 1) = (lessL u la k).set k { a with us := u % a.us }) := HSU.out.trans (by rw [HLA.out hp])
        generalize a.us = US at *
        go_upto_region 13 with fail
        refine wp_region_last (S := (fun x' : World => x'.cell? ⟨x4.heap.size, 9, none⟩ = some (.slice (some ⟨gA, 0, none⟩) L ca') ∧ x'.cell? ⟨gA, k * 5 + 4, none⟩ = some (.int .u64 US))) (L := 13) (by kernel_rfl) ?_
        have HSW0 : (fun x' : World => x'.cell? ⟨x4.heap.size, 9, none⟩ = some (.slice (some ⟨gA, 0, none⟩) L ca') ∧ x'.cell? ⟨gA, k * 5 + 4, none⟩ = some (.int .u64 US)) (V.drew) := ⟨cellB (drew_below V) d9, cellB (drew_below V) hus⟩
        refine last_take (i := 0) (v := ?v0k1) rfl (by kernel_rfl) (by kernel_rfl) (by kernel_rfl) (by kernel_rfl) rfl (fun _ _ _ h => h) (by rfl) HSW0 ?hy0k1 ?rest0k1
        case hy0k1 =>
          intro xx hSx
          obtain ⟨s9, sU⟩ := hSx
          go_simp
          try (with_reducible rfl)
        simp only [Act.put, List.setIfInBounds_toArray, List.set_cons_zero, List.set_cons_succ]
        refine last_take (i := 1) (v := ?v1k2) rfl (by kernel_rfl) (by kernel_rfl) (by kernel_rfl) (by kernel_rfl) rfl (fun _ _ _ h => h) (by rfl) HSW0 ?hy1k2 ?rest1k2
        case hy1k2 =>
          intro xx hSx
          obtain ⟨s9, sU⟩ := hSx
          go_simp
          try (with_reducible rfl)
        simp only [Act.put, List.setIfInBounds_toArray, List.set_cons_zero, List.set_cons_succ]
        refine last_take (i := 2) (v := ?v2k3) rfl (by kernel_rfl) (by kernel_rfl) (by kernel_rfl) (by kernel_rfl) rfl (fun _ _ _ h => h) (by rfl) HSW0 ?hy2k3 ?rest2k3
        case hy2k3 =>
          intro xx hSx
          obtain ⟨s9, sU⟩ := hSx
          go_simp
          try (with_reducible rfl)
        simp only [Act.put, List.setIfInBounds_toArray, List.set_cons_zero, List.set_cons_succ]
        refine last_take (i := 3) (v := ?v3k4) rfl (by kernel_rfl) (by kernel_rfl) (by kernel_rfl) (by kernel_rfl) rfl (fun _ _ _ h => h) (by rfl) HSW0 ?hy3k4 ?rest3k4
        case hy3k4 =>
          intro xx hSx
          obtain ⟨s9, sU⟩ := hSx
          go_simp
          try (with_reducible rfl)
        simp only [Act.put, List.setIfInBounds_toArray, List.set_cons_zero, List.set_cons_succ]
        refine last_take (i := 4) (v := ?v4k5) rfl (by kernel_rfl) (by kernel_rfl) (by kernel_rfl) (by kernel_rfl) rfl (fun _ _ _ h => h) (by rfl) HSW0 ?hy4k5 ?rest4k5
        case hy4k5 =>
          intro xx hSx
          obtain ⟨s9, sU⟩ := hSx
          go_simp
          try (with_reducible rfl)
        simp only [Act.put, List.setIfInBounds_toArray, List.set_cons_zero, List.set_cons_succ]
        refine last_take (i := 5) (v := ?v5k6) rfl (by kernel_rfl) (by kernel_rfl) (by kernel_rfl) (by kernel_rfl) rfl (fun _ _ _ h => h) (by rfl) HSW0 ?hy5k6 ?rest5k6
        case hy5k6 =>
          intro xx hSx
          obtain ⟨s9, sU⟩ := hSx
          go_simp
          try (with_reducible rfl)
        simp only [Act.put, List.setIfInBounds_toArray, List.set_cons_zero, List.set_cons_succ]
        refine last_take (i := 6) (v := ?v6k7) rfl (by kernel_rfl) (by kernel_rfl) (by kernel_rfl) (by kernel_rfl) rfl (fun _ _ _ h => h) (by rfl) HSW0 ?hy6k7 ?rest6k7
        case hy6k7 =>
          intro xx hSx
          obtain ⟨s9, sU⟩ := hSx
          go_simp
          try (with_reducible rfl)
        simp only [Act.put, List.setIfInBounds_toArray, List.set_cons_zero, List.set_cons_succ]
        refine last_take (i := 7) (v := ?v7k8) rfl (by kernel_rfl) (by kernel_rfl) (by kernel_rfl) (by kernel_rfl) rfl (fun _ _ _ h => h) (by rfl) HSW0 ?hy7k8 ?rest7k8
        case hy7k8 =>
          intro xx hSx
          obtain ⟨s9, sU⟩ := hSx
          go_simp
          try (with_reducible rfl)
        simp only [Act.put, List.setIfInBounds_toArray, List.set_cons_zero, List.set_cons_succ]
        refine last_take (i := 8) (v := ?v8k9) rfl (by kernel_rfl) (by kernel_rfl) (by kernel_rfl) (by kernel_rfl) rfl (fun _ _ _ h => h) (by rfl) HSW0 ?hy8k9 ?rest8k9
        case hy8k9 =>
          intro xx hSx
          obtain ⟨s9, sU⟩ := hSx
          go_simp
          try (with_reducible rfl)
        simp only [Act.put, List.setIfInBounds_toArray, List.set_cons_zero, List.set_cons_succ]
        refine last_take (i := 9) (v := ?v9k10) rfl (by kernel_rfl) (by kernel_rfl) (by kernel_rfl) (by kernel_rfl) rfl (fun _ _ _ h => h) (by rfl) HSW0 ?hy9k10 ?rest9k10
        case hy9k10 =>
          intro xx hSx
          obtain ⟨s9, sU⟩ := hSx
          go_simp
          try (with_reducible rfl)
        simp only [Act.put, List.setIfInBounds_toArray, List.set_cons_zero, List.set_cons_succ]
        refine last_take (i := 10) (v := ?v10k11) rfl (by kernel_rfl) (by kernel_rfl) (by kernel_rfl) (by kernel_rfl) rfl (fun _ _ _ h => h) (by rfl) HSW0 ?hy10k11 ?rest10k11
        case hy10k11 =>
          intro xx hSx
          obtain ⟨s9, sU⟩ := hSx
          go_simp
          try (with_reducible rfl)
        simp only [Act.put, List.setIfInBounds_toArray, List.set_cons_zero, List.set_cons_succ]
        refine last_one (i := 11) (by kernel_rfl) rfl ?_
        intro K hK
        go_simp
        refine hK.out _ _ (fun _ => HSW0) (fun _ => ?_)
        clear hK K
        refine last_one (i := 12) (by kernel_rfl) rfl ?_
        intro K hK
        go_simp
        refine hK.out _ _ (fun _ => HSW0) (fun _ => ?_)
        clear hK K
        have q0 : V.drew.cell? ⟨gA, k * 5 + 4, none⟩ = some (.int .u64 US) := cellB (drew_below V) hus
        have q1 : V.drew.frozen? ⟨gA, k * 5 + 4, none⟩ = false := hfz
        clear d9 hus hfz
        refine last_one (i := 13) (by kernel_rfl) rfl ?_
        intro K hK
        go_simp
        refine hK.out _ _ (fun h => absurd rfl h) (fun _ => ?_)
        clear hK K HSW0
        refine last_done (by kernel_rfl) ?_ _
        have HC3 : Hid (Cpy x3 (V.drew.setCell ⟨gA, k * 5 + 4, none⟩ (.int .u64 (u % US))) (some ⟨gA, 0, none⟩) (lessL u la (k + 1)) ca' jo' qs cj') := by
          have := (HS1.out (u % US)).keep (drew_below _)
          rw [← HR.out] at this
          exact this
        have HB3' : Hid ((V.drew.setCell ⟨gA, k * 5 + 4, none⟩ (.int .u64 (u % US))).heap[x4.heap.size]? = some (.cells #[.int .i64 c.nodes, .int .i64 c.queue, .int .i64 c.limit, .int .i64 c.age, .int .i64 c.fair, .int .i64 c.size, .int .i64 c.period, .int .i64 c.half, .int .i64 now, .slice (some ⟨gA, 0, none⟩) L ca', .slice jo' N cj', .int .i64 (-1)] 27 (0, 0))) := HS2.out (.int .u64 (u % US))
        clear q0 q1
        go_wp2
        go_roundg (L - (k + 1))
        case measure => omega
        case rel => exact ⟨k + 1, by omega, rfl, HC3.out, HB3'.out⟩
      · have HR := HSA.out hp
        have HR2 : Hid (lessL u la k = lessL u la (k + 1)) := HR
        clear HR
        have hp' : decide (0 < a.us) = false := decide_eq_false hp
        generalize a.us = US at *
        go_wp2
        go_roundg (L - (k + 1))
        case measure => omega
        case rel => exact ⟨k + 1, by omega, rfl, by rw [← HR2.out]; exact HCP.out, HBX.out⟩
    · obtain rfl : k = L := by omega
      have cK := (HLQ.out x3 V ao' ca' jo' cj' qs HV.out.2.1 HV.out.1 HCP.out).1
      have d0 : V.cell? ⟨x4.heap.size, 0, none⟩ = some (.int .i64 c.nodes) := cells_at HBX.out rfl
      have d1 : V.cell? ⟨x4.heap.size, 1, none⟩ = some (.int .i64 c.queue) := cells_at HBX.out rfl
      have d2 : V.cell? ⟨x4.heap.size, 2, none⟩ = some (.int .i64 c.limit) := cells_at HBX.out rfl
      have d3 : V.cell? ⟨x4.heap.size, 3, none⟩ = some (.int .i64 c.age) := cells_at HBX.out rfl
      have d4 : V.cell? ⟨x4.heap.size, 4, none⟩ = some (.int .i64 c.fair) := cells_at HBX.out rfl
      have d5 : V.cell? ⟨x4.heap.size, 5, none⟩ = some (.int .i64 c.size) := cells_at HBX.out rfl
      have d6 : V.cell? ⟨x4.heap.size, 6, none⟩ = some (.int .i64 c.period) := cells_at HBX.out rfl
      have d7 : V.cell? ⟨x4.heap.size, 7, none⟩ = some (.int .i64 c.half) := cells_at HBX.out rfl
      have d8 : V.cell? ⟨x4.heap.size, 8, none⟩ = some (.int .i64 now) := cells_at HBX.out rfl
      have d9 : V.cell? ⟨x4.heap.size, 9, none⟩ = some (.slice ao' k ca') := cells_at HBX.out rfl
      have d10 : V.cell? ⟨x4.heap.size, 10, none⟩ = some (.slice jo' N cj') := cells_at HBX.out rfl
      have d11 : V.cell? ⟨x4.heap.size, 11, none⟩ = some (.int .i64 (-1)) := cells_at HBX.out rfl
      go_wp2_with fail
      refine cK.mono ?_
      rintro e y1 ⟨rfl, b1⟩
      have HY1 : Hid (Cpy x3 y1 ao' (lessL u la k) ca' jo' qs cj') := HCP.out.keep b1
      have hlt4 : x4.heap.size < V.heap.size := (Array.getElem?_eq_some_iff.1 HBX.out).1
      have HX1 : Hid (y1.heap[x4.heap.size]? = some (.cells #[.int .i64 c.nodes, .int .i64 c.queue, .int .i64 c.limit, .int .i64 c.age, .int .i64 c.fair, .int .i64 c.size, .int .i64 c.period, .int .i64 c.half, .int .i64 now, .slice ao' k ca', .slice jo' N cj', .int .i64 (-1)] 27 (0, 0))) := (b1.block _ hlt4).trans HBX.out
      have HFIN : Hid (∀ y z, Below x3.heap.size x3 y → Below y.heap.size y z → Below w.heap.size w z) := fun y z h1 h2 => HV.out.2.1.trans ((h1.trans (h2.mono h1.size)).mono HV.out.2.1.size)
      clear b1 cK hlt4 HCP HBX d0 d1 d2 d3 d4 d5 d6 d7 d8 d9 d10 d11
      have d0 : y1.cell? ⟨x4.heap.size, 0, none⟩ = some (.int .i64 c.nodes) := cells_at HX1.out rfl
      have d1 : y1.cell? ⟨x4.heap.size, 1, none⟩ = some (.int .i64 c.queue) := cells_at HX1.out rfl
      have d2 : y1.cell? ⟨x4.heap.size, 2, none⟩ = some (.int .i64 c.limit) := cells_at HX1.out rfl
      have d3 : y1.cell? ⟨x4.heap.size, 3, none⟩ = some (.int .i64 c.age) := cells_at HX1.out rfl
      have d4 : y1.cell? ⟨x4.heap.size, 4, none⟩ = some (.int .i64 c.fair) := cells_at HX1.out rfl
      have d5 : y1.cell? ⟨x4.heap.size, 5, none⟩ = some (.int .i64 c.size) := cells_at HX1.out rfl
      have d6 : y1.cell? ⟨x4.heap.size, 6, none⟩ = some (.int .i64 c.period) := cells_at HX1.out rfl
      have d7 : y1.cell? ⟨x4.heap.size, 7, none⟩ = some (.int .i64 c.half) := cells_at HX1.out rfl
      have d8 : y1.cell? ⟨x4.heap.size, 8, none⟩ = some (.int .i64 now) := cells_at HX1.out rfl
      have d9 : y1.cell? ⟨x4.heap.size, 9, none⟩ = some (.slice ao' k ca') := cells_at HX1.out rfl
      have d10 : y1.cell? ⟨x4.heap.size, 10, none⟩ = some (.slice jo' N cj') := cells_at HX1.out rfl
      have d11 : y1.cell? ⟨x4.heap.size, 11, none⟩ = some (.int .i64 (-1)) := cells_at HX1.out rfl
      have cK := (HLQ.out x3 y1 ao' ca' jo' cj' qs HV.out.2.1 HV.out.1 HY1.out).1
      rcases Nat.eq_zero_or_pos N with hN0 | hN0
      · subst hN0
        go_wp2_with fail
        refine cK.mono ?_
        rintro e y2 ⟨rfl, b2⟩
        have HE : Hid (Below w.heap.size w y2) := HFIN.out y1 y2 HY1.out.bel b2
        clear b2 cK
        go_wp2
        go_ret
        exact ⟨rfl, HE.out⟩
      obtain ⟨m, rfl⟩ : ∃ m, N = m + 1 := ⟨N - 1, by omega⟩
      have hm80 := HL80.out.1
      have e5 : IntKind.i64.wrap (((m + 1 : Nat) : Int) - 1) = (m : Int) := by rw [IntKind.wrap_i64]; omega
      have e6 : IntKind.i64.wrap (m : Int) = (m : Int) := by rw [IntKind.wrap_i64]; omega
      have hm1 : (m : Int) < ((m + 1 : Nat) : Int) := by omega
      have hm1' : (m : Int) < (m : Int) + 1 := by omega
      have hm0 : (0 : Int) ≤ (m : Int) := by omega
      obtain ⟨gJ, rfl, hcj⟩ : ∃ gJ, jo' = some ⟨gJ, 0, none⟩ ∧ m + 1 ≤ cj' := by
        obtain ⟨_, _, e, h9, h0, h1⟩ := own_val HY1.out.job
        cases e
        rw [HV.out.2.2] at h9 h0
        cases jo' with
        | none => exact absurd (h0 rfl).1 (by omega)
        | some b => obtain ⟨g, e, _⟩ := h1 b rfl; exact ⟨g, by rw [e], h9⟩
      have hcj' : (m : Int) ≤ (cj' : Int) := by omega
      obtain ⟨q, hq⟩ : ∃ q, qs[m]? = some q := ⟨_, List.getElem?_eq_getElem (by rw [HV.out.2.2]; omega)⟩
      have hst : y1.cell? ⟨gJ, m * 8 + 4, none⟩ = some (.int .i64 q.v.st) := by
        have := HY1.out.job.cells (g := gJ) rfl (m * 8 + 4) _ (flatJ_at _ m q hq).2.2.2.2.1
        rw [Addr.add_lit] at this
        simpa using this
      have HQS : Hid (qs = qs.take m ++ [q] ∧ (qs.take m).length = m) := (show qs = qs.take m ++ [q] ∧ (qs.take m).length = m by
        obtain ⟨h9, e9⟩ := List.getElem?_eq_some_iff.1 hq
        refine ⟨?_, by rw [List.length_take]; omega⟩
        have h8 := List.take_succ_eq_append_getElem h9
        rw [e9, List.take_of_length_le (by rw [HV.out.2.2]; omega)] at h8
        exact h8)
      clear hq
      by_cases hs1 : q.v.st = 1
      · have hst1 : y1.cell? ⟨gJ, m * 8 + 4, none⟩ = some (.int .i64 1) := by rw [← hs1]; exact hst
        have HS1 : Hid (q.v.st = 1) := hs1
        clear hs1 hst cK
        have f10 : y1.frozen? ⟨x4.heap.size, 10, none⟩ = false := frozen_at HX1.out
        have HY2 : Hid (Cpy x3 (y1.setCell ⟨x4.heap.size, 10, none⟩ (.slice (some ⟨gJ, 0, none⟩) m cj')) ao' (lessL u la k) ca' (some ⟨gJ, 0, none⟩) qs cj') := HY1.out.aside HLT.out.2.1 (fun e => by rw [less_len] at e; have := HLT.out.1 _ e; exact Nat.lt_irrefl _ this) (fun e => by have := HLT.out.2.2.1 _ e; exact Nat.lt_irrefl _ this) (fun p hp e => by have := HLT.out.2.2.2 p hp _ e; exact Nat.lt_irrefl _ this) _
        have HX2 : Hid ((y1.setCell ⟨x4.heap.size, 10, none⟩ (.slice (some ⟨gJ, 0, none⟩) m cj')).heap[x4.heap.size]? = some (.cells #[.int .i64 c.nodes, .int .i64 c.queue, .int .i64 c.limit, .int .i64 c.age, .int .i64 c.fair, .int .i64 c.size, .int .i64 c.period, .int .i64 c.half, .int .i64 now, .slice ao' k ca', .slice (some ⟨gJ, 0, none⟩) m cj', .int .i64 (-1)] 27 (0, 0))) := heap_setCell_same y1 x4.heap.size 10 _ 27 _ HX1.out
        go_upto_region 20 with fail
        obtain ⟨y2, hy2⟩ : ∃ y2, y1.setCell ⟨x4.heap.size, 10, none⟩ (.slice (some ⟨gJ, 0, none⟩) m cj') = y2 := ⟨_, rfl⟩
        rw [hy2] at HY2 HX2 ⊢
        clear hy2 f10 hst1 d0 d1 d2 d3 d4 d5 d6 d7 d8 d9 d10 d11
        have d0 : y2.cell? ⟨x4.heap.size, 0, none⟩ = some (.int .i64 c.nodes) := cells_at HX2.out rfl
        have d1 : y2.cell? ⟨x4.heap.size, 1, none⟩ = some (.int .i64 c.queue) := cells_at HX2.out rfl
        have d2 : y2.cell? ⟨x4.heap.size, 2, none⟩ = some (.int .i64 c.limit) := cells_at HX2.out rfl
        have d3 : y2.cell? ⟨x4.heap.size, 3, none⟩ = some (.int .i64 c.age) := cells_at HX2.out rfl
        have d4 : y2.cell? ⟨x4.heap.size, 4, none⟩ = some (.int .i64 c.fair) := cells_at HX2.out rfl
        have d5 : y2.cell? ⟨x4.heap.size, 5, none⟩ = some (.int .i64 c.size) := cells_at HX2.out rfl
        have d6 : y2.cell? ⟨x4.heap.size, 6, none⟩ = some (.int .i64 c.period) := cells_at HX2.out rfl
        have d7 : y2.cell? ⟨x4.heap.size, 7, none⟩ = some (.int .i64 c.half) := cells_at HX2.out rfl
        have d8 : y2.cell? ⟨x4.heap.size, 8, none⟩ = some (.int .i64 now) := cells_at HX2.out rfl
        have d9 : y2.cell? ⟨x4.heap.size, 9, none⟩ = some (.slice ao' k ca') := cells_at HX2.out rfl
        have d10 : y2.cell? ⟨x4.heap.size, 10, none⟩ = some (.slice (some ⟨gJ, 0, none⟩) m cj') := cells_at HX2.out rfl
        have d11 : y2.cell? ⟨x4.heap.size, 11, none⟩ = some (.int .i64 (-1)) := cells_at HX2.out rfl
        have cD := (HLQ.out x3 y2 ao' ca' (some ⟨gJ, 0, none⟩) cj' qs HV.out.2.1 HV.out.1 HY2.out).2 _ q HQS.out.1 HS1.out y2 (Below.refl _ _)
        rw [HQS.out.2] at cD
        go_wp2_with fail
        refine cD.mono ?_
        rintro e y3 ⟨rfl, b3⟩
        have HE : Hid (Below w.heap.size w y3) := HFIN.out y2 y3 HY2.out.bel b3
        clear b3 cD
        go_wp2
        go_ret
        exact ⟨rfl, HE.out⟩
      · have hs2 : (q.v.st == 1) = false := by simpa using hs1
        go_wp2_with fail
        refine cK.mono ?_
        rintro e y2 ⟨rfl, b2⟩
        have HE : Hid (Below w.heap.size w y2) := HFIN.out y1 y2 HY1.out.bel b2
        clear b2 cK
        go_wp2
        go_ret
        exact ⟨rfl, HE.out⟩
end Go.Proofs.Ytbcinapnnlfnbaa
namespace Go.Proofs.Ytbcinapnnlfnbaa
open Go.RowKit Wd Tr Cg Lg

/-! ## Accounts -/
def turnB (i : Nat) (a : Ac) : Bool := decide (0 < i) && (decide (1 ≤ a.sh) && decide (a.sh ≤ 4096))
def turnA (i : Nat) (a : Ac) : Ac := if turnB i a = true then { a with cl := !a.cl, sh := 4097 - a.sh } else a
def turnL (l : List Ac) (k : Nat) : List Ac := l.mapIdx fun n a => if n < k then turnA n a else a
theorem turn_len (l : List Ac) (k : Nat) : (turnL l k).length = l.length := by simp [turnL]
theorem turn_get (l : List Ac) (k n : Nat) : (turnL l k)[n]? = (l[n]?).map fun a => if n < k then turnA n a else a := by simp [turnL, List.getElem?_mapIdx]
theorem turn_zero (l : List Ac) : turnL l 0 = l := by
  apply List.ext_getElem?
  intro n
  rw [turn_get]
  cases l[n]? <;> simp
theorem turn_at {l : List Ac} {k : Nat} {a : Ac} (ha : l[k]? = some a) : (turnL l k)[k]? = some a := by
  rw [turn_get, ha]
  simp
theorem turn_succ {l : List Ac} {k : Nat} {a : Ac} (ha : l[k]? = some a) : (turnL l k).set k (turnA k a) = turnL l (k + 1) := by
  apply List.ext_getElem?
  intro n
  rw [List.getElem?_set, turn_get, turn_get, turn_len]
  have hk := (List.getElem?_eq_some_iff.1 ha).1
  by_cases h : k = n
  · subst h
    rw [if_pos rfl, if_pos hk, ha]
    simp
  · rw [if_neg h]
    cases l[n]? with
    | none => rfl
    | some b =>
      simp only [Option.map_some]
      by_cases h1 : n < k
      · rw [if_pos h1, if_pos (by omega)]
      · rw [if_neg h1, if_neg (by omega)]
theorem turnA_parts (i : Nat) (a : Ac) : (turnA i a).nm = a.nm ∧ (turnA i a).pa = a.pa ∧ (turnA i a).us = a.us := by
  unfold turnA
  split <;> exact ⟨rfl, rfl, rfl⟩
theorem okSh_turn (i : Nat) (a : Ac) : okSh (turnA i a).sh = okSh a.sh := by
  unfold turnA turnB
  split
  · rename_i h
    simp only [Bool.and_eq_true, decide_eq_true_eq] at h
    have h1 : okSh (4097 - a.sh) = true := by unfold okSh; simp only [Bool.and_eq_true, decide_eq_true_eq]; omega
    have h2 : okSh a.sh = true := by unfold okSh; simp only [Bool.and_eq_true, decide_eq_true_eq]; omega
    rw [h2]
    exact h1
  · rfl
/-- Lists that tree.Load sees alike. -/
structure Tnd (l m : List Ac) : Prop where
  len : m.length = l.length
  at_ : ∀ (n : Nat) (a b : Ac), l[n]? = some a → m[n]? = some b → b.nm = a.nm ∧ b.pa = a.pa ∧ okSh b.sh = okSh a.sh ∧ (n = 0 → b = a)
theorem Tnd.get {l m : List Ac} (h : Tnd l m) (n : Nat) : (l[n]? = none ∧ m[n]? = none) ∨ ∃ a b, l[n]? = some a ∧ m[n]? = some b := by
  by_cases hn : n < l.length
  · exact .inr ⟨_, _, List.getElem?_eq_getElem hn, List.getElem?_eq_getElem (by rw [h.len]; exact hn)⟩
  · exact .inl ⟨List.getElem?_eq_none (by omega), List.getElem?_eq_none (by rw [h.len]; omega)⟩
theorem find_nms : ∀ {l m : List Ac} (s : ByteArray), l.map Ac.nm = m.map Ac.nm → findV m s = findV l s
  | [], [], _, _ => rfl
  | a :: l, b :: m, s, h => by
    simp only [List.map_cons, List.cons.injEq] at h
    simp only [findV, h.1, find_nms s h.2]
  | [], b :: m, _, h => by simp at h
  | a :: l, [], _, h => by simp at h
section
variable {l m : List Ac}
theorem Tnd.nms (h : Tnd l m) : l.map Ac.nm = m.map Ac.nm := by
  apply List.ext_getElem?
  intro n
  rw [List.getElem?_map, List.getElem?_map]
  rcases h.get n with ⟨e1, e2⟩ | ⟨a, b, e1, e2⟩
  · rw [e1, e2]
  · rw [e1, e2]
    simp only [Option.map_some, (h.at_ n a b e1 e2).1]
theorem Tnd.up (h : Tnd l m) (n : Nat) : Tr.up m n = Tr.up l n := by
  unfold Tr.up
  rcases h.get n with ⟨e1, e2⟩ | ⟨a, b, e1, e2⟩
  · rw [e1, e2]
  · rw [e1, e2]
    simp only [(h.at_ n a b e1 e2).2.1]
theorem Tnd.dep (h : Tnd l m) : ∀ f n : Nat, depN m f n = depN l f n
  | 0, _ => rfl
  | f + 1, n => by simp only [depN, h.up, h.dep f]
theorem Tnd.rows (h : Tnd l m) : ∀ f i : Nat, rowsE m f i = rowsE l f i
  | 0, _ => rfl
  | f + 1, i => by
    simp only [rowsE]
    rcases h.get i with ⟨e1, e2⟩ | ⟨a, b, e1, e2⟩
    · rw [e1, e2]
    · rw [e1, e2]
      obtain ⟨h1, h2, h3, _⟩ := h.at_ i a b e1 e2
      have hr : rowE m i b = rowE l i a := by
        unfold rowE
        rw [find_nms _ h.nms, h.len, h1, h2, h3]
      simp only [hr, h.rows f (i + 1)]
theorem Tnd.deep (h : Tnd l m) : ∀ f i : Nat, deepE m f i = deepE l f i
  | 0, _ => rfl
  | f + 1, i => by
    simp only [deepE]
    rw [h.len, show depthV m i = depthV l i by unfold depthV; rw [h.len, h.dep]]
    split
    · rfl
    · cases depthV l i with
      | none => rfl
      | some d => simp only; rw [h.deep f (i + 1)]
theorem Tnd.load (h : Tnd l m) : loadE m = loadE l := by
  unfold loadE
  rcases h.get 0 with ⟨e1, e2⟩ | ⟨a, b, e1, e2⟩
  · rw [e1, e2]
  · rw [e1, e2]
    obtain ⟨_, _, _, h0⟩ := h.at_ 0 a b e1 e2
    rw [h0 rfl, h.len, h.rows, h.deep]
end
theorem turn_tnd (l : List Ac) : Tnd l (turnL l l.length) where
  len := turn_len l _
  at_ := fun n a b ha hb => by
    rw [turn_get, ha] at hb
    simp only [Option.map_some, Option.some.injEq] at hb
    rw [if_pos (List.getElem?_eq_some_iff.1 ha).1] at hb
    subst hb
    obtain ⟨h1, h2, _⟩ := turnA_parts n a
    exact ⟨h1, h2, okSh_turn n a, fun e => by subst e; unfold turnA turnB; rw [if_neg (by simp)]⟩
theorem turn_us {l : List Ac} {k n : Nat} {a b : Ac} (ha : l[n]? = some a) (hb : (turnL l k)[n]? = some b) : b.us = a.us ∧ b.nm = a.nm := by
  rw [turn_get, ha] at hb
  simp only [Option.map_some, Option.some.injEq] at hb
  rw [← hb]
  split
  · exact ⟨(turnA_parts n a).2.2, (turnA_parts n a).1⟩
  · exact ⟨rfl, rfl⟩
theorem flatT_cl : ∀ (l : List Ac) (n : Nat) (a : Ac) (x : Bool), l[n]? = some a → (flatA l).set (n * 5 + 3) (.bool x) = flatA (l.set n { a with cl := x })
  | [], n, a, x, h => by simp at h
  | b :: l, 0, a, x, h => by
    simp at h
    subst h
    simp [flatA]
  | b :: l, n + 1, a, x, h => by
    have := flatT_cl l n a x (by simpa using h)
    rw [show (n + 1) * 5 + 3 = n * 5 + 3 + 1 + 1 + 1 + 1 + 1 by omega]
    simp only [flatA, List.set_cons_succ, this]
theorem flatT_sh : ∀ (l : List Ac) (n : Nat) (a : Ac) (x : Int), l[n]? = some a → (flatA l).set (n * 5 + 2) (.int .i64 x) = flatA (l.set n { a with sh := x })
  | [], n, a, x, h => by simp at h
  | b :: l, 0, a, x, h => by
    simp at h
    subst h
    simp [flatA]
  | b :: l, n + 1, a, x, h => by
    have := flatT_sh l n a x (by simpa using h)
    rw [show (n + 1) * 5 + 2 = n * 5 + 2 + 1 + 1 + 1 + 1 + 1 by omega]
    simp only [flatA, List.set_cons_succ, this]
theorem Cpy.accSet {x0 y : World} {g : Nat} {jo : Option Addr} {la lb : List Ac} {ca cj : Nat} {qs : List Pj} (k : Cpy x0 y (some ⟨g, 0, none⟩) la ca jo qs cj) {o : Nat} {v : Value} (hl : lb.length = la.length) (hf : (flatA la).set o v = flatA lb) : Cpy x0 (y.setCell ⟨g, o, none⟩ v) (some ⟨g, 0, none⟩) lb ca jo qs cj := by
  have hg := k.acc.lt g rfl
  refine ⟨k.bel.setCell hg.1 _, ?_, row_stand k.job (fun b hb => Below.heap_setCell _ _ _ _ (fun e => k.aj g rfl (by rw [← show b = g from e]; exact hb))), fun q hq => row_stand (k.sets q hq) (fun b hb => Below.heap_setCell _ _ _ _ (fun e => (k.ap q hq b hb).1 (by rw [show b = g from e]; rfl))), ?_, ?_⟩
  · rw [hl, ← hf]
    exact (World.ownsRow.stored k.acc o v).1
  · rw [hl]; exact k.aj
  · rw [hl]; exact k.ap
/-! ## Jobs -/
theorem flatJ_set : ∀ (l : List Pj) (n : Nat) (p : Pj) (xs : List Int) (sa : Option Addr) (sc : Nat), l[n]? = some p → (flatJ l).set (n * 8 + 7) (.slice sa xs.length sc) = flatJ (l.set n ⟨{ p.v with set := xs }, sa, sc⟩)
  | [], n, p, xs, sa, sc, h => by simp at h
  | b :: l, 0, p, xs, sa, sc, h => by
    simp at h
    subst h
    simp [flatJ]
  | b :: l, n + 1, p, xs, sa, sc, h => by
    have := flatJ_set l n p xs sa sc (by simpa using h)
    rw [show (n + 1) * 8 + 7 = n * 8 + 7 + 1 + 1 + 1 + 1 + 1 + 1 + 1 + 1 by omega]
    simp only [flatJ, List.set_cons_succ, this]
/-- A job's nodes are laid anew: in memory that came behind. -/
theorem Cpy.reset {x0 y z : World} {ao : Option Addr} {g : Nat} {la : List Ac} {ca cj : Nat} {qs : List Pj} (k : Cpy x0 y ao la ca (some ⟨g, 0, none⟩) qs cj) (b : Below y.heap.size y z) {n : Nat} {p : Pj} (hp : qs[n]? = some p) {xs : List Int} {sa : Option Addr} {sc : Nat} (hr : z.ownsRow y.heap.size 3 1 (.slice sa xs.length sc) xs.length (i64s xs)) :
    Cpy x0 (z.setCell ⟨g, n * 8 + 7, none⟩ (.slice sa xs.length sc)) ao la ca (some ⟨g, 0, none⟩) (qs.set n ⟨{ p.v with set := xs }, sa, sc⟩) cj := by
  have kz := k.keep b
  have hg := k.job.lt g rfl
  have hl : (qs.set n ⟨{ p.v with set := xs }, sa, sc⟩).length = qs.length := List.length_set
  have hy := k.bel.size
  have hnew : ∀ b, (Value.slice sa xs.length sc).ownBlock = some b → y.heap.size ≤ b := fun b hb => (hr.lt b hb).1
  have hmem : ∀ q ∈ qs.set n ⟨{ p.v with set := xs }, sa, sc⟩, q ∈ qs ∨ q = ⟨{ p.v with set := xs }, sa, sc⟩ := fun q hq => List.mem_or_eq_of_mem_set hq
  refine ⟨kz.bel.setCell hg.1 _, row_stand kz.acc (fun b hb => Below.heap_setCell _ _ _ _ (fun e => k.aj b hb (by rw [show b = g from e]; rfl))), ?_, fun q hq => ?_, ?_, fun q hq c hc => ?_⟩
  · rw [hl, ← flatJ_set qs n p xs sa sc hp]
    exact (World.ownsRow.stored kz.job (n * 8 + 7) _).1
  · rcases hmem q hq with h | rfl
    · exact row_stand (kz.sets q h) (fun b hb => Below.heap_setCell _ _ _ _ (fun e => (k.ap q h b hb).2 (by rw [show b = g from e]; rfl)))
    · exact World.ownsRow.mono (row_stand hr (fun b hb => Below.heap_setCell _ _ _ _ (fun e => by have := hnew b hb; have e' : b = g := e; omega))) hy
  · rw [hl]; exact k.aj
  · rw [hl]
    rcases hmem q hq with h | rfl
    · exact k.ap q h c hc
    · have := hnew c hc
      refine ⟨fun e => ?_, fun e => ?_⟩
      · have := (k.acc.lt c e).2
        omega
      · have := (k.job.lt c e).2
        omega
end Go.Proofs.Ytbcinapnnlfnbaa
