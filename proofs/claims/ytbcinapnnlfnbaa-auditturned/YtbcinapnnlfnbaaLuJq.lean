/-
  LAYER 17, the statements' own functions: turned (made by gen17j.py).
-/
import Derived.Test.YtbcinapnnlfnbaaXlv
namespace Go.Proofs.Ytbcinapnnlfnbaa
open Go.RowKit Wd Tr Cg Lg

theorem turn_same {l : List Ac} {k : Nat} {a : Ac} (ha : l[k]? = some a) (h : turnB k a = false) : turnL l k = turnL l (k + 1) := by
  rw [← turn_succ ha, show turnA k a = a by unfold turnA; rw [h]; simp]
  apply List.ext_getElem?
  intro n
  rw [List.getElem?_set]
  have hk := (List.getElem?_eq_some_iff.1 ha).1
  by_cases e : k = n
  · subst e
    rw [if_pos rfl, turn_len, if_pos hk, turn_at ha]
  · rw [if_neg e]
theorem set_get {l : List Ac} {k : Nat} {a b : Ac} (ha : l[k]? = some a) : (l.set k b)[k]? = some b := by
  rw [List.getElem?_set, if_pos rfl, if_pos (List.getElem?_eq_some_iff.1 ha).1]
theorem mir_get {n : Int} {l : List Int} {k t : Nat} {x : Int} (hk : k < l.length) (ht : t = l.length - 1 - k) (hx : l[t]? = some x) : (mirL n l)[k]? = some (n - 1 - x) := by
  subst ht
  unfold mirL
  rw [List.getElem?_reverse (by rw [List.length_map]; exact hk), List.length_map, List.getElem?_map, hx]
  rfl
theorem mir_take {n : Int} {l : List Int} {k t : Nat} {x : Int} (hk : k < l.length) (ht : t = l.length - 1 - k) (hx : l[t]? = some x) : i64s ((mirL n l).take (k + 1)) = i64s ((mirL n l).take k) ++ [.int .i64 (n - 1 - x)] := by
  obtain ⟨h1, h2⟩ := List.getElem?_eq_some_iff.1 (mir_get (n := n) hk ht hx)
  rw [List.take_succ_eq_append_getElem h1, h2]
  simp [i64s]
/-- The first i jobs with their nodes the other way round. -/
def Tq (n : Int) (N : Nat) (ps : List Pj) (i : Nat) (qs : List Pj) : Prop := qs.length = N ∧ ∀ (k : Nat) (p q : Pj), ps[k]? = some p → qs[k]? = some q → q.v = if k < i then mirJ n p.v else p.v
theorem tq_all {n : Int} {N : Nat} {ps qs : List Pj} (hN : ps.length = N) (h : Tq n N ps N qs) : qs.map Pj.v = (ps.map Pj.v).map (mirJ n) := by
  apply List.ext_getElem?
  intro k
  rw [List.getElem?_map, List.getElem?_map, List.getElem?_map]
  by_cases hk : k < N
  · have h1 : k < ps.length := by omega
    have h2 : k < qs.length := by rw [h.1]; exact hk
    rw [List.getElem?_eq_getElem h1, List.getElem?_eq_getElem h2]
    have := h.2 k _ _ (List.getElem?_eq_getElem h1) (List.getElem?_eq_getElem h2)
    rw [if_pos hk] at this
    simp only [Option.map_some, this]
  · rw [List.getElem?_eq_none (by rw [h.1]; omega), List.getElem?_eq_none (by omega)]
    rfl
theorem tq_next {n : Int} {N : Nat} {ps qs : List Pj} {i : Nat} {p q : Pj} (h : Tq n N ps i qs) (hp : ps[i]? = some p) (hq : qs[i]? = some q) (sa : Option Addr) (sc : Nat) : Tq n N ps (i + 1) (qs.set i ⟨{ q.v with set := mirL n q.v.set }, sa, sc⟩) := by
  refine ⟨by rw [List.length_set]; exact h.1, fun k a b ha hb => ?_⟩
  rw [List.getElem?_set] at hb
  by_cases e : i = k
  · subst e
    rw [if_pos rfl, if_pos (List.getElem?_eq_some_iff.1 hq).1] at hb
    cases hb
    rw [hp] at ha
    cases ha
    have := h.2 i p q hp hq
    rw [if_neg (by omega)] at this
    rw [if_pos (by omega), this]
    rfl
  · rw [if_neg e] at hb
    rw [h.2 k a b ha hb]
    by_cases e2 : k < i
    · rw [if_pos e2, if_pos (by omega)]
    · rw [if_neg e2, if_neg (by omega)]
set_option maxRecDepth 20000 in
set_option maxHeartbeats 8000000 in
theorem turned_any {w : World} (c : Cf) (now : Int) {ao : Option Addr} {la : List Ac} {ca : Nat} {jo : Option Addr} {ps : List Pj} {cj : Nat} (hd : Int) (h : StIn w ao la ca jo ps cj) (hn1 : 1 ≤ c.nodes) (hn2 : c.nodes ≤ 256) (hx : ∀ p ∈ ps, ∀ x ∈ p.v.set, -1099511627776 ≤ x ∧ x ≤ 1099511627776) :
    Calls Try.prog 12 #[.agg (stL c now ao la.length ca jo ps.length cj hd)] w fun e w' => ∃ ao' ca' jo' cj' qs, e = .returned (.agg (stL c now ao' la.length ca' jo' ps.length cj' hd)) ∧ qs.map Pj.v = (ps.map Pj.v).map (mirJ c.nodes) ∧ Cpy w w' ao' (turnL la la.length) ca' jo' qs cj' := by
  obtain ⟨i1, hi1, hz10, hz11, hz12⟩ := info_parts Try.infInt17
  have HCP : Hid (∀ x, Below w.heap.size w x → Calls Try.prog 13 #[.agg (stL c now ao la.length ca jo ps.length cj hd)] x fun e w' => ∃ ao' ca' jo' cj' qs, e = .returned (.agg (stL c now ao' la.length ca' jo' ps.length cj' hd)) ∧ qs.map Pj.v = ps.map Pj.v ∧ Cpy x w' ao' la ca' jo' qs cj') := fun x hx => copied_any c now hd (h.below hx)
  obtain ⟨g, o, hg, hrow⟩ := row_at h.jobs
  have HROW : Hid (∀ x, Below w.heap.size w x → ∀ (k : Nat) (q : Pj), ps[k]? = some q → JbAt x g (o + k * 8) q.jb) := hrow
  have HSET : Hid (∀ x, Below w.heap.size w x → ∀ p ∈ ps, IntsAt x p.sa p.v.set) := fun x hx p hp => (h.jobs.sets p hp).below hx
  have HSL : Hid (∀ p ∈ ps, p.v.set.length * 8 ≤ 140737488355328) := h.sl
  have HRX : Hid (∀ p ∈ ps, ∀ x ∈ p.v.set, -1099511627776 ≤ x ∧ x ≤ 1099511627776) := hx
  have hl1 := h.l48
  have hl2 := h.l80
  obtain ⟨L, hL⟩ : ∃ L, la.length = L := ⟨_, rfl⟩
  obtain ⟨N, hN⟩ : ∃ N, ps.length = N := ⟨_, rfl⟩
  have HLL : Hid (la.length = L) := hL
  have HNN : Hid (ps.length = N) := hN
  rw [hL] at hl1 HCP ⊢
  rw [hN] at hl2 hg HCP ⊢
  have HG : Hid (0 < N → jo = some ⟨g, o, none⟩) := hg
  clear h hrow hg hL hN hx
  unfold stL at *
  obtain ⟨W, hW⟩ : ∃ W, (w.alloc (.cells #[.int .i64 c.nodes, .int .i64 c.queue, .int .i64 c.limit, .int .i64 c.age, .int .i64 c.fair, .int .i64 c.size, .int .i64 c.period, .int .i64 c.half, .int .i64 now, .slice ao L ca, .slice jo N cj, .int .i64 hd] 27)).alloc (.cells #[.int .i64 0, .int .i64 0, .int .i64 0, .int .i64 0, .int .i64 0, .int .i64 0, .int .i64 0, .int .i64 0, .int .i64 0, .slice none 0 0, .slice none 0 0, .int .i64 0] 27) = W := ⟨_, rfl⟩
  have HZW : Hid (W.heap.size = w.heap.size + 2) := (show W.heap.size = w.heap.size + 2 by rw [← hW]; simp)
  have HBW : Hid (Below w.heap.size w W) := by rw [← hW]; exact ((Below.refl _ w).alloc (Nat.le_refl _) _).alloc (by simp) _
  have HS0 : Hid (W.heap[w.heap.size]? = some (.cells #[.int .i64 c.nodes, .int .i64 c.queue, .int .i64 c.limit, .int .i64 c.age, .int .i64 c.fair, .int .i64 c.size, .int .i64 c.period, .int .i64 c.half, .int .i64 now, .slice ao L ca, .slice jo N cj, .int .i64 hd] 27 (0, 0))) := by
    show W.heap[w.heap.size]? = _
    rw [← hW]
    exact (Below.heap_alloc _ _ _ (by simp)).trans (heap_alloc_new w _)
  have HR0 : Hid (W.heap[w.heap.size + 1]? = some (.cells #[.int .i64 0, .int .i64 0, .int .i64 0, .int .i64 0, .int .i64 0, .int .i64 0, .int .i64 0, .int .i64 0, .int .i64 0, .slice none 0 0, .slice none 0 0, .int .i64 0] 27 (0, 0))) := by
    have := heap_alloc_new (w.alloc (.cells #[.int .i64 c.nodes, .int .i64 c.queue, .int .i64 c.limit, .int .i64 c.age, .int .i64 c.fair, .int .i64 c.size, .int .i64 c.period, .int .i64 c.half, .int .i64 now, .slice ao L ca, .slice jo N cj, .int .i64 hd] 27)) (.cells #[.int .i64 0, .int .i64 0, .int .i64 0, .int .i64 0, .int .i64 0, .int .i64 0, .int .i64 0, .int .i64 0, .int .i64 0, .slice none 0 0, .slice none 0 0, .int .i64 0] 27)
    rw [hW, World.size_alloc] at this
    exact this
  have c0 : W.cell? ⟨w.heap.size, 0, none⟩ = some (.int .i64 c.nodes) := cells_at HS0.out rfl
  have c1 : W.cell? ⟨w.heap.size, 1, none⟩ = some (.int .i64 c.queue) := cells_at HS0.out rfl
  have c2 : W.cell? ⟨w.heap.size, 2, none⟩ = some (.int .i64 c.limit) := cells_at HS0.out rfl
  have c3 : W.cell? ⟨w.heap.size, 3, none⟩ = some (.int .i64 c.age) := cells_at HS0.out rfl
  have c4 : W.cell? ⟨w.heap.size, 4, none⟩ = some (.int .i64 c.fair) := cells_at HS0.out rfl
  have c5 : W.cell? ⟨w.heap.size, 5, none⟩ = some (.int .i64 c.size) := cells_at HS0.out rfl
  have c6 : W.cell? ⟨w.heap.size, 6, none⟩ = some (.int .i64 c.period) := cells_at HS0.out rfl
  have c7 : W.cell? ⟨w.heap.size, 7, none⟩ = some (.int .i64 c.half) := cells_at HS0.out rfl
  have c8 : W.cell? ⟨w.heap.size, 8, none⟩ = some (.int .i64 now) := cells_at HS0.out rfl
  have c9 : W.cell? ⟨w.heap.size, 9, none⟩ = some (.slice ao L ca) := cells_at HS0.out rfl
  have c10 : W.cell? ⟨w.heap.size, 10, none⟩ = some (.slice jo N cj) := cells_at HS0.out rfl
  have c11 : W.cell? ⟨w.heap.size, 11, none⟩ = some (.int .i64 hd) := cells_at HS0.out rfl
  have cP := HCP.out W HBW.out
  clear HCP
  go_enter Try.func12, Try.ntmps12
  go_wp2_with fail
  refine cP.mono ?_
  rintro e x1 ⟨ao', ca', jo', cj', qs, rfl, hv, hk⟩
  have HT0 : Hid (Tq c.nodes N ps 0 qs) := ⟨by rw [vals_len hv]; exact HNN.out, fun k p q hp hq => by rw [if_neg (by omega)]; have h1 := vmap_at hq; rw [hv, vmap_at hp] at h1; exact (Option.some.inj h1).symm⟩
  obtain ⟨x2, hx2⟩ : ∃ x2, x1.alloc (.cells #[.int .i64 c.nodes, .int .i64 c.queue, .int .i64 c.limit, .int .i64 c.age, .int .i64 c.fair, .int .i64 c.size, .int .i64 c.period, .int .i64 c.half, .int .i64 now, .slice ao' L ca', .slice jo' N cj', .int .i64 hd] 27) = x2 := ⟨_, rfl⟩
  have h12 : Below x1.heap.size x1 x2 := by rw [← hx2]; exact (Below.refl _ x1).alloc (Nat.le_refl _) _
  have HT2 : Hid (x2.heap[x1.heap.size]? = some (.cells #[.int .i64 c.nodes, .int .i64 c.queue, .int .i64 c.limit, .int .i64 c.age, .int .i64 c.fair, .int .i64 c.size, .int .i64 c.period, .int .i64 c.half, .int .i64 now, .slice ao' L ca', .slice jo' N cj', .int .i64 hd] 27 (0, 0))) := by rw [← hx2]; exact heap_alloc_new x1 _
  have HC2 : Hid (Cpy W x2 ao' la ca' jo' qs cj') := hk.keep h12
  have HLT : Hid ((∀ b, (Value.slice ao' la.length ca').ownBlock = some b → b < x1.heap.size) ∧ W.heap.size ≤ x1.heap.size ∧ (∀ b, (Value.slice jo' qs.length cj').ownBlock = some b → b < x1.heap.size)) := ⟨fun b hb => (hk.acc.lt b hb).2, hk.bel.size, fun b hb => (hk.job.lt b hb).2⟩
  have e10 : x2.cell? ⟨x1.heap.size, 10, none⟩ = some (.slice jo' N cj') := cells_at HT2.out rfl
  have HQN : Hid (qs.length = N) := HT0.out.1
  clear hv hk h12 cP c0 c1 c2 c3 c4 c5 c6 c7 c8 c9 c10 c11
  go_wp2
  clear e10 hx2 hW
  go_loopg [13] N (fun gk pk wr => ∃ (i : Nat) (rs : List Pj), i + gk = N ∧ pk = .int .i64 i ∧ Cpy W wr ao' la ca' jo' rs cj' ∧ wr.heap[x1.heap.size]? = some (.cells #[.int .i64 c.nodes, .int .i64 c.queue, .int .i64 c.limit, .int .i64 c.age, .int .i64 c.fair, .int .i64 c.size, .int .i64 c.period, .int .i64 c.half, .int .i64 now, .slice ao' L ca', .slice jo' N cj', .int .i64 hd] 27 (0, 0)) ∧ Tq c.nodes N ps i rs)
  case atStart => exact ⟨0, qs, by omega, rfl, HC2.out, HT2.out, HT0.out⟩
  case round =>
    clear HC2 HT2 HT0
    obtain ⟨i, rs, hi, rfl, hcp, hbx, htq⟩ := hrel
    have HC : Hid (Cpy W wr ao' la ca' jo' rs cj') := hcp
    have HX : Hid (wr.heap[x1.heap.size]? = some (.cells #[.int .i64 c.nodes, .int .i64 c.queue, .int .i64 c.limit, .int .i64 c.age, .int .i64 c.fair, .int .i64 c.size, .int .i64 c.period, .int .i64 c.half, .int .i64 now, .slice ao' L ca', .slice jo' N cj', .int .i64 hd] 27 (0, 0))) := hbx
    have HQ : Hid (Tq c.nodes N ps i rs) := htq
    clear hcp hbx htq
    obtain ⟨V, hV⟩ : ∃ V, wr = V := ⟨_, rfl⟩
    rw [hV] at HC HX ⊢
    clear hV
    by_cases hlt : i < N
    · have hlt' : (i : Int) < N := by omega
      obtain ⟨p, hp⟩ : ∃ p, ps[i]? = some p := ⟨_, List.getElem?_eq_getElem (by rw [HNN.out]; exact hlt)⟩
      obtain ⟨q, hq⟩ : ∃ q, rs[i]? = some q := ⟨_, List.getElem?_eq_getElem (by rw [HQ.out.1]; exact hlt)⟩
      have hqv := HQ.out.2 i p q hp hq
      rw [if_neg (by omega)] at hqv
      obtain rfl := HG.out (by omega)
      obtain ⟨gJ, rfl⟩ : ∃ gJ, jo' = some ⟨gJ, 0, none⟩ := by
        obtain ⟨_, _, e, _, h0, h1⟩ := own_val HC.out.job
        cases e
        cases jo' with
        | none => exact absurd (h0 rfl).1 (by rw [HQ.out.1]; omega)
        | some b => obtain ⟨g, e, _⟩ := h1 b rfl; exact ⟨g, by rw [e]⟩
      have hgl : gJ < x1.heap.size := HLT.out.2.2 gJ rfl
      have HBwV : Hid (Below w.heap.size w V) := HBW.out.trans (HC.out.bel.mono HBW.out.size)
      have HPM : Hid (p ∈ ps) := List.mem_of_getElem? hp
      have HQX : Hid (∀ sa sc, Tq c.nodes N ps (i + 1) (rs.set i ⟨{ q.v with set := mirL c.nodes q.v.set }, sa, sc⟩)) := fun sa sc => tq_next HQ.out hp hq sa sc
      have HRS : Hid (∀ z, Below V.heap.size V z → ∀ sa sc, z.ownsRow V.heap.size 3 1 (.slice sa (mirL c.nodes q.v.set).length sc) (mirL c.nodes q.v.set).length (i64s (mirL c.nodes q.v.set)) → Cpy W (z.setCell ⟨gJ, i * 8 + 7, none⟩ (.slice sa (mirL c.nodes q.v.set).length sc)) ao' la ca' (some ⟨gJ, 0, none⟩) (rs.set i ⟨{ q.v with set := mirL c.nodes q.v.set }, sa, sc⟩) cj') := fun z hz sa sc hr => HC.out.reset hz hq hr
      have hq7 : V.cell? ⟨gJ, i * 8 + 7, none⟩ = some (.slice q.sa p.v.set.length q.sc) := by
        have := HC.out.job.cells (g := gJ) rfl (i * 8 + 7) _ (flatJ_at _ i q hq).2.2.2.2.2.2.2
        rw [Addr.add_lit, hqv] at this
        simpa using this
      have hf7 : V.frozen? ⟨gJ, i * 8 + 7, none⟩ = false := World.ownsRow.frozenAt HC.out.job (i * 8 + 7)
      have hp7 : V.cell? ⟨g, o + i * 8 + 7, none⟩ = some (.slice p.sa p.v.set.length p.sc) := (HROW.out V HBwV.out i p hp).se
      rw [hqv] at HQX HRS
      have HIN : Hid (∀ x, Below w.heap.size w x → IntsAt x p.sa p.v.set) := fun x hx => HSET.out x hx p HPM.out
      have hp8 := HSL.out p HPM.out
      have HPX : Hid (∀ x ∈ p.v.set, -1099511627776 ≤ x ∧ x ≤ 1099511627776) := HRX.out p HPM.out
      have b10 : V.cell? ⟨x1.heap.size, 10, none⟩ = some (.slice (some ⟨gJ, 0, none⟩) N cj') := cells_at HX.out rfl
      clear hp hq hqv HPM HQ
      obtain ⟨⟨ac, nd, lm, sb, st, sr, en, xs⟩, sa, sc⟩ := p
      dsimp only [Pj.jb] at hq7 hp7 HQX HRS HIN hp8 HPX
      obtain ⟨m, hm⟩ : ∃ m, xs.length = m := ⟨_, rfl⟩
      have HMM : Hid (xs.length = m) := hm
      rw [hm] at hq7 hp7 hp8
      clear hm
      go_wp2
      go_loopg [5, 23] m (fun gk pl pk wr => ∃ (k : Nat) (vl : Value), k + gk = m ∧ pk = .int .i64 k ∧ vl = pl ∧ wr.ownsRow V.heap.size 3 1 vl k (i64s ((mirL c.nodes xs).take k)) ∧ Below V.heap.size V wr)
      case atStart => exact ⟨0, _, by omega, rfl, rfl, own_nil _ _ _ _, Below.refl _ _⟩
      case round =>
        obtain ⟨k, vl, hk, rfl, rfl, hrow, hbv⟩ := hrel
        have HRW : Hid (wr.ownsRow V.heap.size 3 1 vl k (i64s ((mirL c.nodes xs).take k))) := hrow
        have HBV : Hid (Below V.heap.size V wr) := hbv
        clear hrow hbv
        obtain ⟨U, hU⟩ : ∃ U, wr = U := ⟨_, rfl⟩
        rw [hU] at HRW HBV ⊢
        clear hU
        have HBU : Hid (Below w.heap.size w U) := HBwV.out.trans (HBV.out.mono HBwV.out.size)
        by_cases hltk : k < m
        · have hltk' : (k : Int) < m := by omega
          obtain ⟨t, ht⟩ : ∃ t, t = m - 1 - k := ⟨_, rfl⟩
          obtain ⟨x, hx⟩ : ∃ x, xs[t]? = some x := ⟨_, List.getElem?_eq_getElem (by rw [HMM.out]; omega)⟩
          have HTK : Hid (i64s ((mirL c.nodes xs).take (k + 1)) = i64s ((mirL c.nodes xs).take k) ++ [.int .i64 (c.nodes - 1 - x)]) := mir_take (by rw [HMM.out]; exact hltk) (by rw [HMM.out]; exact ht) hx
          have hxb := HPX.out x (List.mem_of_getElem? hx)
          obtain ⟨gs, os, hgs, hcs⟩ := HIN.out V HBwV.out
          obtain rfl := hgs (by rw [HMM.out]; omega)
          have u0 := hcs t x hx
          have u1 := hp7
          have u2 : V.cell? ⟨x1.heap.size, 0, none⟩ = some (.int .i64 c.nodes) := cells_at HX.out rfl
          have u3 : V.cell? ⟨w.heap.size, 10, none⟩ = some (.slice (some ⟨g, o, none⟩) N cj) := cellB HC.out.bel (cells_at HS0.out rfl)
          have w1 : IntKind.i64.wrap (c.nodes - 1) = c.nodes - 1 := by rw [IntKind.wrap_i64]; omega
          have w2 : IntKind.i64.wrap ((m : Int) - 1) = (m : Int) - 1 := by rw [IntKind.wrap_i64]; omega
          have w3 : IntKind.i64.wrap ((m : Int) - 1 - (k : Int)) = (t : Int) := by rw [IntKind.wrap_i64]; omega
          have w4 : IntKind.i64.wrap (c.nodes - 1 - x) = c.nodes - 1 - x := by rw [IntKind.wrap_i64]; omega
          have t1 : (t : Int) < (m : Int) := by omega
          have t0 : (0 : Int) ≤ (t : Int) := by omega
          clear hcs hgs hx ht
          go_upto_region 9 with fail
          refine wp_region_last (S := (fun x' : World => Below V.heap.size V x')) (L := 99) (by kernel_rfl) ?_
          have HSW0 : (fun x' : World => Below V.heap.size V x') U.drew := HBV.out.trans ((drew_below U).mono HBV.out.size)
          refine last_takeF (i := 0) (v := ?v0k1) rfl (by kernel_rfl) (by kernel_rfl) (by kernel_rfl) (by kernel_rfl) rfl (fun _ _ _ h => h) (by rfl) HSW0 ?hy0k1 ?rest0k1
          case hy0k1 =>
            intro xx hSx
            have v0 := cellB hSx u0
            have v1 := cellB hSx u1
            have v2 := cellB hSx u2
            have v3 := cellB hSx u3
            go_simp
            try (with_reducible rfl)
          simp only [Act.put, List.setIfInBounds_toArray, List.set_cons_zero, List.set_cons_succ]
          refine last_takeF (i := 1) (v := ?v1k2) rfl (by kernel_rfl) (by kernel_rfl) (by kernel_rfl) (by kernel_rfl) rfl (fun _ _ _ h => h) (by rfl) HSW0 ?hy1k2 ?rest1k2
          case hy1k2 =>
            intro xx hSx
            have v0 := cellB hSx u0
            have v1 := cellB hSx u1
            have v2 := cellB hSx u2
            have v3 := cellB hSx u3
            go_simp
            try (with_reducible rfl)
          simp only [Act.put, List.setIfInBounds_toArray, List.set_cons_zero, List.set_cons_succ]
          refine last_takeF (i := 2) (v := ?v2k3) rfl (by kernel_rfl) (by kernel_rfl) (by kernel_rfl) (by kernel_rfl) rfl (fun _ _ _ h => h) (by rfl) HSW0 ?hy2k3 ?rest2k3
          case hy2k3 =>
            intro xx hSx
            have v0 := cellB hSx u0
            have v1 := cellB hSx u1
            have v2 := cellB hSx u2
            have v3 := cellB hSx u3
            go_simp
            try (with_reducible rfl)
          simp only [Act.put, List.setIfInBounds_toArray, List.set_cons_zero, List.set_cons_succ]
          refine last_takeF (i := 3) (v := ?v3k4) rfl (by kernel_rfl) (by kernel_rfl) (by kernel_rfl) (by kernel_rfl) rfl (fun _ _ _ h => h) (by rfl) HSW0 ?hy3k4 ?rest3k4
          case hy3k4 =>
            intro xx hSx
            have v0 := cellB hSx u0
            have v1 := cellB hSx u1
            have v2 := cellB hSx u2
            have v3 := cellB hSx u3
            go_simp
            try (with_reducible rfl)
          simp only [Act.put, List.setIfInBounds_toArray, List.set_cons_zero, List.set_cons_succ]
          refine last_takeF (i := 4) (v := ?v4k5) rfl (by kernel_rfl) (by kernel_rfl) (by kernel_rfl) (by kernel_rfl) rfl (fun _ _ _ h => h) (by rfl) HSW0 ?hy4k5 ?rest4k5
          case hy4k5 =>
            intro xx hSx
            have v0 := cellB hSx u0
            have v1 := cellB hSx u1
            have v2 := cellB hSx u2
            have v3 := cellB hSx u3
            go_simp
            try (with_reducible rfl)
          simp only [Act.put, List.setIfInBounds_toArray, List.set_cons_zero, List.set_cons_succ]
          try rw [w1]
          refine last_takeF (i := 5) (v := ?v5k6) rfl (by kernel_rfl) (by kernel_rfl) (by kernel_rfl) (by kernel_rfl) rfl (fun _ _ _ h => h) (by rfl) HSW0 ?hy5k6 ?rest5k6
          case hy5k6 =>
            intro xx hSx
            have v0 := cellB hSx u0
            have v1 := cellB hSx u1
            have v2 := cellB hSx u2
            have v3 := cellB hSx u3
            go_simp
            try (with_reducible rfl)
          simp only [Act.put, List.setIfInBounds_toArray, List.set_cons_zero, List.set_cons_succ]
          refine last_takeF (i := 6) (v := ?v6k7) rfl (by kernel_rfl) (by kernel_rfl) (by kernel_rfl) (by kernel_rfl) rfl (fun _ _ _ h => h) (by rfl) HSW0 ?hy6k7 ?rest6k7
          case hy6k7 =>
            intro xx hSx
            have v0 := cellB hSx u0
            have v1 := cellB hSx u1
            have v2 := cellB hSx u2
            have v3 := cellB hSx u3
            go_simp
            try (with_reducible rfl)
          simp only [Act.put, List.setIfInBounds_toArray, List.set_cons_zero, List.set_cons_succ]
          refine last_takeF (i := 7) (v := ?v7k8) rfl (by kernel_rfl) (by kernel_rfl) (by kernel_rfl) (by kernel_rfl) rfl (fun _ _ _ h => h) (by rfl) HSW0 ?hy7k8 ?rest7k8
          case hy7k8 =>
            intro xx hSx
            have v0 := cellB hSx u0
            have v1 := cellB hSx u1
            have v2 := cellB hSx u2
            have v3 := cellB hSx u3
            go_simp
            try (with_reducible rfl)
          simp only [Act.put, List.setIfInBounds_toArray, List.set_cons_zero, List.set_cons_succ]
          refine last_takeF (i := 8) (v := ?v8k9) rfl (by kernel_rfl) (by kernel_rfl) (by kernel_rfl) (by kernel_rfl) rfl (fun _ _ _ h => h) (by rfl) HSW0 ?hy8k9 ?rest8k9
          case hy8k9 =>
            intro xx hSx
            have v0 := cellB hSx u0
            have v1 := cellB hSx u1
            have v2 := cellB hSx u2
            have v3 := cellB hSx u3
            go_simp
            try (with_reducible rfl)
          simp only [Act.put, List.setIfInBounds_toArray, List.set_cons_zero, List.set_cons_succ]
          refine last_takeF (i := 9) (v := ?v9k10) rfl (by kernel_rfl) (by kernel_rfl) (by kernel_rfl) (by kernel_rfl) rfl (fun _ _ _ h => h) (by rfl) HSW0 ?hy9k10 ?rest9k10
          case hy9k10 =>
            intro xx hSx
            have v0 := cellB hSx u0
            have v1 := cellB hSx u1
            have v2 := cellB hSx u2
            have v3 := cellB hSx u3
            go_simp
            try (with_reducible rfl)
          simp only [Act.put, List.setIfInBounds_toArray, List.set_cons_zero, List.set_cons_succ]
          refine last_takeF (i := 10) (v := ?v10k11) rfl (by kernel_rfl) (by kernel_rfl) (by kernel_rfl) (by kernel_rfl) rfl (fun _ _ _ h => h) (by rfl) HSW0 ?hy10k11 ?rest10k11
          case hy10k11 =>
            intro xx hSx
            have v0 := cellB hSx u0
            have v1 := cellB hSx u1
            have v2 := cellB hSx u2
            have v3 := cellB hSx u3
            go_simp
            try (with_reducible rfl)
          simp only [Act.put, List.setIfInBounds_toArray, List.set_cons_zero, List.set_cons_succ]
          refine last_takeF (i := 11) (v := ?v11k12) rfl (by kernel_rfl) (by kernel_rfl) (by kernel_rfl) (by kernel_rfl) rfl (fun _ _ _ h => h) (by rfl) HSW0 ?hy11k12 ?rest11k12
          case hy11k12 =>
            intro xx hSx
            have v0 := cellB hSx u0
            have v1 := cellB hSx u1
            have v2 := cellB hSx u2
            have v3 := cellB hSx u3
            go_simp
            try (with_reducible rfl)
          simp only [Act.put, List.setIfInBounds_toArray, List.set_cons_zero, List.set_cons_succ]
          refine last_takeF (i := 12) (v := ?v12k13) rfl (by kernel_rfl) (by kernel_rfl) (by kernel_rfl) (by kernel_rfl) rfl (fun _ _ _ h => h) (by rfl) HSW0 ?hy12k13 ?rest12k13
          case hy12k13 =>
            intro xx hSx
            have v0 := cellB hSx u0
            have v1 := cellB hSx u1
            have v2 := cellB hSx u2
            have v3 := cellB hSx u3
            go_simp
            try (with_reducible rfl)
          simp only [Act.put, List.setIfInBounds_toArray, List.set_cons_zero, List.set_cons_succ]
          refine last_takeF (i := 13) (v := ?v13k14) rfl (by kernel_rfl) (by kernel_rfl) (by kernel_rfl) (by kernel_rfl) rfl (fun _ _ _ h => h) (by rfl) HSW0 ?hy13k14 ?rest13k14
          case hy13k14 =>
            intro xx hSx
            have v0 := cellB hSx u0
            have v1 := cellB hSx u1
            have v2 := cellB hSx u2
            have v3 := cellB hSx u3
            go_simp
            try (with_reducible rfl)
          simp only [Act.put, List.setIfInBounds_toArray, List.set_cons_zero, List.set_cons_succ]
          refine last_takeF (i := 14) (v := ?v14k15) rfl (by kernel_rfl) (by kernel_rfl) (by kernel_rfl) (by kernel_rfl) rfl (fun _ _ _ h => h) (by rfl) HSW0 ?hy14k15 ?rest14k15
          case hy14k15 =>
            intro xx hSx
            have v0 := cellB hSx u0
            have v1 := cellB hSx u1
            have v2 := cellB hSx u2
            have v3 := cellB hSx u3
            go_simp
            try (with_reducible rfl)
          simp only [Act.put, List.setIfInBounds_toArray, List.set_cons_zero, List.set_cons_succ]
          refine last_takeF (i := 15) (v := ?v15k16) rfl (by kernel_rfl) (by kernel_rfl) (by kernel_rfl) (by kernel_rfl) rfl (fun _ _ _ h => h) (by rfl) HSW0 ?hy15k16 ?rest15k16
          case hy15k16 =>
            intro xx hSx
            have v0 := cellB hSx u0
            have v1 := cellB hSx u1
            have v2 := cellB hSx u2
            have v3 := cellB hSx u3
            go_simp
            try (with_reducible rfl)
          simp only [Act.put, List.setIfInBounds_toArray, List.set_cons_zero, List.set_cons_succ]
          refine last_takeF (i := 16) (v := ?v16k17) rfl (by kernel_rfl) (by kernel_rfl) (by kernel_rfl) (by kernel_rfl) rfl (fun _ _ _ h => h) (by rfl) HSW0 ?hy16k17 ?rest16k17
          case hy16k17 =>
            intro xx hSx
            have v0 := cellB hSx u0
            have v1 := cellB hSx u1
            have v2 := cellB hSx u2
            have v3 := cellB hSx u3
            go_simp
            try (with_reducible rfl)
          simp only [Act.put, List.setIfInBounds_toArray, List.set_cons_zero, List.set_cons_succ]
          refine last_takeF (i := 17) (v := ?v17k18) rfl (by kernel_rfl) (by kernel_rfl) (by kernel_rfl) (by kernel_rfl) rfl (fun _ _ _ h => h) (by rfl) HSW0 ?hy17k18 ?rest17k18
          case hy17k18 =>
            intro xx hSx
            have v0 := cellB hSx u0
            have v1 := cellB hSx u1
            have v2 := cellB hSx u2
            have v3 := cellB hSx u3
            go_simp
            try (with_reducible rfl)
          simp only [Act.put, List.setIfInBounds_toArray, List.set_cons_zero, List.set_cons_succ]
          refine last_takeF (i := 18) (v := ?v18k19) rfl (by kernel_rfl) (by kernel_rfl) (by kernel_rfl) (by kernel_rfl) rfl (fun _ _ _ h => h) (by rfl) HSW0 ?hy18k19 ?rest18k19
          case hy18k19 =>
            intro xx hSx
            have v0 := cellB hSx u0
            have v1 := cellB hSx u1
            have v2 := cellB hSx u2
            have v3 := cellB hSx u3
            go_simp
            try (with_reducible rfl)
          simp only [Act.put, List.setIfInBounds_toArray, List.set_cons_zero, List.set_cons_succ]
          try rw [w2]
          refine last_takeF (i := 19) (v := ?v19k20) rfl (by kernel_rfl) (by kernel_rfl) (by kernel_rfl) (by kernel_rfl) rfl (fun _ _ _ h => h) (by rfl) HSW0 ?hy19k20 ?rest19k20
          case hy19k20 =>
            intro xx hSx
            have v0 := cellB hSx u0
            have v1 := cellB hSx u1
            have v2 := cellB hSx u2
            have v3 := cellB hSx u3
            go_simp
            try (with_reducible rfl)
          simp only [Act.put, List.setIfInBounds_toArray, List.set_cons_zero, List.set_cons_succ]
          refine last_takeF (i := 20) (v := ?v20k21) rfl (by kernel_rfl) (by kernel_rfl) (by kernel_rfl) (by kernel_rfl) rfl (fun _ _ _ h => h) (by rfl) HSW0 ?hy20k21 ?rest20k21
          case hy20k21 =>
            intro xx hSx
            have v0 := cellB hSx u0
            have v1 := cellB hSx u1
            have v2 := cellB hSx u2
            have v3 := cellB hSx u3
            go_simp
            try (with_reducible rfl)
          simp only [Act.put, List.setIfInBounds_toArray, List.set_cons_zero, List.set_cons_succ]
          try rw [w3]
          refine last_takeF (i := 21) (v := ?v21k22) rfl (by kernel_rfl) (by kernel_rfl) (by kernel_rfl) (by kernel_rfl) rfl (fun _ _ _ h => h) (by rfl) HSW0 ?hy21k22 ?rest21k22
          case hy21k22 =>
            intro xx hSx
            have v0 := cellB hSx u0
            have v1 := cellB hSx u1
            have v2 := cellB hSx u2
            have v3 := cellB hSx u3
            go_simp
            try (with_reducible rfl)
          simp only [Act.put, List.setIfInBounds_toArray, List.set_cons_zero, List.set_cons_succ]
          refine last_takeF (i := 22) (v := ?v22k23) rfl (by kernel_rfl) (by kernel_rfl) (by kernel_rfl) (by kernel_rfl) rfl (fun _ _ _ h => h) (by rfl) HSW0 ?hy22k23 ?rest22k23
          case hy22k23 =>
            intro xx hSx
            have v0 := cellB hSx u0
            have v1 := cellB hSx u1
            have v2 := cellB hSx u2
            have v3 := cellB hSx u3
            go_simp
            try (with_reducible rfl)
          simp only [Act.put, List.setIfInBounds_toArray, List.set_cons_zero, List.set_cons_succ]
          refine last_takeF (i := 23) (v := ?v23k24) rfl (by kernel_rfl) (by kernel_rfl) (by kernel_rfl) (by kernel_rfl) rfl (fun _ _ _ h => h) (by rfl) HSW0 ?hy23k24 ?rest23k24
          case hy23k24 =>
            intro xx hSx
            have v0 := cellB hSx u0
            have v1 := cellB hSx u1
            have v2 := cellB hSx u2
            have v3 := cellB hSx u3
            go_simp
            try (with_reducible rfl)
          simp only [Act.put, List.setIfInBounds_toArray, List.set_cons_zero, List.set_cons_succ]
          try rw [w4]
          clear u0 u1 u2 u3
          obtain ⟨D, hD⟩ : ∃ D, U.drew = D := ⟨_, rfl⟩
          have HRD : Hid (D.ownsRow V.heap.size 3 1 vl k (i64s ((mirL c.nodes xs).take k))) := by rw [← hD]; exact row_kept HRW.out (drew_below U)
          have HBD : Hid (Below V.heap.size V D) := HBV.out.trans ((by rw [← hD]; exact drew_below U : Below U.heap.size U D).mono HBV.out.size)
          rw [hD] at HSW0 ⊢
          clear hD
          have hSA : Below V.heap.size V (D.alloc (.cells #[.int .i64 (c.nodes - 1 - x)] 3)) := HSW0.alloc HSW0.size _
          refine last_one (i := 24) (by kernel_rfl) rfl ?_
          intro K hK
          go_simp
          refine hK.out _ _ (fun _ => hSA) (fun _ => ?_)
          clear hK K
          refine last_one (i := 25) (by kernel_rfl) rfl ?_
          intro K hK
          refine step_appB rfl (.tmp 26) (.tmp 50) 36 rfl V.heap.size 3 i1 _ 1 8 Try.underlying36 hi1 hz10 hz11 hz12 rfl (by decide) vl k (i64s ((mirL c.nodes xs).take k)) (by simp [Act.eval]) (HRD.out.alloc _) ⟨D.heap.size, 0, none⟩ 1 1 [.int .i64 (c.nodes - 1 - x)] (by simp [Act.eval]) rfl (cell_one_new _ _ _) (by intro u hu; simp at hu; subst hu; rfl) (Nat.le_trans (m := 35184372088832) (by omega) (by decide)) (by omega) (by rw [World.size_alloc]; have := HBD.out.size; omega) ?_
          intro v' z r1 g1 r4
          rw [← HTK.out] at r1
          have HR2 : Hid (z.ownsRow V.heap.size 3 1 v' (k + 1) (i64s ((mirL c.nodes xs).take (k + 1)))) := r1
          have hlo : ∀ b, vl.ownBlock = some b → V.heap.size ≤ b := fun b hb => (HRD.out.lt b hb).1
          have HB2 : Hid (Below V.heap.size V z) := (show Below V.heap.size V z from ⟨g1.os.trans HBD.out.os, g1.tape.trans HBD.out.tape, g1.output.trans HBD.out.output, by have h1 := g1.size; have h2 := HBD.out.size; rw [World.size_alloc] at h1; omega, fun b hb => by have h2 := HBD.out.size; rw [g1.block b (by rw [World.size_alloc]; omega) (fun e => by have := hlo b e.symm; omega), Below.heap_alloc _ _ _ (by omega)]; exact HBD.out.block b hb⟩)
          refine hK.out _ _ (fun _ => HB2.out) (fun _ => ?_)
          clear hK K r1 g1 r4 hlo HRD HBD hSA HSW0
          refine last_one (i := 26) (by kernel_rfl) rfl ?_
          intro K hK
          go_simp
          refine hK.out _ _ (fun _ => HB2.out) (fun _ => ?_)
          clear hK K
          refine last_done (by kernel_rfl) ?_ _
          clear w1 w2 w3 w4
          go_wp2
          go_roundg (m - (k + 1))
          case measure => omega
          case rel => exact ⟨k + 1, _, by omega, rfl, rfl, HR2.out, HB2.out⟩
        · obtain rfl : k = m := by omega
          have hal : (mirL c.nodes xs).take k = mirL c.nodes xs := List.take_of_length_le (by rw [mir_len, HMM.out]; omega)
          have hrw := HRW.out
          rw [hal] at hrw
          obtain ⟨sa', sc', rfl, _, _, _⟩ := own_val hrw
          have HC3 : Hid (Cpy W (U.setCell ⟨gJ, i * 8 + 7, none⟩ (.slice sa' k sc')) ao' la ca' (some ⟨gJ, 0, none⟩) (rs.set i ⟨{ (⟨ac, nd, lm, sb, st, sr, en, xs⟩ : Jv) with set := mirL c.nodes xs }, sa', sc'⟩) cj') := by
            have := HRS.out U HBV.out sa' sc' (by rw [mir_len, HMM.out]; exact hrw)
            rw [mir_len, HMM.out] at this
            exact this
          have HX3 : Hid ((U.setCell ⟨gJ, i * 8 + 7, none⟩ (.slice sa' k sc')).heap[x1.heap.size]? = some (.cells #[.int .i64 c.nodes, .int .i64 c.queue, .int .i64 c.limit, .int .i64 c.age, .int .i64 c.fair, .int .i64 c.size, .int .i64 c.period, .int .i64 c.half, .int .i64 now, .slice ao' L ca', .slice (some ⟨gJ, 0, none⟩) N cj', .int .i64 hd] 27 (0, 0))) := (Below.heap_setCell _ _ _ _ (show x1.heap.size ≠ gJ by omega)).trans ((HBV.out.block _ (Array.getElem?_eq_some_iff.1 HX.out).1).trans HX.out)
          have n10 := cellB HBV.out b10
          have n7 := cellB HBV.out hq7
          have m7 : U.frozen? ⟨gJ, i * 8 + 7, none⟩ = false := (World.frozen?_of_block (HBV.out.block gJ (World.block_lt_of_cell? V _ hq7))).trans hf7
          clear hal hrw HRW b10 hq7 hf7 hp7
          go_wp2
          go_roundg (N - (i + 1))
          case measure => omega
          case rel => exact ⟨i + 1, _, by omega, rfl, HC3.out, HX3.out, HQX.out sa' sc'⟩
    · obtain rfl : i = N := by omega
      have HQA : Hid (rs.map Pj.v = (ps.map Pj.v).map (mirJ c.nodes) ∧ rs.length = i) := ⟨tq_all HNN.out HQ.out, HQ.out.1⟩
      have b9 : V.cell? ⟨x1.heap.size, 9, none⟩ = some (.slice ao' L ca') := cells_at HX.out rfl
      clear HQ
      go_wp2
      clear b9
      go_loopg [63] L (fun gk pk wr => ∃ k : Nat, k + gk = L ∧ pk = .int .i64 k ∧ Cpy W wr ao' (turnL la k) ca' jo' rs cj' ∧ wr.heap[x1.heap.size]? = some (.cells #[.int .i64 c.nodes, .int .i64 c.queue, .int .i64 c.limit, .int .i64 c.age, .int .i64 c.fair, .int .i64 c.size, .int .i64 c.period, .int .i64 c.half, .int .i64 now, .slice ao' L ca', .slice jo' i cj', .int .i64 hd] 27 (0, 0)))
      case atStart => exact ⟨0, by omega, rfl, by rw [turn_zero]; exact HC.out, HX.out⟩
      case round =>
        clear HC HX
        obtain ⟨k, hk, rfl, hcp, hbx⟩ := hrel
        have HC : Hid (Cpy W wr ao' (turnL la k) ca' jo' rs cj') := hcp
        have HX : Hid (wr.heap[x1.heap.size]? = some (.cells #[.int .i64 c.nodes, .int .i64 c.queue, .int .i64 c.limit, .int .i64 c.age, .int .i64 c.fair, .int .i64 c.size, .int .i64 c.period, .int .i64 c.half, .int .i64 now, .slice ao' L ca', .slice jo' i cj', .int .i64 hd] 27 (0, 0))) := hbx
        clear hcp hbx
        obtain ⟨U, hU⟩ : ∃ U, wr = U := ⟨_, rfl⟩
        rw [hU] at HC HX ⊢
        clear hU
        by_cases hltk : k < L
        · have hltk' : (k : Int) < L := by omega
          obtain ⟨a, ha⟩ : ∃ a, la[k]? = some a := ⟨_, List.getElem?_eq_getElem (by rw [HLL.out]; exact hltk)⟩
          obtain ⟨gA, rfl⟩ : ∃ gA, ao' = some ⟨gA, 0, none⟩ := by
            obtain ⟨_, _, e, _, h0, h1⟩ := own_val HC.out.acc
            cases e
            cases ao' with
            | none => exact absurd (h0 rfl).1 (by rw [turn_len, HLL.out]; omega)
            | some b => obtain ⟨g, e, _⟩ := h1 b rfl; exact ⟨g, by rw [e]⟩
          have hgl : gA < x1.heap.size := HLT.out.1 gA rfl
          have b9 : U.cell? ⟨x1.heap.size, 9, none⟩ = some (.slice (some ⟨gA, 0, none⟩) L ca') := cells_at HX.out rfl
          have a2 : U.cell? ⟨gA, k * 5 + 2, none⟩ = some (.int .i64 a.sh) := by
            have := HC.out.acc.cells (g := gA) rfl (k * 5 + 2) _ (flatA_at _ k a (turn_at ha)).2.2.1
            rw [Addr.add_lit] at this
            simpa using this
          have a3 : U.cell? ⟨gA, k * 5 + 3, none⟩ = some (.bool a.cl) := by
            have := HC.out.acc.cells (g := gA) rfl (k * 5 + 3) _ (flatA_at _ k a (turn_at ha)).2.2.2.1
            rw [Addr.add_lit] at this
            simpa using this
          have HSAME : Hid (turnB k a = false → turnL la k = turnL la (k + 1)) := turn_same ha
          by_cases h1 : ¬ (0 < (k : Int))
          · have h1' : decide (0 < (k : Int)) = false := decide_eq_false h1
            have HE : Hid (turnL la k = turnL la (k + 1)) := HSAME.out (by unfold turnB; rw [decide_eq_false (show ¬ 0 < k by omega)]; rfl)
            clear HSAME ha
            generalize a.sh = SH at *
            go_wp2
            go_roundg (L - (k + 1))
            case measure => omega
            case rel => exact ⟨k + 1, by omega, rfl, by rw [← HE.out]; exact HC.out, HX.out⟩
          replace h1 := Decidable.not_not.1 h1
          by_cases h2 : ¬ (1 ≤ a.sh)
          · have h2' : decide (1 ≤ a.sh) = false := decide_eq_false h2
            have HE : Hid (turnL la k = turnL la (k + 1)) := HSAME.out (by unfold turnB; rw [decide_eq_false h2, Bool.false_and, Bool.and_false])
            clear HSAME ha
            generalize a.sh = SH at *
            go_wp2
            go_roundg (L - (k + 1))
            case measure => omega
            case rel => exact ⟨k + 1, by omega, rfl, by rw [← HE.out]; exact HC.out, HX.out⟩
          replace h2 := Decidable.not_not.1 h2
          by_cases h3 : ¬ (a.sh ≤ 4096)
          · have h3' : decide (a.sh ≤ 4096) = false := decide_eq_false h3
            have HE : Hid (turnL la k = turnL la (k + 1)) := HSAME.out (by unfold turnB; rw [decide_eq_false h3, Bool.and_false, Bool.and_false])
            clear HSAME ha
            generalize a.sh = SH at *
            go_wp2
            go_roundg (L - (k + 1))
            case measure => omega
            case rel => exact ⟨k + 1, by omega, rfl, by rw [← HE.out]; exact HC.out, HX.out⟩
          replace h3 := Decidable.not_not.1 h3
          have HTA : Hid (turnL la (k + 1) = ((turnL la k).set k { a with cl := !a.cl }).set k { a with cl := !a.cl, sh := 4097 - a.sh }) := (show turnL la (k + 1) = _ by rw [List.set_set, ← turn_succ ha, show turnA k a = { a with cl := !a.cl, sh := 4097 - a.sh } by unfold turnA turnB; rw [if_pos (by rw [decide_eq_true (show 0 < k by omega), decide_eq_true h2, decide_eq_true h3]; rfl)]])
          have hfz : U.frozen? ⟨gA, k * 5 + 3, none⟩ = false := World.ownsRow.frozenAt HC.out.acc (k * 5 + 3)
          have HC4 : Hid (Cpy W ((U.setCell ⟨gA, k * 5 + 3, none⟩ (.bool (!a.cl))).drew) (some ⟨gA, 0, none⟩) ((turnL la k).set k { a with cl := !a.cl }) ca' jo' rs cj') := (HC.out.accSet List.length_set (flatT_cl _ k a _ (turn_at ha))).keep (drew_below _)
          have HX4 : Hid (((U.setCell ⟨gA, k * 5 + 3, none⟩ (.bool (!a.cl))).drew).heap[x1.heap.size]? = some (.cells #[.int .i64 c.nodes, .int .i64 c.queue, .int .i64 c.limit, .int .i64 c.age, .int .i64 c.fair, .int .i64 c.size, .int .i64 c.period, .int .i64 c.half, .int .i64 now, .slice (some ⟨gA, 0, none⟩) L ca', .slice jo' i cj', .int .i64 hd] 27 (0, 0))) := (Below.heap_setCell _ _ _ _ (show x1.heap.size ≠ gA by omega)).trans HX.out
          go_upto_region 17 with fail
          refine wp_region_last (S := (fun x' : World => x'.cell? ⟨x1.heap.size, 9, none⟩ = some (.slice (some ⟨gA, 0, none⟩) L ca') ∧ x'.cell? ⟨gA, k * 5 + 3, none⟩ = some (.bool a.cl))) (L := 12) (by kernel_rfl) ?_
          have HSW0 : (fun x' : World => x'.cell? ⟨x1.heap.size, 9, none⟩ = some (.slice (some ⟨gA, 0, none⟩) L ca') ∧ x'.cell? ⟨gA, k * 5 + 3, none⟩ = some (.bool a.cl)) (U.drew) := ⟨cellB (drew_below U) b9, cellB (drew_below U) a3⟩
          refine last_take (i := 0) (v := ?v0k1001) rfl (by kernel_rfl) (by kernel_rfl) (by kernel_rfl) (by kernel_rfl) rfl (fun _ _ _ h => h) (by rfl) HSW0 ?hy0k1001 ?rest0k1001
          case hy0k1001 =>
            intro xx hSx
            obtain ⟨s9, sU⟩ := hSx
            go_simp
            try (with_reducible rfl)
          simp only [Act.put, List.setIfInBounds_toArray, List.set_cons_zero, List.set_cons_succ]
          refine last_take (i := 1) (v := ?v1k1002) rfl (by kernel_rfl) (by kernel_rfl) (by kernel_rfl) (by kernel_rfl) rfl (fun _ _ _ h => h) (by rfl) HSW0 ?hy1k1002 ?rest1k1002
          case hy1k1002 =>
            intro xx hSx
            obtain ⟨s9, sU⟩ := hSx
            go_simp
            try (with_reducible rfl)
          simp only [Act.put, List.setIfInBounds_toArray, List.set_cons_zero, List.set_cons_succ]
          refine last_take (i := 2) (v := ?v2k1003) rfl (by kernel_rfl) (by kernel_rfl) (by kernel_rfl) (by kernel_rfl) rfl (fun _ _ _ h => h) (by rfl) HSW0 ?hy2k1003 ?rest2k1003
          case hy2k1003 =>
            intro xx hSx
            obtain ⟨s9, sU⟩ := hSx
            go_simp
            try (with_reducible rfl)
          simp only [Act.put, List.setIfInBounds_toArray, List.set_cons_zero, List.set_cons_succ]
          refine last_take (i := 3) (v := ?v3k1004) rfl (by kernel_rfl) (by kernel_rfl) (by kernel_rfl) (by kernel_rfl) rfl (fun _ _ _ h => h) (by rfl) HSW0 ?hy3k1004 ?rest3k1004
          case hy3k1004 =>
            intro xx hSx
            obtain ⟨s9, sU⟩ := hSx
            go_simp
            try (with_reducible rfl)
          simp only [Act.put, List.setIfInBounds_toArray, List.set_cons_zero, List.set_cons_succ]
          refine last_take (i := 4) (v := ?v4k1005) rfl (by kernel_rfl) (by kernel_rfl) (by kernel_rfl) (by kernel_rfl) rfl (fun _ _ _ h => h) (by rfl) HSW0 ?hy4k1005 ?rest4k1005
          case hy4k1005 =>
            intro xx hSx
            obtain ⟨s9, sU⟩ := hSx
            go_simp
            try (with_reducible rfl)
          simp only [Act.put, List.setIfInBounds_toArray, List.set_cons_zero, List.set_cons_succ]
          refine last_take (i := 5) (v := ?v5k1006) rfl (by kernel_rfl) (by kernel_rfl) (by kernel_rfl) (by kernel_rfl) rfl (fun _ _ _ h => h) (by rfl) HSW0 ?hy5k1006 ?rest5k1006
          case hy5k1006 =>
            intro xx hSx
            obtain ⟨s9, sU⟩ := hSx
            go_simp
            try (with_reducible rfl)
          simp only [Act.put, List.setIfInBounds_toArray, List.set_cons_zero, List.set_cons_succ]
          refine last_take (i := 6) (v := ?v6k1007) rfl (by kernel_rfl) (by kernel_rfl) (by kernel_rfl) (by kernel_rfl) rfl (fun _ _ _ h => h) (by rfl) HSW0 ?hy6k1007 ?rest6k1007
          case hy6k1007 =>
            intro xx hSx
            obtain ⟨s9, sU⟩ := hSx
            go_simp
            try (with_reducible rfl)
          simp only [Act.put, List.setIfInBounds_toArray, List.set_cons_zero, List.set_cons_succ]
          refine last_take (i := 7) (v := ?v7k1008) rfl (by kernel_rfl) (by kernel_rfl) (by kernel_rfl) (by kernel_rfl) rfl (fun _ _ _ h => h) (by rfl) HSW0 ?hy7k1008 ?rest7k1008
          case hy7k1008 =>
            intro xx hSx
            obtain ⟨s9, sU⟩ := hSx
            go_simp
            try (with_reducible rfl)
          simp only [Act.put, List.setIfInBounds_toArray, List.set_cons_zero, List.set_cons_succ]
          refine last_take (i := 8) (v := ?v8k1009) rfl (by kernel_rfl) (by kernel_rfl) (by kernel_rfl) (by kernel_rfl) rfl (fun _ _ _ h => h) (by rfl) HSW0 ?hy8k1009 ?rest8k1009
          case hy8k1009 =>
            intro xx hSx
            obtain ⟨s9, sU⟩ := hSx
            go_simp
            try (with_reducible rfl)
          simp only [Act.put, List.setIfInBounds_toArray, List.set_cons_zero, List.set_cons_succ]
          refine last_take (i := 9) (v := ?v9k1010) rfl (by kernel_rfl) (by kernel_rfl) (by kernel_rfl) (by kernel_rfl) rfl (fun _ _ _ h => h) (by rfl) HSW0 ?hy9k1010 ?rest9k1010
          case hy9k1010 =>
            intro xx hSx
            obtain ⟨s9, sU⟩ := hSx
            go_simp
            try (with_reducible rfl)
          simp only [Act.put, List.setIfInBounds_toArray, List.set_cons_zero, List.set_cons_succ]
          refine last_one (i := 10) (by kernel_rfl) rfl ?_
          intro K hK
          go_simp
          refine hK.out _ _ (fun _ => HSW0) (fun _ => ?_)
          clear hK K
          refine last_one (i := 11) (by kernel_rfl) rfl ?_
          intro K hK
          go_simp
          refine hK.out _ _ (fun _ => HSW0) (fun _ => ?_)
          clear hK K
          have q0 : U.drew.cell? ⟨gA, k * 5 + 3, none⟩ = some (.bool a.cl) := cellB (drew_below U) a3
          have q1 : U.drew.frozen? ⟨gA, k * 5 + 3, none⟩ = false := hfz
          refine last_one (i := 12) (by kernel_rfl) rfl ?_
          intro K hK
          go_simp
          refine hK.out _ _ (fun h => absurd rfl h) (fun _ => ?_)
          clear hK K HSW0
          refine last_done (by kernel_rfl) ?_ _
          obtain ⟨V4, hV4⟩ : ∃ V4, (U.setCell ⟨gA, k * 5 + 3, none⟩ (.bool (!a.cl))).drew = V4 := ⟨_, rfl⟩
          rw [hV4] at HC4 HX4 ⊢
          clear hV4 q0 q1 a2 a3 b9 hfz HC HX
          have b9 : V4.cell? ⟨x1.heap.size, 9, none⟩ = some (.slice (some ⟨gA, 0, none⟩) L ca') := cells_at HX4.out rfl
          have ha4 : ((turnL la k).set k { a with cl := !a.cl })[k]? = some { a with cl := !a.cl } := set_get (turn_at ha)
          have a2 : V4.cell? ⟨gA, k * 5 + 2, none⟩ = some (.int .i64 a.sh) := by
            have := HC4.out.acc.cells (g := gA) rfl (k * 5 + 2) _ (flatA_at _ k _ ha4).2.2.1
            rw [Addr.add_lit] at this
            simpa using this
          have hfz : V4.frozen? ⟨gA, k * 5 + 2, none⟩ = false := World.ownsRow.frozenAt HC4.out.acc (k * 5 + 2)
          have HC5 : Hid (Cpy W ((V4.setCell ⟨gA, k * 5 + 2, none⟩ (.int .i64 (4097 - a.sh))).drew) (some ⟨gA, 0, none⟩) (turnL la (k + 1)) ca' jo' rs cj') := (HC4.out.accSet (by rw [turn_len, List.length_set, turn_len]) (by rw [HTA.out]; exact flatT_sh _ k _ _ ha4)).keep (drew_below _)
          have HX5 : Hid (((V4.setCell ⟨gA, k * 5 + 2, none⟩ (.int .i64 (4097 - a.sh))).drew).heap[x1.heap.size]? = some (.cells #[.int .i64 c.nodes, .int .i64 c.queue, .int .i64 c.limit, .int .i64 c.age, .int .i64 c.fair, .int .i64 c.size, .int .i64 c.period, .int .i64 c.half, .int .i64 now, .slice (some ⟨gA, 0, none⟩) L ca', .slice jo' i cj', .int .i64 hd] 27 (0, 0))) := (Below.heap_setCell _ _ _ _ (show x1.heap.size ≠ gA by omega)).trans HX4.out
          have wsh : IntKind.i64.wrap (4097 - a.sh) = 4097 - a.sh := by rw [IntKind.wrap_i64]; omega
          clear ha4 ha
          generalize a.sh = SH at *
          go_upto_region 18 with fail
          refine wp_region_last (S := (fun x' : World => x'.cell? ⟨x1.heap.size, 9, none⟩ = some (.slice (some ⟨gA, 0, none⟩) L ca') ∧ x'.cell? ⟨gA, k * 5 + 2, none⟩ = some (.int .i64 SH))) (L := 12) (by kernel_rfl) ?_
          have HSW0 : (fun x' : World => x'.cell? ⟨x1.heap.size, 9, none⟩ = some (.slice (some ⟨gA, 0, none⟩) L ca') ∧ x'.cell? ⟨gA, k * 5 + 2, none⟩ = some (.int .i64 SH)) (V4.drew) := ⟨cellB (drew_below V4) b9, cellB (drew_below V4) a2⟩
          refine last_take (i := 0) (v := ?v0k1011) rfl (by kernel_rfl) (by kernel_rfl) (by kernel_rfl) (by kernel_rfl) rfl (fun _ _ _ h => h) (by rfl) HSW0 ?hy0k1011 ?rest0k1011
          case hy0k1011 =>
            intro xx hSx
            obtain ⟨s9, sU⟩ := hSx
            go_simp
            try (with_reducible rfl)
          simp only [Act.put, List.setIfInBounds_toArray, List.set_cons_zero, List.set_cons_succ]
          refine last_take (i := 1) (v := ?v1k1012) rfl (by kernel_rfl) (by kernel_rfl) (by kernel_rfl) (by kernel_rfl) rfl (fun _ _ _ h => h) (by rfl) HSW0 ?hy1k1012 ?rest1k1012
          case hy1k1012 =>
            intro xx hSx
            obtain ⟨s9, sU⟩ := hSx
            go_simp
            try (with_reducible rfl)
          simp only [Act.put, List.setIfInBounds_toArray, List.set_cons_zero, List.set_cons_succ]
          refine last_take (i := 2) (v := ?v2k1013) rfl (by kernel_rfl) (by kernel_rfl) (by kernel_rfl) (by kernel_rfl) rfl (fun _ _ _ h => h) (by rfl) HSW0 ?hy2k1013 ?rest2k1013
          case hy2k1013 =>
            intro xx hSx
            obtain ⟨s9, sU⟩ := hSx
            go_simp
            try (with_reducible rfl)
          simp only [Act.put, List.setIfInBounds_toArray, List.set_cons_zero, List.set_cons_succ]
          refine last_take (i := 3) (v := ?v3k1014) rfl (by kernel_rfl) (by kernel_rfl) (by kernel_rfl) (by kernel_rfl) rfl (fun _ _ _ h => h) (by rfl) HSW0 ?hy3k1014 ?rest3k1014
          case hy3k1014 =>
            intro xx hSx
            obtain ⟨s9, sU⟩ := hSx
            go_simp
            try (with_reducible rfl)
          simp only [Act.put, List.setIfInBounds_toArray, List.set_cons_zero, List.set_cons_succ]
          refine last_take (i := 4) (v := ?v4k1015) rfl (by kernel_rfl) (by kernel_rfl) (by kernel_rfl) (by kernel_rfl) rfl (fun _ _ _ h => h) (by rfl) HSW0 ?hy4k1015 ?rest4k1015
          case hy4k1015 =>
            intro xx hSx
            obtain ⟨s9, sU⟩ := hSx
            go_simp
            try (with_reducible rfl)
          simp only [Act.put, List.setIfInBounds_toArray, List.set_cons_zero, List.set_cons_succ]
          refine last_take (i := 5) (v := ?v5k1016) rfl (by kernel_rfl) (by kernel_rfl) (by kernel_rfl) (by kernel_rfl) rfl (fun _ _ _ h => h) (by rfl) HSW0 ?hy5k1016 ?rest5k1016
          case hy5k1016 =>
            intro xx hSx
            obtain ⟨s9, sU⟩ := hSx
            go_simp
            try (with_reducible rfl)
          simp only [Act.put, List.setIfInBounds_toArray, List.set_cons_zero, List.set_cons_succ]
          refine last_take (i := 6) (v := ?v6k1017) rfl (by kernel_rfl) (by kernel_rfl) (by kernel_rfl) (by kernel_rfl) rfl (fun _ _ _ h => h) (by rfl) HSW0 ?hy6k1017 ?rest6k1017
          case hy6k1017 =>
            intro xx hSx
            obtain ⟨s9, sU⟩ := hSx
            go_simp
            try (with_reducible rfl)
          simp only [Act.put, List.setIfInBounds_toArray, List.set_cons_zero, List.set_cons_succ]
          refine last_take (i := 7) (v := ?v7k1018) rfl (by kernel_rfl) (by kernel_rfl) (by kernel_rfl) (by kernel_rfl) rfl (fun _ _ _ h => h) (by rfl) HSW0 ?hy7k1018 ?rest7k1018
          case hy7k1018 =>
            intro xx hSx
            obtain ⟨s9, sU⟩ := hSx
            go_simp
            try (with_reducible rfl)
          simp only [Act.put, List.setIfInBounds_toArray, List.set_cons_zero, List.set_cons_succ]
          refine last_take (i := 8) (v := ?v8k1019) rfl (by kernel_rfl) (by kernel_rfl) (by kernel_rfl) (by kernel_rfl) rfl (fun _ _ _ h => h) (by rfl) HSW0 ?hy8k1019 ?rest8k1019
          case hy8k1019 =>
            intro xx hSx
            obtain ⟨s9, sU⟩ := hSx
            go_simp
            try (with_reducible rfl)
          simp only [Act.put, List.setIfInBounds_toArray, List.set_cons_zero, List.set_cons_succ]
          refine last_take (i := 9) (v := ?v9k1020) rfl (by kernel_rfl) (by kernel_rfl) (by kernel_rfl) (by kernel_rfl) rfl (fun _ _ _ h => h) (by rfl) HSW0 ?hy9k1020 ?rest9k1020
          case hy9k1020 =>
            intro xx hSx
            obtain ⟨s9, sU⟩ := hSx
            go_simp
            try (with_reducible rfl)
          simp only [Act.put, List.setIfInBounds_toArray, List.set_cons_zero, List.set_cons_succ]
          try rw [wsh]
          refine last_one (i := 10) (by kernel_rfl) rfl ?_
          intro K hK
          go_simp
          refine hK.out _ _ (fun _ => HSW0) (fun _ => ?_)
          clear hK K
          refine last_one (i := 11) (by kernel_rfl) rfl ?_
          intro K hK
          go_simp
          refine hK.out _ _ (fun _ => HSW0) (fun _ => ?_)
          clear hK K
          have q0 : V4.drew.cell? ⟨gA, k * 5 + 2, none⟩ = some (.int .i64 SH) := cellB (drew_below V4) a2
          have q1 : V4.drew.frozen? ⟨gA, k * 5 + 2, none⟩ = false := hfz
          refine last_one (i := 12) (by kernel_rfl) rfl ?_
          intro K hK
          go_simp
          refine hK.out _ _ (fun h => absurd rfl h) (fun _ => ?_)
          clear hK K HSW0
          refine last_done (by kernel_rfl) ?_ _
          obtain ⟨V5, hV5⟩ : ∃ V5, (V4.setCell ⟨gA, k * 5 + 2, none⟩ (.int .i64 (4097 - SH))).drew = V5 := ⟨_, rfl⟩
          rw [hV5] at HC5 HX5 ⊢
          clear hV5 q0 q1 a2 b9 hfz HC4 HX4 wsh
          go_wp2
          go_roundg (L - (k + 1))
          case measure => omega
          case rel => exact ⟨k + 1, by omega, rfl, HC5.out, HX5.out⟩
        · obtain rfl : k = L := by omega
          have hRr := (HC.out.bel.block (w.heap.size + 1) (by have := HZW.out; omega)).trans HR0.out
          have y0 : U.cell? ⟨x1.heap.size, 0, none⟩ = some (.int .i64 c.nodes) := cells_at HX.out rfl
          have y1 : U.cell? ⟨x1.heap.size, 1, none⟩ = some (.int .i64 c.queue) := cells_at HX.out rfl
          have y2 : U.cell? ⟨x1.heap.size, 2, none⟩ = some (.int .i64 c.limit) := cells_at HX.out rfl
          have y3 : U.cell? ⟨x1.heap.size, 3, none⟩ = some (.int .i64 c.age) := cells_at HX.out rfl
          have y4 : U.cell? ⟨x1.heap.size, 4, none⟩ = some (.int .i64 c.fair) := cells_at HX.out rfl
          have y5 : U.cell? ⟨x1.heap.size, 5, none⟩ = some (.int .i64 c.size) := cells_at HX.out rfl
          have y6 : U.cell? ⟨x1.heap.size, 6, none⟩ = some (.int .i64 c.period) := cells_at HX.out rfl
          have y7 : U.cell? ⟨x1.heap.size, 7, none⟩ = some (.int .i64 c.half) := cells_at HX.out rfl
          have y8 : U.cell? ⟨x1.heap.size, 8, none⟩ = some (.int .i64 now) := cells_at HX.out rfl
          have y9 : U.cell? ⟨x1.heap.size, 9, none⟩ = some (.slice ao' k ca') := cells_at HX.out rfl
          have y10 : U.cell? ⟨x1.heap.size, 10, none⟩ = some (.slice jo' i cj') := cells_at HX.out rfl
          have y11 : U.cell? ⟨x1.heap.size, 11, none⟩ = some (.int .i64 hd) := cells_at HX.out rfl
          have z0 : U.cell? ⟨w.heap.size + 1, 0, none⟩ = some (.int .i64 0) := cells_at hRr rfl
          have z1 : U.cell? ⟨w.heap.size + 1, 1, none⟩ = some (.int .i64 0) := cells_at hRr rfl
          have z2 : U.cell? ⟨w.heap.size + 1, 2, none⟩ = some (.int .i64 0) := cells_at hRr rfl
          have z3 : U.cell? ⟨w.heap.size + 1, 3, none⟩ = some (.int .i64 0) := cells_at hRr rfl
          have z4 : U.cell? ⟨w.heap.size + 1, 4, none⟩ = some (.int .i64 0) := cells_at hRr rfl
          have z5 : U.cell? ⟨w.heap.size + 1, 5, none⟩ = some (.int .i64 0) := cells_at hRr rfl
          have z6 : U.cell? ⟨w.heap.size + 1, 6, none⟩ = some (.int .i64 0) := cells_at hRr rfl
          have z7 : U.cell? ⟨w.heap.size + 1, 7, none⟩ = some (.int .i64 0) := cells_at hRr rfl
          have z8 : U.cell? ⟨w.heap.size + 1, 8, none⟩ = some (.int .i64 0) := cells_at hRr rfl
          have z9 : U.cell? ⟨w.heap.size + 1, 9, none⟩ = some (.slice none 0 0) := cells_at hRr rfl
          have z10 : U.cell? ⟨w.heap.size + 1, 10, none⟩ = some (.slice none 0 0) := cells_at hRr rfl
          have z11 : U.cell? ⟨w.heap.size + 1, 11, none⟩ = some (.int .i64 0) := cells_at hRr rfl
          have f0 : U.frozen? ⟨w.heap.size + 1, 0, none⟩ = false := frozen_at hRr
          have f1 : U.frozen? ⟨w.heap.size + 1, 1, none⟩ = false := frozen_at hRr
          have f2 : U.frozen? ⟨w.heap.size + 1, 2, none⟩ = false := frozen_at hRr
          have f3 : U.frozen? ⟨w.heap.size + 1, 3, none⟩ = false := frozen_at hRr
          have f4 : U.frozen? ⟨w.heap.size + 1, 4, none⟩ = false := frozen_at hRr
          have f5 : U.frozen? ⟨w.heap.size + 1, 5, none⟩ = false := frozen_at hRr
          have f6 : U.frozen? ⟨w.heap.size + 1, 6, none⟩ = false := frozen_at hRr
          have f7 : U.frozen? ⟨w.heap.size + 1, 7, none⟩ = false := frozen_at hRr
          have f8 : U.frozen? ⟨w.heap.size + 1, 8, none⟩ = false := frozen_at hRr
          have f9 : U.frozen? ⟨w.heap.size + 1, 9, none⟩ = false := frozen_at hRr
          have f10 : U.frozen? ⟨w.heap.size + 1, 10, none⟩ = false := frozen_at hRr
          have f11 : U.frozen? ⟨w.heap.size + 1, 11, none⟩ = false := frozen_at hRr
          clear hRr
          go_wp2
          have h1b : w.heap.size ≤ w.heap.size + 1 := by omega
          have hBU : Below w.heap.size w U := HBW.out.trans (HC.out.bel.mono HBW.out.size)
          have hBY : Below w.heap.size w (((((((((((((U).setCell ⟨w.heap.size + 1, 0, none⟩ (.int .i64 c.nodes)).setCell ⟨w.heap.size + 1, 1, none⟩ (.int .i64 c.queue)).setCell ⟨w.heap.size + 1, 2, none⟩ (.int .i64 c.limit)).setCell ⟨w.heap.size + 1, 3, none⟩ (.int .i64 c.age)).setCell ⟨w.heap.size + 1, 4, none⟩ (.int .i64 c.fair)).setCell ⟨w.heap.size + 1, 5, none⟩ (.int .i64 c.size)).setCell ⟨w.heap.size + 1, 6, none⟩ (.int .i64 c.period)).setCell ⟨w.heap.size + 1, 7, none⟩ (.int .i64 c.half)).setCell ⟨w.heap.size + 1, 8, none⟩ (.int .i64 now)).setCell ⟨w.heap.size + 1, 9, none⟩ (.slice ao' k ca')).setCell ⟨w.heap.size + 1, 10, none⟩ (.slice jo' i cj')).setCell ⟨w.heap.size + 1, 11, none⟩ (.int .i64 hd)) := ((((((((((((hBU).setCell h1b (.int .i64 c.nodes)).setCell h1b (.int .i64 c.queue)).setCell h1b (.int .i64 c.limit)).setCell h1b (.int .i64 c.age)).setCell h1b (.int .i64 c.fair)).setCell h1b (.int .i64 c.size)).setCell h1b (.int .i64 c.period)).setCell h1b (.int .i64 c.half)).setCell h1b (.int .i64 now)).setCell h1b (.slice ao' k ca')).setCell h1b (.slice jo' i cj')).setCell h1b (.int .i64 hd)
          have kY : ∀ g, W.heap.size ≤ g → (((((((((((((U).setCell ⟨w.heap.size + 1, 0, none⟩ (.int .i64 c.nodes)).setCell ⟨w.heap.size + 1, 1, none⟩ (.int .i64 c.queue)).setCell ⟨w.heap.size + 1, 2, none⟩ (.int .i64 c.limit)).setCell ⟨w.heap.size + 1, 3, none⟩ (.int .i64 c.age)).setCell ⟨w.heap.size + 1, 4, none⟩ (.int .i64 c.fair)).setCell ⟨w.heap.size + 1, 5, none⟩ (.int .i64 c.size)).setCell ⟨w.heap.size + 1, 6, none⟩ (.int .i64 c.period)).setCell ⟨w.heap.size + 1, 7, none⟩ (.int .i64 c.half)).setCell ⟨w.heap.size + 1, 8, none⟩ (.int .i64 now)).setCell ⟨w.heap.size + 1, 9, none⟩ (.slice ao' k ca')).setCell ⟨w.heap.size + 1, 10, none⟩ (.slice jo' i cj')).setCell ⟨w.heap.size + 1, 11, none⟩ (.int .i64 hd)).heap[g]? = U.heap[g]? := fun g e1 => by
            have e2 : g ≠ w.heap.size + 1 := by have := HZW.out; omega
            rw [Below.heap_setCell _ _ _ _ e2, Below.heap_setCell _ _ _ _ e2, Below.heap_setCell _ _ _ _ e2, Below.heap_setCell _ _ _ _ e2, Below.heap_setCell _ _ _ _ e2, Below.heap_setCell _ _ _ _ e2, Below.heap_setCell _ _ _ _ e2, Below.heap_setCell _ _ _ _ e2, Below.heap_setCell _ _ _ _ e2, Below.heap_setCell _ _ _ _ e2, Below.heap_setCell _ _ _ _ e2, Below.heap_setCell _ _ _ _ e2]
          have zW := HZW.out
          refine bodyPost_ret (v := .agg #[.int .i64 c.nodes, .int .i64 c.queue, .int .i64 c.limit, .int .i64 c.age, .int .i64 c.fair, .int .i64 c.size, .int .i64 c.period, .int .i64 c.half, .int .i64 now, .slice ao' k ca', .slice jo' i cj', .int .i64 hd]) (by simp [results, Try.results12, go_sem, *]) rfl ⟨ao', ca', jo', cj', rs, rfl, HQA.out.1, ?_⟩
          have kc := HC.out
          exact ⟨hBY, World.ownsRow.mono (row_stand kc.acc (fun g hg => kY g (kc.acc.lt g hg).1)) (by omega), World.ownsRow.mono (row_stand kc.job (fun g hg => kY g (kc.job.lt g hg).1)) (by omega), fun q hq => World.ownsRow.mono (row_stand (kc.sets q hq) (fun g hg => kY g ((kc.sets q hq).lt g hg).1)) (by omega), kc.aj, kc.ap⟩
end Go.Proofs.Ytbcinapnnlfnbaa
