/-
  LAYER 17, the statements' own functions: heavy, numbers.
  LAYER 17: jobs in a row of one's own; a copy of a state.
  LAYER 17, the statements' own functions: copied (made by gen17d.py).
  LAYER 17, the statements' own functions: same, of two states that are the same (made by gen17e.py).
  LAYER 17, the statements' own functions: plain, state, shown, over what is asked of audit.Check (made by gen17f.py).
  LAYER 17, the statements' own functions: the examples' answers.
  LAYER 17, the statements' own functions: shown (made by gen17g.py).
-/
import Derived.Test.YtbcinapnnlfnbaaRuFq
import Derived.Maps.AppendAt
import Derived.Laws.AppendOwnNone
import Derived.Deep.Onto
import Derived.Test.YtbcinapnnlfnbaaXru
namespace Go.Proofs.Ytbcinapnnlfnbaa
open Go.RowKit Wd Tr Cg Lg

/-- A state that came in. -/
structure StIn (w : World) (ao : Option Addr) (la : List Ac) (ca : Nat) (jo : Option Addr) (ps : List Pj) (cj : Nat) : Prop where
  acs : AcsAt w ao la
  us : ∀ (n : Nat) (a : Ac), la[n]? = some a → Word a.us
  nm : ∀ a ∈ la, a.nm.size ≤ maxLen
  l48 : la.length * 48 ≤ 140737488355328
  cap : la.length ≤ ca
  anil : ao = none → la = [] ∧ ca = 0
  jobs : PjsAt w jo ps
  l80 : ps.length * 80 ≤ 140737488355328
  jcap : ps.length ≤ cj
  jnil : jo = none → ps = [] ∧ cj = 0
  sl : ∀ p ∈ ps, p.v.set.length * 8 ≤ 140737488355328
  sc : ∀ p ∈ ps, p.v.set.length ≤ p.sc
  snil : ∀ p ∈ ps, p.sa = none → p.v.set = [] ∧ p.sc = 0
theorem StIn.below {w w' : World} {ao : Option Addr} {la : List Ac} {ca : Nat} {jo : Option Addr} {ps : List Pj} {cj : Nat} (h : StIn w ao la ca jo ps cj) (b : Below w.heap.size w w') : StIn w' ao la ca jo ps cj := ⟨h.acs.below b, h.us, h.nm, h.l48, h.cap, h.anil, h.jobs.below b, h.l80, h.jcap, h.jnil, h.sl, h.sc, h.snil⟩
def setsN : List Pj → Nat
  | [] => 0
  | p :: ps => p.v.set.length + setsN ps
theorem sets_app : ∀ a b : List Pj, setsN (a ++ b) = setsN a + setsN b
  | [], b => by simp [setsN]
  | p :: a, b => by simp only [List.cons_append, setsN, sets_app a b]; omega
theorem sets_take {ps : List Pj} {i : Nat} {p : Pj} (h : ps[i]? = some p) : setsN (ps.take (i + 1)) = setsN (ps.take i) + p.v.set.length := by
  obtain ⟨hi, rfl⟩ := List.getElem?_eq_some_iff.1 h
  rw [List.take_succ_eq_append_getElem hi, sets_app]
  simp [setsN]
theorem sets_le (ps : List Pj) (i : Nat) : setsN (ps.take i) ≤ setsN ps := by
  have := sets_app (ps.take i) (ps.drop i)
  rw [List.take_append_drop] at this
  omega
theorem sets_mem {ps : List Pj} {p : Pj} (h : p ∈ ps) : p.v.set.length ≤ setsN ps := by
  obtain ⟨i, hi⟩ := List.mem_iff_getElem?.1 h
  have h1 := sets_take hi
  have h2 := sets_le ps (i + 1)
  omega
/-- How much a state is. -/
def wtN (la : List Ac) (ps : List Pj) : Nat := la.length + ps.length + setsN ps
set_option maxRecDepth 20000 in
set_option maxHeartbeats 2000000 in
theorem heavy_any {w : World} (c : Cf) (now : Int) {ao : Option Addr} {la : List Ac} {ca : Nat} {jo : Option Addr} {ps : List Pj} {cj : Nat} (hd : Int) (h : StIn w ao la ca jo ps cj) :
    Calls Try.prog 6 #[.agg (stL c now ao la.length ca jo ps.length cj hd)] w fun e w' => e = .returned (.bool (decide (2147483647 < wtN la ps))) ∧ Below w.heap.size w w' := by
  obtain ⟨g, o, hg, hrow⟩ := row_at h.jobs
  have HROW : Hid (∀ x, Below w.heap.size w x → ∀ (k : Nat) (q : Pj), ps[k]? = some q → JbAt x g (o + k * 8) q.jb) := hrow
  have HSL : Hid (∀ p ∈ ps, p.v.set.length * 8 ≤ 140737488355328) := h.sl
  have hl1 := h.l48
  have hl2 := h.l80
  obtain ⟨L, hL⟩ : ∃ L, la.length = L := ⟨_, rfl⟩
  obtain ⟨N, hN⟩ : ∃ N, ps.length = N := ⟨_, rfl⟩
  have HNN : Hid (ps.length = N) := hN
  have HWT : Hid (wtN la ps = L + N + setsN ps) := (show wtN la ps = L + N + setsN ps by unfold wtN; rw [hL, hN])
  rw [hL] at hl1 ⊢
  rw [hN] at hl2 hg ⊢
  have HG : Hid (0 < N → jo = some ⟨g, o, none⟩) := hg
  clear h hrow hg hL hN
  unfold stL
  obtain ⟨W, hW⟩ : ∃ W, w.alloc (.cells #[.int .i64 c.nodes, .int .i64 c.queue, .int .i64 c.limit, .int .i64 c.age, .int .i64 c.fair, .int .i64 c.size, .int .i64 c.period, .int .i64 c.half, .int .i64 now, .slice ao L ca, .slice jo N cj, .int .i64 hd] 27) = W := ⟨_, rfl⟩
  have HBW : Hid (Below w.heap.size w W) := by rw [← hW]; exact (Below.refl _ w).alloc (Nat.le_refl _) _
  have c9 : W.cell? ⟨w.heap.size, 9, none⟩ = some (.slice ao L ca) := by rw [← hW]; exact cells_at (heap_alloc_new w _) rfl
  have c10 : W.cell? ⟨w.heap.size, 10, none⟩ = some (.slice jo N cj) := by rw [← hW]; exact cells_at (heap_alloc_new w _) rfl
  have hw0 : IntKind.i64.wrap ((L : Int) + (N : Int)) = ((L + N : Nat) : Int) := by rw [IntKind.wrap_i64]; omega
  go_enter Try.func6, Try.ntmps6
  go_wp2
  clear hW hw0
  go_loopg [3, 4] N (fun gk ps' pk wr => ∃ (i : Nat) (S : Int), i + gk = N ∧ pk = .int .i64 i ∧ ps' = .int .i64 S ∧ W = wr ∧ S = ((L + N + setsN (ps.take i) : Nat) : Int) ∧ (i = 0 ∨ setsN (ps.take i) ≤ 2147483647 + 17592186044416))
  case atStart => exact ⟨0, _, by omega, rfl, rfl, rfl, by simp [setsN], .inl rfl⟩
  case round =>
    obtain ⟨i, S, hi, rfl, rfl, rfl, hS, hbd⟩ := hrel
    have HSE : Hid (S = ((L + N + setsN (ps.take i) : Nat) : Int)) := hS
    clear hS
    have hz0 : setsN (ps.take 0) = 0 := by simp [setsN]
    have hb2 : setsN (ps.take i) ≤ 2147483647 + 17592186044416 := by
      rcases hbd with rfl | h
      · rw [hz0]; omega
      · exact h
    have HSLE : Hid (setsN (ps.take i) ≤ setsN ps) := sets_le ps i
    clear hbd hz0
    by_cases hlt : i < N
    · have hlt' : (i : Int) < N := by omega
      obtain ⟨p, hp⟩ : ∃ p, ps[i]? = some p := ⟨_, List.getElem?_eq_getElem (by rw [HNN.out]; exact hlt)⟩
      obtain rfl := HG.out (by omega)
      have d7 := (HROW.out W HBW.out i p hp).se
      have HST : Hid (setsN (ps.take (i + 1)) = setsN (ps.take i) + p.v.set.length) := sets_take hp
      have HP8 : Hid (p.v.set.length * 8 ≤ 140737488355328) := HSL.out p (List.mem_of_getElem? hp)
      generalize setsN (ps.take i) = s at *
      clear hp
      obtain ⟨⟨ac, nd, lm, sb, st, sr, en, xs⟩, sa, sc⟩ := p
      dsimp only [Pj.jb] at d7 HST HP8
      by_cases hm : S ≤ 2147483647
      · have hw : IntKind.i64.wrap (S + (xs.length : Int)) = S + (xs.length : Int) := by rw [IntKind.wrap_i64]; have := HP8.out; have := HSE.out; omega
        go_wp2
        go_roundg (N - (i + 1))
        case measure => omega
        case rel => exact ⟨i + 1, _, by omega, rfl, rfl, rfl, by rw [HST.out]; have := HSE.out; omega, .inr (by rw [HST.out]; have := HP8.out; have := HSE.out; omega)⟩
      · have HT : Hid (decide (2147483647 < wtN la ps) = true) := decide_eq_true (by rw [HWT.out]; have := HSLE.out; have := HSE.out; omega)
        have hgt : (2147483647 : Int) < S := by omega
        go_wp2
        go_ret
        exact ⟨by rw [HT.out]; rfl, HBW.out⟩
    · obtain rfl : i = N := by omega
      have HALL : Hid (setsN (ps.take i) = setsN ps) := (show setsN (ps.take i) = setsN ps by rw [List.take_of_length_le (by rw [HNN.out]; omega)])
      rw [HALL.out] at HSE
      by_cases hm : (2147483647 : Int) < S
      · have HT : Hid (decide (2147483647 < wtN la ps) = true) := decide_eq_true (by rw [HWT.out]; have := HSE.out; omega)
        go_wp2
        go_ret
        exact ⟨by rw [HT.out]; rfl, HBW.out⟩
      · have HT : Hid (decide (2147483647 < wtN la ps) = false) := decide_eq_false (by rw [HWT.out]; have := HSE.out; omega)
        have hm' : decide ((2147483647 : Int) < S) = false := decide_eq_false hm
        go_wp2
        go_ret
        exact ⟨by rw [HT.out]; rfl, HBW.out⟩
end Go.Proofs.Ytbcinapnnlfnbaa
namespace Go.Proofs.Ytbcinapnnlfnbaa
open Go.RowKit Wd Tr Cg Lg

/-- append of any slice; where the row lies then. -/
theorem wpList_append_mv {P : Program} {w : World} {ops : Array Oper} {rest : List Oper} {o : Oper} {a : Act} {Q : Exit → Act → World → Prop} (hgd : o.guard = none) (s x : Operand) (t : TypeId)
    (ho : o.op = .call { callee := .builtin .append, args := #[s, x], argTypes := #[t, t] })
    (base : Nat) (e : TypeId) (i : TypeInfo) (z : Value) (size bytes : Nat) (ht : P.underlying t = some (.slice e)) (hi : P.info? e = some i) (hz : i.zero = some z)
    (hsize : i.size = size) (hby : i.bytes = bytes) (hzs : z.cells.size = size) (hsz : 0 < size)
    (v : Value) (n : Nat) (xs : List Value) (hs : a.eval s = v) (hown : w.ownsRow base e size v n xs)
    (ao : Option Addr) (m c : Nat) (news : List Value) (hx : a.eval x = .slice ao m c) (hnil : ao = none → m = 0 ∧ c = 0) (hl : news.length = m * size) (hnews : ∀ ad, ao = some ad → ∀ j u, news[j]? = some u → w.cell? (ad.add j) = some u) (h1 : ∀ u ∈ news, u.oneCell' = true)
    (h63 : n + m ≤ maxLen) (hbytes : (n + m) * bytes ≤ 140737488355328) (hbase : base ≤ w.heap.size)
    (h : ∀ v' w', w'.ownsRow base e size v' (n + m) (xs ++ news) → w.grownBy w' v.ownBlock → (v'.ownBlock = v.ownBlock ∨ v'.ownBlock = some w.heap.size) → wpList P ops Q rest (a.put o.dst v') w') :
    wpList P ops Q (o :: rest) a w := by
  cases ao with
  | none =>
    obtain ⟨rfl, rfl⟩ := hnil rfl
    have hn0 : news = [] := List.length_eq_zero_iff.1 (by rw [hl]; omega)
    subst hn0
    exact wpList_append_own_none hgd s x t ho base e i size ht hi v n xs hs hown hx (h v w (by simpa using hown) ⟨rfl, rfl, rfl, Nat.le_refl _, fun _ _ _ => rfl⟩ (.inl rfl))
  | some ad => exact wpList_append_own_at _ hgd s x t ho base e i z size bytes ht hi hz hsize hby hzs hsz v n xs hs hown ad m c news hx hl (hnews ad rfl) h1 h63 hbytes hbase (fun v' w' g1 g2 _ g4 => h v' w' g1 g2 g4)
theorem own_val {W : World} {B e sz n : Nat} {v : Value} {vs : List Value} (h : W.ownsRow B e sz v n vs) : ∃ ao cap, v = .slice ao n cap ∧ n ≤ cap ∧ (ao = none → n = 0 ∧ cap = 0) ∧ ∀ a, ao = some a → ∃ g, a = ⟨g, 0, none⟩ ∧ B ≤ g ∧ g < W.heap.size := by
  rcases h.2 with ⟨h1, h0⟩ | ⟨b, cap, cur, h1, hb, h2, h3, _⟩
  · subst h0
    exact ⟨none, 0, h1, Nat.le_refl _, fun _ => ⟨rfl, rfl⟩, fun a e => by cases e⟩
  · exact ⟨_, cap, h1, h3, (fun e => by cases e), fun a e => by cases e; exact ⟨b, rfl, hb, (Array.getElem?_eq_some_iff.1 h2).1⟩⟩
theorem own_nil (W : World) (B e sz : Nat) : W.ownsRow B e sz (.slice none 0 0) 0 [] := ⟨by simp, .inl ⟨rfl, rfl⟩⟩
/-- A row whose block stands. -/
theorem row_stand {W W' : World} {B e sz n : Nat} {v : Value} {vs : List Value} (h : W.ownsRow B e sz v n vs) (hb : ∀ g, v.ownBlock = some g → W'.heap[g]? = W.heap[g]?) : W'.ownsRow B e sz v n vs := by
  refine ⟨h.1, ?_⟩
  rcases h.2 with h1 | ⟨g, cap, cur, h1, h2, h3, h4⟩
  · exact .inl h1
  · exact .inr ⟨g, cap, cur, h1, h2, (hb g (by rw [h1]; rfl)).trans h3, h4⟩
def i64s (l : List Int) : List Value := l.map (Value.int .i64)
theorem i64s_len (l : List Int) : (i64s l).length = l.length * 1 := by simp [i64s]
theorem i64s_one (l : List Int) : ∀ u ∈ i64s l, u.oneCell' = true := by
  intro u hu
  obtain ⟨x, _, rfl⟩ := List.mem_map.1 hu
  rfl
theorem ints_flat {W : World} {ao : Option Addr} {l : List Int} (h : IntsAt W ao l) : ∀ ad, ao = some ad → ∀ j u, (i64s l)[j]? = some u → W.cell? (ad.add j) = some u := by
  intro ad had j u hu
  obtain ⟨g, o, h1, h2⟩ := h
  unfold i64s at hu
  rw [List.getElem?_map] at hu
  cases hx : l[j]? with
  | none => rw [hx] at hu; cases hu
  | some x =>
    rw [hx] at hu
    cases hu
    have hp : 0 < l.length := by have := (List.getElem?_eq_some_iff.1 hx).1; omega
    rw [h1 hp] at had
    cases had
    have := h2 j x hx
    rwa [Addr.add_lit]
theorem ints_own {W : World} {B : Nat} {ao : Option Addr} {l : List Int} {cap : Nat} (h : W.ownsRow B 3 1 (.slice ao l.length cap) l.length (i64s l)) : IntsAt W ao l := by
  obtain ⟨ao', cap', e, _, h0, h1⟩ := own_val h
  cases e
  cases ao with
  | none => exact ⟨0, 0, fun hp => by have := (h0 rfl).1; omega, fun k n hn => by have := (List.getElem?_eq_some_iff.1 hn).1; have := (h0 rfl).1; omega⟩
  | some a =>
    obtain ⟨g, rfl, _, _⟩ := h1 a rfl
    refine ⟨g, 0, fun _ => rfl, fun k n hn => ?_⟩
    have := h.cells (g := g) rfl k (.int .i64 n) (by unfold i64s; rw [List.getElem?_map, hn]; rfl)
    rwa [Addr.add_lit] at this
def flatJ : List Pj → List Value
  | [] => []
  | p :: l => .int .i64 p.v.ac :: .int .i64 p.v.nd :: .int .i64 p.v.lm :: .int .i64 p.v.sb :: .int .i64 p.v.st :: .int .i64 p.v.sr :: .int .i64 p.v.en :: .slice p.sa p.v.set.length p.sc :: flatJ l
theorem flatJ_len (l : List Pj) : (flatJ l).length = l.length * 8 := by
  induction l with
  | nil => rfl
  | cons s l ih => simp [flatJ, ih]; omega
theorem flatJ_app (a b : List Pj) : flatJ (a ++ b) = flatJ a ++ flatJ b := by
  induction a with
  | nil => rfl
  | cons s l ih => simp [flatJ, ih]
theorem flatJ_one (l : List Pj) : ∀ u ∈ flatJ l, u.oneCell' = true := by
  induction l with
  | nil => intro u h; cases h
  | cons r l ih =>
    intro u h
    simp only [flatJ, List.mem_cons] at h
    rcases h with rfl | rfl | rfl | rfl | rfl | rfl | rfl | rfl | h
    · rfl
    · rfl
    · rfl
    · rfl
    · rfl
    · rfl
    · rfl
    · rfl
    · exact ih u h
theorem flatJ_at (l : List Pj) : ∀ j p, l[j]? = some p → (flatJ l)[j * 8]? = some (.int .i64 p.v.ac) ∧ (flatJ l)[j * 8 + 1]? = some (.int .i64 p.v.nd) ∧ (flatJ l)[j * 8 + 2]? = some (.int .i64 p.v.lm) ∧ (flatJ l)[j * 8 + 3]? = some (.int .i64 p.v.sb) ∧ (flatJ l)[j * 8 + 4]? = some (.int .i64 p.v.st) ∧ (flatJ l)[j * 8 + 5]? = some (.int .i64 p.v.sr) ∧ (flatJ l)[j * 8 + 6]? = some (.int .i64 p.v.en) ∧ (flatJ l)[j * 8 + 7]? = some (.slice p.sa p.v.set.length p.sc) := by
  induction l with
  | nil => intro j s h; simp at h
  | cons x l ih =>
    intro j a h
    cases j with
    | zero => simp at h; subst h; simp [flatJ]
    | succ j =>
      have := ih j a (by simpa using h)
      simp only [flatJ]
      rw [show (j + 1) * 8 = j * 8 + 1 + 1 + 1 + 1 + 1 + 1 + 1 + 1 by omega]
      simpa using this
theorem jobs_own {W : World} {B : Nat} {jo : Option Addr} {l : List Pj} {cap : Nat} (h : W.ownsRow B 38 8 (.slice jo l.length cap) l.length (flatJ l)) : JobsAt W jo (l.map Pj.jb) := by
  obtain ⟨ao', cap', e, _, h0, h1⟩ := own_val h
  cases e
  cases jo with
  | none => exact ⟨0, 0, fun hp => by rw [List.length_map] at hp; have := (h0 rfl).1; omega, fun k n hn => by have := (List.getElem?_eq_some_iff.1 hn).1; rw [List.length_map] at this; have := (h0 rfl).1; omega⟩
  | some a =>
    obtain ⟨g, rfl, _, _⟩ := h1 a rfl
    refine ⟨g, 0, fun _ => rfl, fun k j hj => ?_⟩
    rw [List.getElem?_map] at hj
    cases hp : l[k]? with
    | none => rw [hp] at hj; cases hj
    | some p =>
      rw [hp] at hj
      cases hj
      obtain ⟨e0, e1, e2, e3, e4, e5, e6, e7⟩ := flatJ_at l k p hp
      have hc := fun j u (hu : (flatJ l)[j]? = some u) => (show W.cell? ⟨g, 0 + j, none⟩ = some u by have := h.cells (g := g) rfl j u hu; rwa [Addr.add_lit] at this)
      exact ⟨hc _ _ e0, hc _ _ e1, hc _ _ e2, hc _ _ e3, hc _ _ e4, hc _ _ e5, hc _ _ e6, hc _ _ e7⟩
/-- Jobs that are being copied: the first k. -/
structure Cl (V wr : World) (vl : Value) (ps : List Pj) (k : Nat) (qs : List Pj) : Prop where
  row : wr.ownsRow V.heap.size 38 8 vl k (flatJ qs)
  len : qs.length = k
  vals : qs.map Pj.v = (ps.take k).map Pj.v
  bel : Below V.heap.size V wr
  sets : ∀ q ∈ qs, wr.ownsRow V.heap.size 3 1 (.slice q.sa q.v.set.length q.sc) q.v.set.length (i64s q.v.set) ∧ ∀ b, vl.ownBlock = some b → (Value.slice q.sa q.v.set.length q.sc).ownBlock ≠ some b
theorem Cl.start (V : World) (ps : List Pj) : Cl V V (.slice none 0 0) ps 0 [] := ⟨own_nil _ _ _ _, rfl, rfl, Below.refl _ _, fun q hq => by cases hq⟩
/-- One more. -/
theorem Cl.next {V wr w4 w7 : World} {vl v7 : Value} {ps qs : List Pj} {k : Nat} {p : Pj} {sa : Option Addr} {sc : Nat} {jb : Array Value} {nb : Array Value} {u : Value} {t t' : TypeId} (h : Cl V wr vl ps k qs) (hp : ps[k]? = some p)
    (b4 : Below (wr.alloc (.cells jb t)).heap.size (wr.alloc (.cells jb t)) w4) (r4 : w4.ownsRow (wr.alloc (.cells jb t)).heap.size 3 1 (.slice sa p.v.set.length sc) p.v.set.length (i64s p.v.set))
    (r7 : w7.ownsRow V.heap.size 38 8 v7 (k + 1) (flatJ (qs ++ [⟨p.v, sa, sc⟩]))) (g7 : ((w4.setCell ⟨wr.heap.size, 7, none⟩ u).alloc (.cells nb t')).grownBy w7 vl.ownBlock)
    (m7 : v7.ownBlock = vl.ownBlock ∨ v7.ownBlock = some ((w4.setCell ⟨wr.heap.size, 7, none⟩ u).alloc (.cells nb t')).heap.size) : Cl V w7 v7 ps (k + 1) (qs ++ [⟨p.v, sa, sc⟩]) := by
  have hV := h.bel.size
  have z3 : (wr.alloc (.cells jb t)).heap.size = wr.heap.size + 1 := World.size_alloc ..
  have z4 := b4.size
  have z6 : ((w4.setCell ⟨wr.heap.size, 7, none⟩ u).alloc (.cells nb t')).heap.size = w4.heap.size + 1 := by rw [World.size_alloc, World.size_setCell]
  have lo : ∀ b, vl.ownBlock = some b → V.heap.size ≤ b ∧ b < wr.heap.size := h.row.lt
  -- a block that was there ahead of the round and is not the row's stands
  have keep : ∀ g, g < wr.heap.size → vl.ownBlock ≠ some g → w7.heap[g]? = wr.heap[g]? := fun g hg hn => by
    rw [g7.block g (by rw [z6]; omega) (fun e => hn e.symm), Below.heap_alloc _ _ _ (by rw [World.size_setCell]; omega), Below.heap_setCell _ _ _ _ (by show g ≠ wr.heap.size; omega), b4.block g (by rw [z3]; omega), Below.heap_alloc _ _ _ hg]
  -- a block that was laid in the round ahead of the append stands
  have keep4 : ∀ g, g < w4.heap.size → g ≠ wr.heap.size → vl.ownBlock ≠ some g → w7.heap[g]? = w4.heap[g]? := fun g hg h1 hn => by
    rw [g7.block g (by rw [z6]; omega) (fun e => hn e.symm), Below.heap_alloc _ _ _ (by rw [World.size_setCell]; omega), Below.heap_setCell _ _ _ _ (by show g ≠ wr.heap.size; omega)]
  refine ⟨r7, by rw [List.length_append, h.len]; rfl, ?_, ?_, fun q hq => ?_⟩
  · obtain ⟨hk, rfl⟩ := List.getElem?_eq_some_iff.1 hp
    rw [List.map_append, h.vals, List.take_succ_eq_append_getElem hk, List.map_append]
    rfl
  · refine ⟨g7.os.trans (b4.os.trans h.bel.os), g7.tape.trans (b4.tape.trans h.bel.tape), g7.output.trans (b4.output.trans h.bel.output), by have := g7.size; omega, fun g hg => ?_⟩
    rw [keep g (by omega) (fun e => by have := lo g e; omega)]
    exact h.bel.block g hg
  · rcases List.mem_append.1 hq with hq | hq
    · obtain ⟨s1, s2⟩ := h.sets q hq
      have hlt := s1.lt
      refine ⟨row_stand s1 (fun g hg => keep g (hlt g hg).2 (fun e => s2 g e hg)), fun b hb => ?_⟩
      rcases m7 with e | e
      · rw [e] at hb
        exact s2 b hb
      · rw [e] at hb
        cases hb
        intro e2
        have := (hlt _ e2).2
        omega
    · have e9 : q = ⟨p.v, sa, sc⟩ := by simpa using hq
      subst e9
      have hlt := r4.lt
      refine ⟨(row_stand r4 (fun g hg => keep4 g (hlt g hg).2 (by have := (hlt g hg).1; omega) (fun e => by have := lo g e; have := (hlt g hg).1; omega))).mono (by omega), fun b hb => ?_⟩
      rcases m7 with e | e
      · rw [e] at hb
        intro e2
        have := lo b hb
        have := (hlt b e2).1
        omega
      · rw [e] at hb
        cases hb
        intro e2
        have := (hlt _ e2).2
        omega
end Go.Proofs.Ytbcinapnnlfnbaa
namespace Go.Proofs.Ytbcinapnnlfnbaa
open Go.RowKit Wd Tr Cg Lg

theorem Try.infJob : (Try.prog.info? 38).map (fun i => (i.zero, i.size, i.bytes)) = some (some (.agg #[.int .i64 0, .int .i64 0, .int .i64 0, .int .i64 0, .int .i64 0, .int .i64 0, .int .i64 0, .slice none 0 0]), 8, 80) := by kernel_rfl
theorem Try.infInt17 : (Try.prog.info? 3).map (fun i => (i.zero, i.size, i.bytes)) = some (some (.int .i64 0), 1, 8) := by kernel_rfl
/-- A state's own copy: accounts, jobs and each job's nodes in rows that share nothing. -/
structure Cpy (w w' : World) (ao : Option Addr) (la : List Ac) (ca : Nat) (jo : Option Addr) (qs : List Pj) (cj : Nat) : Prop where
  bel : Below w.heap.size w w'
  acc : w'.ownsRow w.heap.size 41 5 (.slice ao la.length ca) la.length (flatA la)
  job : w'.ownsRow w.heap.size 38 8 (.slice jo qs.length cj) qs.length (flatJ qs)
  sets : ∀ q ∈ qs, w'.ownsRow w.heap.size 3 1 (.slice q.sa q.v.set.length q.sc) q.v.set.length (i64s q.v.set)
  aj : ∀ b, (Value.slice ao la.length ca).ownBlock = some b → (Value.slice jo qs.length cj).ownBlock ≠ some b
  ap : ∀ q ∈ qs, ∀ b, (Value.slice q.sa q.v.set.length q.sc).ownBlock = some b → (Value.slice ao la.length ca).ownBlock ≠ some b ∧ (Value.slice jo qs.length cj).ownBlock ≠ some b
theorem grown_below {w w' : World} (h : w.grownBy w' none) : Below w.heap.size w w' := ⟨h.os, h.tape, h.output, h.size, fun k hk => h.block k hk (by simp)⟩
set_option maxRecDepth 20000 in
set_option maxHeartbeats 8000000 in
theorem copied_any {w : World} (c : Cf) (now : Int) {ao : Option Addr} {la : List Ac} {ca : Nat} {jo : Option Addr} {ps : List Pj} {cj : Nat} (hd : Int) (h : StIn w ao la ca jo ps cj) :
    Calls Try.prog 13 #[.agg (stL c now ao la.length ca jo ps.length cj hd)] w fun e w' => ∃ ao' ca' jo' cj' qs, e = .returned (.agg (stL c now ao' la.length ca' jo' ps.length cj' hd)) ∧ qs.map Pj.v = ps.map Pj.v ∧ Cpy w w' ao' la ca' jo' qs cj' := by
  obtain ⟨i0, hi0, hz00, hz01, hz02⟩ := info_parts Try.inf41
  obtain ⟨i1, hi1, hz10, hz11, hz12⟩ := info_parts Try.infInt17
  obtain ⟨i2, hi2, hz20, hz21, hz22⟩ := info_parts Try.infJob
  obtain ⟨g, o, hg, hrow⟩ := row_at h.jobs
  have HROW : Hid (∀ x, Below w.heap.size w x → ∀ (k : Nat) (q : Pj), ps[k]? = some q → JbAt x g (o + k * 8) q.jb) := hrow
  have HSETS : Hid (∀ x, Below w.heap.size w x → ∀ p ∈ ps, ∀ ad, p.sa = some ad → ∀ j u, (i64s p.v.set)[j]? = some u → x.cell? (ad.add j) = some u) := fun x hx p hp => ints_flat ((h.jobs.sets p hp).below hx)
  have HSP : Hid (∀ p ∈ ps, p.v.set.length * 8 ≤ 140737488355328 ∧ (p.sa = none → p.v.set.length = 0 ∧ p.sc = 0)) := fun p hp => ⟨h.sl p hp, fun e => by have := h.snil p hp e; exact ⟨by rw [this.1]; rfl, this.2⟩⟩
  have hl1 := h.l48
  have hl2 := h.l80
  have hnil : ao = none → la.length = 0 ∧ ca = 0 := fun e => by have := h.anil e; exact ⟨by rw [this.1]; rfl, this.2⟩
  have HFL : Hid (∀ x, Below w.heap.size w x → ∀ ad, ao = some ad → ∀ j u, (flatA la)[j]? = some u → x.cell? (ad.add j) = some u) := fun x hx => acs_flat (h.acs.below hx)
  have HLN : Hid ((flatA la).length = la.length * 5) := flatA_len la
  obtain ⟨L, hL⟩ : ∃ L, la.length = L := ⟨_, rfl⟩
  obtain ⟨N, hN⟩ : ∃ N, ps.length = N := ⟨_, rfl⟩
  have HLL : Hid (la.length = L) := hL
  have HNN : Hid (ps.length = N) := hN
  rw [hL] at hl1 hnil HLN ⊢
  rw [hN] at hl2 hg ⊢
  have HG : Hid (0 < N → jo = some ⟨g, o, none⟩) := hg
  clear h hrow hg hL hN
  unfold stL
  obtain ⟨W, hW⟩ : ∃ W, (w.alloc (.cells #[.int .i64 c.nodes, .int .i64 c.queue, .int .i64 c.limit, .int .i64 c.age, .int .i64 c.fair, .int .i64 c.size, .int .i64 c.period, .int .i64 c.half, .int .i64 now, .slice ao L ca, .slice jo N cj, .int .i64 hd] 27)).alloc (.cells #[.int .i64 0, .int .i64 0, .int .i64 0, .int .i64 0, .int .i64 0, .int .i64 0, .int .i64 0, .int .i64 0, .int .i64 0, .slice none 0 0, .slice none 0 0, .int .i64 0] 27) = W := ⟨_, rfl⟩
  have hzW : W.heap.size = w.heap.size + 2 := by rw [← hW]; simp
  have HZW : Hid (W.heap.size = w.heap.size + 2) := hzW
  have HBW : Hid (Below w.heap.size w W) := by rw [← hW]; exact ((Below.refl _ w).alloc (Nat.le_refl _) _).alloc (by simp) _
  have HS0 : Hid (W.heap[w.heap.size]? = some (.cells #[.int .i64 c.nodes, .int .i64 c.queue, .int .i64 c.limit, .int .i64 c.age, .int .i64 c.fair, .int .i64 c.size, .int .i64 c.period, .int .i64 c.half, .int .i64 now, .slice ao L ca, .slice jo N cj, .int .i64 hd] 27 (0, 0))) := by
    show W.heap[w.heap.size]? = _
    rw [← hW]
    exact (Below.heap_alloc _ _ _ (by simp)).trans (heap_alloc_new w _)
  have HR0 : Hid (W.heap[w.heap.size + 1]? = some (.cells #[.int .i64 0, .int .i64 0, .int .i64 0, .int .i64 0, .int .i64 0, .int .i64 0, .int .i64 0, .int .i64 0, .int .i64 0, .slice none 0 0, .slice none 0 0, .int .i64 0] 27 (0, 0))) := by
    have := heap_alloc_new (w.alloc (.cells #[.int .i64 c.nodes, .int .i64 c.queue, .int .i64 c.limit, .int .i64 c.age, .int .i64 c.fair, .int .i64 c.size, .int .i64 c.period, .int .i64 c.half, .int .i64 now, .slice ao L ca, .slice jo N cj, .int .i64 hd] 27)) (.cells #[.int .i64 0, .int .i64 0, .int .i64 0, .int .i64 0, .int .i64 0, .int .i64 0, .int .i64 0, .int .i64 0, .int .i64 0, .slice none 0 0, .slice none 0 0, .int .i64 0] 27)
    rw [hW, World.size_alloc] at this
    exact this
  have c9 : W.cell? ⟨w.heap.size, 9, none⟩ = some (.slice ao L ca) := cells_at HS0.out rfl
  have HC1 : Hid (∀ ad, ao = some ad → ∀ j u, (flatA la)[j]? = some u → W.cell? (ad.add j) = some u) := HFL.out W HBW.out
  clear hzW HFL
  go_enter Try.func13, Try.ntmps13
  go_upto_region 2 with (at_builtin; refine wpList_append_mv rfl (.const (.slice none 0 0)) (.tmp 7) 24 rfl W.heap.size 41 i0 _ 5 48 Try.underlying24 hi0 hz00 hz01 hz02 rfl (by decide) (.slice none 0 0) 0 [] rfl (own_nil _ _ _ _) ao L ca (flatA la) rfl hnil HLN.out HC1.out (flatA_one la) ?_ ?_ ?_ ?_; exact (Nat.le_trans (m := 35184372088832) (by omega) (by decide)); omega; exact Nat.le_refl _; intro va V o1 g1 m1; rw [Nat.zero_add, List.nil_append] at o1; obtain ⟨ao', ca', rfl, hca, hna, hga⟩ := own_val o1; have bV : Below W.heap.size W V := grown_below g1; have hSV := (bV.block w.heap.size (by have := HZW.out; omega)).trans HS0.out; have x9 := cells_at (k := 9) hSV rfl; have f9 := frozen_at (k := 9) hSV)
  have HA1 : Hid ((V.setCell ⟨w.heap.size, 9, none⟩ (.slice ao' L ca')).ownsRow W.heap.size 41 5 (.slice ao' L ca') L (flatA la)) := ownsRow_setCell_below o1 (show w.heap.size < W.heap.size by have := HZW.out; omega) _
  have HS1 : Hid ((V.setCell ⟨w.heap.size, 9, none⟩ (.slice ao' L ca')).heap[w.heap.size]? = some (.cells #[.int .i64 c.nodes, .int .i64 c.queue, .int .i64 c.limit, .int .i64 c.age, .int .i64 c.fair, .int .i64 c.size, .int .i64 c.period, .int .i64 c.half, .int .i64 now, .slice ao' L ca', .slice jo N cj, .int .i64 hd] 27 (0, 0))) := heap_setCell_same V w.heap.size 9 _ 27 _ hSV
  have HR1 : Hid ((V.setCell ⟨w.heap.size, 9, none⟩ (.slice ao' L ca')).heap[w.heap.size + 1]? = some (.cells #[.int .i64 0, .int .i64 0, .int .i64 0, .int .i64 0, .int .i64 0, .int .i64 0, .int .i64 0, .int .i64 0, .int .i64 0, .slice none 0 0, .slice none 0 0, .int .i64 0] 27 (0, 0))) := (Below.heap_setCell _ _ _ _ (show w.heap.size + 1 ≠ w.heap.size by omega)).trans ((bV.block (w.heap.size + 1) (by have := HZW.out; omega)).trans HR0.out)
  have HB1 : Hid (Below w.heap.size w (V.setCell ⟨w.heap.size, 9, none⟩ (.slice ao' L ca'))) := (HBW.out.trans (bV.mono HBW.out.size)).setCell (Nat.le_refl _) _
  have HZ1 : Hid (w.heap.size + 2 ≤ (V.setCell ⟨w.heap.size, 9, none⟩ (.slice ao' L ca')).heap.size) := (show w.heap.size + 2 ≤ (V.setCell ⟨w.heap.size, 9, none⟩ (.slice ao' L ca')).heap.size by rw [World.size_setCell]; have := bV.size; have := HZW.out; omega)
  have HGA : Hid (∀ a, ao' = some a → ∃ g, a = ⟨g, 0, none⟩ ∧ W.heap.size ≤ g ∧ g < V.heap.size) := hga
  obtain ⟨V1, hV1⟩ : ∃ V1, V.setCell ⟨w.heap.size, 9, none⟩ (.slice ao' L ca') = V1 := ⟨_, rfl⟩
  have HVV : Hid (V1.heap.size = V.heap.size) := (show V1.heap.size = V.heap.size by rw [← hV1, World.size_setCell])
  rw [hV1] at HA1 HS1 HR1 HB1 HZ1 ⊢
  have e10 : V1.cell? ⟨w.heap.size, 10, none⟩ = some (.slice jo N cj) := cells_at HS1.out rfl
  clear hV1 o1 g1 m1 hca hna hga bV hSV x9 f9 c9 HS0 HR0 HC1 HBW hW hi0 hz00 hz01 hz02 hnil HLN
  go_wp2
  clear e10
  go_loopg [3, 13] N (fun gk pl pk wr => ∃ (k : Nat) (qs : List Pj) (vl : Value), k + gk = N ∧ pk = .int .i64 k ∧ vl = pl ∧ Cl V1 wr vl ps k qs)
  case atStart => exact ⟨0, [], _, by omega, rfl, rfl, Cl.start V1 ps⟩
  case round =>
    obtain ⟨k, qs, vl, hk, rfl, rfl, hcl⟩ := hrel
    have HCL : Hid (Cl V1 wr vl ps k qs) := hcl
    have HBR : Hid (Below w.heap.size w wr) := HB1.out.trans (hcl.bel.mono HB1.out.size)
    clear hcl
    by_cases hlt : k < N
    · have hlt' : (k : Int) < N := by omega
      obtain ⟨p, hp⟩ : ∃ p, ps[k]? = some p := ⟨_, List.getElem?_eq_getElem (by rw [HNN.out]; exact hlt)⟩
      obtain rfl := HG.out (by omega)
      obtain ⟨d0, d1, d2, d3, d4, d5, d6, d7⟩ := HROW.out wr HBR.out k p hp
      obtain ⟨hp8, hpn⟩ := HSP.out p (List.mem_of_getElem? hp)
      have HPX : Hid (∀ x, Below w.heap.size w x → ∀ ad, p.sa = some ad → ∀ j u, (i64s p.v.set)[j]? = some u → x.cell? (ad.add j) = some u) := fun x hx => HSETS.out x hx p (List.mem_of_getElem? hp)
      have HPK : Hid (ps[k]? = some p) := hp
      clear hp
      obtain ⟨⟨ac, nd, lm, sb, st, sr, en, xs⟩, sa, sc⟩ := p
      dsimp only [Pj.jb] at d0 d1 d2 d3 d4 d5 d6 d7 hp8 hpn HPX
      obtain ⟨w3, hw3⟩ : ∃ w3, wr.alloc (.cells #[.int .i64 ac, .int .i64 nd, .int .i64 lm, .int .i64 sb, .int .i64 st, .int .i64 sr, .int .i64 en, .slice sa xs.length sc] 38) = w3 := ⟨_, rfl⟩
      have HW3 : Hid (wr.alloc (.cells #[.int .i64 ac, .int .i64 nd, .int .i64 lm, .int .i64 sb, .int .i64 st, .int .i64 sr, .int .i64 en, .slice sa xs.length sc] 38) = w3) := hw3
      have hz3 : w3.heap.size = wr.heap.size + 1 := by rw [← hw3]; simp
      have HZ3 : Hid (w3.heap.size = wr.heap.size + 1) := hz3
      have HB3 : Hid (Below w.heap.size w w3) := by rw [← hw3]; exact HBR.out.alloc HBR.out.size _
      have HJ3 : Hid (w3.heap[wr.heap.size]? = some (.cells #[.int .i64 ac, .int .i64 nd, .int .i64 lm, .int .i64 sb, .int .i64 st, .int .i64 sr, .int .i64 en, .slice sa xs.length sc] 38 (0, 0))) := by rw [← hw3]; exact heap_alloc_new wr _
      have j7 : w3.cell? ⟨wr.heap.size, 7, none⟩ = some (.slice sa xs.length sc) := cells_at HJ3.out rfl
      have HC3 : Hid (∀ ad, sa = some ad → ∀ j u, (i64s xs)[j]? = some u → w3.cell? (ad.add j) = some u) := HPX.out w3 HB3.out
      clear hz3
      go_upto_region 7 with (at_builtin; refine wpList_append_mv rfl (.const (.slice none 0 0)) (.tmp 18) 36 rfl w3.heap.size 3 i1 _ 1 8 Try.underlying36 hi1 hz10 hz11 hz12 rfl (by decide) (.slice none 0 0) 0 [] rfl (own_nil _ _ _ _) sa xs.length sc (i64s xs) rfl hpn (i64s_len xs) HC3.out (i64s_one xs) ?_ ?_ ?_ ?_; exact (Nat.le_trans (m := 35184372088832) (by omega) (by decide)); omega; exact Nat.le_refl _; intro vs w4 r4 g4 m4; rw [Nat.zero_add, List.nil_append] at r4; obtain ⟨sa', sc', rfl, hca, hna, hga⟩ := own_val r4; have b4 : Below w3.heap.size w3 w4 := grown_below g4; have hJ4 := (b4.block wr.heap.size (by have := HZ3.out; omega)).trans HJ3.out; have x7 := cells_at (k := 7) hJ4 rfl; have f7 := frozen_at (k := 7) hJ4)
      have hJ5 : (w4.setCell ⟨wr.heap.size, 7, none⟩ (.slice sa' xs.length sc')).heap[wr.heap.size]? = some (.cells #[.int .i64 ac, .int .i64 nd, .int .i64 lm, .int .i64 sb, .int .i64 st, .int .i64 sr, .int .i64 en, .slice sa' xs.length sc'] 38 (0, 0)) := heap_setCell_same w4 wr.heap.size 7 _ 38 _ hJ4
      have hR5 : (w4.setCell ⟨wr.heap.size, 7, none⟩ (.slice sa' xs.length sc')).ownsRow V1.heap.size 38 8 vl k (flatJ qs) := row_stand HCL.out.row (fun g hg => by
        have := HCL.out.row.lt g hg
        have h3 := HZ3.out
        rw [Below.heap_setCell _ _ _ _ (show g ≠ wr.heap.size by omega), b4.block g (by omega), ← HW3.out, Below.heap_alloc _ _ _ this.2])
      have HB4 : Hid (Below w3.heap.size w3 w4) := b4
      have HR4 : Hid (w4.ownsRow w3.heap.size 3 1 (.slice sa' xs.length sc') xs.length (i64s xs)) := r4
      obtain ⟨w5, hw5⟩ : ∃ w5, w4.setCell ⟨wr.heap.size, 7, none⟩ (.slice sa' xs.length sc') = w5 := ⟨_, rfl⟩
      have HW5 : Hid (w4.setCell ⟨wr.heap.size, 7, none⟩ (.slice sa' xs.length sc') = w5) := hw5
      rw [hw5] at hJ5 hR5 ⊢
      have n0 : w5.cell? ⟨wr.heap.size, 0, none⟩ = some (.int .i64 ac) := cells_at hJ5 rfl
      have n1 : w5.cell? ⟨wr.heap.size, 1, none⟩ = some (.int .i64 nd) := cells_at hJ5 rfl
      have n2 : w5.cell? ⟨wr.heap.size, 2, none⟩ = some (.int .i64 lm) := cells_at hJ5 rfl
      have n3 : w5.cell? ⟨wr.heap.size, 3, none⟩ = some (.int .i64 sb) := cells_at hJ5 rfl
      have n4 : w5.cell? ⟨wr.heap.size, 4, none⟩ = some (.int .i64 st) := cells_at hJ5 rfl
      have n5 : w5.cell? ⟨wr.heap.size, 5, none⟩ = some (.int .i64 sr) := cells_at hJ5 rfl
      have n6 : w5.cell? ⟨wr.heap.size, 6, none⟩ = some (.int .i64 en) := cells_at hJ5 rfl
      have n7 : w5.cell? ⟨wr.heap.size, 7, none⟩ = some (.slice sa' xs.length sc') := cells_at hJ5 rfl
      have HR6 : Hid ((w5.alloc (.cells #[.int .i64 ac, .int .i64 nd, .int .i64 lm, .int .i64 sb, .int .i64 st, .int .i64 sr, .int .i64 en, .slice sa' xs.length sc'] 38)).ownsRow V1.heap.size 38 8 vl k (flatJ qs)) := hR5.alloc _
      have HN6 : Hid (∀ ad, (some ⟨w5.heap.size, 0, none⟩ : Option Addr) = some ad → ∀ j u, (flatJ [⟨⟨ac, nd, lm, sb, st, sr, en, xs⟩, sa', sc'⟩])[j]? = some u → (w5.alloc (.cells #[.int .i64 ac, .int .i64 nd, .int .i64 lm, .int .i64 sb, .int .i64 st, .int .i64 sr, .int .i64 en, .slice sa' xs.length sc'] 38)).cell? (ad.add j) = some u) := fun ad e j u hu => by cases e; exact new_cells w5 (flatJ [⟨⟨ac, nd, lm, sb, st, sr, en, xs⟩, sa', sc'⟩]) 38 j u hu
      have HV5 : Hid (V1.heap.size ≤ (w5.alloc (.cells #[.int .i64 ac, .int .i64 nd, .int .i64 lm, .int .i64 sb, .int .i64 st, .int .i64 sr, .int .i64 en, .slice sa' xs.length sc'] 38)).heap.size) := (show V1.heap.size ≤ (w5.alloc (.cells #[.int .i64 ac, .int .i64 nd, .int .i64 lm, .int .i64 sb, .int .i64 st, .int .i64 sr, .int .i64 en, .slice sa' xs.length sc'] 38)).heap.size by rw [World.size_alloc, ← HW5.out, World.size_setCell]; have := b4.size; have := HZ3.out; have := HCL.out.bel.size; omega)
      clear r4 g4 m4 hca hna hga b4 hJ4 hJ5 hR5 x7 f7 hw5 hw3 j7 d0 d1 d2 d3 d4 d5 d6 d7 HC3 HPX HJ3 HB3
      go_upto_region 8 with (at_builtin; refine wpList_append_mv rfl (.tmp 21) (.tmp 23) 25 rfl V1.heap.size 38 i2 _ 8 80 Try.underlying25 hi2 hz20 hz21 hz22 rfl (by decide) vl k (flatJ qs) rfl HR6.out (some ⟨w5.heap.size, 0, none⟩) 1 1 (flatJ [⟨⟨ac, nd, lm, sb, st, sr, en, xs⟩, sa', sc'⟩]) rfl (fun e => by cases e) rfl HN6.out (flatJ_one _) ?_ ?_ ?_ ?_; exact (Nat.le_trans (m := 35184372088832) (by omega) (by decide)); omega; exact HV5.out; intro v7 w7 r7 g7 m7; rw [← flatJ_app] at r7)
      have HC7 : Hid (Cl V1 w7 v7 ps (k + 1) (qs ++ [⟨⟨ac, nd, lm, sb, st, sr, en, xs⟩, sa', sc'⟩])) := Cl.next (p := ⟨⟨ac, nd, lm, sb, st, sr, en, xs⟩, sa, sc⟩) HCL.out HPK.out (by rw [HW3.out]; exact HB4.out) (by rw [HW3.out]; exact HR4.out) r7 (by rw [HW5.out]; exact g7) (by rw [HW5.out]; exact m7)
      clear r7 g7 m7 n0 n1 n2 n3 n4 n5 n6 n7 HCL HR6 HN6 HV5 HB4 HR4
      go_wp2
      go_roundg (N - (k + 1))
      case measure => omega
      case rel => exact ⟨k + 1, _, _, by omega, rfl, rfl, HC7.out⟩
    · obtain rfl : k = N := by omega
      have hrow := HCL.out.row
      obtain ⟨jo', cj', rfl, hcj, hnj, hgj⟩ := own_val hrow
      have HJR : Hid (wr.ownsRow V1.heap.size 38 8 (.slice jo' k cj') k (flatJ qs)) := hrow
      have hSr := (HCL.out.bel.block w.heap.size (by have := HZ1.out; omega)).trans HS1.out
      have hRr := (HCL.out.bel.block (w.heap.size + 1) (by have := HZ1.out; omega)).trans HR1.out
      have x10 := cells_at (k := 10) hSr rfl
      have f10 := frozen_at (k := 10) hSr
      have hS2 : (wr.setCell ⟨w.heap.size, 10, none⟩ (.slice jo' k cj')).heap[w.heap.size]? = some (.cells #[.int .i64 c.nodes, .int .i64 c.queue, .int .i64 c.limit, .int .i64 c.age, .int .i64 c.fair, .int .i64 c.size, .int .i64 c.period, .int .i64 c.half, .int .i64 now, .slice ao' L ca', .slice jo' k cj', .int .i64 hd] 27 (0, 0)) := heap_setCell_same wr w.heap.size 10 _ 27 _ hSr
      have hR2 : (wr.setCell ⟨w.heap.size, 10, none⟩ (.slice jo' k cj')).heap[w.heap.size + 1]? = some (.cells #[.int .i64 0, .int .i64 0, .int .i64 0, .int .i64 0, .int .i64 0, .int .i64 0, .int .i64 0, .int .i64 0, .int .i64 0, .slice none 0 0, .slice none 0 0, .int .i64 0] 27 (0, 0)) := (Below.heap_setCell _ _ _ _ (show w.heap.size + 1 ≠ w.heap.size by omega)).trans hRr
      go_upto_region 10 with fail
      obtain ⟨X, hX⟩ : ∃ X, wr.setCell ⟨w.heap.size, 10, none⟩ (.slice jo' k cj') = X := ⟨_, rfl⟩
      have HX : Hid (wr.setCell ⟨w.heap.size, 10, none⟩ (.slice jo' k cj') = X) := hX
      rw [hX] at hS2 hR2 ⊢
      have y0 : X.cell? ⟨w.heap.size, 0, none⟩ = some (.int .i64 c.nodes) := cells_at hS2 rfl
      have y1 : X.cell? ⟨w.heap.size, 1, none⟩ = some (.int .i64 c.queue) := cells_at hS2 rfl
      have y2 : X.cell? ⟨w.heap.size, 2, none⟩ = some (.int .i64 c.limit) := cells_at hS2 rfl
      have y3 : X.cell? ⟨w.heap.size, 3, none⟩ = some (.int .i64 c.age) := cells_at hS2 rfl
      have y4 : X.cell? ⟨w.heap.size, 4, none⟩ = some (.int .i64 c.fair) := cells_at hS2 rfl
      have y5 : X.cell? ⟨w.heap.size, 5, none⟩ = some (.int .i64 c.size) := cells_at hS2 rfl
      have y6 : X.cell? ⟨w.heap.size, 6, none⟩ = some (.int .i64 c.period) := cells_at hS2 rfl
      have y7 : X.cell? ⟨w.heap.size, 7, none⟩ = some (.int .i64 c.half) := cells_at hS2 rfl
      have y8 : X.cell? ⟨w.heap.size, 8, none⟩ = some (.int .i64 now) := cells_at hS2 rfl
      have y9 : X.cell? ⟨w.heap.size, 9, none⟩ = some (.slice ao' L ca') := cells_at hS2 rfl
      have y10 : X.cell? ⟨w.heap.size, 10, none⟩ = some (.slice jo' k cj') := cells_at hS2 rfl
      have y11 : X.cell? ⟨w.heap.size, 11, none⟩ = some (.int .i64 hd) := cells_at hS2 rfl
      have z0 : X.cell? ⟨w.heap.size + 1, 0, none⟩ = some (.int .i64 0) := cells_at hR2 rfl
      have z1 : X.cell? ⟨w.heap.size + 1, 1, none⟩ = some (.int .i64 0) := cells_at hR2 rfl
      have z2 : X.cell? ⟨w.heap.size + 1, 2, none⟩ = some (.int .i64 0) := cells_at hR2 rfl
      have z3 : X.cell? ⟨w.heap.size + 1, 3, none⟩ = some (.int .i64 0) := cells_at hR2 rfl
      have z4 : X.cell? ⟨w.heap.size + 1, 4, none⟩ = some (.int .i64 0) := cells_at hR2 rfl
      have z5 : X.cell? ⟨w.heap.size + 1, 5, none⟩ = some (.int .i64 0) := cells_at hR2 rfl
      have z6 : X.cell? ⟨w.heap.size + 1, 6, none⟩ = some (.int .i64 0) := cells_at hR2 rfl
      have z7 : X.cell? ⟨w.heap.size + 1, 7, none⟩ = some (.int .i64 0) := cells_at hR2 rfl
      have z8 : X.cell? ⟨w.heap.size + 1, 8, none⟩ = some (.int .i64 0) := cells_at hR2 rfl
      have z9 : X.cell? ⟨w.heap.size + 1, 9, none⟩ = some (.slice none 0 0) := cells_at hR2 rfl
      have z10 : X.cell? ⟨w.heap.size + 1, 10, none⟩ = some (.slice none 0 0) := cells_at hR2 rfl
      have z11 : X.cell? ⟨w.heap.size + 1, 11, none⟩ = some (.int .i64 0) := cells_at hR2 rfl
      have f0 : X.frozen? ⟨w.heap.size + 1, 0, none⟩ = false := frozen_at hR2
      have f1 : X.frozen? ⟨w.heap.size + 1, 1, none⟩ = false := frozen_at hR2
      have f2 : X.frozen? ⟨w.heap.size + 1, 2, none⟩ = false := frozen_at hR2
      have f3 : X.frozen? ⟨w.heap.size + 1, 3, none⟩ = false := frozen_at hR2
      have f4 : X.frozen? ⟨w.heap.size + 1, 4, none⟩ = false := frozen_at hR2
      have f5 : X.frozen? ⟨w.heap.size + 1, 5, none⟩ = false := frozen_at hR2
      have f6 : X.frozen? ⟨w.heap.size + 1, 6, none⟩ = false := frozen_at hR2
      have f7 : X.frozen? ⟨w.heap.size + 1, 7, none⟩ = false := frozen_at hR2
      have f8 : X.frozen? ⟨w.heap.size + 1, 8, none⟩ = false := frozen_at hR2
      have f9 : X.frozen? ⟨w.heap.size + 1, 9, none⟩ = false := frozen_at hR2
      have f10 : X.frozen? ⟨w.heap.size + 1, 10, none⟩ = false := frozen_at hR2
      have f11 : X.frozen? ⟨w.heap.size + 1, 11, none⟩ = false := frozen_at hR2
      clear hX hS2 hR2 x10 hSr hRr hrow hcj hnj hgj
      go_wp2
      have h1b : w.heap.size ≤ w.heap.size + 1 := by omega
      have hBX : Below w.heap.size w X := by rw [← HX.out]; exact HBR.out.setCell (Nat.le_refl _) (.slice jo' k cj')
      have hBY : Below w.heap.size w (((((((((((((X).setCell ⟨w.heap.size + 1, 0, none⟩ (.int .i64 c.nodes)).setCell ⟨w.heap.size + 1, 1, none⟩ (.int .i64 c.queue)).setCell ⟨w.heap.size + 1, 2, none⟩ (.int .i64 c.limit)).setCell ⟨w.heap.size + 1, 3, none⟩ (.int .i64 c.age)).setCell ⟨w.heap.size + 1, 4, none⟩ (.int .i64 c.fair)).setCell ⟨w.heap.size + 1, 5, none⟩ (.int .i64 c.size)).setCell ⟨w.heap.size + 1, 6, none⟩ (.int .i64 c.period)).setCell ⟨w.heap.size + 1, 7, none⟩ (.int .i64 c.half)).setCell ⟨w.heap.size + 1, 8, none⟩ (.int .i64 now)).setCell ⟨w.heap.size + 1, 9, none⟩ (.slice ao' L ca')).setCell ⟨w.heap.size + 1, 10, none⟩ (.slice jo' k cj')).setCell ⟨w.heap.size + 1, 11, none⟩ (.int .i64 hd)) := ((((((((((((hBX).setCell h1b (.int .i64 c.nodes)).setCell h1b (.int .i64 c.queue)).setCell h1b (.int .i64 c.limit)).setCell h1b (.int .i64 c.age)).setCell h1b (.int .i64 c.fair)).setCell h1b (.int .i64 c.size)).setCell h1b (.int .i64 c.period)).setCell h1b (.int .i64 c.half)).setCell h1b (.int .i64 now)).setCell h1b (.slice ao' L ca')).setCell h1b (.slice jo' k cj')).setCell h1b (.int .i64 hd)
      have kY : ∀ g, g ≠ w.heap.size → g ≠ w.heap.size + 1 → (((((((((((((X).setCell ⟨w.heap.size + 1, 0, none⟩ (.int .i64 c.nodes)).setCell ⟨w.heap.size + 1, 1, none⟩ (.int .i64 c.queue)).setCell ⟨w.heap.size + 1, 2, none⟩ (.int .i64 c.limit)).setCell ⟨w.heap.size + 1, 3, none⟩ (.int .i64 c.age)).setCell ⟨w.heap.size + 1, 4, none⟩ (.int .i64 c.fair)).setCell ⟨w.heap.size + 1, 5, none⟩ (.int .i64 c.size)).setCell ⟨w.heap.size + 1, 6, none⟩ (.int .i64 c.period)).setCell ⟨w.heap.size + 1, 7, none⟩ (.int .i64 c.half)).setCell ⟨w.heap.size + 1, 8, none⟩ (.int .i64 now)).setCell ⟨w.heap.size + 1, 9, none⟩ (.slice ao' L ca')).setCell ⟨w.heap.size + 1, 10, none⟩ (.slice jo' k cj')).setCell ⟨w.heap.size + 1, 11, none⟩ (.int .i64 hd)).heap[g]? = wr.heap[g]? := fun g e1 e2 => by
        rw [Below.heap_setCell _ _ _ _ e2, Below.heap_setCell _ _ _ _ e2, Below.heap_setCell _ _ _ _ e2, Below.heap_setCell _ _ _ _ e2, Below.heap_setCell _ _ _ _ e2, Below.heap_setCell _ _ _ _ e2, Below.heap_setCell _ _ _ _ e2, Below.heap_setCell _ _ _ _ e2, Below.heap_setCell _ _ _ _ e2, Below.heap_setCell _ _ _ _ e2, Below.heap_setCell _ _ _ _ e2, Below.heap_setCell _ _ _ _ e2, ← HX.out, Below.heap_setCell _ _ _ _ e1]
      have rl := HA1.out.lt
      have rj := HJR.out.lt
      have zW := HZW.out
      have zV := HVV.out
      have z1 := HZ1.out
      have bz := HCL.out.bel.size
      refine bodyPost_ret (v := .agg #[.int .i64 c.nodes, .int .i64 c.queue, .int .i64 c.limit, .int .i64 c.age, .int .i64 c.fair, .int .i64 c.size, .int .i64 c.period, .int .i64 c.half, .int .i64 now, .slice ao' L ca', .slice jo' k cj', .int .i64 hd]) (by simp [results, Try.results13, go_sem, *]) rfl ⟨ao', ca', jo', cj', qs, rfl, ?_, ?_⟩
      · rw [HCL.out.vals, List.take_of_length_le (by rw [HNN.out]; omega)]
      refine ⟨hBY, ?_, ?_, fun q hq => ?_, fun b hb => ?_, fun q hq b hb => ?_⟩
      · rw [HLL.out]
        refine World.ownsRow.mono (row_stand HA1.out (fun g hg => ?_)) (by omega)
        have := rl g hg
        rw [kY g (by omega) (by omega), HCL.out.bel.block g this.2]
      · rw [HCL.out.len]
        refine World.ownsRow.mono (row_stand HJR.out (fun g hg => ?_)) (by omega)
        have := rj g hg
        exact kY g (by omega) (by omega)
      · obtain ⟨s1, s2⟩ := HCL.out.sets q hq
        refine World.ownsRow.mono (row_stand s1 (fun g hg => ?_)) (by omega)
        have := s1.lt g hg
        exact kY g (by omega) (by omega)
      · intro e
        have h1 := rl b (by rw [HLL.out] at hb; exact hb)
        have h2 := rj b (by rw [HCL.out.len] at e; exact e)
        omega
      · obtain ⟨s1, s2⟩ := HCL.out.sets q hq
        refine ⟨fun e => ?_, fun e => ?_⟩
        · have h1 := rl b (by rw [HLL.out] at e; exact e)
          have h2 := s1.lt b hb
          omega
        · rw [HCL.out.len] at e
          exact s2 b e hb
end Go.Proofs.Ytbcinapnnlfnbaa
namespace Go.Proofs.Ytbcinapnnlfnbaa
open Go.RowKit Wd Tr Cg Lg

theorem set8_at {W : World} {b : Nat} {t : TypeId} {z0 z1 z2 z3 z4 z5 z6 z7 : Value} (h : W.heap[b]? = some (.cells #[z0, z1, z2, z3, z4, z5, z6, z7] t (0, 0))) (v0 v1 v2 v3 v4 v5 v6 v7 : Value) : (((((((((W).setCell ⟨b, 0, none⟩ (v0)).setCell ⟨b, 1, none⟩ (v1)).setCell ⟨b, 2, none⟩ (v2)).setCell ⟨b, 3, none⟩ (v3)).setCell ⟨b, 4, none⟩ (v4)).setCell ⟨b, 5, none⟩ (v5)).setCell ⟨b, 6, none⟩ (v6)).setCell ⟨b, 7, none⟩ (v7)).heap[b]? = some (.cells #[v0, v1, v2, v3, v4, v5, v6, v7] t (0, 0)) := by
  have h0 : ((W).setCell ⟨b, 0, none⟩ (v0)).heap[b]? = some (.cells #[v0, z1, z2, z3, z4, z5, z6, z7] t (0, 0)) := heap_setCell_same _ b 0 _ t v0 h
  have h1 : (((W).setCell ⟨b, 0, none⟩ (v0)).setCell ⟨b, 1, none⟩ (v1)).heap[b]? = some (.cells #[v0, v1, z2, z3, z4, z5, z6, z7] t (0, 0)) := heap_setCell_same _ b 1 _ t v1 h0
  have h2 : ((((W).setCell ⟨b, 0, none⟩ (v0)).setCell ⟨b, 1, none⟩ (v1)).setCell ⟨b, 2, none⟩ (v2)).heap[b]? = some (.cells #[v0, v1, v2, z3, z4, z5, z6, z7] t (0, 0)) := heap_setCell_same _ b 2 _ t v2 h1
  have h3 : (((((W).setCell ⟨b, 0, none⟩ (v0)).setCell ⟨b, 1, none⟩ (v1)).setCell ⟨b, 2, none⟩ (v2)).setCell ⟨b, 3, none⟩ (v3)).heap[b]? = some (.cells #[v0, v1, v2, v3, z4, z5, z6, z7] t (0, 0)) := heap_setCell_same _ b 3 _ t v3 h2
  have h4 : ((((((W).setCell ⟨b, 0, none⟩ (v0)).setCell ⟨b, 1, none⟩ (v1)).setCell ⟨b, 2, none⟩ (v2)).setCell ⟨b, 3, none⟩ (v3)).setCell ⟨b, 4, none⟩ (v4)).heap[b]? = some (.cells #[v0, v1, v2, v3, v4, z5, z6, z7] t (0, 0)) := heap_setCell_same _ b 4 _ t v4 h3
  have h5 : (((((((W).setCell ⟨b, 0, none⟩ (v0)).setCell ⟨b, 1, none⟩ (v1)).setCell ⟨b, 2, none⟩ (v2)).setCell ⟨b, 3, none⟩ (v3)).setCell ⟨b, 4, none⟩ (v4)).setCell ⟨b, 5, none⟩ (v5)).heap[b]? = some (.cells #[v0, v1, v2, v3, v4, v5, z6, z7] t (0, 0)) := heap_setCell_same _ b 5 _ t v5 h4
  have h6 : ((((((((W).setCell ⟨b, 0, none⟩ (v0)).setCell ⟨b, 1, none⟩ (v1)).setCell ⟨b, 2, none⟩ (v2)).setCell ⟨b, 3, none⟩ (v3)).setCell ⟨b, 4, none⟩ (v4)).setCell ⟨b, 5, none⟩ (v5)).setCell ⟨b, 6, none⟩ (v6)).heap[b]? = some (.cells #[v0, v1, v2, v3, v4, v5, v6, z7] t (0, 0)) := heap_setCell_same _ b 6 _ t v6 h5
  have h7 : (((((((((W).setCell ⟨b, 0, none⟩ (v0)).setCell ⟨b, 1, none⟩ (v1)).setCell ⟨b, 2, none⟩ (v2)).setCell ⟨b, 3, none⟩ (v3)).setCell ⟨b, 4, none⟩ (v4)).setCell ⟨b, 5, none⟩ (v5)).setCell ⟨b, 6, none⟩ (v6)).setCell ⟨b, 7, none⟩ (v7)).heap[b]? = some (.cells #[v0, v1, v2, v3, v4, v5, v6, v7] t (0, 0)) := heap_setCell_same _ b 7 _ t v7 h6
  exact h7
theorem set8_far {W : World} {b g : Nat} (hg : g ≠ b) (v0 v1 v2 v3 v4 v5 v6 v7 : Value) : (((((((((W).setCell ⟨b, 0, none⟩ (v0)).setCell ⟨b, 1, none⟩ (v1)).setCell ⟨b, 2, none⟩ (v2)).setCell ⟨b, 3, none⟩ (v3)).setCell ⟨b, 4, none⟩ (v4)).setCell ⟨b, 5, none⟩ (v5)).setCell ⟨b, 6, none⟩ (v6)).setCell ⟨b, 7, none⟩ (v7)).heap[g]? = W.heap[g]? := by
  rw [Below.heap_setCell _ _ _ _ hg, Below.heap_setCell _ _ _ _ hg, Below.heap_setCell _ _ _ _ hg, Below.heap_setCell _ _ _ _ hg, Below.heap_setCell _ _ _ _ hg, Below.heap_setCell _ _ _ _ hg, Below.heap_setCell _ _ _ _ hg, Below.heap_setCell _ _ _ _ hg]
theorem set8_below {B : Nat} {V W : World} {b : Nat} (h : Below B V W) (hb : B ≤ b) (v0 v1 v2 v3 v4 v5 v6 v7 : Value) : Below B V (((((((((W).setCell ⟨b, 0, none⟩ (v0)).setCell ⟨b, 1, none⟩ (v1)).setCell ⟨b, 2, none⟩ (v2)).setCell ⟨b, 3, none⟩ (v3)).setCell ⟨b, 4, none⟩ (v4)).setCell ⟨b, 5, none⟩ (v5)).setCell ⟨b, 6, none⟩ (v6)).setCell ⟨b, 7, none⟩ (v7)) := ((((((((h).setCell hb _).setCell hb _).setCell hb _).setCell hb _).setCell hb _).setCell hb _).setCell hb _).setCell hb _
theorem new8 (W : World) (cs : Array Value) (t : TypeId) : (W.alloc (.cells cs t)).heap[W.heap.size]? = some (.cells cs t (0, 0)) := heap_alloc_new W _
end Go.Proofs.Ytbcinapnnlfnbaa
namespace Go.Proofs.Ytbcinapnnlfnbaa
open Go.RowKit Wd Tr Cg Lg

/-- What is asked of audit.Check. -/
def AChk : Prop := ∀ (w : World) (c : Cf) (now : Int) (ao : Option Addr) (la : List Ac) (ca : Nat) (jo : Option Addr) (ps : List Pj) (cj : Nat) (hd : Int), StIn w ao la ca jo ps cj → wtN la ps ≤ 2147483647 →
    Calls Try.prog 8 #[.agg (stL c now ao la.length ca jo ps.length cj hd)] w fun e w' => e = .returned (.int .i64 (auditV (chkZ c) ⟨c, now, la, ps.map Pj.v, hd⟩)) ∧ Below w.heap.size w w'
def cEx : Cf := ⟨4, 8, 10, 1, 0, 0, 100, 100⟩
theorem ex_rng : Rng cEx := by constructor <;> simp only [cEx] <;> omega
theorem ex_chk : chkZ cEx = 0 := by
  unfold chkZ
  rw [if_neg (fun h => h ex_rng), if_neg (by decide)]
  decide
theorem plain_any (w : World) : Calls Try.prog 36 #[] w fun e w' => e = .returned (.agg #[.int .i64 4, .int .i64 8, .int .i64 10, .int .i64 1, .int .i64 0, .int .i64 0, .int .i64 100, .int .i64 100]) ∧ Below w.heap.size w w' := by
  go_enter Try.func36, Try.ntmps36
  go_wp2
  exact bodyPost_ret (v := .agg #[.int .i64 4, .int .i64 8, .int .i64 10, .int .i64 1, .int .i64 0, .int .i64 0, .int .i64 100, .int .i64 100]) (by simp [results, Try.results36, go_sem]) rfl ⟨rfl, by repeat first | exact (Below.refl _ _).alloc (Nat.le_refl _) _ | refine Below.setCell ?_ (by simp) _⟩
def exA : List Ac := [⟨⟨#[114, 111, 111, 116]⟩, -1, 1, false, 0⟩, ⟨⟨#[97]⟩, 0, 1, false, 0⟩]
set_option maxRecDepth 20000 in
set_option maxHeartbeats 2000000 in
theorem state_any {w : World} (jo : Option Addr) (n cj : Nat) : Calls Try.prog 14 #[.slice jo n cj] w fun e w' => ∃ B, e = .returned (.agg (stL cEx 9 (some ⟨B, 0, none⟩) 2 2 jo n cj (-1))) ∧ AcsAt w' (some ⟨B, 0, none⟩) exA ∧ Below w.heap.size w w' := by
  unfold stL
  dsimp only [cEx]
  obtain ⟨W, hW⟩ : ∃ W, w.alloc (.cells #[.int .i64 0, .int .i64 0, .int .i64 0, .int .i64 0, .int .i64 0, .int .i64 0, .int .i64 0, .int .i64 0, .int .i64 0, .slice none 0 0, .slice none 0 0, .int .i64 0] 27) = W := ⟨_, rfl⟩
  have HR0 : Hid (W.heap[w.heap.size]? = some (.cells #[.int .i64 0, .int .i64 0, .int .i64 0, .int .i64 0, .int .i64 0, .int .i64 0, .int .i64 0, .int .i64 0, .int .i64 0, .slice none 0 0, .slice none 0 0, .int .i64 0] 27 (0, 0))) := by rw [← hW]; exact heap_alloc_new w _
  have HBW : Hid (Below w.heap.size w W ∧ w.heap.size < W.heap.size) := ⟨by rw [← hW]; exact (Below.refl _ w).alloc (Nat.le_refl _) _, by rw [← hW]; simp⟩
  have cP := plain_any
  go_enter Try.func14, Try.ntmps14
  go_wp2_with fail
  refine (cP _).mono ?_
  rintro e x ⟨rfl, hx⟩
  have hRx := (hx.block w.heap.size HBW.out.2).trans HR0.out
  have hsx := hx.size
  have hYR : (x.alloc (.cells #[.string ⟨#[114, 111, 111, 116]⟩, .int .i64 (-1), .int .i64 1, .bool false, .int .u64 0, .string ⟨#[97]⟩, .int .i64 0, .int .i64 1, .bool false, .int .u64 0] 41)).heap[w.heap.size]? = some (.cells #[.int .i64 0, .int .i64 0, .int .i64 0, .int .i64 0, .int .i64 0, .int .i64 0, .int .i64 0, .int .i64 0, .int .i64 0, .slice none 0 0, .slice none 0 0, .int .i64 0] 27 (0, 0)) := (Below.heap_alloc _ _ _ (Nat.lt_of_lt_of_le HBW.out.2 hsx)).trans hRx
  have hYA : (x.alloc (.cells #[.string ⟨#[114, 111, 111, 116]⟩, .int .i64 (-1), .int .i64 1, .bool false, .int .u64 0, .string ⟨#[97]⟩, .int .i64 0, .int .i64 1, .bool false, .int .u64 0] 41)).heap[x.heap.size]? = some (.cells #[.string ⟨#[114, 111, 111, 116]⟩, .int .i64 (-1), .int .i64 1, .bool false, .int .u64 0, .string ⟨#[97]⟩, .int .i64 0, .int .i64 1, .bool false, .int .u64 0] 41 (0, 0)) := heap_alloc_new x _
  have hBY : Below w.heap.size w (x.alloc (.cells #[.string ⟨#[114, 111, 111, 116]⟩, .int .i64 (-1), .int .i64 1, .bool false, .int .u64 0, .string ⟨#[97]⟩, .int .i64 0, .int .i64 1, .bool false, .int .u64 0] 41)) := (HBW.out.1.trans (hx.mono HBW.out.1.size)).alloc (Nat.le_trans HBW.out.1.size hsx) _
  obtain ⟨Y, hY⟩ : ∃ Y, x.alloc (.cells #[.string ⟨#[114, 111, 111, 116]⟩, .int .i64 (-1), .int .i64 1, .bool false, .int .u64 0, .string ⟨#[97]⟩, .int .i64 0, .int .i64 1, .bool false, .int .u64 0] 41) = Y := ⟨_, rfl⟩
  rw [hY] at hYR hYA hBY
  have z0 : Y.cell? ⟨w.heap.size, 0, none⟩ = some (.int .i64 0) := cells_at hYR rfl
  have z1 : Y.cell? ⟨w.heap.size, 1, none⟩ = some (.int .i64 0) := cells_at hYR rfl
  have z2 : Y.cell? ⟨w.heap.size, 2, none⟩ = some (.int .i64 0) := cells_at hYR rfl
  have z3 : Y.cell? ⟨w.heap.size, 3, none⟩ = some (.int .i64 0) := cells_at hYR rfl
  have z4 : Y.cell? ⟨w.heap.size, 4, none⟩ = some (.int .i64 0) := cells_at hYR rfl
  have z5 : Y.cell? ⟨w.heap.size, 5, none⟩ = some (.int .i64 0) := cells_at hYR rfl
  have z6 : Y.cell? ⟨w.heap.size, 6, none⟩ = some (.int .i64 0) := cells_at hYR rfl
  have z7 : Y.cell? ⟨w.heap.size, 7, none⟩ = some (.int .i64 0) := cells_at hYR rfl
  have z8 : Y.cell? ⟨w.heap.size, 8, none⟩ = some (.int .i64 0) := cells_at hYR rfl
  have z9 : Y.cell? ⟨w.heap.size, 9, none⟩ = some (.slice none 0 0) := cells_at hYR rfl
  have z10 : Y.cell? ⟨w.heap.size, 10, none⟩ = some (.slice none 0 0) := cells_at hYR rfl
  have z11 : Y.cell? ⟨w.heap.size, 11, none⟩ = some (.int .i64 0) := cells_at hYR rfl
  have f0 : Y.frozen? ⟨w.heap.size, 0, none⟩ = false := frozen_at hYR
  have f1 : Y.frozen? ⟨w.heap.size, 1, none⟩ = false := frozen_at hYR
  have f2 : Y.frozen? ⟨w.heap.size, 2, none⟩ = false := frozen_at hYR
  have f3 : Y.frozen? ⟨w.heap.size, 3, none⟩ = false := frozen_at hYR
  have f4 : Y.frozen? ⟨w.heap.size, 4, none⟩ = false := frozen_at hYR
  have f5 : Y.frozen? ⟨w.heap.size, 5, none⟩ = false := frozen_at hYR
  have f6 : Y.frozen? ⟨w.heap.size, 6, none⟩ = false := frozen_at hYR
  have f7 : Y.frozen? ⟨w.heap.size, 7, none⟩ = false := frozen_at hYR
  have f8 : Y.frozen? ⟨w.heap.size, 8, none⟩ = false := frozen_at hYR
  have f9 : Y.frozen? ⟨w.heap.size, 9, none⟩ = false := frozen_at hYR
  have f10 : Y.frozen? ⟨w.heap.size, 10, none⟩ = false := frozen_at hYR
  have f11 : Y.frozen? ⟨w.heap.size, 11, none⟩ = false := frozen_at hYR
  have hne : x.heap.size ≠ w.heap.size := by have := HBW.out.2; omega
  have HYA : Hid (Y.heap[x.heap.size]? = some (.cells #[.string ⟨#[114, 111, 111, 116]⟩, .int .i64 (-1), .int .i64 1, .bool false, .int .u64 0, .string ⟨#[97]⟩, .int .i64 0, .int .i64 1, .bool false, .int .u64 0] 41 (0, 0))) := hYA
  have HBY : Hid (Below w.heap.size w Y) := hBY
  have HNE : Hid (x.heap.size ≠ w.heap.size) := hne
  clear hRx hYR hYA hBY hx cP hsx hne
  go_wp2
  have kY : (((((((((((((Y).setCell ⟨w.heap.size, 0, none⟩ (.int .i64 4)).setCell ⟨w.heap.size, 1, none⟩ (.int .i64 8)).setCell ⟨w.heap.size, 2, none⟩ (.int .i64 10)).setCell ⟨w.heap.size, 3, none⟩ (.int .i64 1)).setCell ⟨w.heap.size, 4, none⟩ (.int .i64 0)).setCell ⟨w.heap.size, 5, none⟩ (.int .i64 0)).setCell ⟨w.heap.size, 6, none⟩ (.int .i64 100)).setCell ⟨w.heap.size, 7, none⟩ (.int .i64 100)).setCell ⟨w.heap.size, 8, none⟩ (.int .i64 9)).setCell ⟨w.heap.size, 9, none⟩ (.slice (some ⟨x.heap.size, 0, none⟩) 2 2)).setCell ⟨w.heap.size, 10, none⟩ (.slice jo n cj)).setCell ⟨w.heap.size, 11, none⟩ (.int .i64 (-1))).heap[x.heap.size]? = some (.cells #[.string ⟨#[114, 111, 111, 116]⟩, .int .i64 (-1), .int .i64 1, .bool false, .int .u64 0, .string ⟨#[97]⟩, .int .i64 0, .int .i64 1, .bool false, .int .u64 0] 41 (0, 0)) := by
    rw [Below.heap_setCell _ _ _ _ HNE.out, Below.heap_setCell _ _ _ _ HNE.out, Below.heap_setCell _ _ _ _ HNE.out, Below.heap_setCell _ _ _ _ HNE.out, Below.heap_setCell _ _ _ _ HNE.out, Below.heap_setCell _ _ _ _ HNE.out, Below.heap_setCell _ _ _ _ HNE.out, Below.heap_setCell _ _ _ _ HNE.out, Below.heap_setCell _ _ _ _ HNE.out, Below.heap_setCell _ _ _ _ HNE.out, Below.heap_setCell _ _ _ _ HNE.out, Below.heap_setCell _ _ _ _ HNE.out]
    exact HYA.out
  have hBE : Below w.heap.size w (((((((((((((Y).setCell ⟨w.heap.size, 0, none⟩ (.int .i64 4)).setCell ⟨w.heap.size, 1, none⟩ (.int .i64 8)).setCell ⟨w.heap.size, 2, none⟩ (.int .i64 10)).setCell ⟨w.heap.size, 3, none⟩ (.int .i64 1)).setCell ⟨w.heap.size, 4, none⟩ (.int .i64 0)).setCell ⟨w.heap.size, 5, none⟩ (.int .i64 0)).setCell ⟨w.heap.size, 6, none⟩ (.int .i64 100)).setCell ⟨w.heap.size, 7, none⟩ (.int .i64 100)).setCell ⟨w.heap.size, 8, none⟩ (.int .i64 9)).setCell ⟨w.heap.size, 9, none⟩ (.slice (some ⟨x.heap.size, 0, none⟩) 2 2)).setCell ⟨w.heap.size, 10, none⟩ (.slice jo n cj)).setCell ⟨w.heap.size, 11, none⟩ (.int .i64 (-1))) := ((((((((((((HBY.out).setCell (Nat.le_refl _) (.int .i64 4)).setCell (Nat.le_refl _) (.int .i64 8)).setCell (Nat.le_refl _) (.int .i64 10)).setCell (Nat.le_refl _) (.int .i64 1)).setCell (Nat.le_refl _) (.int .i64 0)).setCell (Nat.le_refl _) (.int .i64 0)).setCell (Nat.le_refl _) (.int .i64 100)).setCell (Nat.le_refl _) (.int .i64 100)).setCell (Nat.le_refl _) (.int .i64 9)).setCell (Nat.le_refl _) (.slice (some ⟨x.heap.size, 0, none⟩) 2 2)).setCell (Nat.le_refl _) (.slice jo n cj)).setCell (Nat.le_refl _) (.int .i64 (-1))
  refine bodyPost_ret (v := .agg #[.int .i64 4, .int .i64 8, .int .i64 10, .int .i64 1, .int .i64 0, .int .i64 0, .int .i64 100, .int .i64 100, .int .i64 9, .slice (some ⟨x.heap.size, 0, none⟩) 2 2, .slice jo n cj, .int .i64 (-1)]) (by simp [results, Try.results14, go_sem, *]) rfl ⟨x.heap.size, rfl, ?_, hBE⟩
  refine ⟨x.heap.size, 0, fun _ => rfl, fun k a ha => ?_⟩
  rcases k with _ | _ | k
  · simp only [exA, List.getElem?_cons_zero, Option.some.injEq] at ha
    subst ha
    exact ⟨cells_at kY rfl, cells_at kY rfl, cells_at kY rfl, cells_at kY rfl, cells_at kY rfl⟩
  · simp only [exA, List.getElem?_cons_zero, List.getElem?_cons_succ, Option.some.injEq] at ha
    subst ha
    exact ⟨cells_at kY rfl, cells_at kY rfl, cells_at kY rfl, cells_at kY rfl, cells_at kY rfl⟩
  · simp [exA] at ha
end Go.Proofs.Ytbcinapnnlfnbaa
namespace Go.Proofs.Ytbcinapnnlfnbaa
open Go.RowKit Wd Tr Cg Lg

def jEx : Jv := ⟨1, 2, 5, 1, 2, 5, 0, [0, 1]⟩
def kEx : Jv := ⟨1, 2, 5, 1, 2, 4, 0, [0, 1]⟩
def mEx : Jv := ⟨1, 2, 5, 1, 3, 2, 6, [1, 2]⟩
theorem ex_load : loadE exA = 0 := by rfl
theorem ex_0 : auditV (chkZ cEx) ⟨cEx, 9, exA, [], -1⟩ = 0 := by
  rw [ex_chk, aud_tail (by decide) ex_load (by decide) (by decide)]
  decide
theorem ex_1 : auditV (chkZ cEx) ⟨cEx, 9, exA, [jEx], -1⟩ = 0 := by
  rw [ex_chk, aud_tail (by decide) ex_load (by decide) (by decide)]
  decide
theorem ex_2 : auditV (chkZ cEx) ⟨cEx, 9, exA, [kEx], -1⟩ = 174 := by
  rw [ex_chk, aud_174 (by decide) ex_load (.inr (by decide))]
theorem ex_3 : auditV (chkZ cEx) ⟨cEx, 9, exA, [mEx, jEx], -1⟩ = 176 := by
  rw [ex_chk, aud_tail (by decide) ex_load (by decide) (by decide)]
  decide
theorem ex_in {w : World} {B : Nat} (hA : AcsAt w (some ⟨B, 0, none⟩) exA) {jo : Option Addr} {ps : List Pj} {cj : Nat} (hJ : PjsAt w jo ps) (h80 : ps.length * 80 ≤ 140737488355328) (hcj : ps.length ≤ cj) (hn : jo = none → ps = [] ∧ cj = 0) (hs : ∀ p ∈ ps, p.v.set.length = 2 ∧ p.sc = 2 ∧ p.sa ≠ none) : StIn w (some ⟨B, 0, none⟩) exA 2 jo ps cj where
  acs := hA
  us := fun n a ha => by
    rcases n with _ | _ | n
    · simp only [exA, List.getElem?_cons_zero, Option.some.injEq] at ha
      subst ha
      exact ⟨by decide, by decide⟩
    · simp only [exA, List.getElem?_cons_zero, List.getElem?_cons_succ, Option.some.injEq] at ha
      subst ha
      exact ⟨by decide, by decide⟩
    · simp [exA] at ha
  nm := fun a ha => by
    simp only [exA, List.mem_cons, List.not_mem_nil, or_false] at ha
    rcases ha with rfl | rfl <;> decide
  l48 := by decide
  cap := by decide
  anil := fun e => by cases e
  jobs := hJ
  l80 := h80
  jcap := hcj
  jnil := hn
  sl := fun p hp => by rw [(hs p hp).1]; decide
  sc := fun p hp => by rw [(hs p hp).1, (hs p hp).2.1]; exact Nat.le_refl _
  snil := fun p hp e => absurd e (hs p hp).2.2
end Go.Proofs.Ytbcinapnnlfnbaa
namespace Go.Proofs.Ytbcinapnnlfnbaa
open Go.RowKit Wd Tr Cg Lg

theorem pjs_new (W : World) (ps : List Pj) (hs : ∀ p ∈ ps, IntsAt W p.sa p.v.set) : PjsAt (W.alloc (.cells (flatJ ps).toArray 38)) (some ⟨W.heap.size, 0, none⟩) ps := by
  refine ⟨⟨W.heap.size, 0, fun _ => rfl, fun k j hj => ?_⟩, fun p hp => (hs p hp).below ((Below.refl _ W).alloc (Nat.le_refl _) _)⟩
  rw [List.getElem?_map] at hj
  cases hp : ps[k]? with
  | none => rw [hp] at hj; cases hj
  | some p =>
    rw [hp] at hj
    cases hj
    obtain ⟨e0, e1, e2, e3, e4, e5, e6, e7⟩ := flatJ_at ps k p hp
    have hc := fun j u (hu : (flatJ ps)[j]? = some u) => (show (W.alloc (.cells (flatJ ps).toArray 38)).cell? ⟨W.heap.size, 0 + j, none⟩ = some u by have := new_cells W (flatJ ps) 38 j u hu; rwa [Addr.add_lit] at this)
    exact ⟨hc _ _ e0, hc _ _ e1, hc _ _ e2, hc _ _ e3, hc _ _ e4, hc _ _ e5, hc _ _ e6, hc _ _ e7⟩
theorem ints_two {W : World} {g : Nat} {a b : Int} (h : W.heap[g]? = some (.cells #[.int .i64 a, .int .i64 b] 3 (0, 0))) : IntsAt W (some ⟨g, 0, none⟩) [a, b] := by
  refine ⟨g, 0, fun _ => rfl, fun k n hn => ?_⟩
  rcases k with _ | _ | k
  · simp at hn
    subst hn
    exact cells_at h rfl
  · simp at hn
    subst hn
    exact cells_at h rfl
  · simp at hn
theorem pjs_none (W : World) : PjsAt W none [] := ⟨⟨0, 0, fun h => absurd h (Nat.lt_irrefl 0), fun k j hj => by simp at hj⟩, fun p hp => by cases hp⟩
set_option maxRecDepth 20000 in
set_option maxHeartbeats 8000000 in
theorem shown_any (hC : AChk) (w : World) : Calls Try.prog 7 #[] w fun e w' => e = .returned (.bool true) ∧ Below w.heap.size w w' := by
  have HC : Hid AChk := hC
  clear hC
  obtain ⟨V, hV⟩ : ∃ V, (((((w).alloc (.cells #[.int .i64 0, .int .i64 1] 3)).alloc (.cells #[.int .i64 1, .int .i64 2, .int .i64 5, .int .i64 1, .int .i64 2, .int .i64 5, .int .i64 0, .slice (some ⟨w.heap.size, 0, none⟩) 2 2] 38)).alloc (.cells #[.int .i64 1, .int .i64 2, .int .i64 5, .int .i64 1, .int .i64 2, .int .i64 4, .int .i64 0, .slice (some ⟨w.heap.size, 0, none⟩) 2 2] 38)).alloc (.cells #[.int .i64 1, .int .i64 2] 3)).alloc (.cells #[.int .i64 1, .int .i64 2, .int .i64 5, .int .i64 1, .int .i64 3, .int .i64 2, .int .i64 6, .slice (some ⟨w.heap.size + 1 + 1 + 1, 0, none⟩) 2 2] 38) = V := ⟨_, rfl⟩
  have B0 : V.heap[w.heap.size]? = some (.cells #[.int .i64 0, .int .i64 1] 3 (0, 0)) := by
    have h := heap_alloc_new (w) (.cells #[.int .i64 0, .int .i64 1] 3)
    try simp only [World.size_alloc] at h
    rw [← hV]
    exact ((Below.heap_alloc _ _ _ (by (try simp only [World.size_alloc]); omega)).trans ((Below.heap_alloc _ _ _ (by (try simp only [World.size_alloc]); omega)).trans ((Below.heap_alloc _ _ _ (by (try simp only [World.size_alloc]); omega)).trans ((Below.heap_alloc _ _ _ (by (try simp only [World.size_alloc]); omega)).trans h))))
  have B1 : V.heap[w.heap.size + 1]? = some (.cells #[.int .i64 1, .int .i64 2, .int .i64 5, .int .i64 1, .int .i64 2, .int .i64 5, .int .i64 0, .slice (some ⟨w.heap.size, 0, none⟩) 2 2] 38 (0, 0)) := by
    have h := heap_alloc_new ((w).alloc (.cells #[.int .i64 0, .int .i64 1] 3)) (.cells #[.int .i64 1, .int .i64 2, .int .i64 5, .int .i64 1, .int .i64 2, .int .i64 5, .int .i64 0, .slice (some ⟨w.heap.size, 0, none⟩) 2 2] 38)
    try simp only [World.size_alloc] at h
    rw [← hV]
    exact ((Below.heap_alloc _ _ _ (by (try simp only [World.size_alloc]); omega)).trans ((Below.heap_alloc _ _ _ (by (try simp only [World.size_alloc]); omega)).trans ((Below.heap_alloc _ _ _ (by (try simp only [World.size_alloc]); omega)).trans h)))
  have B2 : V.heap[w.heap.size + 1 + 1]? = some (.cells #[.int .i64 1, .int .i64 2, .int .i64 5, .int .i64 1, .int .i64 2, .int .i64 4, .int .i64 0, .slice (some ⟨w.heap.size, 0, none⟩) 2 2] 38 (0, 0)) := by
    have h := heap_alloc_new (((w).alloc (.cells #[.int .i64 0, .int .i64 1] 3)).alloc (.cells #[.int .i64 1, .int .i64 2, .int .i64 5, .int .i64 1, .int .i64 2, .int .i64 5, .int .i64 0, .slice (some ⟨w.heap.size, 0, none⟩) 2 2] 38)) (.cells #[.int .i64 1, .int .i64 2, .int .i64 5, .int .i64 1, .int .i64 2, .int .i64 4, .int .i64 0, .slice (some ⟨w.heap.size, 0, none⟩) 2 2] 38)
    try simp only [World.size_alloc] at h
    rw [← hV]
    exact ((Below.heap_alloc _ _ _ (by (try simp only [World.size_alloc]); omega)).trans ((Below.heap_alloc _ _ _ (by (try simp only [World.size_alloc]); omega)).trans h))
  have B3 : V.heap[w.heap.size + 1 + 1 + 1]? = some (.cells #[.int .i64 1, .int .i64 2] 3 (0, 0)) := by
    have h := heap_alloc_new ((((w).alloc (.cells #[.int .i64 0, .int .i64 1] 3)).alloc (.cells #[.int .i64 1, .int .i64 2, .int .i64 5, .int .i64 1, .int .i64 2, .int .i64 5, .int .i64 0, .slice (some ⟨w.heap.size, 0, none⟩) 2 2] 38)).alloc (.cells #[.int .i64 1, .int .i64 2, .int .i64 5, .int .i64 1, .int .i64 2, .int .i64 4, .int .i64 0, .slice (some ⟨w.heap.size, 0, none⟩) 2 2] 38)) (.cells #[.int .i64 1, .int .i64 2] 3)
    try simp only [World.size_alloc] at h
    rw [← hV]
    exact ((Below.heap_alloc _ _ _ (by (try simp only [World.size_alloc]); omega)).trans h)
  have B4 : V.heap[w.heap.size + 1 + 1 + 1 + 1]? = some (.cells #[.int .i64 1, .int .i64 2, .int .i64 5, .int .i64 1, .int .i64 3, .int .i64 2, .int .i64 6, .slice (some ⟨w.heap.size + 1 + 1 + 1, 0, none⟩) 2 2] 38 (0, 0)) := by
    have h := heap_alloc_new (((((w).alloc (.cells #[.int .i64 0, .int .i64 1] 3)).alloc (.cells #[.int .i64 1, .int .i64 2, .int .i64 5, .int .i64 1, .int .i64 2, .int .i64 5, .int .i64 0, .slice (some ⟨w.heap.size, 0, none⟩) 2 2] 38)).alloc (.cells #[.int .i64 1, .int .i64 2, .int .i64 5, .int .i64 1, .int .i64 2, .int .i64 4, .int .i64 0, .slice (some ⟨w.heap.size, 0, none⟩) 2 2] 38)).alloc (.cells #[.int .i64 1, .int .i64 2] 3)) (.cells #[.int .i64 1, .int .i64 2, .int .i64 5, .int .i64 1, .int .i64 3, .int .i64 2, .int .i64 6, .slice (some ⟨w.heap.size + 1 + 1 + 1, 0, none⟩) 2 2] 38)
    try simp only [World.size_alloc] at h
    rw [← hV]
    exact h
  have HVB : Hid (Below w.heap.size w V) := by
    rw [← hV]
    exact (((((Below.refl _ w).alloc (by (try simp only [World.size_alloc]); omega) _).alloc (by (try simp only [World.size_alloc]); omega) _).alloc (by (try simp only [World.size_alloc]); omega) _).alloc (by (try simp only [World.size_alloc]); omega) _).alloc (by (try simp only [World.size_alloc]); omega) _
  have HI0 : Hid (IntsAt V (some ⟨w.heap.size, 0, none⟩) [0, 1]) := ints_two B0
  have HI3 : Hid (IntsAt V (some ⟨w.heap.size + 1 + 1 + 1, 0, none⟩) [1, 2]) := ints_two B3
  have HJ : Hid (V.cell? ⟨w.heap.size + 1, 0, none⟩ = some (.int .i64 1) ∧ V.cell? ⟨w.heap.size + 1, 1, none⟩ = some (.int .i64 2) ∧ V.cell? ⟨w.heap.size + 1, 2, none⟩ = some (.int .i64 5) ∧ V.cell? ⟨w.heap.size + 1, 3, none⟩ = some (.int .i64 1) ∧ V.cell? ⟨w.heap.size + 1, 4, none⟩ = some (.int .i64 2) ∧ V.cell? ⟨w.heap.size + 1, 5, none⟩ = some (.int .i64 5) ∧ V.cell? ⟨w.heap.size + 1, 6, none⟩ = some (.int .i64 0) ∧ V.cell? ⟨w.heap.size + 1, 7, none⟩ = some (.slice (some ⟨w.heap.size, 0, none⟩) 2 2)) := ⟨cells_at B1 rfl, cells_at B1 rfl, cells_at B1 rfl, cells_at B1 rfl, cells_at B1 rfl, cells_at B1 rfl, cells_at B1 rfl, cells_at B1 rfl⟩
  have HK : Hid (V.cell? ⟨w.heap.size + 1 + 1, 0, none⟩ = some (.int .i64 1) ∧ V.cell? ⟨w.heap.size + 1 + 1, 1, none⟩ = some (.int .i64 2) ∧ V.cell? ⟨w.heap.size + 1 + 1, 2, none⟩ = some (.int .i64 5) ∧ V.cell? ⟨w.heap.size + 1 + 1, 3, none⟩ = some (.int .i64 1) ∧ V.cell? ⟨w.heap.size + 1 + 1, 4, none⟩ = some (.int .i64 2) ∧ V.cell? ⟨w.heap.size + 1 + 1, 5, none⟩ = some (.int .i64 4) ∧ V.cell? ⟨w.heap.size + 1 + 1, 6, none⟩ = some (.int .i64 0) ∧ V.cell? ⟨w.heap.size + 1 + 1, 7, none⟩ = some (.slice (some ⟨w.heap.size, 0, none⟩) 2 2)) := ⟨cells_at B2 rfl, cells_at B2 rfl, cells_at B2 rfl, cells_at B2 rfl, cells_at B2 rfl, cells_at B2 rfl, cells_at B2 rfl, cells_at B2 rfl⟩
  have HM : Hid (V.cell? ⟨w.heap.size + 1 + 1 + 1 + 1, 0, none⟩ = some (.int .i64 1) ∧ V.cell? ⟨w.heap.size + 1 + 1 + 1 + 1, 1, none⟩ = some (.int .i64 2) ∧ V.cell? ⟨w.heap.size + 1 + 1 + 1 + 1, 2, none⟩ = some (.int .i64 5) ∧ V.cell? ⟨w.heap.size + 1 + 1 + 1 + 1, 3, none⟩ = some (.int .i64 1) ∧ V.cell? ⟨w.heap.size + 1 + 1 + 1 + 1, 4, none⟩ = some (.int .i64 3) ∧ V.cell? ⟨w.heap.size + 1 + 1 + 1 + 1, 5, none⟩ = some (.int .i64 2) ∧ V.cell? ⟨w.heap.size + 1 + 1 + 1 + 1, 6, none⟩ = some (.int .i64 6) ∧ V.cell? ⟨w.heap.size + 1 + 1 + 1 + 1, 7, none⟩ = some (.slice (some ⟨w.heap.size + 1 + 1 + 1, 0, none⟩) 2 2)) := ⟨cells_at B4 rfl, cells_at B4 rfl, cells_at B4 rfl, cells_at B4 rfl, cells_at B4 rfl, cells_at B4 rfl, cells_at B4 rfl, cells_at B4 rfl⟩
  have HV : Hid ((((((w).alloc (.cells #[.int .i64 0, .int .i64 1] 3)).alloc (.cells #[.int .i64 1, .int .i64 2, .int .i64 5, .int .i64 1, .int .i64 2, .int .i64 5, .int .i64 0, .slice (some ⟨w.heap.size, 0, none⟩) 2 2] 38)).alloc (.cells #[.int .i64 1, .int .i64 2, .int .i64 5, .int .i64 1, .int .i64 2, .int .i64 4, .int .i64 0, .slice (some ⟨w.heap.size, 0, none⟩) 2 2] 38)).alloc (.cells #[.int .i64 1, .int .i64 2] 3)).alloc (.cells #[.int .i64 1, .int .i64 2, .int .i64 5, .int .i64 1, .int .i64 3, .int .i64 2, .int .i64 6, .slice (some ⟨w.heap.size + 1 + 1 + 1, 0, none⟩) 2 2] 38) = V) := hV
  clear B0 B1 B2 B3 B4 hV
  go_enter Try.func7, Try.ntmps7
  go_upto_region 6 with fail
  rw [HV.out]
  clear HV
  have HB0 : Hid (Below V.heap.size V V) := Below.refl _ _
  have HPa : Hid (PjsAt V none []) := pjs_none V
  have HBa : Hid (Below V.heap.size V V) := Below.refl _ _
  have cS := state_any (w := V) none 0 0
  unfold stL at cS
  dsimp only [cEx] at cS
  go_wp2_with fail
  refine cS.mono ?_
  rintro e s0 ⟨Bq, rfl, hac, hsb⟩
  have HBs : Hid (Below V.heap.size V s0) := HBa.out.trans (hsb.mono HBa.out.size)
  have cC : Calls Try.prog 8 #[.agg #[.int .i64 4, .int .i64 8, .int .i64 10, .int .i64 1, .int .i64 0, .int .i64 0, .int .i64 100, .int .i64 100, .int .i64 9, .slice (some ⟨Bq, 0, none⟩) 2 2, .slice none 0 0, .int .i64 (-1)]] s0 fun e w' => e = .returned (.int .i64 0) ∧ Below s0.heap.size s0 w' := by
    have := HC.out s0 cEx 9 (some ⟨Bq, 0, none⟩) exA 2 none [] 0 (-1) (ex_in hac (HPa.out.below hsb) (by simp) (by simp) (fun e => by exact ⟨rfl, rfl⟩) (fun p hp => by
      cases hp)) (by decide)
    rw [show auditV (chkZ cEx) ⟨cEx, 9, exA, List.map Pj.v [], -1⟩ = 0 from ex_0] at this
    exact this
  clear cS hac hsb HPa HBa
  go_wp2_with fail
  refine cC.mono ?_
  rintro e u0 ⟨rfl, hub⟩
  have HB1 : Hid (Below V.heap.size V u0) := HBs.out.trans (hub.mono HBs.out.size)
  clear cC hub HBs HB0
  obtain ⟨ej0, ej1, ej2, ej3, ej4, ej5, ej6, ej7⟩ := HJ.out
  have cj0 := cellB HB1.out ej0
  have cj1 := cellB HB1.out ej1
  have cj2 := cellB HB1.out ej2
  have cj3 := cellB HB1.out ej3
  have cj4 := cellB HB1.out ej4
  have cj5 := cellB HB1.out ej5
  have cj6 := cellB HB1.out ej6
  have cj7 := cellB HB1.out ej7
  clear ej0 ej1 ej2 ej3 ej4 ej5 ej6 ej7
  obtain ⟨a1, ha1⟩ : ∃ a1, u0.alloc (.cells #[.int .i64 1, .int .i64 2, .int .i64 5, .int .i64 1, .int .i64 2, .int .i64 5, .int .i64 0, .slice (some ⟨w.heap.size, 0, none⟩) 2 2] 38) = a1 := ⟨_, rfl⟩
  have hPa : PjsAt a1 (some ⟨u0.heap.size, 0, none⟩) [⟨jEx, some ⟨w.heap.size, 0, none⟩, 2⟩] := by rw [← ha1]; exact pjs_new u0 [⟨jEx, some ⟨w.heap.size, 0, none⟩, 2⟩] (fun p hp => by
    simp only [List.mem_cons, List.not_mem_nil, or_false] at hp
    subst hp
    exact HI0.out.below HB1.out)
  have HPa : Hid (PjsAt a1 (some ⟨u0.heap.size, 0, none⟩) [⟨jEx, some ⟨w.heap.size, 0, none⟩, 2⟩]) := hPa
  have HBa : Hid (Below V.heap.size V a1) := by rw [← ha1]; exact HB1.out.alloc HB1.out.size _
  clear hPa
  have cS := state_any (w := a1) (some ⟨u0.heap.size, 0, none⟩) 1 1
  unfold stL at cS
  dsimp only [cEx] at cS
  go_wp2_with fail
  refine cS.mono ?_
  rintro e s1 ⟨Bq, rfl, hac, hsb⟩
  have HBs : Hid (Below V.heap.size V s1) := HBa.out.trans (hsb.mono HBa.out.size)
  have cC : Calls Try.prog 8 #[.agg #[.int .i64 4, .int .i64 8, .int .i64 10, .int .i64 1, .int .i64 0, .int .i64 0, .int .i64 100, .int .i64 100, .int .i64 9, .slice (some ⟨Bq, 0, none⟩) 2 2, .slice (some ⟨u0.heap.size, 0, none⟩) 1 1, .int .i64 (-1)]] s1 fun e w' => e = .returned (.int .i64 0) ∧ Below s1.heap.size s1 w' := by
    have := HC.out s1 cEx 9 (some ⟨Bq, 0, none⟩) exA 2 (some ⟨u0.heap.size, 0, none⟩) [⟨jEx, some ⟨w.heap.size, 0, none⟩, 2⟩] 1 (-1) (ex_in hac (HPa.out.below hsb) (by simp) (by simp) (fun e => by cases e) (fun p hp => by
      simp only [List.mem_cons, List.not_mem_nil, or_false] at hp
      subst hp
      exact ⟨rfl, rfl, by simp⟩)) (show (5 : Nat) ≤ 2147483647 by decide)
    rw [show auditV (chkZ cEx) ⟨cEx, 9, exA, List.map Pj.v [⟨jEx, some ⟨w.heap.size, 0, none⟩, 2⟩], -1⟩ = 0 from ex_1] at this
    exact this
  clear cS hac hsb HPa HBa
  go_wp2_with fail
  refine cC.mono ?_
  rintro e u1 ⟨rfl, hub⟩
  have HB2 : Hid (Below V.heap.size V u1) := HBs.out.trans (hub.mono HBs.out.size)
  clear cC hub HBs HB1 ha1 cj0 cj1 cj2 cj3 cj4 cj5 cj6 cj7
  obtain ⟨ek0, ek1, ek2, ek3, ek4, ek5, ek6, ek7⟩ := HK.out
  have ck0 := cellB HB2.out ek0
  have ck1 := cellB HB2.out ek1
  have ck2 := cellB HB2.out ek2
  have ck3 := cellB HB2.out ek3
  have ck4 := cellB HB2.out ek4
  have ck5 := cellB HB2.out ek5
  have ck6 := cellB HB2.out ek6
  have ck7 := cellB HB2.out ek7
  clear ek0 ek1 ek2 ek3 ek4 ek5 ek6 ek7
  obtain ⟨a2, ha2⟩ : ∃ a2, u1.alloc (.cells #[.int .i64 1, .int .i64 2, .int .i64 5, .int .i64 1, .int .i64 2, .int .i64 4, .int .i64 0, .slice (some ⟨w.heap.size, 0, none⟩) 2 2] 38) = a2 := ⟨_, rfl⟩
  have hPa : PjsAt a2 (some ⟨u1.heap.size, 0, none⟩) [⟨kEx, some ⟨w.heap.size, 0, none⟩, 2⟩] := by rw [← ha2]; exact pjs_new u1 [⟨kEx, some ⟨w.heap.size, 0, none⟩, 2⟩] (fun p hp => by
    simp only [List.mem_cons, List.not_mem_nil, or_false] at hp
    subst hp
    exact HI0.out.below HB2.out)
  have HPa : Hid (PjsAt a2 (some ⟨u1.heap.size, 0, none⟩) [⟨kEx, some ⟨w.heap.size, 0, none⟩, 2⟩]) := hPa
  have HBa : Hid (Below V.heap.size V a2) := by rw [← ha2]; exact HB2.out.alloc HB2.out.size _
  clear hPa
  have cS := state_any (w := a2) (some ⟨u1.heap.size, 0, none⟩) 1 1
  unfold stL at cS
  dsimp only [cEx] at cS
  go_wp2_with fail
  refine cS.mono ?_
  rintro e s2 ⟨Bq, rfl, hac, hsb⟩
  have HBs : Hid (Below V.heap.size V s2) := HBa.out.trans (hsb.mono HBa.out.size)
  have cC : Calls Try.prog 8 #[.agg #[.int .i64 4, .int .i64 8, .int .i64 10, .int .i64 1, .int .i64 0, .int .i64 0, .int .i64 100, .int .i64 100, .int .i64 9, .slice (some ⟨Bq, 0, none⟩) 2 2, .slice (some ⟨u1.heap.size, 0, none⟩) 1 1, .int .i64 (-1)]] s2 fun e w' => e = .returned (.int .i64 174) ∧ Below s2.heap.size s2 w' := by
    have := HC.out s2 cEx 9 (some ⟨Bq, 0, none⟩) exA 2 (some ⟨u1.heap.size, 0, none⟩) [⟨kEx, some ⟨w.heap.size, 0, none⟩, 2⟩] 1 (-1) (ex_in hac (HPa.out.below hsb) (by simp) (by simp) (fun e => by cases e) (fun p hp => by
      simp only [List.mem_cons, List.not_mem_nil, or_false] at hp
      subst hp
      exact ⟨rfl, rfl, by simp⟩)) (show (5 : Nat) ≤ 2147483647 by decide)
    rw [show auditV (chkZ cEx) ⟨cEx, 9, exA, List.map Pj.v [⟨kEx, some ⟨w.heap.size, 0, none⟩, 2⟩], -1⟩ = 174 from ex_2] at this
    exact this
  clear cS hac hsb HPa HBa
  go_wp2_with fail
  refine cC.mono ?_
  rintro e u2 ⟨rfl, hub⟩
  have HB3 : Hid (Below V.heap.size V u2) := HBs.out.trans (hub.mono HBs.out.size)
  clear cC hub HBs HB2 ha2 ck0 ck1 ck2 ck3 ck4 ck5 ck6 ck7
  obtain ⟨em0, em1, em2, em3, em4, em5, em6, em7⟩ := HM.out
  have cm0 := cellB HB3.out em0
  have cm1 := cellB HB3.out em1
  have cm2 := cellB HB3.out em2
  have cm3 := cellB HB3.out em3
  have cm4 := cellB HB3.out em4
  have cm5 := cellB HB3.out em5
  have cm6 := cellB HB3.out em6
  have cm7 := cellB HB3.out em7
  clear em0 em1 em2 em3 em4 em5 em6 em7
  obtain ⟨ej0, ej1, ej2, ej3, ej4, ej5, ej6, ej7⟩ := HJ.out
  have cj0 := cellB HB3.out ej0
  have cj1 := cellB HB3.out ej1
  have cj2 := cellB HB3.out ej2
  have cj3 := cellB HB3.out ej3
  have cj4 := cellB HB3.out ej4
  have cj5 := cellB HB3.out ej5
  have cj6 := cellB HB3.out ej6
  have cj7 := cellB HB3.out ej7
  clear ej0 ej1 ej2 ej3 ej4 ej5 ej6 ej7
  obtain ⟨a3, ha3⟩ : ∃ a3, u2.alloc (.cells #[.int .i64 1, .int .i64 2, .int .i64 5, .int .i64 1, .int .i64 3, .int .i64 2, .int .i64 6, .slice (some ⟨w.heap.size + 1 + 1 + 1, 0, none⟩) 2 2, .int .i64 1, .int .i64 2, .int .i64 5, .int .i64 1, .int .i64 2, .int .i64 5, .int .i64 0, .slice (some ⟨w.heap.size, 0, none⟩) 2 2] 38) = a3 := ⟨_, rfl⟩
  have hPa : PjsAt a3 (some ⟨u2.heap.size, 0, none⟩) [⟨mEx, some ⟨w.heap.size + 1 + 1 + 1, 0, none⟩, 2⟩, ⟨jEx, some ⟨w.heap.size, 0, none⟩, 2⟩] := by rw [← ha3]; exact pjs_new u2 [⟨mEx, some ⟨w.heap.size + 1 + 1 + 1, 0, none⟩, 2⟩, ⟨jEx, some ⟨w.heap.size, 0, none⟩, 2⟩] (fun p hp => by
    simp only [List.mem_cons, List.not_mem_nil, or_false] at hp
    rcases hp with rfl | rfl
    · exact HI3.out.below HB3.out
    · exact HI0.out.below HB3.out)
  have HPa : Hid (PjsAt a3 (some ⟨u2.heap.size, 0, none⟩) [⟨mEx, some ⟨w.heap.size + 1 + 1 + 1, 0, none⟩, 2⟩, ⟨jEx, some ⟨w.heap.size, 0, none⟩, 2⟩]) := hPa
  have HBa : Hid (Below V.heap.size V a3) := by rw [← ha3]; exact HB3.out.alloc HB3.out.size _
  clear hPa
  have cS := state_any (w := a3) (some ⟨u2.heap.size, 0, none⟩) 2 2
  unfold stL at cS
  dsimp only [cEx] at cS
  go_wp2_with fail
  refine cS.mono ?_
  rintro e s3 ⟨Bq, rfl, hac, hsb⟩
  have HBs : Hid (Below V.heap.size V s3) := HBa.out.trans (hsb.mono HBa.out.size)
  have cC : Calls Try.prog 8 #[.agg #[.int .i64 4, .int .i64 8, .int .i64 10, .int .i64 1, .int .i64 0, .int .i64 0, .int .i64 100, .int .i64 100, .int .i64 9, .slice (some ⟨Bq, 0, none⟩) 2 2, .slice (some ⟨u2.heap.size, 0, none⟩) 2 2, .int .i64 (-1)]] s3 fun e w' => e = .returned (.int .i64 176) ∧ Below s3.heap.size s3 w' := by
    have := HC.out s3 cEx 9 (some ⟨Bq, 0, none⟩) exA 2 (some ⟨u2.heap.size, 0, none⟩) [⟨mEx, some ⟨w.heap.size + 1 + 1 + 1, 0, none⟩, 2⟩, ⟨jEx, some ⟨w.heap.size, 0, none⟩, 2⟩] 2 (-1) (ex_in hac (HPa.out.below hsb) (by simp) (by simp) (fun e => by cases e) (fun p hp => by
      simp only [List.mem_cons, List.not_mem_nil, or_false] at hp
      rcases hp with rfl | rfl
      · exact ⟨rfl, rfl, by simp⟩
      · exact ⟨rfl, rfl, by simp⟩)) (show (8 : Nat) ≤ 2147483647 by decide)
    rw [show auditV (chkZ cEx) ⟨cEx, 9, exA, List.map Pj.v [⟨mEx, some ⟨w.heap.size + 1 + 1 + 1, 0, none⟩, 2⟩, ⟨jEx, some ⟨w.heap.size, 0, none⟩, 2⟩], -1⟩ = 176 from ex_3] at this
    exact this
  clear cS hac hsb HPa HBa
  go_wp2_with fail
  refine cC.mono ?_
  rintro e u3 ⟨rfl, hub⟩
  have HB4 : Hid (Below V.heap.size V u3) := HBs.out.trans (hub.mono HBs.out.size)
  clear cC hub HBs HB3 ha3 cm0 cm1 cm2 cm3 cm4 cm5 cm6 cm7 cj0 cj1 cj2 cj3 cj4 cj5 cj6 cj7
  go_wp2
  go_ret
  exact ⟨rfl, HVB.out.trans (HB4.out.mono HVB.out.size)⟩
end Go.Proofs.Ytbcinapnnlfnbaa
