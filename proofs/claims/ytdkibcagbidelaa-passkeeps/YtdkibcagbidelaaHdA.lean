/-
  WHAT COMES IN: asks, wants, runs, lists of numbers, turns.
-/
import Derived.Test.YtdkibcagbidelaaLsA
import Derived.Test.YtdkibcagbidelaaRows
import Derived.ProofKit
import Derived.SizedLaws
import Derived.Deep.Slices
import Derived.Lib.SmallJoins
namespace Go.Proofs.Ytdkibcagbidelaa
open Go.ChangeShapes Go.WideShapes Go.ChangeAt Go.RowKit Go.Joins Pr

theorem Try.own : ownKnob Try.prog.godebug = none := by kernel_rfl
theorem Try.laidOut : laidOutB Try.prog = true := by kernel_rfl
theorem Try.cellsRun : Try.prog.cellsOf 45 = 2 := by kernel_rfl
theorem Try.bytesRun : Try.prog.bytesOf 45 = 16 := by kernel_rfl
theorem Try.cellsWant : Try.prog.cellsOf 40 = 3 := by kernel_rfl
theorem Try.bytesWant : Try.prog.bytesOf 40 = 24 := by kernel_rfl
theorem Try.cellsInt : Try.prog.cellsOf 3 = 1 := by kernel_rfl
theorem Try.bytesInt : Try.prog.bytesOf 3 = 8 := by kernel_rfl
theorem Try.cellsWants : Try.prog.cellsOf 22 = 1 := by kernel_rfl
theorem Try.cellsRuns : Try.prog.cellsOf 23 = 1 := by kernel_rfl
theorem Try.cellsInts : Try.prog.cellsOf 28 = 1 := by kernel_rfl
theorem Try.cellsAsk : Try.prog.cellsOf 25 = 5 := by kernel_rfl
theorem Try.cellsTurn : Try.prog.cellsOf 57 = 5 := by kernel_rfl
theorem Try.bytesTurn : Try.prog.bytesOf 57 = 88 := by kernel_rfl
theorem add_none (g o j : Nat) : (⟨g, o, none⟩ : Addr).add j = ⟨g, o + j, none⟩ := by unfold Addr.add; split <;> simp_all
theorem no_sub {W : World} {g o : Nat} {s : Option _} {v : Value} (h0 : W.cell? (⟨g, o, s⟩ : Addr) = some v) : s = none := by
  cases s with
  | none => rfl
  | some t =>
    unfold World.cell? at h0
    split at h0 <;> simp at h0
theorem two_of {α : Type} {l : List α} (h : l.length = 2) : ∃ a b, l = [a, b] := by
  match l, h with
  | [a, b], _ => exact ⟨a, b, rfl⟩
theorem three_of {α : Type} {l : List α} (h : l.length = 3) : ∃ a b c, l = [a, b, c] := by
  match l, h with
  | [a, b, c], _ => exact ⟨a, b, c, rfl⟩
theorem five_of {α : Type} {l : List α} (h : l.length = 5) : ∃ a b c d e, l = [a, b, c, d, e] := by
  match l, h with
  | [a, b, c, d, e], _ => exact ⟨a, b, c, d, e, rfl⟩
theorem arr_of {α : Type} {cs : Array α} {l : List α} (h : cs.toList = l) : cs = l.toArray := by cases cs; simp_all
theorem weights_all {H : Type} {P : Program} {e : TypeId} : ∀ {l : List (DataW H)} {d : DataW H}, d ∈ l → ∀ n ∈ d.weights P e, n ∈ DataW.weightsAll P e l
  | [], d, h, n, hn => by cases h
  | x :: l, d, h, n, hn => by
    simp only [DataW.weightsAll, List.mem_append]
    rcases List.mem_cons.1 h with rfl | h
    · exact .inl hn
    · exact .inr (weights_all h n hn)
/-- A list of things of z cells that came in. -/
theorem recs_inW {H : Type} {α : Type} {enc : TypeId × Value → H} {W : World} {fuel : Nat} {ao : Option Addr} {L sc : Nat} {x : DataW H × List MemPlace} {t e by_ z : Nat} (C : α → List Value) (d : α) (ok : α → Prop) (hz : 0 < z) (hC : ∀ f, (C f).length = z)
    (hu : Try.prog.underlying t = some (.slice e)) (hce : Try.prog.cellsOf e = z) (hby : Try.prog.bytesOf e = by_)
    (one : ∀ {fuel : Nat} {cs : List Value} {x : DataW H × List MemPlace}, DataW.trod enc Try.prog W 0 (fun _ => true) true fuel e cs = some x → (∀ n ∈ x.1.weights Try.prog e, n ≤ reachBytes) → ∃ f : α, cs = C f ∧ ok f)
    (h : DataW.trod enc Try.prog W 0 (fun _ => true) true fuel t [.slice ao L sc] = some x) (hw : ∀ n ∈ x.1.weights Try.prog t, n ≤ reachBytes) :
    L * by_ ≤ 140737488351232 ∧ ∃ l : List α, l.length = L ∧ (∃ g o, (0 < l.length → ao = some ⟨g, o, none⟩) ∧ ∀ k r, l[k]? = some r → ∀ i v, (C r)[i]? = some v → W.cell? ⟨g, o + k * z + i, none⟩ = some v) ∧ (∀ r ∈ l, ok r) ∧ (ao = none → l.length = 0 ∧ sc = 0) ∧ L ≤ sc := by
  rcases Go.Deep.open_slice hu h with ⟨hc, _⟩ | ⟨a, len, cap, m, n, D, Pl, hc, _, hl, _, hm, hx, hel⟩
  · simp at hc
    obtain ⟨rfl, rfl, rfl⟩ := hc
    exact ⟨by omega, [], rfl, ⟨0, 0, fun h => (by simp at h), fun k r hk => by simp at hk⟩, fun r hr => (by cases hr), fun _ => ⟨rfl, rfl⟩, Nat.le_refl _⟩
  · simp at hc
    obtain ⟨rfl, rfl, rfl⟩ := hc
    rw [hce] at hel
    simp at hm
    subst hm
    have hb := hw ((((List.range L).map D).length + ((List.range (m - L)).map fun j => D (L + j)).length) * Try.prog.bytesOf e) (by rw [hx]; simp [DataW.weights, hu])
    rw [hby] at hb
    simp only [reachBytes, List.length_map, List.length_range] at hb
    have hel' : ∀ k, ∃ f : α, k < L → W.cells? 0 (a.add (k * z)) z = some (C f) ∧ ok f := fun k => by
      by_cases hk : k < L
      · obtain ⟨cs, h1, h2⟩ := hel k (by omega)
        obtain ⟨f, rfl, hf⟩ := one h2 (fun n hn => hw n (by rw [hx]; simp only [DataW.weights, hu]; exact List.mem_cons_of_mem _ (List.mem_append_left _ (weights_all (List.mem_map_of_mem (List.mem_range.2 hk)) n hn))))
        exact ⟨f, fun _ => ⟨h1, hf⟩⟩
      · exact ⟨d, fun h => absurd h hk⟩
    obtain ⟨f, hf⟩ := Classical.axiomOfChoice hel'
    have hget : ∀ k r, ((List.range L).map f)[k]? = some r → k < L ∧ r = f k := fun k r hr => by
      obtain ⟨hk, e⟩ := List.getElem?_eq_some_iff.1 hr
      simp at hk e
      exact ⟨hk, e.symm⟩
    have hLm : L * by_ ≤ (L + (m - L)) * by_ := Nat.mul_le_mul_right _ (Nat.le_add_right _ _)
    refine ⟨by omega, (List.range L).map f, by simp, ?_, fun r hr => ?_, (fun h => by cases h), hl⟩
    · by_cases hL : 0 < L
      · obtain ⟨g, o, s⟩ := a
        have hcell : ∀ k, k < L → ∀ i v, (C (f k))[i]? = some v → W.cell? ((⟨g, o, s⟩ : Addr).add (k * z + i)) = some v := fun k hk i v hv => by
          have hi : i < z := by rw [← hC (f k)]; exact (List.getElem?_eq_some_iff.1 hv).1
          obtain ⟨_, hlen, hcell⟩ := World.cells?_some (hf k hk).1
          have h0 := hcell i (by omega)
          rw [Go.Deep.add_add] at h0
          rw [h0]
          exact hv
        have hs : s = none := by
          obtain ⟨v, hv⟩ : ∃ v, (C (f 0))[0]? = some v := ⟨_, List.getElem?_eq_getElem (by rw [hC]; omega)⟩
          have h0 := hcell 0 hL 0 v hv
          have e : (⟨g, o, s⟩ : Addr).add (0 * z + 0) = ⟨g, o, s⟩ := by unfold Addr.add; simp
          rw [e] at h0
          exact no_sub h0
        subst hs
        refine ⟨g, o, fun _ => rfl, fun k r hk i v hv => ?_⟩
        obtain ⟨hkL, rfl⟩ := hget k r hk
        have := hcell k hkL i v hv
        rwa [Addr.add_lit, ← Nat.add_assoc] at this
      · exact ⟨0, 0, fun h => by simp at h; omega, fun k r hk => absurd (hget k r hk).1 (by omega)⟩
    · obtain ⟨k, hk⟩ := List.getElem?_of_mem hr
      obtain ⟨hkL, rfl⟩ := hget k r hk
      exact (hf k hkL).2
theorem wf_job {x : Int} (h : (Lit.int .i64 x).wf = true) : -9223372036854775808 ≤ x ∧ x ≤ 9223372036854775807 := by
  simp [Lit.wf, IntKind.min, IntKind.max, IntKind.signed, IntKind.bits] at h
  omega
def wtC (r : Wt) : List Value := [.int .i64 r.job, .int .i64 r.nd, .int .i64 r.lm]
def rnC (r : Rn) : List Value := [.int .i64 r.nd, .int .i64 r.en]
def JobOk (r : Wt) : Prop := -9223372036854775808 ≤ r.job ∧ r.job ≤ 9223372036854775807
section
variable {H : Type} {enc : TypeId × Value → H} {W : World}
theorem want_in {fuel : Nat} {cs : List Value} {x : DataW H × List MemPlace} (h : DataW.trod enc Try.prog W 0 (fun _ => true) true fuel 40 cs = some x) : ∃ f : Wt, cs = wtC f ∧ JobOk f := by
  obtain ⟨xs, n, _, rfl, hl, hlen, hf⟩ := DataW.trod_struct Try.underlying40 h
  rw [Try.cellsWant] at hl
  obtain ⟨c0, c1, c2, rfl⟩ := three_of hl
  obtain ⟨y0, y1, y2, rfl⟩ := three_of (l := xs) hlen
  clear h
  have h0 := hf 0 _ rfl
  have h1 := hf 1 _ rfl
  have h2 := hf 2 _ rfl
  simp [Try.cellsInt] at h0 h1 h2
  obtain ⟨z0, e0, _, w0⟩ := DataW.trod_int Try.underlying3 h0
  obtain ⟨z1, e1, _, _⟩ := DataW.trod_int Try.underlying3 h1
  obtain ⟨z2, e2, _, _⟩ := DataW.trod_int Try.underlying3 h2
  simp at e0 e1 e2
  subst e0 e1 e2
  exact ⟨⟨z0, z1, z2⟩, rfl, wf_job w0⟩
theorem run_in {fuel : Nat} {cs : List Value} {x : DataW H × List MemPlace} (h : DataW.trod enc Try.prog W 0 (fun _ => true) true fuel 45 cs = some x) : ∃ f : Rn, cs = rnC f ∧ True := by
  obtain ⟨xs, n, _, rfl, hl, hlen, hf⟩ := DataW.trod_struct Try.underlying45 h
  rw [Try.cellsRun] at hl
  obtain ⟨c0, c1, rfl⟩ := two_of hl
  obtain ⟨y0, y1, rfl⟩ := two_of (l := xs) hlen
  clear h
  have h0 := hf 0 _ rfl
  have h1 := hf 1 _ rfl
  simp [Try.cellsInt] at h0 h1
  obtain ⟨z0, e0, _, _⟩ := DataW.trod_int Try.underlying3 h0
  obtain ⟨z1, e1, _, _⟩ := DataW.trod_int Try.underlying3 h1
  simp at e0 e1
  subst e0 e1
  exact ⟨⟨z0, z1⟩, rfl, trivial⟩
theorem wants_in {fuel : Nat} {ao : Option Addr} {L sc : Nat} {x : DataW H × List MemPlace} (h : DataW.trod enc Try.prog W 0 (fun _ => true) true fuel 22 [.slice ao L sc] = some x) (hw : ∀ n ∈ x.1.weights Try.prog 22, n ≤ reachBytes) :
    L * 24 ≤ 140737488351232 ∧ ∃ l : List Wt, l.length = L ∧ WantsAt W ao l ∧ (∀ r ∈ l, JobOk r) ∧ (ao = none → l = [] ∧ sc = 0) ∧ L ≤ sc := by
  obtain ⟨h1, l, h2, ⟨g, o, h3, h4⟩, h5, h6, h7⟩ := recs_inW wtC ⟨0, 0, 0⟩ JobOk (by decide) (fun _ => rfl) Try.underlying22 Try.cellsWant Try.bytesWant (fun hx _ => want_in hx) h hw
  exact ⟨h1, l, h2, ⟨g, o, h3, fun k r hr => ⟨h4 k r hr 0 _ rfl, h4 k r hr 1 _ rfl, h4 k r hr 2 _ rfl⟩⟩, h5, fun e => ⟨List.length_eq_zero_iff.1 (h6 e).1, (h6 e).2⟩, h7⟩
theorem runs_in {fuel : Nat} {ao : Option Addr} {L sc : Nat} {x : DataW H × List MemPlace} (h : DataW.trod enc Try.prog W 0 (fun _ => true) true fuel 23 [.slice ao L sc] = some x) (hw : ∀ n ∈ x.1.weights Try.prog 23, n ≤ reachBytes) :
    L * 16 ≤ 140737488351232 ∧ ∃ l : List Rn, l.length = L ∧ RunsAt W ao l ∧ (ao = none → l = [] ∧ sc = 0) ∧ L ≤ sc := by
  obtain ⟨h1, l, h2, ⟨g, o, h3, h4⟩, _, h6, h7⟩ := recs_inW rnC ⟨0, 0⟩ (fun _ => True) (by decide) (fun _ => rfl) Try.underlying23 Try.cellsRun Try.bytesRun (fun hx _ => run_in hx) h hw
  exact ⟨h1, l, h2, ⟨g, o, h3, fun k r hr => ⟨h4 k r hr 0 _ rfl, h4 k r hr 1 _ rfl⟩⟩, fun e => ⟨List.length_eq_zero_iff.1 (h6 e).1, (h6 e).2⟩, h7⟩
theorem ints_in {fuel : Nat} {ao : Option Addr} {L sc : Nat} {x : DataW H × List MemPlace} (h : DataW.trod enc Try.prog W 0 (fun _ => true) true fuel 28 [.slice ao L sc] = some x) (hw : ∀ n ∈ x.1.weights Try.prog 28, n ≤ reachBytes) :
    L * 8 ≤ 140737488351232 ∧ ∃ l : List Int, l.length = L ∧ IntsAt W ao l ∧ (ao = none → l = [] ∧ sc = 0) ∧ L ≤ sc := by
  obtain ⟨h1, l, h2, ⟨g, o, h3, h4⟩, _, h6, h7⟩ := recs_inW (fun n : Int => [Value.int .i64 n]) 0 (fun _ => True) (by decide) (fun _ => rfl) Try.underlying28 Try.cellsInt Try.bytesInt
    (fun hx _ => by obtain ⟨z, e, _, _⟩ := DataW.trod_int Try.underlying3 hx; exact ⟨z, e, trivial⟩) h hw
  refine ⟨h1, l, h2, ⟨g, o, h3, fun k r hr => ?_⟩, fun e => ⟨List.length_eq_zero_iff.1 (h6 e).1, (h6 e).2⟩, h7⟩
  have := h4 k r hr 0 _ rfl
  rwa [Nat.mul_one, Nat.add_zero] at this
theorem slice_in {fuel : Nat} {t e : TypeId} {c : Value} {x : DataW H × List MemPlace} (hu : Try.prog.underlying t = some (.slice e)) (h : DataW.trod enc Try.prog W 0 (fun _ => true) true fuel t [c] = some x) : ∃ sa sl sc, c = Value.slice sa sl sc := by
  rcases Go.Deep.open_slice hu h with ⟨hc, _⟩ | ⟨a, len, cap, m, n, D, Pl, hc, _⟩
  · exact ⟨none, 0, 0, by simpa using hc⟩
  · exact ⟨some a, len, cap, by simpa using hc⟩
set_option maxRecDepth 20000 in
/-- An ask that came in. -/
theorem ask_in {b0 : Nat} {r : Reach} {v : Value} {d : DataW H} {p : List MemPlace} (hv : Value.okWide Try.prog W r b0 25 v) (h : DataW.Trod enc Try.prog W 0 (fun _ => true) true 25 v d p) (hw : ∀ n ∈ d.weights Try.prog 25, n ≤ reachBytes) :
    ∃ (now free ho : Int) (wo : Option Addr) (ws : List Wt) (cw : Nat) (ao : Option Addr) (rs : List Rn) (cr : Nat), v = .agg #[.int .i64 now, .int .i64 free, .slice wo ws.length cw, .int .i64 ho, .slice ao rs.length cr] ∧
      WantsAt W wo ws ∧ RunsAt W ao rs ∧ ws.length * 24 ≤ 140737488351232 ∧ rs.length * 16 ≤ 140737488351232 ∧ (∀ x ∈ ws, JobOk x) ∧ (wo = none → ws = [] ∧ cw = 0) ∧ (ao = none → rs = [] ∧ cr = 0) ∧ ws.length ≤ cw ∧ rs.length ≤ cr := by
  obtain ⟨cs, rfl, hsz⟩ := okWide_struct Try.underlying25 hv
  obtain ⟨fuel, hf0⟩ := h
  obtain ⟨xs, n, _, hd0, hl, hlen, hf⟩ := DataW.trod_struct Try.underlying25 hf0
  obtain ⟨c0, c1, c2, c3, c4, hcs⟩ := five_of (l := cs.toList) (by simpa using hsz.trans Try.cellsAsk)
  obtain rfl := arr_of hcs
  obtain ⟨y0, y1, y2, y3, y4, rfl⟩ := five_of (l := xs) hlen
  clear hcs
  have h0 := hf 0 _ rfl
  have h1 := hf 1 _ rfl
  have h2 := hf 2 _ rfl
  have h3 := hf 3 _ rfl
  have h4 := hf 4 _ rfl
  simp [Try.cellsInt, Try.cellsWants, Try.cellsRuns, Value.cells] at h0 h1 h2 h3 h4
  obtain ⟨z0, e0, _, _⟩ := DataW.trod_int Try.underlying3 h0
  obtain ⟨z1, e1, _, _⟩ := DataW.trod_int Try.underlying3 h1
  obtain ⟨z3, e3, _, _⟩ := DataW.trod_int Try.underlying3 h3
  have hw2 : ∀ k ∈ y2.1.weights Try.prog 22, k ≤ reachBytes := fun k hk => hw k (by rw [(Prod.mk.inj hd0).1]; simp only [DataW.weights, Try.underlying25]; exact DataW.weights_mem_each (j := 2) (t := 22) rfl rfl k hk)
  have hw4 : ∀ k ∈ y4.1.weights Try.prog 23, k ≤ reachBytes := fun k hk => hw k (by rw [(Prod.mk.inj hd0).1]; simp only [DataW.weights, Try.underlying25]; exact DataW.weights_mem_each (j := 4) (t := 23) rfl rfl k hk)
  obtain ⟨wo, L, cw, ea⟩ := slice_in Try.underlying22 h2
  obtain ⟨ao, N, cr, er⟩ := slice_in Try.underlying23 h4
  simp at e0 e1 e3
  subst e0 e1 e3 ea er
  obtain ⟨hb1, ws, rfl, a1, a2, a3, a4⟩ := wants_in h2 hw2
  obtain ⟨hb2, rs, rfl, r1, r3, r4⟩ := runs_in h4 hw4
  exact ⟨z0, z1, z3, wo, ws, cw, ao, rs, cr, rfl, a1, r1, hb1, hb2, a2, a3, r3, a4, r4⟩
set_option maxRecDepth 20000 in
/-- A want that came in, by value. -/
theorem want1_in {b0 : Nat} {r : Reach} {v : Value} {d : DataW H} {p : List MemPlace} (hv : Value.okWide Try.prog W r b0 40 v) (h : DataW.Trod enc Try.prog W 0 (fun _ => true) true 40 v d p) : ∃ x : Wt, v = .agg #[.int .i64 x.job, .int .i64 x.nd, .int .i64 x.lm] ∧ JobOk x := by
  obtain ⟨cs, rfl, hsz⟩ := okWide_struct Try.underlying40 hv
  obtain ⟨fuel, hf0⟩ := h
  obtain ⟨x, hx, hj⟩ := want_in hf0
  have hcs : cs.toList = wtC x := hx
  obtain rfl := arr_of hcs
  exact ⟨x, rfl, hj⟩
end
/-- A turn. -/
structure Tn where
  tk : Int
  eo : Option Addr
  el : List Int
  ec : Nat
  co : Option Addr
  cl : List Wt
  cc : Nat
  go : Option Addr
  gl : List Int
  gc : Nat
  rd : Int
def tnC (t : Tn) : List Value := [.int .i64 t.tk, .slice t.eo t.el.length t.ec, .slice t.co t.cl.length t.cc, .slice t.go t.gl.length t.gc, .int .i64 t.rd]
structure TnOk (W : World) (t : Tn) : Prop where
  e : IntsAt W t.eo t.el
  c : WantsAt W t.co t.cl
  g : IntsAt W t.go t.gl
  en : t.el.length * 8 ≤ 140737488351232
  cn : t.cl.length * 24 ≤ 140737488351232
  gn : t.gl.length * 8 ≤ 140737488351232
  j : ∀ x ∈ t.cl, JobOk x
  r : -9223372036854775808 ≤ t.rd ∧ t.rd ≤ 9223372036854775807
section
variable {H : Type} {enc : TypeId × Value → H} {W : World}
set_option maxRecDepth 20000 in
theorem turn_in {fuel : Nat} {cs : List Value} {x : DataW H × List MemPlace} (h : DataW.trod enc Try.prog W 0 (fun _ => true) true fuel 57 cs = some x) (hw : ∀ n ∈ x.1.weights Try.prog 57, n ≤ reachBytes) : ∃ f : Tn, cs = tnC f ∧ TnOk W f := by
  obtain ⟨xs, n, _, rfl, hl, hlen, hf⟩ := DataW.trod_struct Try.underlying57 h
  rw [Try.cellsTurn] at hl
  obtain ⟨c0, c1, c2, c3, c4, rfl⟩ := five_of hl
  obtain ⟨y0, y1, y2, y3, y4, rfl⟩ := five_of (l := xs) hlen
  clear h
  have h0 := hf 0 _ rfl
  have h1 := hf 1 _ rfl
  have h2 := hf 2 _ rfl
  have h3 := hf 3 _ rfl
  have h4 := hf 4 _ rfl
  simp [Try.cellsInt, Try.cellsInts, Try.cellsWants] at h0 h1 h2 h3 h4
  have hw1 : ∀ k ∈ y1.1.weights Try.prog 28, k ≤ reachBytes := fun k hk => hw k (by simp only [DataW.weights, Try.underlying57]; exact DataW.weights_mem_each (j := 1) (t := 28) rfl rfl k hk)
  have hw2 : ∀ k ∈ y2.1.weights Try.prog 22, k ≤ reachBytes := fun k hk => hw k (by simp only [DataW.weights, Try.underlying57]; exact DataW.weights_mem_each (j := 2) (t := 22) rfl rfl k hk)
  have hw3 : ∀ k ∈ y3.1.weights Try.prog 28, k ≤ reachBytes := fun k hk => hw k (by simp only [DataW.weights, Try.underlying57]; exact DataW.weights_mem_each (j := 3) (t := 28) rfl rfl k hk)
  obtain ⟨z0, e0, _, _⟩ := DataW.trod_int Try.underlying3 h0
  obtain ⟨z4, e4, _, w4⟩ := DataW.trod_int Try.underlying3 h4
  obtain ⟨eo, el, ec, e1⟩ := slice_in Try.underlying28 h1
  obtain ⟨co, cl, cc, e2⟩ := slice_in Try.underlying22 h2
  obtain ⟨go, gl, gc, e3⟩ := slice_in Try.underlying28 h3
  simp at e0 e4
  subst e0 e1 e2 e3 e4
  obtain ⟨b1, l1, rfl, i1, _, _⟩ := ints_in h1 hw1
  obtain ⟨b2, l2, rfl, i2, j2, _, _⟩ := wants_in h2 hw2
  obtain ⟨b3, l3, rfl, i3, _, _⟩ := ints_in h3 hw3
  exact ⟨⟨z0, eo, l1, ec, co, l2, cc, go, l3, gc, z4⟩, rfl, ⟨i1, i2, i3, b1, b2, b3, j2, wf_job w4⟩⟩
/-- Turns that lie in memory. -/
def TurnsAt (W : World) (ao : Option Addr) (l : List Tn) : Prop := ∃ g o, (0 < l.length → ao = some ⟨g, o, none⟩) ∧ ∀ k t, l[k]? = some t → ∀ i v, (tnC t)[i]? = some v → W.cell? ⟨g, o + k * 5 + i, none⟩ = some v
theorem turns_in {fuel : Nat} {ao : Option Addr} {L sc : Nat} {x : DataW H × List MemPlace} (h : DataW.trod enc Try.prog W 0 (fun _ => true) true fuel 49 [.slice ao L sc] = some x) (hw : ∀ n ∈ x.1.weights Try.prog 49, n ≤ reachBytes) :
    L * 88 ≤ 140737488351232 ∧ ∃ l : List Tn, l.length = L ∧ TurnsAt W ao l ∧ (∀ t ∈ l, TnOk W t) := by
  obtain ⟨h1, l, h2, h3, h5, _, _⟩ := recs_inW tnC ⟨0, none, [], 0, none, [], 0, none, [], 0, 0⟩ (TnOk W) (by decide) (fun _ => rfl) Try.underlying49 Try.cellsTurn Try.bytesTurn (fun hx hy => turn_in hx hy) h hw
  exact ⟨h1, l, h2, h3, h5⟩
end
end Go.Proofs.Ytdkibcagbidelaa
