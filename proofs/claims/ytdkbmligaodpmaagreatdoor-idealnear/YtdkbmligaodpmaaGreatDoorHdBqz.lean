/-
 WHAT COMES IN: jobs, steps, ticks.
-/
import Derived.Test.YtdkbmligaodpmaaGreatDoorHedqz
import Derived.Test.YtdkbmligaodpmaaGreatDoorXplz
namespace Go.Proofs.YtdkbmligaodpmaaGreatDoor
open Go.ChangeShapes Go.WideShapes Go.ChangeAt Go.RowKit Go.Joins Wd Ld Cg Tr

theorem weights_all {H : Type} {P : Program} {e : TypeId} : ∀ {l : List (DataW H)} {d : DataW H}, d ∈ l → ∀ n ∈ d.weights P e, n ∈ DataW.weightsAll P e l
 | [], d, h, n, hn => by cases h
 | x :: l, d, h, n, hn => by
  simp only [DataW.weightsAll, List.mem_append]
  rcases List.mem_cons.1 h with rfl | h
  ·exact .inl hn
  ·exact .inr (weights_all h n hn)
theorem Tryz.cellsJob : Tryz.prog.cellsOf 39 = 8 := by kernel_rfl
theorem Tryz.cellsInts : Tryz.prog.cellsOf 37 = 1 := by kernel_rfl
theorem Tryz.bytesInt8 : Tryz.prog.bytesOf 3 = 8 := by kernel_rfl
theorem Tryz.cellsStep : Tryz.prog.cellsOf 41 = 13 := by kernel_rfl
theorem Tryz.bytesStep : Tryz.prog.bytesOf 41 = 120 := by kernel_rfl
theorem Tryz.cellsTick : Tryz.prog.cellsOf 120 = 2 := by kernel_rfl
theorem Tryz.bytesTick : Tryz.prog.bytesOf 120 = 48 := by kernel_rfl
theorem wf_i64 {x : Int} (h : (Lit.int .i64 x).wf = true) : I64 x := by
 simp [Lit.wf, IntKind.min, IntKind.max, IntKind.signed, IntKind.bits] at h
 exact ⟨by omega, by omega⟩
theorem recs_inW {H : Type} {α : Type} {enc : TypeId × Value → H} {W : World} {fuel : Nat} {ao : Option Addr} {L sc : Nat} {x : DataW H × List MemPlace} {t e by_ z : Nat} (C : α → List Value) (d : α) (ok : α → Prop) (hz : 0 < z) (hC : ∀ f, (C f).length = z)
  (hu : Tryz.prog.underlying t = some (.slice e)) (hce : Tryz.prog.cellsOf e = z) (hby : Tryz.prog.bytesOf e = by_)
  (one : ∀ {fuel : Nat} {cs : List Value} {x : DataW H × List MemPlace}, DataW.trod enc Tryz.prog W 0 (fun _ => true) true fuel e cs = some x → (∀ n ∈ x.1.weights Tryz.prog e, n ≤ reachBytes) → ∃ f : α, cs = C f ∧ ok f)
  (h : DataW.trod enc Tryz.prog W 0 (fun _ => true) true fuel t [.slice ao L sc] = some x) (hw : ∀ n ∈ x.1.weights Tryz.prog t, n ≤ reachBytes) :
  L * by_ ≤ 140737488351232 ∧ ∃ l : List α, l.length = L ∧ (∃ g o, (0 < l.length → ao = some ⟨g, o, none⟩) ∧ ∀ k r, l[k]? = some r → ∀ i v, (C r)[i]? = some v → W.cell? ⟨g, o + k * z + i, none⟩ = some v) ∧ (∀ r ∈ l, ok r) ∧ (ao = none → l.length = 0 ∧ sc = 0) ∧ L ≤ sc := by
 rcases Go.Deep.open_slice hu h with ⟨hc, _⟩ | ⟨a, len, cap, m, n, D, Pl, hc, _, hl, _, hm, hx, hel⟩
 ·simp at hc
  obtain ⟨rfl, rfl, rfl⟩ := hc
  exact ⟨by omega, [], rfl, ⟨0, 0, fun h => (by simp at h), fun k r hk => by simp at hk⟩, fun r hr => (by cases hr), fun _ => ⟨rfl, rfl⟩, Nat.le_refl _⟩
 ·simp at hc
  obtain ⟨rfl, rfl, rfl⟩ := hc
  rw [hce] at hel
  simp at hm
  subst hm
  have hb := hw ((((List.range L).map D).length + ((List.range (m - L)).map fun j => D (L + j)).length) * Tryz.prog.bytesOf e) (by rw [hx]; simp [DataW.weights, hu])
  rw [hby] at hb
  simp only [reachBytes, List.length_map, List.length_range] at hb
  have hel' : ∀ k, ∃ f : α, k < L → W.cells? 0 (a.add (k * z)) z = some (C f) ∧ ok f := fun k => by
   by_cases hk : k < L
   ·obtain ⟨cs, h1, h2⟩ := hel k (by omega)
    obtain ⟨f, rfl, hf⟩ := one h2 (fun n hn => hw n (by rw [hx]; simp only [DataW.weights, hu]; exact List.mem_cons_of_mem _ (List.mem_append_left _ (weights_all (List.mem_map_of_mem (List.mem_range.2 hk)) n hn))))
    exact ⟨f, fun _ => ⟨h1, hf⟩⟩
   ·exact ⟨d, fun h => absurd h hk⟩
  obtain ⟨f, hf⟩ := Classical.axiomOfChoice hel'
  have hget : ∀ k r, ((List.range L).map f)[k]? = some r → k < L ∧ r = f k := fun k r hr => by
   obtain ⟨hk, e⟩ := List.getElem?_eq_some_iff.1 hr
   simp at hk e
   exact ⟨hk, e.symm⟩
  have hLm : L * by_ ≤ (L + (m - L)) * by_ := Nat.mul_le_mul_right _ (Nat.le_add_right _ _)
  refine ⟨by omega, (List.range L).map f, by simp, ?_, fun r hr => ?_, (fun h => by cases h), hl⟩
  ·by_cases hL : 0 < L
   ·obtain ⟨g, o, s⟩ := a
    have hcell : ∀ k, k < L → ∀ i v, (C (f k))[i]? = some v → W.cell? ((⟨g, o, s⟩ : Addr).add (k * z + i)) = some v := fun k hk i v hv => by
     have hi : i < z := by rw [← hC (f k)]; exact (List.getElem?_eq_some_iff.1 hv).1
     obtain ⟨_, hlen, hcell⟩ := World.cells?_some (hf k hk).1
     have h0 := hcell i (by omega)
     rw [Go.Deep.add_add] at h0
     rw [h0]
     exact hv
    have hs : s = none := by
     obtain ⟨v, hv⟩ : ∃ v, (C (f 0))[0]? = some v := ⟨_, List.getElem?_eq_getElem (by rw [hC]; omega)⟩
     have h0 := hcell 0 hL 0 v hv
     have e : (⟨g, o, s⟩ : Addr).add (0 * z + 0) = ⟨g, o, s⟩ := by unfold Addr.add; simp
     rw [e] at h0
     exact no_sub h0
    subst hs
    refine ⟨g, o, fun _ => rfl, fun k r hk i v hv => ?_⟩
    obtain ⟨hkL, rfl⟩ := hget k r hk
    have := hcell k hkL i v hv
    rwa [Addr.add_lit, ← Nat.add_assoc] at this
   ·exact ⟨0, 0, fun h => by simp at h; omega, fun k r hk => absurd (hget k r hk).1 (by omega)⟩
  ·obtain ⟨k, hk⟩ := List.getElem?_of_mem hr
   obtain ⟨hkL, rfl⟩ := hget k r hk
   exact (hf k hkL).2
def JbOk (j : Jb) : Prop := I64 j.ac ∧ I64 j.no ∧ I64 j.su
theorem six {α : Type} {l : List α} (h : l.length = 6) : ∃ a b c d e f, l = [a, b, c, d, e, f] := by
 match l, h with
 | [a, b, c, d, e, f], _ => exact ⟨a, b, c, d, e, f, rfl⟩
theorem two_of {α : Type} {l : List α} (h : l.length = 2) : ∃ a b, l = [a, b] := by
 match l, h with
 | [a, b], _ => exact ⟨a, b, rfl⟩
theorem thirteen {α : Type} {l : List α} (h : l.length = 13) : ∃ a b c d e f g i j k m n o, l = [a, b, c, d, e, f, g, i, j, k, m, n, o] := by
 match l, h with
 | [a, b, c, d, e, f, g, i, j, k, m, n, o], _ => exact ⟨a, b, c, d, e, f, g, i, j, k, m, n, o, rfl⟩
def jbC (j : Jb) : List Value := [.int .i64 j.ac, .int .i64 j.no, .int .i64 j.li, .int .i64 j.su, .int .i64 j.st, .int .i64 j.sr, .int .i64 j.en, .slice j.sa j.sl j.sc]
def spC (s : Sp) : List Value := [.int .i64 s.kd, .int .i64 s.on, .int .i64 s.a, .int .i64 s.n, .int .i64 s.now, .int .i64 s.jb.ac, .int .i64 s.jb.no, .int .i64 s.jb.li, .int .i64 s.jb.su, .int .i64 s.jb.st, .int .i64 s.jb.sr, .int .i64 s.jb.en, .slice s.jb.sa s.jb.sl s.jb.sc]
set_option maxRecDepth 20000 in
theorem job_in {H : Type} {enc : TypeId × Value → H} {W : World} {fuel : Nat} {cs : List Value} {x : DataW H × List MemPlace} (h : DataW.trod enc Tryz.prog W 0 (fun _ => true) true fuel 39 cs = some x) :
  ∃ f : Jb, cs = jbC f ∧ JbOk f := by
 obtain ⟨xs, n, _, rfl, hl, hlen, hf⟩ := DataW.trod_struct Tryz.underlying39 h
 rw [Tryz.cellsJob] at hl
 obtain ⟨c0, c1, c2, c3, c4, c5, c6, c7, rfl⟩ := eight hl
 obtain ⟨y0, y1, y2, y3, y4, y5, y6, y7, rfl⟩ := eight (l := xs) hlen
 clear h
 have h0 := hf 0 _ rfl
 have h1 := hf 1 _ rfl
 have h2 := hf 2 _ rfl
 have h3 := hf 3 _ rfl
 have h4 := hf 4 _ rfl
 have h5 := hf 5 _ rfl
 have h6 := hf 6 _ rfl
 have h7 := hf 7 _ rfl
 simp [Tryz.cellsInt, Tryz.cellsInts] at h0 h1 h2 h3 h4 h5 h6 h7
 obtain ⟨z0, e0, _, w0⟩ := DataW.trod_int Tryz.underlying3 h0
 obtain ⟨z1, e1, _, w1⟩ := DataW.trod_int Tryz.underlying3 h1
 obtain ⟨z2, e2, _, _⟩ := DataW.trod_int Tryz.underlying3 h2
 obtain ⟨z3, e3, _, w3⟩ := DataW.trod_int Tryz.underlying3 h3
 obtain ⟨z4, e4, _, _⟩ := DataW.trod_int Tryz.underlying3 h4
 obtain ⟨z5, e5, _, _⟩ := DataW.trod_int Tryz.underlying3 h5
 obtain ⟨z6, e6, _, _⟩ := DataW.trod_int Tryz.underlying3 h6
 obtain ⟨sa, sl, sc, e7⟩ : ∃ sa sl sc, c7 = Value.slice sa sl sc := by
  rcases Go.Deep.open_slice Tryz.underlying37 h7 with ⟨hc, _⟩ | ⟨a, len, cap, m, n, D, Pl, hc, _⟩
  ·exact ⟨none, 0, 0, by simpa using hc⟩
  ·exact ⟨some a, len, cap, by simpa using hc⟩
 simp at e0 e1 e2 e3 e4 e5 e6
 subst e0 e1 e2 e3 e4 e5 e6 e7
 exact ⟨⟨z0, z1, z2, z3, z4, z5, z6, sa, sl, sc⟩, rfl, wf_i64 w0, wf_i64 w1, wf_i64 w3⟩
set_option maxRecDepth 20000 in
theorem step_in {H : Type} {enc : TypeId × Value → H} {W : World} {fuel : Nat} {cs : List Value} {x : DataW H × List MemPlace} (h : DataW.trod enc Tryz.prog W 0 (fun _ => true) true fuel 41 cs = some x) :
  ∃ s : Sp, cs = spC s ∧ (I64 s.on ∧ I64 s.n) := by
 obtain ⟨xs, n, _, rfl, hl, hlen, hf⟩ := DataW.trod_struct Tryz.underlying41 h
 rw [Tryz.cellsStep] at hl
 obtain ⟨c0, c1, c2, c3, c4, c5, c6, c7, c8, c9, c10, c11, c12, rfl⟩ := thirteen hl
 obtain ⟨y0, y1, y2, y3, y4, y5, rfl⟩ := six (l := xs) hlen
 clear h
 have h0 := hf 0 _ rfl
 have h1 := hf 1 _ rfl
 have h2 := hf 2 _ rfl
 have h3 := hf 3 _ rfl
 have h4 := hf 4 _ rfl
 have h5 := hf 5 _ rfl
 simp [Tryz.cellsInt, Tryz.cellsJob] at h0 h1 h2 h3 h4 h5
 obtain ⟨z0, e0, _, _⟩ := DataW.trod_int Tryz.underlying3 h0
 obtain ⟨z1, e1, _, w1⟩ := DataW.trod_int Tryz.underlying3 h1
 obtain ⟨z2, e2, _, _⟩ := DataW.trod_int Tryz.underlying3 h2
 obtain ⟨z3, e3, _, w3⟩ := DataW.trod_int Tryz.underlying3 h3
 obtain ⟨z4, e4, _, _⟩ := DataW.trod_int Tryz.underlying3 h4
 obtain ⟨f, e5, _⟩ := job_in h5
 simp only [List.cons.injEq, and_true, jbC] at e0 e1 e2 e3 e4 e5
 obtain ⟨r0, r1, r2, r3, r4, r5, r6, r7⟩ := e5
 subst e0 e1 e2 e3 e4 r0 r1 r2 r3 r4 r5 r6 r7
 exact ⟨⟨z0, z1, z2, z3, z4, f⟩, rfl, wf_i64 w1, wf_i64 w3⟩
theorem steps_in {H : Type} {enc : TypeId × Value → H} {W : World} {fuel : Nat} {ao : Option Addr} {L sc : Nat} {x : DataW H × List MemPlace}
  (h : DataW.trod enc Tryz.prog W 0 (fun _ => true) true fuel 25 [.slice ao L sc] = some x) (hw : ∀ n ∈ x.1.weights Tryz.prog 25, n ≤ reachBytes) :
  L * 120 ≤ 140737488351232 ∧ ∃ l : List Sp, l.length = L ∧ SpsAt W ao l ∧ (∀ s ∈ l, I64 s.on ∧ I64 s.n) ∧ (ao = none → l.length = 0 ∧ sc = 0) ∧ L ≤ sc := by
 obtain ⟨h1, l, h2, ⟨g, o, h3, h4⟩, h5, h6, h7⟩ := recs_inW spC ⟨0, 0, 0, 0, 0, ⟨0, 0, 0, 0, 0, 0, 0, none, 0, 0⟩⟩ (fun s => I64 s.on ∧ I64 s.n) (by decide) (fun _ => rfl) Tryz.underlying25 Tryz.cellsStep Tryz.bytesStep (fun hx _ => step_in hx) h hw
 exact ⟨h1, l, h2, ⟨g, o, h3, fun k s hs => ⟨h4 k s hs 0 _ rfl, h4 k s hs 1 _ rfl, h4 k s hs 2 _ rfl, h4 k s hs 3 _ rfl, h4 k s hs 4 _ rfl, h4 k s hs 5 _ rfl, h4 k s hs 6 _ rfl, h4 k s hs 7 _ rfl, h4 k s hs 8 _ rfl, h4 k s hs 9 _ rfl, h4 k s hs 10 _ rfl, h4 k s hs 11 _ rfl, h4 k s hs 12 _ rfl⟩⟩, h5, h6, h7⟩
def InA (W : World) (ao : Option Addr) (l : List Int) : Prop := ∃ g o, (0 < l.length → ao = some ⟨g, o, none⟩) ∧ ∀ k x, l[k]? = some x → W.cell? ⟨g, o + k, none⟩ = some (.int .i64 x)
theorem InA.below {W W' : World} {ao : Option Addr} {l : List Int} (h : InA W ao l) (b : Below W.heap.size W W') : InA W' ao l := by
 obtain ⟨g, o, h1, h2⟩ := h
 exact ⟨g, o, h1, fun k x hk => cellB b (h2 k x hk)⟩
theorem ints_in {H : Type} {enc : TypeId × Value → H} {W : World} {fuel : Nat} {ao : Option Addr} {L sc : Nat} {x : DataW H × List MemPlace}
  (h : DataW.trod enc Tryz.prog W 0 (fun _ => true) true fuel 37 [.slice ao L sc] = some x) (hw : ∀ n ∈ x.1.weights Tryz.prog 37, n ≤ reachBytes) :
  L * 8 ≤ 140737488351232 ∧ ∃ l : List Int, l.length = L ∧ InA W ao l ∧ (∀ s ∈ l, I64 s) := by
 obtain ⟨h1, l, h2, ⟨g, o, h3, h4⟩, h5, h6, h7⟩ := recs_inW (α := Int) (fun z => [.int .i64 z]) 0 I64 Nat.one_pos (fun _ => rfl) Tryz.underlying37 Tryz.cellsInt Tryz.bytesInt8
  (fun hx _ => by obtain ⟨z, e, _, w⟩ := DataW.trod_int Tryz.underlying3 hx; exact ⟨z, e, wf_i64 w⟩) h hw
 refine ⟨h1, l, h2, ⟨g, o, h3, fun k s hs => ?_⟩, h5⟩
 have := h4 k s hs 0 _ rfl
 simpa using this
structure Tc where
 aa : Option Addr
 ca : Nat
 xs : List Int
 na : Option Addr
 cn : Nat
 ys : List Int
abbrev tcC (t : Tc) : List Value := [.slice t.aa t.xs.length t.ca, .slice t.na t.ys.length t.cn]
structure TcOk (W : World) (t : Tc) : Prop where
 a : InA W t.aa t.xs
 n : InA W t.na t.ys
 ia : ∀ x ∈ t.xs, I64 x
 in_ : ∀ x ∈ t.ys, I64 x
 la : t.xs.length * 8 ≤ 140737488351232
 ln : t.ys.length * 8 ≤ 140737488351232
theorem TcOk.below {W W' : World} {t : Tc} (h : TcOk W t) (b : Below W.heap.size W W') : TcOk W' t := ⟨h.a.below b, h.n.below b, h.ia, h.in_, h.la, h.ln⟩
def TcsAt (W : World) (ao : Option Addr) (ts : List Tc) : Prop := (∃ g o, (0 < ts.length → ao = some ⟨g, o, none⟩) ∧ ∀ k t, ts[k]? = some t → W.cell? ⟨g, o + k * 2, none⟩ = some (.slice t.aa t.xs.length t.ca) ∧ W.cell? ⟨g, o + k * 2 + 1, none⟩ = some (.slice t.na t.ys.length t.cn)) ∧ ∀ t ∈ ts, TcOk W t
theorem TcsAt.below {W W' : World} {ao : Option Addr} {ts : List Tc} (h : TcsAt W ao ts) (b : Below W.heap.size W W') : TcsAt W' ao ts := by
 obtain ⟨⟨g, o, h1, h2⟩, h3⟩ := h
 exact ⟨⟨g, o, h1, fun k t hk => ⟨cellB b (h2 k t hk).1, cellB b (h2 k t hk).2⟩⟩, fun t ht => (h3 t ht).below b⟩
set_option maxRecDepth 20000 in
theorem tick_in {H : Type} {enc : TypeId × Value → H} {W : World} {fuel : Nat} {cs : List Value} {x : DataW H × List MemPlace} (h : DataW.trod enc Tryz.prog W 0 (fun _ => true) true fuel 120 cs = some x) (hw : ∀ n ∈ x.1.weights Tryz.prog 120, n ≤ reachBytes) :
  ∃ t : Tc, cs = tcC t ∧ TcOk W t := by
 obtain ⟨xs, n, _, rfl, hl, hlen, hf⟩ := DataW.trod_struct Tryz.underlying120 h
 rw [Tryz.cellsTick] at hl
 obtain ⟨c0, c1, rfl⟩ := two_of hl
 obtain ⟨y0, y1, rfl⟩ := two_of (l := xs) hlen
 clear h
 have h0 := hf 0 _ rfl
 have h1 := hf 1 _ rfl
 simp [Tryz.cellsInts] at h0 h1
 obtain ⟨sa, sl, sc, e0⟩ : ∃ sa sl sc, c0 = Value.slice sa sl sc := by
  rcases Go.Deep.open_slice Tryz.underlying37 h0 with ⟨hc, _⟩ | ⟨a, len, cap, m, n, D, Pl, hc, _⟩
  ·exact ⟨none, 0, 0, by simpa using hc⟩
  ·exact ⟨some a, len, cap, by simpa using hc⟩
 obtain ⟨ta, tl, tc, e1⟩ : ∃ sa sl sc, c1 = Value.slice sa sl sc := by
  rcases Go.Deep.open_slice Tryz.underlying37 h1 with ⟨hc, _⟩ | ⟨a, len, cap, m, n, D, Pl, hc, _⟩
  ·exact ⟨none, 0, 0, by simpa using hc⟩
  ·exact ⟨some a, len, cap, by simpa using hc⟩
 subst e0 e1
 obtain ⟨b0, l0, rfl, i0, j0⟩ := ints_in h0 (fun k hk => hw k (by simp only [DataW.weights, Tryz.underlying120]; exact DataW.weights_mem_each (j := 0) (t := 37) rfl rfl k hk))
 obtain ⟨b1, l1, rfl, i1, j1⟩ := ints_in h1 (fun k hk => hw k (by simp only [DataW.weights, Tryz.underlying120]; exact DataW.weights_mem_each (j := 1) (t := 37) rfl rfl k hk))
 exact ⟨⟨sa, sc, l0, ta, tc, l1⟩, rfl, i0, i1, j0, j1, b0, b1⟩
theorem ticks_in {H : Type} {enc : TypeId × Value → H} {W : World} {fuel : Nat} {ao : Option Addr} {L sc : Nat} {x : DataW H × List MemPlace}
  (h : DataW.trod enc Tryz.prog W 0 (fun _ => true) true fuel 52 [.slice ao L sc] = some x) (hw : ∀ n ∈ x.1.weights Tryz.prog 52, n ≤ reachBytes) :
  L * 48 ≤ 140737488351232 ∧ ∃ l : List Tc, l.length = L ∧ TcsAt W ao l := by
 obtain ⟨h1, l, h2, ⟨g, o, h3, h4⟩, h5, h6, h7⟩ := recs_inW (fun t => tcC t) ⟨none, 0, [], none, 0, []⟩ (TcOk W) (by decide) (fun _ => rfl) Tryz.underlying52 Tryz.cellsTick Tryz.bytesTick (fun hx hy => tick_in hx hy) h hw
 exact ⟨h1, l, h2, ⟨g, o, h3, fun k t ht => ⟨h4 k t ht 0 _ rfl, h4 k t ht 1 _ rfl⟩⟩, h5⟩
end Go.Proofs.YtdkbmligaodpmaaGreatDoor
