/-
  step: what stands at its head; Take.
-/
import Derived.Test.YtmfecocbadekhaaDoorTwo
import Derived.Deep.RegionWith
import Derived.Deep.RegionHeld3
namespace Go.Proofs.YtmfecocbadekhaaDoor
open Go.RowKit Nd

/-- The world behind step's head: four blocks more. -/
def headW (w : World) (b1 d1 b2 d2 : Nat) (sec : Bool) (kind nn : Int) (la : Option Addr) (m lc : Nat) : World :=
  (((w.alloc (.cells #[.pointer (some ⟨b1, 0, none⟩), .pointer (some ⟨d1, 0, none⟩)] 36)).alloc (.cells #[.pointer (some ⟨b2, 0, none⟩), .pointer (some ⟨d2, 0, none⟩)] 36)).alloc (.cells #[.bool sec, .int .i64 kind, .int .i64 nn, .slice la m lc] 39)).alloc (.cells #[.pointer none, .pointer none] 36)
structure Head (w : World) (b1 d1 b2 d2 : Nat) (sec : Bool) (kind nn : Int) (la : Option Addr) (m lc : Nat) (N : Nat) (W : World) : Prop where
  p0 : W.cell? ⟨N, 0, none⟩ = some (.pointer (some ⟨b1, 0, none⟩))
  p1 : W.cell? ⟨N, 1, none⟩ = some (.pointer (some ⟨d1, 0, none⟩))
  o0 : W.cell? ⟨N + 1, 0, none⟩ = some (.pointer (some ⟨b2, 0, none⟩))
  o1 : W.cell? ⟨N + 1, 1, none⟩ = some (.pointer (some ⟨d2, 0, none⟩))
  x1 : W.cell? ⟨N + 2, 1, none⟩ = some (.int .i64 kind)
  x2 : W.cell? ⟨N + 2, 2, none⟩ = some (.int .i64 nn)
  x3 : W.cell? ⟨N + 2, 3, none⟩ = some (.slice la m lc)
  r0 : W.cell? ⟨N + 3, 0, none⟩ = some (.pointer none)
  r1 : W.cell? ⟨N + 3, 1, none⟩ = some (.pointer none)
  f0 : W.frozen? ⟨N + 3, 0, none⟩ = false
  f1 : W.frozen? ⟨N + 3, 1, none⟩ = false
  fp0 : W.frozen? ⟨N, 0, none⟩ = false
  fp1 : W.frozen? ⟨N, 1, none⟩ = false
theorem head_at (w : World) (b1 d1 b2 d2 : Nat) (sec : Bool) (kind nn : Int) (la : Option Addr) (m lc : Nat) :
    Head w b1 d1 b2 d2 sec kind nn la m lc w.heap.size (headW w b1 d1 b2 d2 sec kind nn la m lc) ∧ Below w.heap.size w (headW w b1 d1 b2 d2 sec kind nn la m lc) ∧ (headW w b1 d1 b2 d2 sec kind nn la m lc).heap.size = w.heap.size + 4 := by
  unfold headW
  generalize hA : (Obj.cells #[.pointer (some ⟨b1, 0, none⟩), .pointer (some ⟨d1, 0, none⟩)] 36 : Obj) = A
  generalize hB : (Obj.cells #[.pointer (some ⟨b2, 0, none⟩), .pointer (some ⟨d2, 0, none⟩)] 36 : Obj) = B
  generalize hC : (Obj.cells #[.bool sec, .int .i64 kind, .int .i64 nn, .slice la m lc] 39 : Obj) = C
  generalize hD : (Obj.cells #[.pointer none, .pointer none] 36 : Obj) = D
  have kA : ((((w.alloc A).alloc B).alloc C).alloc D).heap[w.heap.size]? = some A := by
    rw [Below.heap_alloc _ _ _ (by simp; omega), Below.heap_alloc _ _ _ (by simp; omega), Below.heap_alloc _ _ _ (by simp), heap_alloc_new]
  have kB : ((((w.alloc A).alloc B).alloc C).alloc D).heap[w.heap.size + 1]? = some B := by
    rw [Below.heap_alloc _ _ _ (by simp), Below.heap_alloc _ _ _ (by simp)]
    have := heap_alloc_new (w.alloc A) B
    simpa using this
  have kC : ((((w.alloc A).alloc B).alloc C).alloc D).heap[w.heap.size + 2]? = some C := by
    rw [Below.heap_alloc _ _ _ (by simp)]
    have := heap_alloc_new ((w.alloc A).alloc B) C
    simpa using this
  have kD : ((((w.alloc A).alloc B).alloc C).alloc D).heap[w.heap.size + 3]? = some D := by
    have := heap_alloc_new (((w.alloc A).alloc B).alloc C) D
    simpa using this
  have hb : Below w.heap.size w ((((w.alloc A).alloc B).alloc C).alloc D) := ((((Below.refl _ _).alloc (Nat.le_refl _) A).alloc (by simp) B).alloc (by simp; omega) C).alloc (by simp; omega) D
  have hz : ((((w.alloc A).alloc B).alloc C).alloc D).heap.size = w.heap.size + 4 := by simp
  generalize (((w.alloc A).alloc B).alloc C).alloc D = W at kA kB kC kD hb hz ⊢
  rw [← hA] at kA
  rw [← hB] at kB
  rw [← hC] at kC
  rw [← hD] at kD
  clear hA hB hC hD
  refine ⟨⟨?_, ?_, ?_, ?_, ?_, ?_, ?_, ?_, ?_, ?_, ?_, ?_, ?_⟩, hb, hz⟩
  · simp [World.cell?, kA]
  · simp [World.cell?, kA]
  · simp [World.cell?, kB]
  · simp [World.cell?, kB]
  · simp [World.cell?, kC]
  · simp [World.cell?, kC]
  · simp [World.cell?, kC]
  · simp [World.cell?, kD]
  · simp [World.cell?, kD]
  · simp [World.frozen?, kD]
  · simp [World.frozen?, kD]
  · simp [World.frozen?, kA]
  · simp [World.frozen?, kA]

/-- What of step's head is read again and again stands, while nothing of its blocks is turned. -/
theorem Head.chg {w W W' : World} {b1 d1 b2 d2 : Nat} {sec : Bool} {kind nn : Int} {la : Option Addr} {m lc N : Nat} {K : Nat → Prop} (c : Chg K W W') (h : Head w b1 d1 b2 d2 sec kind nn la m lc N W) (hf : W.heap.size = N + 4) (hK : ∀ i, N ≤ i → i < N + 4 → ¬ K i) : Head w b1 d1 b2 d2 sec kind nn la m lc N W' := by
  have fr : ∀ b o, N ≤ b → b < N + 4 → W.frozen? ⟨b, o, none⟩ = false → W'.frozen? ⟨b, o, none⟩ = false := fun b o h1 h2 hh => (World.frozen?_of_block (c.block b (by omega) (hK b h1 h2))).trans hh
  exact ⟨c.cell h.p0 (hK _ (by simp) (by simp)), c.cell h.p1 (hK _ (by simp) (by simp)), c.cell h.o0 (hK _ (by simp) (by simp)), c.cell h.o1 (hK _ (by simp) (by simp)), c.cell h.x1 (hK _ (by simp) (by simp)), c.cell h.x2 (hK _ (by simp) (by simp)), c.cell h.x3 (hK _ (by simp) (by simp)), c.cell h.r0 (hK _ (by simp) (by simp)), c.cell h.r1 (hK _ (by simp) (by simp)),
    fr _ _ (by simp) (by simp) h.f0, fr _ _ (by simp) (by simp) h.f1, fr _ _ (by simp) (by simp) h.fp0, fr _ _ (by simp) (by simp) h.fp1⟩

section
variable {w W wf : World} {H : Nat} {s s' : St} {sec : Bool} {kind nn : Int} {la : Option Addr} {m lc k : Nat}
theorem mv_start (h : Two w H s) : Mv (headW w s.b1 s.d1 s.b2 s.d2 sec kind nn la m lc) H s 0 (headW w s.b1 s.d1 s.b2 s.d2 sec kind nn la m lc) s :=
  Mv.refl (Mv.below h (head_at w s.b1 s.d1 s.b2 s.d2 sec kind nn la m lc).2.1).two
theorem head_of (hT : Two w H s) (g : Mv (headW w s.b1 s.d1 s.b2 s.d2 sec kind nn la m lc) H s k W s') : Head w s.b1 s.d1 s.b2 s.d2 sec kind nn la m lc w.heap.size W := by
  have hd := head_at w s.b1 s.d1 s.b2 s.d2 sec kind nn la m lc
  exact Head.chg g.chg hd.1 hd.2.2 (fun i h1 h2 hm => by have := hT.lt i (St.may_in hm); omega)
/-- The end: the blocks of step's own head may be turned. -/
theorem mv_done {K : Nat → Prop} (hT : Two w H s) (g : Mv (headW w s.b1 s.d1 s.b2 s.d2 sec kind nn la m lc) H s k W s') (c : Chg K W wf) (hK : ∀ i, K i → w.heap.size ≤ i ∧ i < w.heap.size + 4) : Mv w H s k wf s' := by
  have hd := head_at w s.b1 s.d1 s.b2 s.d2 sec kind nn la m lc
  have hz0 : 0 < w.heap.size := by have := hT.lt H (by simp [St.blks]); omega
  have hg := (Mv.below hT hd.2.1).trans g
  rw [Nat.zero_add] at hg
  have no : ∀ i ∈ s'.blks H, ¬ K i := fun i hi hk => by
    have := hK i hk
    rcases g.new i hi with h1 | h1
    · have := hT.lt i h1; omega
    · rw [hd.2.2] at h1; omega
  exact ⟨g.two.chg c (fun hk => by have := hK 0 hk; omega) no, hg.chg.trans c (fun i hi hk => by have := hK i hk; omega), hg.new, hg.kk, hg.other, hg.few⟩
end

theorem chg_pair (W : World) (a : Nat) (x y : Value) : Chg (fun i => i = a) W ((W.setCell ⟨a, 0, none⟩ x).setCell ⟨a, 1, none⟩ y) :=
  (Chg.of_gr (K := fun i => i = a) (gr_set W ⟨a, 0, none⟩ x) (fun _ hk => .inl (Option.some.inj hk).symm)).trans (Chg.of_gr (K := fun i => i = a) (gr_set _ ⟨a, 1, none⟩ y) (fun _ hk => .inl (Option.some.inj hk).symm)) (fun _ _ h => h)
theorem Chg.drewN {K : Nat → Prop} {w w' : World} (h : Chg K w w') (q : Nat) : Chg K w (w'.drewN q) := ⟨h.os, h.tape, h.output, h.size, h.block⟩
theorem Chg.drew {K : Nat → Prop} {w w' : World} (h : Chg K w w') : Chg K w w'.drew := ⟨h.os, h.tape, h.output, h.size, h.block⟩

theorem chg_pairN (W : World) (q a : Nat) (x y : Value) : Chg (fun i => i = a) W (((W.drewN q).setCell ⟨a, 0, none⟩ x).setCell ⟨a, 1, none⟩ y) := (Chg.of_below (drew_below W q) _).trans (chg_pair (W.drewN q) a x y) (fun _ _ h => h)
theorem Mv.more {w w' : World} {H k k' : Nat} {s s' : St} (h : Mv w H s k w' s') (hk : k ≤ k') : Mv w H s k' w' s' := ⟨h.two, h.chg, h.new, h.kk, h.other, by have := h.few; omega⟩
theorem full_more {es : List Ent} {e : Ent} (h : Full es) (h1 : e.co = e.xs.length) (h2 : e.xs.length ≤ 900) : Full (es ++ [e]) := by
  intro x hx
  rcases List.mem_append.1 hx with h3 | h3
  · exact h x h3
  · simp at h3
    subst h3
    exact ⟨h1, h2⟩
/-- keep, as a move. -/
theorem mv_keep {W0 W w2 : World} {H k : Nat} {s s' : St} {va ao aw : Option Addr} {co cw gw cw1 : Nat} {xs : List Int} (g : Mv W0 H s k W s') (hz0 : 0 < W0.heap.size) (hx : xs.length ≤ 256)
    (hN : Nums w2 H ao aw co cw (s'.es ++ [⟨va, xs.length, gw, cw1, xs⟩])) (hf : ∀ i ∈ foot ao aw (s'.es ++ [⟨va, xs.length, gw, cw1, xs⟩]), i ∈ foot s'.ao s'.aw s'.es ∨ i ∈ ablk va ∨ W.heap.size ≤ i)
    (hc : Chg (fun i => i = H ∨ i ∈ foot s'.ao s'.aw s'.es) W w2) (hX : ∀ i ∈ ablk va, W0.heap.size ≤ i ∧ i ∉ s'.blks H) :
    Mv W0 H s (k + 1) w2 { s' with ao := ao, aw := aw, co := co, cw := cw, es := s'.es ++ [⟨va, xs.length, gw, cw1, xs⟩] } :=
  g.kept hN (full_more g.two.full rfl (by simp; omega)) hf hc hX hz0 (by simp)

theorem step_fin {w W wf : World} {H : Nat} {s s' : St} {sec : Bool} {kind nn : Int} {la : Option Addr} {m lc k b d : Nat} (hT : Two w H s) (g : Mv (headW w s.b1 s.d1 s.b2 s.d2 sec kind nn la m lc) H s k W s') (hb : s'.b1 = b) (hd : s'.d1 = d) (hG : s'.G1 = s'.F1) {K : Nat → Prop} (c : Chg K W wf) (hK : ∀ i, K i → i = w.heap.size + 1 + 1 + 1 ∨ i = w.heap.size) (hk : k ≤ 2) :
    ∃ s'', Ending.returned (.tuple #[.agg #[.pointer (some ⟨b, 0, none⟩), .pointer (some ⟨d, 0, none⟩)], .bool true]) = .returned (.tuple #[.agg #[.pointer (some ⟨s''.b1, 0, none⟩), .pointer (some ⟨s''.d1, 0, none⟩)], .bool true]) ∧ Mv w H s 2 wf s'' ∧ s''.G1 = s''.F1 :=
  ⟨s', by rw [hb, hd], (mv_done hT g c (fun i hi => by have := hK i hi; omega)).more hk, hG⟩
theorem keep_n (H : Nat) (ao aw : Option Addr) (co cw : Nat) (es : List Ent) (va : Option Addr) (n : Nat) (xs : List Int) (w : World) (h : Nums w H ao aw co cw es) (hfew : es.length ≤ 900) (hxn : xs.length = n)
    (hv : w.ownsRow 0 3 1 (.slice va n n) n (ints xs)) (hx : n ≤ 256) (hap : ∀ i ∈ ablk va, i ≠ H ∧ i ∉ foot ao aw es) :
    Calls Tryd.prog 22 #[.pointer (some ⟨H, 0, none⟩), .slice va n n] w fun e w' => e = .returned (.tuple #[]) ∧ ∃ ao' aw' co' cw' gw cw1, Nums w' H ao' aw' co' cw' (es ++ [⟨va, xs.length, gw, cw1, xs⟩]) ∧
      (∀ i ∈ foot ao' aw' (es ++ [⟨va, xs.length, gw, cw1, xs⟩]), i ∈ foot ao aw es ∨ i ∈ ablk va ∨ w.heap.size ≤ i) ∧ Chg (fun i => i = H ∨ i ∈ foot ao aw es) w w' := by
  subst hxn
  exact keep_any H ao aw co cw es va xs.length xs w h hfew hv hx hap
theorem vals_ints (l : List Nat) : vals l = ints (l.map (fun k : Nat => (k : Int))) := by
  unfold vals ints
  rw [List.map_map]
  rfl
end Go.Proofs.YtmfecocbadekhaaDoor
