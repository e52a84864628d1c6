/-
  AgendaStays, walked.
-/
import Derived.Test.YtjmiifgofedcnaaStC
import Derived.Test.YtjmiifgofedcnaaStW
import Derived.Maps.OwnIn
import Derived.Laws.EntriesVeiled
namespace Go.Proofs.Ytjmiifgofedcnaa
open Go.RowKit Go.Shelf Ag

attribute [local go_sem] Oper.semAt_some

/-- The boxes of what came in, and of the answer. -/
structure BxA (N : Nat) (ao : Option Addr) (n c : Nat) (ad : Option Addr) (nd cd : Nat) (t : Int) (W : World) : Prop where
  l : W.cell? ⟨N, 0, none⟩ = some (.slice ao n c)
  d : W.cell? ⟨N + 1, 0, none⟩ = some (.slice ad nd cd)
  t : W.cell? ⟨N + 1 + 1, 0, none⟩ = some (.int .i64 t)
  r : W.heap[N + 1 + 1 + 1]? = some (.cells #[.bool false] 4 (0, 0))
section
variable {ao ad : Option Addr} {N n c nd cd : Nat} {t : Int} {W W' : World}
theorem BxA.new (w : World) : BxA w.heap.size ao n c ad nd cd t ((((w.alloc (.cells #[.slice ao n c] 22)).alloc (.cells #[.slice ad nd cd] 38)).alloc (.cells #[.int .i64 t] 3)).alloc (.cells #[.bool false] 4)) := by
  refine ⟨by simp [go_sem], by simp [go_sem], by simp [go_sem], ?_⟩
  have := heap_alloc_new (((w.alloc (.cells #[.slice ao n c] 22)).alloc (.cells #[.slice ad nd cd] 38)).alloc (.cells #[.int .i64 t] 3)) (.cells #[.bool false] 4)
  rwa [World.size_alloc, World.size_alloc, World.size_alloc] at this
theorem BxA.chg (h : BxA N ao n c ad nd cd t W) {K : Nat → Prop} (k : Chg K W W') (hK : ∀ j, K j → N + 4 ≤ j) : BxA N ao n c ad nd cd t W' :=
  ⟨k.cell h.l (fun e => by have : N + 4 ≤ N := hK _ e; omega), k.cell h.d (fun e => by have : N + 4 ≤ N + 1 := hK _ e; omega), k.cell h.t (fun e => by have : N + 4 ≤ N + 1 + 1 := hK _ e; omega),
    (k.block _ (Array.getElem?_eq_some_iff.1 h.r).1 (fun e => by have := hK _ e; omega)).trans h.r⟩
theorem BxA.below (h : BxA N ao n c ad nd cd t W) (b : Below W.heap.size W W') : BxA N ao n c ad nd cd t W' := h.chg (Chg.of_below b (fun _ => False)) (fun _ e => e.elim)
theorem BxA.alloc (h : BxA N ao n c ad nd cd t W) (o : Obj) : BxA N ao n c ad nd cd t (W.alloc o) := h.below ((Below.refl _ W).alloc (Nat.le_refl _) _)
end

/-- The blocks that may turn: between the boxes and the agenda's box, and behind the boxes. -/
def OkB (N A1 A2 j : Nat) : Prop := (N + 4 ≤ j ∧ j < A1) ∨ A2 + 3 ≤ j
/-- What the rounds find: the boxes, the numbers as they were at first, the numbers to drop. -/
structure HdW (N A1 A2 a g1 gd od q cap1 : Nat) (ao1 ao : Option Addr) (n c : Nat) (ad : Option Addr) (nd cd : Nat) (t : Int) (dr : Nat → Int) (L : List En) (W : World) : Prop where
  bx : BxA N ao n c ad nd cd t W
  ca : W.cell? ⟨A1, 0, none⟩ = some (.pointer (some ⟨a, 0, none⟩))
  ci : W.cell? ⟨A2, 0, none⟩ = some (.slice ao1 q cap1)
  cb : W.cell? ⟨A2 + 1, 0, none⟩ = some (.pointer (some ⟨a, 0, none⟩))
  cs : W.cell? ⟨A2 + 1 + 1, 0, none⟩ = some (.func (.func 51) #[] #[.pointer (some ⟨A2 + 1, 0, none⟩)])
  idc : ∀ j e, L[j]? = some e → W.cell? ⟨g1, j, none⟩ = some (.int .i64 e.id) ∧ A1 < g1 ∧ g1 < A2
  drc : ∀ j, j < nd → W.cell? ⟨gd, od + j, none⟩ = some (.int .i64 (dr j)) ∧ gd < N
  a12 : A1 < A2
  n1 : N + 4 ≤ A1
section
variable {N A1 A2 a g1 gd od q cap1 n c nd cd : Nat} {ao1 ao ad : Option Addr} {t : Int} {dr : Nat → Int} {L : List En} {W W' : World}
theorem HdW.chg (h : HdW N A1 A2 a g1 gd od q cap1 ao1 ao n c ad nd cd t dr L W) {K : Nat → Prop} (k : Chg K W W') (hK : ∀ j, K j → OkB N A1 A2 j) : HdW N A1 A2 a g1 gd od q cap1 ao1 ao n c ad nd cd t dr L W' := by
  have h1 := h.a12
  have h2 := h.n1
  have no : ∀ j, ¬ OkB N A1 A2 j → ¬ K j := fun j hn hk => hn (hK j hk)
  refine ⟨h.bx.chg k (fun j hj => by rcases hK j hj with h | h <;> omega), k.cell h.ca (no _ ?_), k.cell h.ci (no _ ?_), k.cell h.cb (no _ ?_), k.cell h.cs (no _ ?_), fun j e he => ?_, fun j hj => ?_, h1, h2⟩
  · rintro (h | h) <;> simp only at h <;> omega
  · rintro (h | h) <;> simp only at h <;> omega
  · rintro (h | h) <;> simp only at h <;> omega
  · rintro (h | h) <;> simp only at h <;> omega
  · obtain ⟨x1, x2, x3⟩ := h.idc j e he
    exact ⟨k.cell x1 (no _ (by rintro (h | h) <;> simp only at h <;> omega)), x2, x3⟩
  · obtain ⟨x1, x2⟩ := h.drc j hj
    exact ⟨k.cell x1 (no _ (by rintro (h | h) <;> simp only at h <;> omega)), x2⟩
theorem HdW.below (h : HdW N A1 A2 a g1 gd od q cap1 ao1 ao n c ad nd cd t dr L W) (b : Below W.heap.size W W') : HdW N A1 A2 a g1 gd od q cap1 ao1 ao n c ad nd cd t dr L W' := h.chg (Chg.of_below b (fun _ => False)) (fun _ e => e.elim)
end

/-- Within the inner loop: j have come; all that was there ahead of n's box stands. -/
structure InT (U : World) (j : Nat) (A : World) : Prop where
  bel : Below U.heap.size U A
  nbx : A.heap[U.heap.size]? = some (.cells #[.int .i64 j] 3 (0, 0))
section
variable {U A A' : World} {j : Nat}
theorem InT.below (h : InT U j A) (b : Below A.heap.size A A') : InT U j A' :=
  ⟨h.bel.trans (b.mono h.bel.size), (b.block _ (Array.getElem?_eq_some_iff.1 h.nbx).1).trans h.nbx⟩
theorem InT.putRec (h : InT U j A) {l : Nat} (hl : U.heap.size < l) (o' : Obj) : InT U j (A.putObj l o') :=
  ⟨h.bel.grown (grownBy_putObj' _ l o') h.bel.size (fun k e => by cases e; omega), (World.putObj_heap_other (by omega)).trans h.nbx⟩
theorem InT.inc (h : InT U j A) : InT U (j + 1) (A.setCell ⟨U.heap.size, 0, none⟩ (.int .i64 ((j : Int) + 1))) ∧ Chg (fun k => k = U.heap.size) A (A.setCell ⟨U.heap.size, 0, none⟩ (.int .i64 ((j : Int) + 1))) := by
  refine ⟨⟨h.bel.setCell (by simp) _, ?_⟩, (Chg.refl _ A).setCell _ _ (.inl rfl)⟩
  have := heap_setCell_same A U.heap.size 0 _ 3 (.int .i64 ((j : Int) + 1)) h.nbx
  simpa using this
end
/-- At the end: the answer is stored, the deferred calls' block is shut. -/
theorem st_fin {w W : World} {D : Nat} (hb : Below w.heap.size w W) (hr : W.heap[w.heap.size + 1 + 1 + 1]? = some (.cells #[.bool false] 4 (0, 0))) (hD : w.heap.size + 4 ≤ D) (hK : W.heap[D]? = some (.deferred (some []))) :
    (W.setCell ⟨w.heap.size + 1 + 1 + 1, 0, none⟩ (.bool true)).heap[D]? = some (.deferred (some [])) ∧
    ((W.setCell ⟨w.heap.size + 1 + 1 + 1, 0, none⟩ (.bool true)).putObj D (.deferred none)).cell? ⟨w.heap.size + 1 + 1 + 1, 0, none⟩ = some (.bool true) ∧
    Below w.heap.size w ((W.setCell ⟨w.heap.size + 1 + 1 + 1, 0, none⟩ (.bool true)).putObj D (.deferred none)) := by
  have g1 := heap_setCell_same W (w.heap.size + 1 + 1 + 1) 0 _ 4 (.bool true) hr
  refine ⟨(Below.heap_setCell _ _ _ _ (by simp; omega)).trans hK, ?_, ?_⟩
  · refine cells_at (e := 4) (cs := #[.bool true]) ?_ rfl
    rw [World.putObj_heap_other (by omega)]
    exact g1
  · have b1 := hb.setCell (p := ⟨w.heap.size + 1 + 1 + 1, 0, none⟩) (by simp; omega) (.bool true)
    exact b1.grown (grownBy_putObj' _ D (.deferred none)) b1.size (fun k e => by cases e; omega)

set_option maxRecDepth 100000 in
set_option maxHeartbeats 8000000 in
theorem stays_any {w : World} {ao : Option Addr} {n c : Nat} {f : Nat → Act5} (hA : ActsAt w ao n f) (hwf : ∀ k, k < n → wfI (f k).id ∧ wfI (f k).tm) (hn : n * 40 ≤ 140737488351232)
    {ad : Option Addr} {nd cd gd od : Nat} {dr : Nat → Int} (had : 0 < nd → ad = some ⟨gd, od, none⟩) (hdr : ∀ j, j < nd → w.cell? ⟨gd, od + j, none⟩ = some (.int .i64 (dr j)) ∧ wfI (dr j)) (hnd : nd * 8 ≤ 140737488351232) {t : Int} (ht : wfI t) :
    Calls Try.prog 6 #[.slice ao n c, .slice ad nd cd, .int .i64 t] w fun e w' => e = .returned (.bool true) ∧ Below w.heap.size w w' := by
  refine (callsIn_wide (n := 6)).1 ?_
  refine callsIn_of_wp_marks Try.func6 rfl trivial ?_ rfl
  simp only [Try.ntmps6, List.size_toArray, List.length_cons, List.length_nil, Nat.reduceAdd, Nat.reduceSub, Array.replicate_succ, Array.replicate_zero, List.push_toArray, List.append_toArray, List.nil_append, List.cons_append]
  gi_wp2_with (first
    | (refine ⟨trivial, ?_⟩; gi_at_call 8; refine (callsIn_wide.2 (shown_any _)).mono ?_; rintro e w1 ⟨rfl, b1⟩; have x1 := (BxA.new (ao := ao) (n := n) (c := c) (ad := ad) (nd := nd) (cd := cd) (t := t) w).below b1; have c1 := x1.l; have B1 : Below w.heap.size w w1 := ((((Below.refl _ w).alloc (Nat.le_refl _) _).alloc (by simp) _).alloc (by simp; omega) _).alloc (by simp; omega) _ |>.trans (b1.mono (by simp; omega)))
    | (refine ⟨trivial, ?_⟩; gi_at_call 16; refine (callsIn_wide.2 (filled_any (hA.below B1) hwf hn)).mono ?_; rintro e w2 ⟨a, m, aoa, rfl, n2⟩; have x2 := (x1.below n2.bel).alloc (.cells #[.pointer (some ⟨a, 0, none⟩)] 24); have c2 := x2.l)
    | fail)
  have hfl := fill_len f n
  generalize fillL f n = L at n2 hfl
  have hls := listed_any (n2.agn.below ((Below.refl _ w2).alloc (Nat.le_refl _) (.cells #[.pointer (some ⟨a, 0, none⟩)] 24))) ((n : Int) + 1) (by omega)
  rw [show L.take ((n : Int) + 1).toNat = L from List.take_of_length_le (by omega)] at hls
  refine ⟨trivial, (callsIn_wide.2 hls).mono ?_⟩
  clear hls
  rintro e w3 ⟨v1, v2, rfl, r1, r2, b3, hap⟩
  have el1 : (ids L).length = L.length := by simp [ids]
  have el2 : (tms L).length = L.length := by simp [tms]
  rw [← el1] at r1
  rw [← el2] at r2
  obtain ⟨ao1, cap1, g1, rfl, ha1, hc1, hB1⟩ := rd_row r1
  obtain ⟨ao2, cap2, g2, rfl, _, _, _⟩ := rd_row r2
  obtain ⟨q, hq⟩ : ∃ q, L.length = q := ⟨_, rfl⟩
  rw [el1, hq] at ha1 r1
  rw [el1, el2, hq]
  rw [hq] at hfl
  have x3 := (x2.below b3).alloc (.cells #[.slice ao1 q cap1] 38)
  have ca : w3.cell? ⟨w2.heap.size, 0, none⟩ = some (.pointer (some ⟨a, 0, none⟩)) := (Chg.of_below b3 (fun _ => False)).cell (by simp) (fun h => h)
  have ca' := cell_al ca (.cells #[.slice ao1 q cap1] 38)
  gi_wp2_with (first
    | (refine ⟨trivial, ?_⟩; gi_at_call 24; refine (callsIn_wide.2 (allI a _)).mono ?_; rintro e w4 ⟨rfl, rfl⟩)
    | fail)
  obtain ⟨V, hV⟩ : ∃ V, ((((w3.alloc (.cells #[.slice ao1 q cap1] 38)).alloc (.cells #[.pointer (some ⟨a, 0, none⟩)] 24)).alloc (.cells #[.func (.func 51) #[] #[.pointer (some ⟨w3.heap.size + 1, 0, none⟩)]] 50)).alloc (.cells #[.int .i64 0] 3)) = V := ⟨_, rfl⟩
  rw [hV]
  have sz : V.heap.size = w3.heap.size + 4 := by rw [← hV]; simp
  have b3V : Below w3.heap.size w3 V := by rw [← hV]; exact ((((Below.refl _ w3).alloc (Nat.le_refl _) _).alloc (by simp) _).alloc (by simp; omega) _).alloc (by simp; omega) _
  have z1 := b1.size
  have z2 := n2.bel.size
  have z3 := b3.size
  simp at z1 z3
  have BV : Below w.heap.size w V := (((B1.trans (n2.bel.mono (by omega))).alloc (by omega) (.cells #[.pointer (some ⟨a, 0, none⟩)] 24)).trans (b3.mono (by simp; omega))).trans (b3V.mono (by omega))
  have rV : Agn 68 76 V a m aoa L := ((n2.agn.below ((Below.refl _ w2).alloc (Nat.le_refl _) _)).below b3).below b3V
  have kag : ∀ k, Kag a m aoa k → w.heap.size + 4 ≤ k ∧ k < w2.heap.size := fun k hk => ⟨by have := n2.new k hk; omega, n2.agn.lt k hk⟩
  have hd : HdW w.heap.size w2.heap.size w3.heap.size a g1 gd od q cap1 ao1 ao n c ad nd cd t dr L V := by
    refine ⟨(x2.below b3).below b3V, (Chg.of_below b3V (fun _ => False)).cell ca (fun h => h), ?_, ?_, ?_, fun j e he => ?_, fun j hj => ?_, by omega, by omega⟩
    · rw [← hV]; simp [go_sem]
    · rw [← hV]; simp [go_sem]
    · rw [← hV]; simp [go_sem]
    · have hj : j < q := by rw [← hq]; exact (List.getElem?_eq_some_iff.1 he).1
      have e1 := ha1 (by omega)
      obtain ⟨q1, q2⟩ := hB1 g1 (by rw [e1]; rfl)
      rw [World.size_alloc] at q1
      exact ⟨(Chg.of_below b3V (fun _ => False)).cell (hc1 j e.id (by simp [ids, he])) (fun h => h), by omega, by omega⟩
    · have hc := (hdr j hj).1
      exact ⟨(Chg.of_below (BV.mono (Nat.le_refl _)) (fun _ => False)).cell hc (fun h => h), World.block_lt_of_cell? w _ hc⟩
  have hk0 : V.heap[w3.heap.size + 1 + 1 + 1]? = some (.cells #[.int .i64 0] 3 (0, 0)) := by
    rw [← hV]
    have := heap_alloc_new (((w3.alloc (.cells #[.slice ao1 q cap1] 38)).alloc (.cells #[.pointer (some ⟨a, 0, none⟩)] 24)).alloc (.cells #[.func (.func 51) #[] #[.pointer (some ⟨w3.heap.size + 1, 0, none⟩)]] 50)) (.cells #[.int .i64 0] 3)
    rwa [World.size_alloc, World.size_alloc, World.size_alloc] at this
  clear hV x1 x2 x3 ca ca' c1 c2 b1 b3 b3V hc1 hB1 r1 r2 hap B1 el1 el2
  clear n2 hA
  generalize w2.heap.size = A1 at hd kag z2 z3 ⊢
  generalize w3.heap.size = A2 at hd hk0 sz z3 ⊢
  refine range_lawH (σ := Nat × Nat × World) (F := Fence.wide) rfl (by decide) (gf := 51) rfl trivial (enters_of Try.func51 (by kernel_rfl) rfl) (fun e : En => #[.int .i64 e.id, .int .i64 e.tm]) (fun _ => rfl)
    (fun s e W => L[s.2.1]? = some e ∧ Chg (fun j => ((Kag a m aoa j ∨ j = A2 + 1 + 1 + 1) ∨ (V.heap.size ≤ j ∧ j < V.heap.size + 2)) ∨ s.1 ≤ j) s.2.2 W ∧ StT V a m aoa (A2 + 1 + 1 + 1) s.1 s.2.1 (q + s.2.1) W)
    (fun s _ W => Chg (fun j => ((Kag a m aoa j ∨ j = A2 + 1 + 1 + 1) ∨ (V.heap.size ≤ j ∧ j < V.heap.size + 2)) ∨ s.1 ≤ j) s.2.2 W ∧ StT V a m aoa (A2 + 1 + 1 + 1) s.1 (s.2.1 + 1) (q + (s.2.1 + 1)) W)
    (fun _ _ _ _ => False)
    (fun W => ∃ B, StT V a m aoa (A2 + 1 + 1 + 1) B q (q + q) W)
    (fun _ _ => False)
    ?oY ?oI ?oX ?oF ?oFX ?a1 ?assign ?body ?it ?done ?stop
  case a1 => exact fun e => { tmps := #[.slice ao n c, .slice ad nd cd, .int .i64 t, .pointer (some ⟨w.heap.size, 0, none⟩), .pointer (some ⟨w.heap.size + 1, 0, none⟩), .pointer (some ⟨w.heap.size + 1 + 1, 0, none⟩), .pointer (some ⟨w.heap.size + 1 + 1 + 1, 0, none⟩), .pointer (some ⟨A1, 0, none⟩), .pointer (some ⟨A2, 0, none⟩), .slice ao2 q cap2, .pointer (some ⟨A2 + 1 + 1, 0, none⟩), .pointer (some ⟨A2 + 1 + 1 + 1, 0, none⟩), .int .i64 e.id, undef, undef, undef, undef, .bool true, .bool false, .slice ao n c, .pointer (some ⟨a, 0, none⟩), .tuple #[.slice ao1 q cap1, .slice ao2 q cap2], .pointer (some ⟨a, 0, none⟩), .slice ao n c, .int .i64 n, .int .i64 (n + 1), .tuple #[.slice ao1 q cap1, .slice ao2 q cap2], .slice ao1 q cap1, .slice ao2 q cap2, .pointer (some ⟨a, 0, none⟩), .func (.func 51) #[] #[.pointer (some ⟨A2 + 1, 0, none⟩)], .func (.func 51) #[] #[.pointer (some ⟨A2 + 1, 0, none⟩)], .int .i64 e.id, .int .i64 e.tm, undef, undef, undef, undef, undef, undef, undef, undef, undef, undef, undef, undef, undef, undef, undef, undef, undef, undef, undef, undef, undef, undef, undef, undef, undef, undef, undef, undef, undef, undef, undef, undef, undef, undef, undef, undef, undef, undef, undef, undef, undef, undef, undef, undef, undef, undef, undef, undef, undef, undef, undef, undef, undef, undef, undef, undef, undef, undef, undef, undef, undef, undef, undef, undef, undef, undef, undef, undef, undef], defers := [] }
  case oY => exact fun s e W r o' h hr => ⟨h.1, h.2.1.putRec o' (.inl (.inl (.inr ⟨by omega, by omega⟩))), h.2.2.putRec (by omega) hr o'⟩
  case oI => exact fun s e W r o' h hr => ⟨h.1.putRec o' (.inl (.inl (.inr ⟨by omega, by omega⟩))), h.2.putRec (by omega) hr o'⟩
  case oX => exact fun c s e W r o' h hr => h
  case oF => exact fun W r o' h hr => h.elim fun B h => ⟨B, h.putRec (by omega) hr o'⟩
  case oFX => exact fun c W r o' h hr => h
  case assign =>
    intro l e W K hK
    gi_wp2
    exact hK
  case body =>
    rintro ⟨B, k, W0⟩ e W hrec hY
    obtain ⟨he, hc, hT⟩ : L[k]? = some e ∧ Chg (fun j => ((Kag a m aoa j ∨ j = A2 + 1 + 1 + 1) ∨ (V.heap.size ≤ j ∧ j < V.heap.size + 2)) ∨ B ≤ j) W0 W ∧ StT V a m aoa (A2 + 1 + 1 + 1) B k (q + k) W := hY
    have hkq : k < q := by rw [← hq]; exact (List.getElem?_eq_some_iff.1 he).1
    have hh := hd.chg hT.chg (fun j hj => by rcases hj with hj | rfl; exact .inl (kag j hj); exact .inr (by omega))
    have ck : W.cell? ⟨A2 + 1 + 1 + 1, 0, none⟩ = some (.int .i64 k) := cells_at hT.kbx rfl
    have fk : W.frozen? ⟨A2 + 1 + 1 + 1, 0, none⟩ = false := frozen_at hT.kbx
    have ci := hh.ci
    have cd' := hh.bx.d
    have cid := (hh.idc k e he).1
    have e1 := ha1 (by omega)
    subst e1
    have HH : Hid _ := hh
    have HT : Hid _ := hT
    have HC : Hid _ := hc
    clear hh hT hc
    have SZ : Hid _ := sz
    clear sz
    by_cases hkd : k < nd
    · obtain rfl := had (by omega)
      have ca := HH.out.ca
      have cdr := (HH.out.drc k hkd).1
      gi_wp2
      have hS : (fun w' : World => w'.cell? ⟨A1, 0, none⟩ = some (.pointer (some ⟨a, 0, none⟩)) ∧ w'.cell? ⟨w.heap.size + 1, 0, none⟩ = some (.slice (some ⟨gd, od, none⟩) nd cd) ∧ w'.cell? ⟨A2 + 1 + 1 + 1, 0, none⟩ = some (.int .i64 k) ∧ w'.cell? ⟨gd, od + k, none⟩ = some (.int .i64 (dr k))) W.drew := ⟨ca, cd', ck, cdr⟩
      refine region_round (S := fun w' : World => w'.cell? ⟨A1, 0, none⟩ = some (.pointer (some ⟨a, 0, none⟩)) ∧ w'.cell? ⟨w.heap.size + 1, 0, none⟩ = some (.slice (some ⟨gd, od, none⟩) nd cd) ∧ w'.cell? ⟨A2 + 1 + 1 + 1, 0, none⟩ = some (.int .i64 k) ∧ w'.cell? ⟨gd, od + k, none⟩ = some (.int .i64 (dr k))) (by kernel_rfl) (fun ⟨_, _, h⟩ => h) (by kernel_rfl) ?_
      refine take_slot 0 50 (v := .pointer (some ⟨a, 0, none⟩)) rfl rfl (by kernel_rfl) (by kernel_rfl) (by kernel_rfl) (fun _ _ _ h => h) rfl hS (fun w' hw => by obtain ⟨h1, h2, h3, h4⟩ := hw; go_simp) ?_
      simp only [List.setIfInBounds_toArray, List.set_cons_zero, List.set_cons_succ]
      refine take_slot 1 51 (v := .slice (some ⟨gd, od, none⟩) nd cd) rfl rfl (by kernel_rfl) (by kernel_rfl) (by kernel_rfl) (fun _ _ _ h => h) rfl hS (fun w' hw => by obtain ⟨h1, h2, h3, h4⟩ := hw; go_simp) ?_
      simp only [List.setIfInBounds_toArray, List.set_cons_zero, List.set_cons_succ]
      refine take_slot 2 52 (v := .int .i64 k) rfl rfl (by kernel_rfl) (by kernel_rfl) (by kernel_rfl) (fun _ _ _ h => h) rfl hS (fun w' hw => by obtain ⟨h1, h2, h3, h4⟩ := hw; go_simp) ?_
      simp only [List.setIfInBounds_toArray, List.set_cons_zero, List.set_cons_succ]
      refine take_slot 3 53 (v := .pointer (some ⟨gd, od + k, none⟩)) rfl rfl (by kernel_rfl) (by kernel_rfl) (by kernel_rfl) (fun _ _ _ h => h) rfl hS (fun w' hw => by obtain ⟨h1, h2, h3, h4⟩ := hw; go_simp) ?_
      simp only [List.setIfInBounds_toArray, List.set_cons_zero, List.set_cons_succ]
      refine take_slot 4 54 (v := .int .i64 (dr k)) rfl rfl (by kernel_rfl) (by kernel_rfl) (by kernel_rfl) (fun _ _ _ h => h) rfl hS (fun w' hw => by obtain ⟨h1, h2, h3, h4⟩ := hw; go_simp) ?_
      simp only [List.setIfInBounds_toArray, List.set_cons_zero, List.set_cons_succ]
      obtain ⟨aoc, Lc, rc, hlc, hgc⟩ := HT.out.ag
      have okc : ∀ j, Kag a m aoc j → OkB w.heap.size A1 A2 j := fun j hj => by
        have h1 := HT.out.lo
        have h2 := SZ.out
        rcases HT.out.kag hgc j hj with h | h
        · exact .inl (kag j h)
        · exact .inr (by omega)
      have bd : Below W.heap.size W W.drew := (Below.refl _ W).drew
      have NBm : ∀ j, (Kag a m aoa j ∨ j = A2 + 1 + 1 + 1) ∨ B ≤ j → ((Kag a m aoa j ∨ j = A2 + 1 + 1 + 1) ∨ (V.heap.size ≤ j ∧ j < V.heap.size + 2)) ∨ B ≤ j := fun j hj => by
        rcases hj with hj | hj
        · exact .inl (.inl hj)
        · exact .inr hj
      refine call_last 5 55 rfl rfl (by kernel_rfl) (by kernel_rfl) rfl (by go_simp) (drop_I (rc.below bd) (dr k) (hdr k hkd).2) ?_ _
      rintro e1 W1 ⟨b1, rfl, r1, c1⟩
      obtain ⟨hT1, kp1, ch1⟩ := (HT.out.below bd).turn hgc (rc.below bd) r1 (fun g h => .inl h) c1 (Nat.le_trans (del_len _ _) hlc)
      have hh1 := (HH.out.below bd).chg c1 okc
      have ck1 : W1.cell? ⟨A2 + 1 + 1 + 1, 0, none⟩ = some (.int .i64 k) := cells_at hT1.kbx rfl
      refine ⟨_, rfl, ⟨hh1.ca, hh1.bx.d, ck1, (hh1.drc k hkd).1⟩, ?_⟩
      simp only [List.setIfInBounds_toArray, List.set_cons_zero, List.set_cons_succ]
      have KP1 : Hid (KeepsFrom V.heap.size W W1) := (KeepsFrom.of_chg (Chg.of_below bd (fun _ => False)) (fun _ h => h.elim)).trans kp1
      have CH1 : Hid (Chg (fun j => ((Kag a m aoa j ∨ j = A2 + 1 + 1 + 1) ∨ (V.heap.size ≤ j ∧ j < V.heap.size + 2)) ∨ B ≤ j) W0 W1) := HC.out.drew.trans ch1 (fun j _ hj => NBm j hj)
      have hS1 : (fun w' : World => w'.cell? ⟨A1, 0, none⟩ = some (.pointer (some ⟨a, 0, none⟩)) ∧ w'.cell? ⟨w.heap.size + 1, 0, none⟩ = some (.slice (some ⟨gd, od, none⟩) nd cd) ∧ w'.cell? ⟨A2 + 1 + 1 + 1, 0, none⟩ = some (.int .i64 k) ∧ w'.cell? ⟨gd, od + k, none⟩ = some (.int .i64 (dr k)) ∧ w'.cell? ⟨w.heap.size + 1 + 1, 0, none⟩ = some (.int .i64 t)) W1.drew := ⟨hh1.ca, hh1.bx.d, ck1, (hh1.drc k hkd).1, hh1.bx.t⟩
      have HH1 : Hid _ := hh1
      have HT1 : Hid _ := hT1
      have R1 : Hid (Agn 68 76 W1 a m aoc (delL (dr k) Lc)) := r1
      clear hh1 hT1 r1 kp1 ch1 c1 ck1 ck ci cid cd' ca cdr fk hS rc
      gi_wp2
      refine region_round (S := (fun w' : World => w'.cell? ⟨A1, 0, none⟩ = some (.pointer (some ⟨a, 0, none⟩)) ∧ w'.cell? ⟨w.heap.size + 1, 0, none⟩ = some (.slice (some ⟨gd, od, none⟩) nd cd) ∧ w'.cell? ⟨A2 + 1 + 1 + 1, 0, none⟩ = some (.int .i64 k) ∧ w'.cell? ⟨gd, od + k, none⟩ = some (.int .i64 (dr k)) ∧ w'.cell? ⟨w.heap.size + 1 + 1, 0, none⟩ = some (.int .i64 t))) (by kernel_rfl) (fun ⟨_, _, h⟩ => h) (by kernel_rfl) ?_
      refine take_slot 0 56 (v := .pointer (some ⟨a, 0, none⟩)) rfl rfl (by kernel_rfl) (by kernel_rfl) (by kernel_rfl) (fun _ _ _ h => h) rfl hS1 (fun w' hw => by obtain ⟨h1, h2, h3, h4, h5⟩ := hw; go_simp) ?_
      simp only [List.setIfInBounds_toArray, List.set_cons_zero, List.set_cons_succ]
      refine take_slot 1 57 (v := .slice (some ⟨gd, od, none⟩) nd cd) rfl rfl (by kernel_rfl) (by kernel_rfl) (by kernel_rfl) (fun _ _ _ h => h) rfl hS1 (fun w' hw => by obtain ⟨h1, h2, h3, h4, h5⟩ := hw; go_simp) ?_
      simp only [List.setIfInBounds_toArray, List.set_cons_zero, List.set_cons_succ]
      refine take_slot 2 58 (v := .int .i64 k) rfl rfl (by kernel_rfl) (by kernel_rfl) (by kernel_rfl) (fun _ _ _ h => h) rfl hS1 (fun w' hw => by obtain ⟨h1, h2, h3, h4, h5⟩ := hw; go_simp) ?_
      simp only [List.setIfInBounds_toArray, List.set_cons_zero, List.set_cons_succ]
      refine take_slot 3 59 (v := .pointer (some ⟨gd, od + k, none⟩)) rfl rfl (by kernel_rfl) (by kernel_rfl) (by kernel_rfl) (fun _ _ _ h => h) rfl hS1 (fun w' hw => by obtain ⟨h1, h2, h3, h4, h5⟩ := hw; go_simp) ?_
      simp only [List.setIfInBounds_toArray, List.set_cons_zero, List.set_cons_succ]
      refine take_slot 4 60 (v := .int .i64 (dr k)) rfl rfl (by kernel_rfl) (by kernel_rfl) (by kernel_rfl) (fun _ _ _ h => h) rfl hS1 (fun w' hw => by obtain ⟨h1, h2, h3, h4, h5⟩ := hw; go_simp) ?_
      simp only [List.setIfInBounds_toArray, List.set_cons_zero, List.set_cons_succ]
      refine take_slot 5 61 (v := .int .i64 t) rfl rfl (by kernel_rfl) (by kernel_rfl) (by kernel_rfl) (fun _ _ _ h => h) rfl hS1 (fun w' hw => by obtain ⟨h1, h2, h3, h4, h5⟩ := hw; go_simp) ?_
      simp only [List.setIfInBounds_toArray, List.set_cons_zero, List.set_cons_succ]
      refine take_slot 6 62 (v := .int .i64 k) rfl rfl (by kernel_rfl) (by kernel_rfl) (by kernel_rfl) (fun _ _ _ h => h) rfl hS1 (fun w' hw => by obtain ⟨h1, h2, h3, h4, h5⟩ := hw; go_simp) ?_
      simp only [List.setIfInBounds_toArray, List.set_cons_zero, List.set_cons_succ]
      have bd1 : Below W1.heap.size W1 W1.drew := (Below.refl _ W1).drew
      have hbb : ((delL (dr k) Lc).length + 1) * 20 ≤ 140737488355368 := by
        have := del_len (dr k) Lc
        omega
      refine call_last 7 63 rfl rfl (by kernel_rfl) (by kernel_rfl) rfl (by go_simp) (add_yes_W (Agn.below R1.out bd1) (dr k) t k (hdr k hkd).2 ht del_not hbb) ?_ _
      rintro e2 W2 ⟨rfl, ao2', r2, mv, c2⟩
      have hl2 : (insL ⟨dr k, t, .int .i64 k⟩ (delL (dr k) Lc)).length ≤ q + (k + 1) ∧ 0 < (insL ⟨dr k, t, .int .i64 k⟩ (delL (dr k) Lc)).length := by
        rw [len_insL]
        have := del_len (dr k) Lc
        omega
      generalize insL ⟨dr k, t, .int .i64 k⟩ (delL (dr k) Lc) = M at r2 hl2
      obtain ⟨hT2, kp2, ch2⟩ := (HT1.out.below bd1).turn hgc (Agn.below R1.out bd1) r2 (fun g h => by rcases mv with rfl | ⟨g', hg', rfl⟩; exact .inl h; injection h with h; injection h with h; subst h; exact .inr hg') c2 hl2.1
      have hh2 := (HH1.out.below bd1).chg c2 okc
      have ck2 : W2.cell? ⟨A2 + 1 + 1 + 1, 0, none⟩ = some (.int .i64 k) := cells_at hT2.kbx rfl
      refine ⟨_, rfl, ⟨hh2.ca, hh2.bx.d, ck2, (hh2.drc k hkd).1, hh2.bx.t⟩, ?_⟩
      simp only [List.setIfInBounds_toArray, List.set_cons_zero, List.set_cons_succ]
      have KP2 : Hid (KeepsFrom V.heap.size W W2) := (KP1.out.trans (KeepsFrom.of_chg (Chg.of_below bd1 (fun _ => False)) (fun _ h => h.elim))).trans kp2
      have CH2 : Hid (Chg (fun j => ((Kag a m aoa j ∨ j = A2 + 1 + 1 + 1) ∨ (V.heap.size ≤ j ∧ j < V.heap.size + 2)) ∨ B ≤ j) W0 W2) := CH1.out.drew.trans ch2 (fun j _ hj => NBm j hj)
      have ca := hh2.ca
      have cl := hh2.bx.l
      have cdd := hh2.bx.d
      have HH2 : Hid _ := hh2
      have HT2 : Hid _ := hT2
      have R2 : Hid (Agn 68 76 W2 a m ao2' M) := r2
      clear hh2 hT2 r2 kp2 ch2 c2 ck2 hS1 HH1 HT1 R1 KP1 CH1 mv
      have hls := listed_any R2.out ((n : Int) + nd + 1) (by omega)
      rw [show M.take ((n : Int) + nd + 1).toNat = M from List.take_of_length_le (by omega)] at hls
      gi_wp2_with fail
      refine ⟨trivial, (CallsIn.inRound _ (callsIn_wide.2 hls)).mono ?_⟩
      clear hls
      rintro e3 W3 ⟨v1, v2, rfl, q1, q2, b3, _⟩
      have el1 : (ids M).length = M.length := by simp [ids]
      have el2 : (tms M).length = M.length := by simp [tms]
      rw [← el1] at q1
      rw [← el2] at q2
      obtain ⟨ao3, cap3, g3, rfl, ha3, hc3, hB3⟩ := rd_row q1
      obtain ⟨ao4, cap4, g4, rfl, _, _, _⟩ := rd_row q2
      obtain ⟨p, hp⟩ : ∃ p, M.length = p := ⟨_, rfl⟩
      rw [el1, hp] at ha3 q1
      rw [el1, el2, hp]
      rw [hp] at hl2
      obtain rfl := ha3 (by omega)
      have hS3 := (HH2.out.below b3).cs
      have cs3 := cell_al (cell_al hS3 (.cells #[.slice (some ⟨g3, 0, none⟩) p cap3] 38)) (.cells #[.int .i64 0] 3)
      gi_wp2
      obtain ⟨U, hU⟩ : ∃ U, W3.alloc (.cells #[.slice (some ⟨g3, 0, none⟩) p cap3] 38) = U := ⟨_, rfl⟩
      have su : U.heap.size = W3.heap.size + 1 := by rw [← hU]; simp
      have b3U : Below W3.heap.size W3 U := by rw [← hU]; exact (Below.refl _ W3).alloc (Nat.le_refl _) _
      have cnow : U.cell? ⟨W3.heap.size, 0, none⟩ = some (.slice (some ⟨g3, 0, none⟩) p cap3) := by rw [← hU]; simp
      have cel : ∀ j x, M[j]? = some x → U.cell? ⟨g3, j, none⟩ = some (.int .i64 x.id) := fun j x hx => (Chg.of_below b3U (fun _ => False)).cell (hc3 j x.id (by simp [ids, hx])) (fun h => h)
      rw [hU]
      obtain ⟨X, hX⟩ : ∃ X, U.alloc (.cells #[.int .i64 0] 3) = X := ⟨_, rfl⟩
      rw [hX]
      have sx : X.heap.size = U.heap.size + 1 := by rw [← hX]; simp
      have bUX : Below U.heap.size U X := by rw [← hX]; exact (Below.refl _ U).alloc (Nat.le_refl _) _
      have xn : X.heap[U.heap.size]? = some (.cells #[.int .i64 0] 3 (0, 0)) := by rw [← hX]; exact heap_alloc_new U _
      have b2U : Below W2.heap.size W2 U := b3.trans (b3U.mono b3.size)
      obtain ⟨r0, hr0⟩ := hrec
      have hz2 : V.heap.size + 1 < W2.heap.size := (Array.getElem?_eq_some_iff.1 (KP2.out.same _ _ (by omega) hr0 rfl)).1
      have hl0 : X.heap[V.heap.size + 1]? = some (.loop r0) := by
        have h2 := KP2.out.same _ _ (by omega) hr0 rfl
        have h3 := (b2U.block _ hz2).trans h2
        exact (bUX.block _ (Array.getElem?_eq_some_iff.1 h3).1).trans h3
      have rX : Agn 68 76 X a m ao2' M := Agn.below (Agn.below R2.out b2U) bUX
      have cbX : X.cell? ⟨A2 + 1, 0, none⟩ = some (.pointer (some ⟨a, 0, none⟩)) := ((HH2.out.below b2U).below bUX).cb
      rw [← su]
      clear cs3 hS3 hc3 hB3 q1 q2 hU hX ca cl cdd
      refine range_lawN (σ := Nat × Nat × World) (F := Fence.wide.inRound (V.heap.size + 1)) (l₀ := V.heap.size + 1) rfl hl0 (by decide) (gf := 51) rfl trivial (enters_of Try.func51 (by kernel_rfl) rfl) (fun x : En => #[.int .i64 x.id, .int .i64 x.tm]) (fun _ => rfl)
        (fun s x A => M[s.2.1]? = some x ∧ s.2.1 < p ∧ s.2.1 < 3 ∧ Chg (fun j => (U.heap.size ≤ j ∧ j < U.heap.size + 2) ∨ s.1 ≤ j) s.2.2 A ∧ InT U s.2.1 A)
        (fun s _ A => s.2.1 + 1 < p ∧ s.2.1 + 1 < 3 ∧ Chg (fun j => (U.heap.size ≤ j ∧ j < U.heap.size + 2) ∨ s.1 ≤ j) s.2.2 A ∧ InT U (s.2.1 + 1) A)
        (fun c s _ A => c = .exit 2 ∧ InT U (s.2.1 + 1) A)
        (fun _ => False)
        (fun c A => c = .exit 2 ∧ ∃ j, InT U j A)
        ?iY ?iI ?iX ?iF ?iFX (fun x => { tmps := #[Value.slice ao n c, Value.slice (some ⟨gd, od, none⟩) nd cd, Value.int IntKind.i64 t, Value.pointer (some ⟨w.heap.size, 0, none⟩), Value.pointer (some ⟨w.heap.size + 1, 0, none⟩), Value.pointer (some ⟨w.heap.size + 1 + 1, 0, none⟩), Value.pointer (some ⟨w.heap.size + 1 + 1 + 1, 0, none⟩), Value.pointer (some ⟨A1, 0, none⟩), Value.pointer (some ⟨A2, 0, none⟩), Value.slice ao2 q cap2, Value.pointer (some ⟨A2 + 1 + 1, 0, none⟩), Value.pointer (some ⟨A2 + 1 + 1 + 1, 0, none⟩), Value.int IntKind.i64 e.id, Value.pointer (some ⟨W3.heap.size, 0, none⟩), Value.slice (some ⟨g4, 0, none⟩) p cap4, Value.pointer (some ⟨W3.heap.size + 1, 0, none⟩), Value.int IntKind.i64 x.id, Value.bool true, Value.bool false, Value.slice ao n c, Value.pointer (some ⟨a, 0, none⟩), Value.tuple #[Value.slice (some ⟨g1, 0, none⟩) q cap1, Value.slice ao2 q cap2], Value.pointer (some ⟨a, 0, none⟩), Value.slice ao n c, Value.int IntKind.i64 ↑n, Value.int IntKind.i64 (↑n + 1), Value.tuple #[Value.slice (some ⟨g1, 0, none⟩) q cap1, Value.slice ao2 q cap2], Value.slice (some ⟨g1, 0, none⟩) q cap1, Value.slice ao2 q cap2, Value.pointer (some ⟨a, 0, none⟩), Value.func (Fn.func 51) #[] #[Value.pointer (some ⟨A2 + 1, 0, none⟩)], Value.func (Fn.func 51) #[] #[Value.pointer (some ⟨A2 + 1, 0, none⟩)], Value.int IntKind.i64 e.id, Value.int IntKind.i64 e.tm, Value.int IntKind.i64 ↑k, Value.slice (some ⟨g1, 0, none⟩) q cap1, Value.int IntKind.i64 ↑q, Value.bool false, Value.bool false, Value.int IntKind.i64 e.id, Value.slice (some ⟨g1, 0, none⟩) q cap1, Value.int IntKind.i64 ↑k, Value.pointer (some ⟨g1, k, none⟩), Value.int IntKind.i64 e.id, Value.bool false, Value.bool false, Value.int IntKind.i64 ↑k, Value.slice (some ⟨gd, od, none⟩) nd cd, Value.int IntKind.i64 ↑nd, Value.bool true, Value.pointer (some ⟨a, 0, none⟩), Value.slice (some ⟨gd, od, none⟩) nd cd, Value.int IntKind.i64 ↑k, Value.pointer (some ⟨gd, od + k, none⟩), Value.int IntKind.i64 (dr k), Value.bool b1, Value.pointer (some ⟨a, 0, none⟩), Value.slice (some ⟨gd, od, none⟩) nd cd, Value.int IntKind.i64 ↑k, Value.pointer (some ⟨gd, od + k, none⟩), Value.int IntKind.i64 (dr k), Value.int IntKind.i64 t, Value.int IntKind.i64 ↑k, Value.int IntKind.i64 0, Value.tuple #[Value.slice (some ⟨g3, 0, none⟩) p cap3, Value.slice (some ⟨g4, 0, none⟩) p cap4], Value.pointer (some ⟨a, 0, none⟩), Value.slice ao n c, Value.int IntKind.i64 ↑n, Value.slice (some ⟨gd, od, none⟩) nd cd, Value.int IntKind.i64 ↑nd, Value.int IntKind.i64 (↑n + ↑nd), Value.int IntKind.i64 (↑n + ↑nd + 1), Value.tuple #[Value.slice (some ⟨g3, 0, none⟩) p cap3, Value.slice (some ⟨g4, 0, none⟩) p cap4], Value.slice (some ⟨g3, 0, none⟩) p cap3, Value.slice (some ⟨g4, 0, none⟩) p cap4, Value.slice (some ⟨g3, 0, none⟩) p cap3, Value.int IntKind.i64 ↑p, Value.bool true, Value.func (Fn.func 51) #[] #[Value.pointer (some ⟨A2 + 1, 0, none⟩)], Value.int IntKind.i64 x.id, Value.int IntKind.i64 x.tm, undef, undef, undef, undef, undef, undef, undef, undef, undef, undef, undef, undef, undef, undef, undef, undef, undef, undef, undef, undef, undef, undef], defers := [] }) ?iassign ?ibody ?iit ?idone ?istop
      case iY => exact fun s x A r o' h hr => ⟨h.1, h.2.1, h.2.2.1, h.2.2.2.1.putRec o' (.inl (.inl ⟨by omega, by omega⟩)), h.2.2.2.2.putRec (by omega) o'⟩
      case iI => exact fun s x A r o' h hr => ⟨h.1, h.2.1, h.2.2.1.putRec o' (.inl (.inl ⟨by omega, by omega⟩)), h.2.2.2.putRec (by omega) o'⟩
      case iX => exact fun c s x A r o' h hr => ⟨h.1, h.2.putRec (by omega) o'⟩
      case iF => exact fun A r o' h hr => h
      case iFX => exact fun c A r o' h hr => ⟨h.1, h.2.elim fun j h => ⟨j, h.putRec (by omega) o'⟩⟩
      case iassign =>
        intro l x A K hK
        gi_wp2
        exact hK
      case ibody =>
        rintro l ⟨B', j, A0⟩ x A hY'
        obtain ⟨hx, hjp, hj3, hcA, hI⟩ : M[j]? = some x ∧ j < p ∧ j < 3 ∧ Chg (fun j => (U.heap.size ≤ j ∧ j < U.heap.size + 2) ∨ B' ≤ j) A0 A ∧ InT U j A := hY'
        have cn : A.cell? ⟨W3.heap.size, 0, none⟩ = some (.slice (some ⟨g3, 0, none⟩) p cap3) := (Chg.of_below hI.bel (fun _ => False)).cell cnow (fun h => h)
        have ce : A.cell? ⟨g3, j, none⟩ = some (.int .i64 x.id) := (Chg.of_below hI.bel (fun _ => False)).cell (cel j x hx) (fun h => h)
        have cj : A.cell? ⟨W3.heap.size + 1, 0, none⟩ = some (.int .i64 j) := by rw [← su]; exact cells_at hI.nbx rfl
        have fj : A.frozen? ⟨W3.heap.size + 1, 0, none⟩ = false := by rw [← su]; exact frozen_at hI.nbx
        obtain ⟨i1, i2⟩ := hI.inc
        have hk := KeepsFrom.of_chg (B := X.heap.size) i2 (fun k e => by omega)
        have hch : Chg (fun j => (U.heap.size ≤ j ∧ j < U.heap.size + 2) ∨ B' ≤ j) A0 (A.setCell ⟨U.heap.size, 0, none⟩ (.int .i64 ((j : Int) + 1))) := hcA.trans i2 (fun k _ e => .inl ⟨by omega, by omega⟩)
        rw [su] at i1 hk hch
        rw [sx, su] at hk
        have I1 : Hid _ := i1
        have HK : Hid _ := hk
        have HCH : Hid _ := hch
        clear i1 i2 hk hch hcA hI hx
        by_cases h1 : j + 1 = p
        · have h1' : ((j : Int) + 1) = (p : Int) := by omega
          have H1 : Hid _ := h1
          clear h1
          gi_wp2
          have z1 := HK.out
          have z2 := I1.out
          rw [h1'] at z1 z2
          exact ⟨z1, rfl, z2⟩
        · by_cases h3 : j = 2
          · subst h3
            have h1' : ¬ ((3 : Int) = (p : Int)) := by omega
            gi_wp2
            exact ⟨HK.out, rfl, I1.out⟩
          · have h1' : (((j : Int) + 1) == (p : Int)) = false := by simp; omega
            have h1'' : ¬ ((j : Int) + 1) = (p : Int) := by omega
            have h3' : (((j : Int) + 1) == 3) = false := by simp; omega
            have h3'' : ¬ ((j : Int) + 1) = 3 := by omega
            have h3t : ¬ (j : Int) = 2 := by omega
            gi_wp2
            exact ⟨HK.out, by omega, by omega, HCH.out, I1.out⟩
      case iit =>
        intro R Rx hR hRx hrnd A hbA hzA hRA
        have keepR : ∀ A B, R A → Below A.heap.size A B → R B := fun A B h b => hR A B h (KeepsFrom.of_chg (Chg.of_below b (fun _ => False)) (fun _ h => h.elim))
        have hcb : A.cell? ⟨A2 + 1, 0, none⟩ = some (.pointer (some ⟨a, 0, none⟩)) := (Chg.of_below hbA (fun _ => False)).cell cbX (fun h => h)
        refine (CallsIn.inRound (V.heap.size + 1) (all1_I (n := 6 - 1 - 1 - 1) (l := X.heap.size) (bA := A2 + 1) (a := a) (m := m) (ao := ao2') (L := M) (N := fun j => U.heap.size ≤ j ∧ j < U.heap.size + 2)
          (T := fun B j A => j < p ∧ j < 3 ∧ InT U j A ∧ R A) (Tx := fun A => ∃ c, (c = .exit 2 ∧ ∃ j, InT U j A) ∧ Rx c A) (by decide) A hcb (rX.below hbA) (by omega) ?_ ?_ ?_ ?_)).mono ?_
        · intro k hk
          omega
        · intro W' hb'
          have bb : Below U.heap.size U W' := (bUX.trans (hbA.mono (by omega))).trans (hb'.mono (by omega))
          exact ⟨by omega, by omega, ⟨bb, (hb'.block _ (by omega)).trans ((hbA.block _ (by omega)).trans xn)⟩, keepR _ _ hRA hb'⟩
        · rintro B j A A' ⟨h1, h2, h3, h4⟩ hb'
          exact ⟨h1, h2, h3.below hb', keepR _ _ h4 hb'⟩
        · rintro B j x A hB hx ⟨h1, h2, h3, h4⟩
          obtain ⟨fn, tmps, assign, body, hy, hRd⟩ := hrnd (B, j, A) x A ⟨hx, h1, h2, Chg.refl _ _, h3⟩ h4
          refine ⟨fn, tmps, assign, body, hy, RoundIn.mono (F := Fence.wide) hRd ?_⟩
          rintro rr A' (⟨rfl, ⟨g1, g2, g3, g4⟩, g5⟩ | ⟨rfl, c, ⟨g1, g2⟩, g5⟩)
          · exact .inl ⟨rfl, ⟨g1, g2, g4, g5⟩, g3⟩
          · exact .inr ⟨rfl, c, ⟨g1, _, g2⟩, g5⟩
        · rintro rr A' ⟨hv, (⟨B, h1, h2⟩ | ⟨c, h1, h2⟩)⟩
          · omega
          · exact ⟨hv, .inr ⟨c, h1, h2⟩⟩
      case idone => exact fun A h => h.elim
      case istop =>
        rintro cc A ⟨rfl, j, hI⟩
        have b2A : Below W2.heap.size W2 A := b2U.trans (hI.bel.mono b2U.size)
        have hTA := HT2.out.below b2A
        have ckA : A.cell? ⟨A2 + 1 + 1 + 1, 0, none⟩ = some (.int .i64 k) := cells_at hTA.kbx rfl
        have fkA : A.frozen? ⟨A2 + 1 + 1 + 1, 0, none⟩ = false := frozen_at hTA.kbx
        have KPA : Hid (KeepsFrom V.heap.size W A) := KP2.out.trans (KeepsFrom.of_chg (Chg.of_below b2A (fun _ => False)) (fun _ h => h.elim))
        have CHA : Hid (Chg (fun j => ((Kag a m aoa j ∨ j = A2 + 1 + 1 + 1) ∨ (V.heap.size ≤ j ∧ j < V.heap.size + 2)) ∨ B ≤ j) W0 A) := CH2.out.trans (Chg.of_below b2A (fun _ => False)) (fun _ _ h => h.elim)
        have HTA : Hid _ := hTA
        clear hTA hI
        gi_wp2
        obtain ⟨i1, i2, i3⟩ := HTA.out.inc
        exact ⟨KPA.out.trans i2, CHA.out.trans i3 (fun j _ hj => NBm j hj), i1⟩
    · gi_wp2
      obtain ⟨i1, i2, i3⟩ := HT.out.inc
      refine ⟨i2, HC.out.trans i3 (fun j _ hj => ?_), i1.more (by omega)⟩
      rcases hj with hj | hj
      · exact .inl (.inl hj)
      · exact .inr hj
  case it =>
    intro R Rx hR hRx hrnd W hbW hzW hRW
    have keepR : ∀ A B, R A → Below A.heap.size A B → R B := fun A B h b => hR A B h (KeepsFrom.of_chg (Chg.of_below b (fun _ => False)) (fun _ h => h.elim))
    have hcb : W.cell? ⟨A2 + 1, 0, none⟩ = some (.pointer (some ⟨a, 0, none⟩)) := (Chg.of_below hbW (fun _ => False)).cell hd.cb (fun h => h)
    refine (all1_I (n := 6 - 1) (l := V.heap.size + 1) (bA := A2 + 1) (a := a) (m := m) (ao := aoa) (L := L) (N := fun j => (Kag a m aoa j ∨ j = A2 + 1 + 1 + 1) ∨ (V.heap.size ≤ j ∧ j < V.heap.size + 2))
      (T := fun B k A => StT V a m aoa (A2 + 1 + 1 + 1) B k (q + k) A ∧ R A) (Tx := fun A => False) (by decide) W hcb (rV.below hbW) (by omega) ?_ ?_ ?_ ?_).mono ?_
    · rintro k ((hk | rfl) | hk)
      · have := kag k hk; omega
      · omega
      · omega
    · intro W' hb'
      have hz' := hb'.size
      have bb : Below V.heap.size V W' := hbW.trans (hb'.mono (by omega))
      exact ⟨⟨Chg.of_below bb _, (bb.block _ (by omega)).trans hk0, ⟨aoa, L, rV.below bb, by omega, fun g hg => .inl (.inr (.inr ⟨g, hg, rfl⟩))⟩, by omega, Nat.le_refl _, fun j hj => by rcases hj with hj | rfl; exact (by have := kag j hj; omega); omega, fun hk => by have := kag _ hk; omega⟩, keepR _ _ hRW hb'⟩
    · rintro B k A A' ⟨h2, h3⟩ hb'
      exact ⟨h2.below hb', keepR _ _ h3 hb'⟩
    · rintro B k e A hB he ⟨h2, h3⟩
      obtain ⟨fn, tmps, assign, body, hy, hRd⟩ := hrnd (B, k, A) e A ⟨he, Chg.refl _ _, h2⟩ h3
      refine ⟨fn, tmps, assign, body, hy, hRd.mono ?_⟩
      rintro rr A' (⟨rfl, ⟨g1, g2⟩, g4⟩ | ⟨rfl, c, hf, g4⟩)
      · exact .inl ⟨rfl, ⟨g2, g4⟩, g1⟩
      · exact hf.elim
    · rintro rr A' ⟨hv, (⟨B, h1, h2⟩ | h1)⟩
      · rw [hq] at h1
        exact ⟨hv, .inl ⟨⟨B, h1⟩, h2⟩⟩
      · exact h1.elim
  case done =>
    rintro D W hD ⟨B, hT⟩ hK
    have hh := hd.chg hT.chg (fun j hj => by rcases hj with hj | rfl; exact .inl (kag j hj); exact .inr (by omega))
    have ck : W.cell? ⟨A2 + 1 + 1 + 1, 0, none⟩ = some (.int .i64 q) := cells_at hT.kbx rfl
    have ci := hh.ci
    have cr : W.cell? ⟨w.heap.size + 1 + 1 + 1, 0, none⟩ = some (.bool false) := cells_at hh.bx.r rfl
    have fr : W.frozen? ⟨w.heap.size + 1 + 1 + 1, 0, none⟩ = false := frozen_at hh.bx.r
    have HH : Hid _ := hh
    have HT : Hid _ := hT
    clear hh hT
    gi_wp2
    have bW : Below w.heap.size w W := HT.out.chg.below BV BV.size (fun j hj => by rcases hj with hj | rfl; exact (by have := kag j hj; omega); omega)
    have F := st_fin bW HH.out.bx.r (by omega) hK
    refine ⟨by simp, .inl ⟨_, _, rfl, run_takeDeferred F.1, ?_⟩⟩
    exact ⟨.bool true, by simp [results, Try.results6, go_sem, F.2.1], rfl, F.2.2⟩
  case stop => exact fun D c W hD hf hK => hf.elim
end Go.Proofs.Ytjmiifgofedcnaa
