/-
  PrioRanks: the lists that the caller makes.
-/
import Derived.Test.YtjgllfpnmmopdaaGreatDoorRaAq
namespace Go.Proofs.YtjgllfpnmmopdaaGreatDoor
open Go.RowKit Wd Tr Cg Ld
theorem flatJ_one : ∀ {l : List Jb}, (∀ j ∈ l, ∃ sa sl sc, j.set = .slice sa sl sc) → ∀ u ∈ flatJ l, u.oneCell' = true
  | [], _, u, hu => by simp [flatJ] at hu
  | j :: l, h, u, hu => by
    obtain ⟨sa, sl, sc, e⟩ := h j (List.mem_cons_self ..)
    simp only [flatJ, List.mem_cons] at hu
    rcases hu with rfl | rfl | rfl | rfl | rfl | rfl | rfl | rfl | hu
    · rfl
    · rfl
    · rfl
    · rfl
    · rfl
    · rfl
    · rfl
    · rw [e]; rfl
    · exact flatJ_one (fun x hx => h x (List.mem_cons_of_mem _ hx)) u hu
theorem jbs_flat {W : World} {g o : Nat} {l : List Jb} (h : Jbs W g o l) : ∀ i u, (flatJ l)[i]? = some u → W.cell? ((⟨g, o, none⟩ : Addr).add i) = some u := fun i u hi => by
  have hl := (List.getElem?_eq_some_iff.1 hi).1
  rw [flatJ_len] at hl
  obtain ⟨j, hj⟩ : ∃ j, l[i / 8]? = some j := ⟨_, List.getElem?_eq_getElem (by omega)⟩
  obtain ⟨e0, e1, e2, e3, e4, e5, e6, e7⟩ := flatJ_at l (i / 8) j hj
  obtain ⟨r0, r1, r2, r3, r4, r5, r6, r7⟩ := h (i / 8) j hj
  rw [Addr.add_lit]
  have hc : i % 8 = 0 ∨ i % 8 = 1 ∨ i % 8 = 2 ∨ i % 8 = 3 ∨ i % 8 = 4 ∨ i % 8 = 5 ∨ i % 8 = 6 ∨ i % 8 = 7 := by omega
  rcases hc with c | c | c | c | c | c | c | c
  · rw [show i = i / 8 * 8 by omega] at hi ⊢
    rw [e0] at hi; cases hi; exact r0
  · rw [show i = i / 8 * 8 + 1 by omega] at hi ⊢
    rw [e1] at hi; cases hi; rw [← Nat.add_assoc]; exact r1
  · rw [show i = i / 8 * 8 + 2 by omega] at hi ⊢
    rw [e2] at hi; cases hi; rw [← Nat.add_assoc]; exact r2
  · rw [show i = i / 8 * 8 + 3 by omega] at hi ⊢
    rw [e3] at hi; cases hi; rw [← Nat.add_assoc]; exact r3
  · rw [show i = i / 8 * 8 + 4 by omega] at hi ⊢
    rw [e4] at hi; cases hi; rw [← Nat.add_assoc]; exact r4
  · rw [show i = i / 8 * 8 + 5 by omega] at hi ⊢
    rw [e5] at hi; cases hi; rw [← Nat.add_assoc]; exact r5
  · rw [show i = i / 8 * 8 + 6 by omega] at hi ⊢
    rw [e6] at hi; cases hi; rw [← Nat.add_assoc]; exact r6
  · rw [show i = i / 8 * 8 + 7 by omega] at hi ⊢
    rw [e7] at hi; cases hi; rw [← Nat.add_assoc]; exact r7
theorem new_at (w : World) (cs : List Value) (T : TypeId) : ∀ ad, some (⟨w.heap.size, 0, none⟩ : Addr) = some ad → ∀ j u, cs[j]? = some u → (w.alloc (.cells cs.toArray T)).cell? (ad.add j) = some u := by
  intro ad e j u hj
  cases e
  rw [Addr.add_lit, Nat.zero_add]
  exact cells_at (heap_alloc_new w _) (by simpa using hj)
theorem markA_one : ∀ u ∈ ([.string ⟨#[109, 97, 114, 107]⟩, .int .i64 0, .int .i64 0, .bool false, .int .u64 0] : List Value), u.oneCell' = true := by
  intro u hu
  simp only [List.mem_cons, List.not_mem_nil, or_false] at hu
  rcases hu with rfl | rfl | rfl | rfl | rfl <;> rfl
theorem markJ_one : ∀ u ∈ ([.int .i64 (-77), .int .i64 0, .int .i64 0, .int .i64 0, .int .i64 0, .int .i64 0, .int .i64 0, .slice none 0 0] : List Value), u.oneCell' = true := by
  intro u hu
  simp only [List.mem_cons, List.not_mem_nil, or_false] at hu
  rcases hu with rfl | rfl | rfl | rfl | rfl | rfl | rfl | rfl <;> rfl
theorem own_markA {w4 : World} {B n : Nat} {v4 : Value} {l : List Ac} (hL : l.length = n) (h : w4.ownsRow B 31 5 v4 (0 + n + 1) ([] ++ flatA l ++ [.string ⟨#[109, 97, 114, 107]⟩, .int .i64 0, .int .i64 0, .bool false, .int .u64 0])) :
    ∃ b cap, v4 = .slice (some ⟨b, 0, none⟩) (0 + n + 1) cap ∧ B ≤ b ∧ n + 1 ≤ cap ∧ RwA w4 b (l ++ [mkA]) := by
  have e : [] ++ flatA l ++ [.string ⟨#[109, 97, 114, 107]⟩, .int .i64 0, .int .i64 0, .bool false, .int .u64 0] = flatA (l ++ [mkA]) := by rw [flatA_app]; rfl
  rw [e] at h
  obtain ⟨g, cap, e1, e2, e3, e4⟩ := RwA.of_own h (by omega)
  exact ⟨g, cap, e1, e2, by omega, e4⟩
theorem own_markJ {w4 : World} {B n : Nat} {v4 : Value} {l : List Jb} (hL : l.length = n) (h : w4.ownsRow B 34 8 v4 (0 + n + 1) ([] ++ flatJ l ++ [.int .i64 (-77), .int .i64 0, .int .i64 0, .int .i64 0, .int .i64 0, .int .i64 0, .int .i64 0, .slice none 0 0])) :
    ∃ b cap, v4 = .slice (some ⟨b, 0, none⟩) (0 + n + 1) cap ∧ B ≤ b ∧ n + 1 ≤ cap ∧ RwJ w4 b (l ++ [mkJ]) := by
  have e : [] ++ flatJ l ++ [.int .i64 (-77), .int .i64 0, .int .i64 0, .int .i64 0, .int .i64 0, .int .i64 0, .int .i64 0, .slice none 0 0] = flatJ (l ++ [mkJ]) := by rw [flatJ_app]; rfl
  rw [e] at h
  obtain ⟨g, cap, e1, e2, e3, e4⟩ := RwJ.of_own h (by omega)
  exact ⟨g, cap, e1, e2, by omega, e4⟩
theorem Tryz.soJa : (Tryz.prog.info? 34).map (fun i => (i.zero, i.size, i.bytes)) = some (some (.agg #[.int .i64 0, .int .i64 0, .int .i64 0, .int .i64 0, .int .i64 0, .int .i64 0, .int .i64 0, .slice none 0 0]), 8, 80) := by kernel_rfl
theorem Tryz.soAa : (Tryz.prog.info? 31).map (fun i => (i.zero, i.size, i.bytes)) = some (some (.agg #[.string ⟨#[]⟩, .int .i64 0, .int .i64 0, .bool false, .int .u64 0]), 5, 48) := by kernel_rfl
structure Ra (w : World) (cf : Cf) (now hd : Int) (ao jo : Option Addr) (L ca N cj ib ab capA jb capJ : Nat) (la : List Ac) (x : World) : Prop where
  st : StB x w.heap.size cf now (.slice ao L ca) (.slice jo N cj) hd
  inb : StB x ib cf now (.slice (some ⟨ab, 0, none⟩) L capA) (.slice (some ⟨jb, 0, none⟩) N capJ) hd
  acc : RwA x ab (la ++ [mkA])
  bel : Below w.heap.size w x
theorem Ra.chg {K : Nat → Prop} {w x y : World} {cf : Cf} {now hd : Int} {ao jo : Option Addr} {L ca N cj ib ab capA jb capJ : Nat} {la : List Ac} (h : Ra w cf now hd ao jo L ca N cj ib ab capA jb capJ la x) (k : Chg K x y) (n1 : ¬ K w.heap.size) (n2 : ¬ K ib) (n3 : ¬ K ab) (n4 : ∀ j, K j → w.heap.size ≤ j) : Ra w cf now hd ao jo L ca N cj ib ab capA jb capJ la y :=
  ⟨h.st.chg k n1, h.inb.chg k n2, h.acc.chg k n3, k.below h.bel h.bel.size n4⟩
theorem Ra.below {w x y : World} {cf : Cf} {now hd : Int} {ao jo : Option Addr} {L ca N cj ib ab capA jb capJ : Nat} {la : List Ac} (h : Ra w cf now hd ao jo L ca N cj ib ab capA jb capJ la x) (b : Below x.heap.size x y) : Ra w cf now hd ao jo L ca N cj ib ab capA jb capJ la y :=
  h.chg (Chg.of_below b (fun _ => False)) (fun e => e) (fun e => e) (fun e => e) (fun _ e => e.elim)
theorem own_chg {K : Nat → Prop} {x y : World} {B e sz n : Nat} {v : Value} {xs : List Value} (h : x.ownsRow B e sz v n xs) (k : Chg K x y) (hK : ∀ j, v.ownBlock = some j → ¬ K j) : y.ownsRow B e sz v n xs := by
  refine ⟨h.1, ?_⟩
  rcases h.2 with h0 | ⟨g, cap, cur, e1, h2, h3, h4⟩
  · exact .inl h0
  · exact .inr ⟨g, cap, cur, e1, h2, (k.block g (Array.getElem?_eq_some_iff.1 h3).1 (hK g (by rw [e1]; rfl))).trans h3, h4⟩
/-- What stands once all three are asked. -/
structure Rc (w : World) (cf : Cf) (now hd : Int) (ao jo : Option Addr) (L ca N cj ib ab capA jb capJ : Nat) (la : List Ac) (g2 : Nat) (vw : Value) (RK : List Pr) (Z : Nat) (x : World) : Prop where
  ra : Ra w cf now hd ao jo L ca N cj ib ab capA jb capJ la x
  rb : RwR x g2 RK
  wn : x.ownsRow 0 40 2 vw RK.length (flatP RK)
  wl : Z ≤ x.heap.size
theorem Rc.chg {K : Nat → Prop} {w x y : World} {cf : Cf} {now hd : Int} {ao jo : Option Addr} {L ca N cj ib ab capA jb capJ g2 : Nat} {la : List Ac} {vw : Value} {RK : List Pr} {Z : Nat} (h : Rc w cf now hd ao jo L ca N cj ib ab capA jb capJ la g2 vw RK Z x) (k : Chg K x y) (n1 : ¬ K w.heap.size) (n2 : ¬ K ib) (n3 : ¬ K ab) (n4 : ∀ j, K j → w.heap.size ≤ j) (n5 : ¬ K g2) (n6 : ∀ j, vw.ownBlock = some j → ¬ K j) : Rc w cf now hd ao jo L ca N cj ib ab capA jb capJ la g2 vw RK Z y :=
  ⟨h.ra.chg k n1 n2 n3 n4, h.rb.chg k n5, own_chg h.wn k n6, Nat.le_trans h.wl k.size⟩
theorem Rc.below {w x y : World} {cf : Cf} {now hd : Int} {ao jo : Option Addr} {L ca N cj ib ab capA jb capJ g2 : Nat} {la : List Ac} {vw : Value} {RK : List Pr} {Z : Nat} (h : Rc w cf now hd ao jo L ca N cj ib ab capA jb capJ la g2 vw RK Z x) (b : Below x.heap.size x y) : Rc w cf now hd ao jo L ca N cj ib ab capA jb capJ la g2 vw RK Z y :=
  h.chg (Chg.of_below b (fun _ => False)) (fun e => e) (fun e => e) (fun e => e) (fun _ e => e.elim) (fun e => e) (fun _ _ e => e)
def jK (jl : List Jb) (k : Nat) : List Jb := List.replicate k pnJ ++ (jl.drop k ++ [mkJ])
theorem jK_0 (jl : List Jb) : jK jl 0 = jl ++ [mkJ] := by simp [jK]
theorem jK_at {jl : List Jb} {k : Nat} {j : Jb} (h : jl[k]? = some j) : (jK jl k)[k]? = some j := by
  have hk := (List.getElem?_eq_some_iff.1 h).1
  unfold jK
  rw [List.getElem?_append_right (by simp), List.length_replicate, Nat.sub_self, List.getElem?_append_left (by simp; omega)]
  simp [h]
theorem jK_set {jl : List Jb} {k : Nat} {j : Jb} (h : jl[k]? = some j) : (jK jl k).set k pnJ = jK jl (k + 1) := by
  have hk := (List.getElem?_eq_some_iff.1 h).1
  unfold jK
  have e : jl.drop k = j :: jl.drop (k + 1) := by rw [List.drop_eq_getElem_cons hk, (List.getElem?_eq_some_iff.1 h).2]
  rw [e, List.set_append_right _ _ (by simp), List.length_replicate, Nat.sub_self, List.replicate_succ']
  simp
theorem jK_len {jl : List Jb} {k : Nat} (h : k ≤ jl.length) : (jK jl k).length = jl.length + 1 := by simp [jK]; omega
theorem mark_at {α : Type} (l : List α) (x : α) (n : Nat) (h : l.length = n) : (l ++ [x])[n]? = some x := by rw [List.getElem?_append_right (by omega), h]; simp
theorem SetOk.below {w x : World} {j : Jb} (b : Below w.heap.size w x) (h : SetOk w j) : SetOk x j := by
  obtain ⟨sa, sl, sc, g, o, v, h1, h2, h3, h4⟩ := h
  exact ⟨sa, sl, sc, g, o, v, h1, h2, h3, fun t ht => cellB b (h4 t ht)⟩
theorem RwR.own (M : List Pr) {W : World} {b : Nat} (h : RwR W b M) (hn : M.length ≤ maxLen) : W.ownsRow 0 40 2 (.slice (some ⟨b, 0, none⟩) M.length M.length) M.length (flatP M) :=
  ⟨flatP_len M, .inr ⟨b, M.length, _, rfl, Nat.zero_le _, h, Nat.le_refl _, hn, by simp [flatP_len], by
    rw [List.take_of_length_le (by simp [flatP_len])]⟩⟩
theorem nine_rc {w wr w6 x2 x3 : World} {Z : Nat} {cf : Cf} {now hd : Int} {ao jo : Option Addr} {L ca N cj ib ab capA jb capJ g1 g2 : Nat} {la : List Ac} {vw u v : Value} {RK : List Pr} {o : Obj} (h1 : ∀ q, u.ownBlock = some q → q = g1 ∨ x3.heap.size ≤ q) (h2 : Rc w cf now hd ao jo L ca N cj ib ab capA jb capJ la g2 vw RK Z wr) (h3 : x3.heap.size ≤ wr.heap.size)
    (hz : w.heap.size < ab ∧ ab < jb ∧ jb < ib ∧ ib < g1 ∧ g1 < g2 ∧ g2 < x2.heap.size ∧ x2.heap.size ≤ x3.heap.size) (hv : ∀ j, vw.ownBlock = some j → x2.heap.size ≤ j ∧ j < x3.heap.size) (hg : (wr.alloc o).grownBy w6 u.ownBlock) (ho : v.ownBlock = u.ownBlock ∨ v.ownBlock = some (wr.alloc o).heap.size) :
    (∀ q, v.ownBlock = some q → q = g1 ∨ x3.heap.size ≤ q) ∧ Rc w cf now hd ao jo L ca N cj ib ab capA jb capJ la g2 vw RK Z w6 ∧ x3.heap.size ≤ w6.heap.size := by
  refine ⟨fun q e => ?_, ?_, ?_⟩
  · rcases ho with h | h
    · exact h1 q (by rw [← h]; exact e)
    · rw [h] at e
      have e1 := Option.some.inj e
      simp at e1
      right; omega
  · have k0 := h2.below ((Below.refl _ wr).alloc (Nat.le_refl _) o)
    exact k0.chg (K := fun j => u.ownBlock = some j) (Chg.of_gr hg (fun k e => .inl e)) (fun e => by have := h1 _ e; omega) (fun e => by have := h1 _ e; omega) (fun e => by have := h1 _ e; omega) (fun q e => by have := h1 _ e; omega) (fun e => by have := h1 _ e; omega) (fun q hq e => by have := h1 _ e; have := hv q hq; omega)
  · have := hg.size
    simp at this
    omega
end Go.Proofs.YtjgllfpnmmopdaaGreatDoor
