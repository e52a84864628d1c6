/-
  Layer 6's reference: a tree that owns its list; New, List, Clone.
-/
import Derived.Test.YthkahbjcncbcfaaRfE
import Derived.Laws.AppendOwnNone
namespace Go.Proofs.Ythkahbjcncbcfaa
open Go.RowKit Tr

/-- The cells of accounts. -/
def flatA : List Ac → List Value
  | [] => []
  | a :: l => .string a.nm :: .int .i64 a.pa :: .int .i64 a.sh :: .bool a.cl :: .int .u64 a.us :: flatA l
theorem flatA_len (l : List Ac) : (flatA l).length = l.length * 5 := by
  induction l with
  | nil => rfl
  | cons s l ih => simp [flatA, ih]; omega
theorem flatA_app (a b : List Ac) : flatA (a ++ b) = flatA a ++ flatA b := by
  induction a with
  | nil => rfl
  | cons s l ih => simp [flatA, ih]
theorem flatA_one (l : List Ac) : ∀ u ∈ flatA l, u.oneCell' = true := by
  induction l with
  | nil => intro u h; cases h
  | cons r l ih =>
    intro u h
    simp only [flatA, List.mem_cons] at h
    rcases h with rfl | rfl | rfl | rfl | rfl | h
    · rfl
    · rfl
    · rfl
    · rfl
    · rfl
    · exact ih u h
theorem flatA_at (l : List Ac) : ∀ j a, l[j]? = some a → (flatA l)[j * 5]? = some (.string a.nm) ∧ (flatA l)[j * 5 + 1]? = some (.int .i64 a.pa) ∧ (flatA l)[j * 5 + 2]? = some (.int .i64 a.sh) ∧ (flatA l)[j * 5 + 3]? = some (.bool a.cl) ∧ (flatA l)[j * 5 + 4]? = some (.int .u64 a.us) := by
  induction l with
  | nil => intro j s h; simp at h
  | cons x l ih =>
    intro j a h
    cases j with
    | zero => simp at h; subst h; simp [flatA]
    | succ j =>
      have := ih j a (by simpa using h)
      simp only [flatA]
      rw [show (j + 1) * 5 = j * 5 + 1 + 1 + 1 + 1 + 1 by omega]
      simpa using this
theorem flatA_cell {W : World} {g o : Nat} {l : List Ac} (h : ∀ k a, l[k]? = some a → AcAt W g (o + k * 5) a) : ∀ j u, (flatA l)[j]? = some u → W.cell? ((⟨g, o, none⟩ : Addr).add j) = some u := by
  intro j u hu
  have ha : (⟨g, o, none⟩ : Addr).add j = ⟨g, o + j, none⟩ := by unfold Addr.add; split <;> simp_all
  rw [ha]
  have hj : j < l.length * 5 := by rw [← flatA_len]; exact (List.getElem?_eq_some_iff.1 hu).1
  obtain ⟨a, hr⟩ : ∃ a, l[j / 5]? = some a := ⟨_, List.getElem?_eq_getElem (by omega)⟩
  obtain ⟨e0, e1, e2, e3, e4⟩ := flatA_at l _ a hr
  have c := h _ a hr
  have hm : j % 5 = 0 ∨ j % 5 = 1 ∨ j % 5 = 2 ∨ j % 5 = 3 ∨ j % 5 = 4 := by omega
  rcases hm with hm | hm | hm | hm | hm
  · rw [show j / 5 * 5 = j by omega] at e0
    rw [e0] at hu
    cases hu
    have := c.nm
    rwa [show o + j / 5 * 5 = o + j by omega] at this
  · rw [show j / 5 * 5 + 1 = j by omega] at e1
    rw [e1] at hu
    cases hu
    have := c.pa
    rwa [show o + j / 5 * 5 + 1 = o + j by omega] at this
  · rw [show j / 5 * 5 + 2 = j by omega] at e2
    rw [e2] at hu
    cases hu
    have := c.sh
    rwa [show o + j / 5 * 5 + 2 = o + j by omega] at this
  · rw [show j / 5 * 5 + 3 = j by omega] at e3
    rw [e3] at hu
    cases hu
    have := c.cl
    rwa [show o + j / 5 * 5 + 3 = o + j by omega] at this
  · rw [show j / 5 * 5 + 4 = j by omega] at e4
    rw [e4] at hu
    cases hu
    have := c.us
    rwa [show o + j / 5 * 5 + 4 = o + j by omega] at this
theorem acs_row {w : World} {B : Nat} {v : Value} {l : List Ac} (h : w.ownsRow B 39 5 v l.length (flatA l)) : ∃ ao c, v = .slice ao l.length c ∧ AcsAt w ao l ∧ (ao = none → l = [] ∧ c = 0) := by
  rcases h.2 with ⟨rfl, h0⟩ | ⟨g, cap, cur, rfl, hb, hg, h1, h2, h3, h4⟩
  · have e := List.length_eq_zero_iff.1 h0
    subst e
    exact ⟨none, 0, rfl, ⟨0, 0, fun h => by simp at h, fun k a ha => by simp at ha⟩, fun _ => ⟨rfl, rfl⟩⟩
  · refine ⟨_, _, rfl, ⟨g, 0, fun _ => rfl, fun k a ha => ?_⟩, fun h => by cases h⟩
    have hk := (List.getElem?_eq_some_iff.1 ha).1
    obtain ⟨e0, e1, e2, e3, e4⟩ := flatA_at l k a ha
    rw [← h4, List.getElem?_take_of_lt (by omega), Array.getElem?_toList] at e0 e1 e2 e3 e4
    rw [Nat.zero_add]
    exact ⟨cells_at hg e0, cells_at hg e1, cells_at hg e2, cells_at hg e3, cells_at hg e4⟩
/-- The reference's tree at d, with a list of its own. -/
structure RefO (B : Nat) (W : World) (d : Nat) (v : Value) (l : List Ac) : Prop where
  blk : W.heap[d]? = some (.cells #[v] 69 (0, 0))
  row : W.ownsRow B 39 5 v l.length (flatA l)
  lo : B ≤ d
theorem RefO.ref {B : Nat} {W : World} {d : Nat} {v : Value} {l : List Ac} (h : RefO B W d v l) : RefT W d l := by
  obtain ⟨ao, c, rfl, h1, h2⟩ := acs_row h.row
  exact ⟨ao, c, h.blk, h1, h2⟩
theorem RefO.below {B : Nat} {W W' : World} {d : Nat} {v : Value} {l : List Ac} (h : RefO B W d v l) (b : Below W.heap.size W W') : RefO B W' d v l :=
  ⟨(b.block d (Array.getElem?_eq_some_iff.1 h.blk).1).trans h.blk, row_kept h.row b, h.lo⟩

theorem rnew_any (w : World) : Calls Try.prog 10 #[] w fun e w' => ∃ d v, e = .returned (.pointer (some ⟨d, 0, none⟩)) ∧ RefO w.heap.size w' d v [rootAc] ∧ Below w.heap.size w w' := by
  go_enter Try.func10, Try.ntmps10
  go_wp2
  go_ret
  refine ⟨w.heap.size + 1, .slice (some ⟨w.heap.size, 0, none⟩) 1 1, rfl, ⟨?_, ⟨rfl, .inr ⟨w.heap.size, 1, #[.string rootName, .int .i64 (-1), .int .i64 1, .bool false, .int .u64 0], rfl, Nat.le_refl _, ?_, Nat.le_refl _, by decide, rfl, rfl⟩⟩, by omega⟩, ((Below.refl _ w).alloc (Nat.le_refl _) _).alloc (by simp) _⟩
  · have := heap_alloc_new (w.alloc (.cells #[.string rootName, .int .i64 (-1), .int .i64 1, .bool false, .int .u64 0] 39)) (.cells #[.slice (some ⟨w.heap.size, 0, none⟩) 1 1] 69)
    rw [World.size_alloc] at this
    exact this
  · exact (Below.heap_alloc _ _ _ (by simp)).trans (heap_alloc_new w _)
theorem Try.inf39 : (Try.prog.info? 39).map (fun i => (i.zero, i.size, i.bytes)) = some (some (.agg #[.string ⟨#[]⟩, .int .i64 0, .int .i64 0, .bool false, .int .u64 0]), 5, 48) := by kernel_rfl
/-- append of any slice. -/
theorem wpList_append_any {P : Program} {w : World} {ops : Array Oper} {rest : List Oper} {o : Oper} {a : Act} {Q : Exit → Act → World → Prop} (hgd : o.guard = none) (s x : Operand) (t : TypeId)
    (ho : o.op = .call { callee := .builtin .append, args := #[s, x], argTypes := #[t, t] })
    (base : Nat) (e : TypeId) (i : TypeInfo) (z : Value) (size bytes : Nat) (ht : P.underlying t = some (.slice e)) (hi : P.info? e = some i) (hz : i.zero = some z)
    (hsize : i.size = size) (hby : i.bytes = bytes) (hzs : z.cells.size = size) (hsz : 0 < size)
    (v : Value) (n : Nat) (xs : List Value) (hs : a.eval s = v) (hown : w.ownsRow base e size v n xs)
    (ao : Option Addr) (m c : Nat) (news : List Value) (hx : a.eval x = .slice ao m c) (hnil : ao = none → m = 0 ∧ c = 0) (hl : news.length = m * size) (hnews : ∀ ad, ao = some ad → ∀ j u, news[j]? = some u → w.cell? (ad.add j) = some u) (h1 : ∀ u ∈ news, u.oneCell' = true)
    (h63 : n + m ≤ maxLen) (hbytes : (n + m) * bytes ≤ 140737488355328) (hbase : base ≤ w.heap.size)
    (h : ∀ v' w', w'.ownsRow base e size v' (n + m) (xs ++ news) → w.grownBy w' v.ownBlock → wpList P ops Q rest (a.put o.dst v') w') :
    wpList P ops Q (o :: rest) a w := by
  cases ao with
  | none =>
    obtain ⟨rfl, rfl⟩ := hnil rfl
    have hn0 : news = [] := List.length_eq_zero_iff.1 (by rw [hl]; omega)
    subst hn0
    exact wpList_append_own_none hgd s x t ho base e i size ht hi v n xs hs hown hx (h v w (by simpa using hown) ⟨rfl, rfl, rfl, Nat.le_refl _, fun _ _ _ => rfl⟩)
  | some ad => exact wpList_append_own_at _ hgd s x t ho base e i z size bytes ht hi hz hsize hby hzs hsz v n xs hs hown ad m c news hx hl (hnews ad rfl) h1 h63 hbytes hbase (fun v' w' g1 g2 _ _ => h v' w' g1 g2)
theorem acs_flat {W : World} {ao : Option Addr} {l : List Ac} (h : AcsAt W ao l) : ∀ ad, ao = some ad → ∀ j u, (flatA l)[j]? = some u → W.cell? (ad.add j) = some u := by
  intro ad had j u hu
  obtain ⟨g, o, h1, h2⟩ := h
  have hj : 0 < l.length := by
    have := (List.getElem?_eq_some_iff.1 hu).1
    rw [flatA_len] at this
    omega
  rw [h1 hj] at had
  injection had with had
  subst had
  exact flatA_cell h2 j u hu
set_option maxHeartbeats 1000000 in
set_option maxRecDepth 20000 in
theorem rlist_any {w : World} {d : Nat} {l : List Ac} (hT : RefT w d l) (hn : l.length * 48 ≤ 140737488355328) :
    Calls Try.prog 35 #[.pointer (some ⟨d, 0, none⟩)] w fun e w' => ∃ v, e = .returned v ∧ w'.ownsRow w.heap.size 39 5 v l.length (flatA l) ∧ Below w.heap.size w w' := by
  obtain ⟨ao, c, h1, h2, h3⟩ := hT
  have c0 : w.cell? ⟨d, 0, none⟩ = some (.slice ao l.length c) := cells_at h1 rfl
  obtain ⟨i0, hi0, hz0, hz1, hz2⟩ := info_parts Try.inf39
  have hfl := flatA_len l
  have hcell := acs_flat h2
  have hnil : ao = none → l.length = 0 ∧ c = 0 := fun h => ⟨by rw [(h3 h).1]; rfl, (h3 h).2⟩
  obtain ⟨q, hq⟩ : ∃ q, l.length = q := ⟨_, rfl⟩
  rw [hq] at c0 hn hfl hnil ⊢
  have HFL : Hid _ := hfl
  have HC : Hid _ := hcell
  have HN : Hid (ao = none → q = 0 ∧ c = 0) := hnil
  clear h1 h2 h3 hfl hcell hnil
  go_enter Try.func35, Try.ntmps35
  go_wp2_with (at_builtin; refine wpList_append_any rfl (.tmp 4) (.tmp 8) 36 rfl w.heap.size 39 i0 _ 5 48 Try.underlying36 hi0 hz0 hz1 hz2 rfl (by decide) (.slice none 0 0) 0 [] rfl (World.ownsRow_nil _ _ _ _) ao q c (flatA l) rfl HN.out HFL.out HC.out (flatA_one l) ?_ ?_ (Nat.le_refl _) ?_; exact (Nat.le_trans (m := 35184372088832) (by omega) (by decide)); omega; intro v' w5 hown hgr)
  go_ret
  refine ⟨_, rfl, by simpa using hown, ?_⟩
  exact (Below.refl _ w).grown hgr (Nat.le_refl _) (fun k e => by simp [Value.ownBlock] at e)
set_option maxHeartbeats 1000000 in
set_option maxRecDepth 20000 in
theorem rclone_any {w : World} {d : Nat} {l : List Ac} (hT : RefT w d l) (hn : l.length * 48 ≤ 140737488355328) :
    Calls Try.prog 13 #[.pointer (some ⟨d, 0, none⟩)] w fun e w' => ∃ d' v, e = .returned (.pointer (some ⟨d', 0, none⟩)) ∧ RefO w.heap.size w' d' v l ∧ Below w.heap.size w w' := by
  have hL := rlist_any hT hn
  go_enter Try.func13, Try.ntmps13
  go_wp2_with fail
  refine hL.mono ?_
  rintro e w1 ⟨v, rfl, hrow, b1⟩
  obtain ⟨ao, c, rfl, _, _⟩ := acs_row hrow
  go_wp2
  go_ret
  exact ⟨w1.heap.size, _, rfl, ⟨heap_alloc_new w1 _, hrow.alloc _, b1.size⟩, b1.alloc b1.size _⟩
end Go.Proofs.Ythkahbjcncbcfaa
