/-
  Package tree: Kids.
-/
import Derived.Test.YthkahbjcncbcfaaPgH
import Derived.Test.YthkahbjcncbcfaaSrt
import Derived.Shelf.SortG.SortNone
namespace Go.Proofs.Ythkahbjcncbcfaa
open Go.RowKit Tr

theorem sort_nil (p : Option Addr) (cap : Nat) (w : World) : Calls Try.prog 55 #[.slice p 0 cap] w fun e w' => e = .returned (.tuple #[]) ∧ w' = w := AnyG.slices_Sort_int_none sort_lays p cap w
theorem sort_any {w : World} {B : Nat} {v : Value} {xs S : List Nat} (h : w.ownsRow B 3 1 v xs.length (ints xs)) (hl : xs.length ≤ 64) (hS : S.Perm xs) (hs : S.Pairwise (· ≤ ·)) :
    Calls Try.prog 55 #[v] w fun e w' => e = .returned (.tuple #[]) ∧ w'.ownsRow B 3 1 v S.length (ints S) ∧ w.grownBy w' v.ownBlock := by
  by_cases e : xs = []
  · subst e
    have hn : S = [] := List.eq_nil_of_length_eq_zero (by simpa using hS.length_eq)
    subst hn
    obtain ⟨ao, c, rfl⟩ := sl_shape h
    refine (sort_nil ao c w).mono ?_
    rintro e w' ⟨rfl, rfl⟩
    exact ⟨rfl, h, ⟨rfl, rfl, rfl, Nat.le_refl _, fun _ _ _ => rfl⟩⟩
  · exact sort_row h e hl hS hs

/-- What has been collected of a map's keys. -/
structure Coll (P : Nat → Bool) (left : Lit → Bool) (zs : List Nat) : Prop where
  nodup : zs.Nodup
  mem : ∀ j, j ∈ zs ↔ P j = true ∧ left (KI j) = false
  sub : ∀ kl, left kl = true → ∃ j, kl = KI j ∧ P j = true
theorem Coll.start {D : DataW Unit} {P : Nat → Bool} (h : SetD D P) : Coll P (Maps.has D) [] where
  nodup := List.nodup_nil
  mem j := ⟨fun h => (by cases h), fun ⟨h1, h2⟩ => by
    rw [(h (KI j)).2 ⟨j, rfl, h1⟩] at h2
    cases h2⟩
  sub kl hk := (h kl).1 hk
theorem Coll.step {P : Nat → Bool} {left : Lit → Bool} {zs : List Nat} (h : Coll P left zs) {x : Int} (hl : left (.int .i64 x) = true) :
    ∃ j : Nat, x = j ∧ P j = true ∧ j ∉ zs ∧ Coll P (fun z => left z && !z.sameKey (.int .i64 x)) (zs ++ [j]) := by
  obtain ⟨j, hj, hP⟩ := h.sub _ hl
  have hx : x = j := by simpa using hj
  subst hx
  have hn : j ∉ zs := fun hm => by
    have := ((h.mem j).1 hm).2
    rw [hl] at this
    cases this
  refine ⟨j, rfl, hP, hn, ⟨?_, fun i => ?_, fun kl hk => h.sub kl (by simp at hk; exact hk.1)⟩⟩
  · rw [List.nodup_append]
    refine ⟨h.nodup, by simp, fun a ha b hb => ?_⟩
    simp at hb
    subst hb
    exact fun e => hn (e ▸ ha)
  · by_cases e : i = j
    · subst e
      have hs : (KI i).sameKey (.int .i64 (i : Int)) = true := WideAt.sameKey_self (keyLitI i)
      simp [hP, hs]
    · have hs : (KI i).sameKey (.int .i64 (j : Int)) = false := Maps.sameKey_ne (fun h => e (KI_inj h))
      simp only [List.mem_append, List.mem_singleton, e, or_false, hs, Bool.not_false, Bool.and_true]
      exact h.mem i
theorem Coll.done {P : Nat → Bool} {left : Lit → Bool} {zs : List Nat} (h : Coll P left zs) (hl : ∀ kl, left kl = false) : ∀ j, j ∈ zs ↔ P j = true := fun j => by
  rw [h.mem j, hl]
  simp
theorem len64 {zs : List Nat} (h : zs.Nodup) (hb : ∀ j ∈ zs, j < 64) : zs.length ≤ 64 := by
  have := h.length_le_of_subset (l₂ := List.range 64) (fun x hx => List.mem_range.2 (hb x hx))
  simpa using this
theorem iter_tag {w : World} {k : TypeId} {R : Value → Option (DataW Unit × List MemPlace)} {b r n : Nat} {D : DataW Unit} {left : Lit → Bool} {cnt : Nat} (h : w.ranges Try.prog k R b r n D left cnt) : ∀ cs e f, w.heap[r]? ≠ some (.cells cs e f) := by
  obtain ⟨es, clock, since, seen, c0, hb, _, _, _, hr, _⟩ := h
  intro cs e f he
  rw [hr] at he
  cases he
theorem next_set {w : World} {ops : Array Oper} {rest : List Oper} {o : Oper} {a : Act} {Q : Exit → Act → World → Prop} (hg : o.guard = none) (it : Operand) (hop : o.op = Op.next it false)
    (b r n : Nat) (D : DataW Unit) (left : Lit → Bool) (cnt : Nat) (hit : a.eval it = .pointer (some ⟨r, 0, none⟩)) (h : w.ranges Try.prog 3 unitElem b r n D left cnt)
    (hDone : cnt = 0 → (∀ kl, left kl = false) → wpList Try.prog ops Q rest (a.put o.dst (.tuple #[.bool false])) w)
    (hMore : ∀ (x : Int) (w' : World) (cnt' : Nat), left (.int .i64 x) = true → w'.ranges Try.prog 3 unitElem b r n D (fun z => left z && !z.sameKey (.int .i64 x)) cnt' → cnt' < cnt →
      w.grownBy w' (some r) → w'.heap.size = w.heap.size → (Instr.entry (.pointer (some ⟨r, 0, none⟩))).run Try.prog w' = .ok (.tuple #[.int .i64 x, .agg #[]]) w' → wpList Try.prog ops Q rest (a.put o.dst (.tuple #[.bool true, .int .i64 x, .agg #[]])) w') :
    wpList Try.prog ops Q (o :: rest) a w :=
  wpList_next_ranges w hg it hop 3 keyedI unitElem (Value.int .i64) (fun _ : Unit => Value.agg #[]) (fun key kl hkey => by obtain ⟨x, rfl, _⟩ := Maps.keyOf_int_inv Try.underlying3 hkey; exact ⟨x, rfl⟩) (fun v y hv => ⟨(), (unitElem_inv hv).1⟩)
    b r n D left cnt hit h hDone (fun x c kl y w' cnt' hkey hlk hv hat hrg hlt hgr hsz hen => by
      obtain ⟨x', ex, rfl, hwx⟩ := Maps.keyOf_int_inv Try.underlying3 hkey
      cases ex
      exact hMore x w' cnt' hlk hrg hlt hgr hsz hen)

set_option maxHeartbeats 2000000 in
set_option maxRecDepth 20000 in
theorem pkids_core {W : World} {t : Nat} {v : Value} {m : Nat} {kv : Value} {ks : List Nat} {l : List Ac} {K : Nat → Nat → Bool} (h : PT W t v m kv ks l K) {n : Nat} (hn : n < l.length) {R : List Nat} (hR : ∀ j, j ∈ R ↔ K n j = true) (hRs : R.Pairwise (· < ·)) (hRb : ∀ j ∈ R, j < 64) :
    Calls Try.prog 23 #[.pointer (some ⟨t, 0, none⟩), .int .i64 n] W fun e w' => ∃ v, e = .returned v ∧ w'.ownsRow W.heap.size 3 1 v R.length (ints R) ∧ Below W.heap.size W w' := by
  have hh := phas_any h n
  have hth : thereB l (n : Int) = true := by simp [thereB, hn]
  rw [hth] at hh
  obtain ⟨k, hk⟩ : ∃ k, ks[n]? = some k := ⟨_, List.getElem?_eq_getElem (by rw [h.klen]; exact hn)⟩
  obtain ⟨D, hD1, hD2⟩ := h.kids n k hk
  obtain ⟨ao, c, rfl, _, _, c2, _⟩ := h.cells
  obtain ⟨kg, kc, rfl, e0, _⟩ := h.kcell hk
  have hn' : (n : Int) < l.length := by omega
  have hklt := hD1.lt
  obtain ⟨i0, hi0, hz0, hz1, hz2⟩ := info_parts Try.inf3
  have HR : Hid _ := hR
  have HRS : Hid _ := hRs
  have HRB : Hid _ := hRb
  have HD2 : Hid _ := hD2
  clear h hth hk hR hRs hRb hD2
  go_enter Try.func23, Try.ntmps23
  go_wp2_with fail
  refine hh.mono ?_
  rintro e w1 ⟨rfl, rfl⟩
  go_wp2_with (first
    | (at_range; refine wpList_range_own _ rfl _ 72 rfl 3 74 keyedI Try.underlying72 _ k 64 D rfl hD1 ?_; intro w0 hrg0 hg0 hs0))
  go_frame
  go_loopw [5] (fun p wr => ∃ (left : Lit → Bool) (cnt : Nat) (zs : List Nat) (q : Value), q = p ∧ wr.ranges Try.prog 3 unitElem k W.heap.size 64 D left cnt ∧ wr.ownsRow W.heap.size 3 1 q zs.length (ints zs) ∧ Coll (K n) left zs ∧ Below W.heap.size W wr)
    (fun _ wr => wr.rangeLeft k W.heap.size)
  case atStart => exact ⟨_, _, [], _, rfl, hrg0, World.ownsRow_nil _ _ _ _, Coll.start HD2.out, ⟨hg0.os, hg0.tape, hg0.output, hg0.size, fun j hj => hg0.block j hj (by simp)⟩⟩
  case round =>
    obtain ⟨left, cnt, zs, q, hq, hrg, hrow, hC, hB⟩ := hrel
    subst hq
    have hzl : zs.length ≤ 64 := len64 hC.nodup (fun j hj => HRB.out j ((HR.out j).2 ((hC.mem j).1 hj).1))
    have tq := own_tag hrow
    have hrne : ∀ j, q.ownBlock = some j → j ≠ W.heap.size ∧ j ≠ k := fun j hj => by
      obtain ⟨cs, hc⟩ := tq j hj
      refine ⟨fun e => iter_tag hrg _ _ _ (e ▸ hc), fun e => ?_⟩
      obtain ⟨es, c, hm⟩ := map_tag hrg.owns
      rw [e, hm] at hc
      cases hc
    have hm0 : wr.rangeLeft k W.heap.size = cnt := hrg.left_eq
    have hBs := hB.size
    have HC : Hid _ := hC
    have HB : Hid _ := hB
    clear hC hB tq
    go_wp2_with (first
      | (at_next; refine next_set rfl _ rfl k W.heap.size 64 D left cnt rfl hrg ?_ ?_))
    · intro hc0 hl0
      have hmem := HC.out.done hl0
      have hperm : R.Perm zs := (List.perm_ext_iff_of_nodup (HRS.out.imp (fun h => by omega)) HC.out.nodup).2 (fun j => by rw [HR.out j, hmem j])
      have hso := sort_any hrow hzl hperm (HRS.out.imp (fun h => by omega))
      clear hrg hmem hperm hl0 hc0 hm0
      go_wp2_with fail
      refine hso.mono ?_
      rintro e w3 ⟨rfl, hr3, hg3⟩
      go_wp2
      go_ret
      exact ⟨q, rfl, hr3, HB.out.grown hg3 HB.out.size (fun j e => (hrow.lt j e).1)⟩
    · intro x w2 cnt2 hlx hrg2 hlt hg2 hs2 hen
      obtain ⟨j, rfl, hPj, hnz, hC2⟩ := HC.out.step hlx
      have hrow2 : w2.ownsRow W.heap.size 3 1 q zs.length (ints zs) := row_of hrow (fun i hi => hg2.block i (hrow.lt i hi).2 (fun e => (hrne i hi).1 (Option.some.inj e)))
      have hB2 : Below W.heap.size W w2 := HB.out.grown hg2 HB.out.size (fun i e => by cases e; exact Nat.le_refl _)
      have hB2s := hB2.size
      have hrl := hrow2.lt
      have HR2 : Hid (w2.ranges Try.prog 3 unitElem k W.heap.size 64 D (fun z => left z && !z.sameKey (.int .i64 (j : Int))) cnt2) := hrg2
      have HC2 : Hid _ := hC2
      have HB2 : Hid _ := hB2
      clear hrow hrg hlx hC2 hrg2 hB2 hs2
      go_wp2_with (at_builtin; refine wpList_append_own_at _ rfl (.tmp 23) (.tmp 25) 50 rfl W.heap.size 3 i0 _ 1 8 Try.underlying50 hi0 hz0 hz1 hz2 rfl (by decide) q zs.length (ints zs) rfl (hrow2.alloc _) ⟨w2.heap.size, 0, none⟩ 1 1 [.int .i64 (j : Int)] rfl rfl (cell_one_new _ _ _) (fun u hu => by simp at hu; subst hu; rfl) ?_ ?_ ?_ ?_; exact (Nat.le_trans (m := 35184372088832) (by omega) (by decide)); omega; (simp; omega); intro v' w5 hown hgr _ _)
      have hrg5 := (World.ranges.alloc HR2.out (.cells #[.int .i64 (j : Int)] 3)).kept hgr (fun e => (hrne k e.symm).2 rfl) (fun e => (hrne _ e.symm).1 rfl)
      go_roundw
      case rel => exact ⟨_, cnt2, zs ++ [j], v', rfl, hrg5, by simpa [ints] using hown, HC2.out, (HB2.out.alloc HB2.out.size _).grown hgr (by simp; omega) (fun i e => (hrl i e).1)⟩
      case measure => rw [hrg5.left_eq, hm0]; exact hlt
end Go.Proofs.Ythkahbjcncbcfaa
