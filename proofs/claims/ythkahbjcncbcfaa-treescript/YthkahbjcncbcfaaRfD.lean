/-
  Layer 6's reference: Get, Kids, Below.
-/
import Derived.Test.YthkahbjcncbcfaaRfC
import Derived.Maps.AppendAt
import Derived.Laws.Rows
namespace Go.Proofs.Ythkahbjcncbcfaa
open Go.RowKit Tr

theorem frozen_at {w : World} {b k : Nat} {cs : Array Value} {e : TypeId} (h : w.heap[b]? = some (.cells cs e (0, 0))) : w.frozen? ⟨b, k, none⟩ = false := by
  unfold World.frozen?
  rw [h]
  simp
theorem cells5 {w : World} {b : Nat} {v0 v1 v2 v3 v4 : Value} {e : TypeId} (h : w.heap[b]? = some (.cells #[v0, v1, v2, v3, v4] e (0, 0))) :
    (w.cell? ⟨b, 0, none⟩ = some v0 ∧ w.cell? ⟨b, 1, none⟩ = some v1 ∧ w.cell? ⟨b, 2, none⟩ = some v2 ∧ w.cell? ⟨b, 3, none⟩ = some v3 ∧ w.cell? ⟨b, 4, none⟩ = some v4) ∧ ∀ k, w.frozen? ⟨b, k, none⟩ = false :=
  ⟨⟨cells_at h rfl, cells_at h rfl, cells_at h rfl, cells_at h rfl, cells_at h rfl⟩, fun _ => frozen_at h⟩
theorem set5 {w : World} {b : Nat} {u0 u1 u2 u3 u4 : Value} {e : TypeId} (h : w.heap[b]? = some (.cells #[u0, u1, u2, u3, u4] e (0, 0))) (v0 v1 v2 v3 v4 : Value) :
    (((((w.setCell ⟨b, 0, none⟩ v0).setCell ⟨b, 1, none⟩ v1).setCell ⟨b, 2, none⟩ v2).setCell ⟨b, 3, none⟩ v3).setCell ⟨b, 4, none⟩ v4).heap[b]? = some (.cells #[v0, v1, v2, v3, v4] e (0, 0)) :=
  heap_setCell_same _ b 4 _ e v4 (heap_setCell_same _ b 3 _ e v3 (heap_setCell_same _ b 2 _ e v2 (heap_setCell_same _ b 1 _ e v1 (heap_setCell_same _ b 0 _ e v0 h))))
theorem _root_.Go.RowKit.Below.set5 {B b : Nat} {w w1 : World} (h : Below B w w1) (hb : B ≤ b) (v0 v1 v2 v3 v4 : Value) : Below B w (((((w1.setCell ⟨b, 0, none⟩ v0).setCell ⟨b, 1, none⟩ v1).setCell ⟨b, 2, none⟩ v2).setCell ⟨b, 3, none⟩ v3).setCell ⟨b, 4, none⟩ v4) :=
  ((((h.setCell (p := ⟨b, 0, none⟩) hb v0).setCell (p := ⟨b, 1, none⟩) hb v1).setCell (p := ⟨b, 2, none⟩) hb v2).setCell (p := ⟨b, 3, none⟩) hb v3).setCell (p := ⟨b, 4, none⟩) hb v4
/-- An account as a value. -/
def acV (a : Ac) : Value := .agg #[.string a.nm, .int .i64 a.pa, .int .i64 a.sh, .bool a.cl, .int .u64 a.us]
def noAc : Ac := ⟨⟨#[]⟩, 0, 0, false, 0⟩
def getA (l : List Ac) (n : Int) : Value := if thereB l n then .tuple #[acV ((l[n.toNat]?).getD noAc), .bool true] else .tuple #[acV noAc, .bool false]
set_option maxHeartbeats 1000000 in
theorem rget_any {w : World} {d : Nat} {l : List Ac} (hT : RefT w d l) (hn : l.length * 48 ≤ 140737488355328) (n : Int) :
    Calls Try.prog 44 #[.pointer (some ⟨d, 0, none⟩), .int .i64 n] w fun e w' => e = .returned (getA l n) ∧ Below w.heap.size w w' := by
  obtain ⟨w0, hw0⟩ : ∃ w0, w.alloc (.cells #[.string ⟨#[]⟩, .int .i64 0, .int .i64 0, .bool false, .int .u64 0] 39) = w0 := ⟨_, rfl⟩
  have b0 : Below w.heap.size w w0 := by rw [← hw0]; exact (Below.refl _ w).alloc (Nat.le_refl _) _
  have y0 : w0.heap[w.heap.size]? = some (.cells #[.string ⟨#[]⟩, .int .i64 0, .int .i64 0, .bool false, .int .u64 0] 39 (0, 0)) := by rw [← hw0]; exact heap_alloc_new w _
  have hT0 := hT.below b0
  have ht := there_any hT0 n
  have hlt0 : w.heap.size < w0.heap.size := by rw [← hw0]; simp
  have HW0 : Hid _ := hw0
  clear hw0
  unfold getA
  cases hb : thereB l n with
  | false =>
    rw [hb] at ht
    go_enter Try.func44, Try.ntmps44
    go_wp2_with (first | (go_at_call 64; rw [HW0.out]; refine ht.mono ?_; rintro e w1 ⟨rfl, b1⟩; obtain ⟨x, x'⟩ := cells5 ((b1.block _ hlt0).trans y0); obtain ⟨x0, x1, x2, x3, x4⟩ := x))
    have S := set5 ((b1.block _ hlt0).trans y0) (.string ⟨#[]⟩) (.int .i64 0) (.int .i64 0) (.bool false) (.int .u64 0)
    obtain ⟨⟨z0, z1, z2, z3, z4⟩, _⟩ := cells5 S
    exact bodyPost_ret (v := .tuple #[acV noAc, .bool false]) (by simp [results, Try.results44, go_sem, acV, noAc, z0, z1, z2, z3, z4]) rfl ⟨rfl, (b0.trans (b1.mono b0.size)).set5 (Nat.le_refl _) _ _ _ _ _⟩
  | true =>
    rw [hb] at ht
    obtain ⟨h0, h1⟩ : 0 ≤ n ∧ n < l.length := by simpa [thereB] using hb
    obtain ⟨m, rfl⟩ : ∃ m : Nat, n = m := ⟨n.toNat, by omega⟩
    obtain ⟨a, ha⟩ : ∃ a, l[m]? = some a := ⟨_, List.getElem?_eq_getElem (by omega)⟩
    simp only [if_true, Int.toNat_natCast, ha, Option.getD_some]
    go_enter Try.func44, Try.ntmps44
    go_wp2_with (first | (go_at_call 64; rw [HW0.out]; refine ht.mono ?_; rintro e w1 ⟨rfl, b1⟩; obtain ⟨x, x'⟩ := cells5 ((b1.block _ hlt0).trans y0); obtain ⟨x0, x1, x2, x3, x4⟩ := x; obtain ⟨ao, c, g1, g2, _⟩ := hT0.below b1; have c0 : w1.cell? ⟨d, 0, none⟩ = some (.slice ao l.length c) := cells_at g1 rfl; obtain ⟨g, o, hg, hc⟩ := g2; obtain rfl := hg (by omega); obtain ⟨d0, d1, d2, d3, d4⟩ := hc m a ha))
    have S := set5 ((b1.block _ hlt0).trans y0) (.string a.nm) (.int .i64 a.pa) (.int .i64 a.sh) (.bool a.cl) (.int .u64 a.us)
    obtain ⟨⟨z0, z1, z2, z3, z4⟩, _⟩ := cells5 S
    exact bodyPost_ret (v := .tuple #[acV a, .bool true]) (by simp [results, Try.results44, go_sem, acV, z0, z1, z2, z3, z4]) rfl ⟨rfl, (b0.trans (b1.mono b0.size)).set5 (Nat.le_refl _) _ _ _ _ _⟩

def ints (xs : List Nat) : List Value := xs.map fun (k : Nat) => .int .i64 (k : Int)
theorem Try.inf3 : (Try.prog.info? 3).map (fun i => (i.zero, i.size, i.bytes)) = some (some (.int .i64 0), 1, 8) := by kernel_rfl
theorem row_kept {w w1 : World} {B e sz n : Nat} {v : Value} {vs : List Value} (h : w.ownsRow B e sz v n vs) (b : Below w.heap.size w w1) : w1.ownsRow B e sz v n vs := by
  refine ⟨h.1, ?_⟩
  rcases h.2 with h0 | ⟨g, cap, cur, rfl, hb, hg, r⟩
  · exact .inl h0
  · exact .inr ⟨g, cap, cur, rfl, hb, (b.block g (Array.getElem?_eq_some_iff.1 hg).1).trans hg, r⟩
theorem below_gr {w w1 w2 : World} {v : Value} {vs : List Value} {n B e sz : Nat} (h : Below w.heap.size w w1) (hr : w1.ownsRow B e sz v n vs) (hB : w.heap.size ≤ B) (hg : w1.grownBy w2 v.ownBlock) : Below w.heap.size w w2 :=
  h.grown hg h.size (fun k e => by have := (hr.lt k e).1; omega)
theorem own_base {w : World} {B B' e sz n : Nat} {v : Value} {vs : List Value} (h : w.ownsRow B e sz v n vs) (hb : B' ≤ B) : w.ownsRow B' e sz v n vs := by
  refine ⟨h.1, ?_⟩
  rcases h.2 with h0 | ⟨g, cap, cur, rfl, hg, r⟩
  · exact .inl h0
  · exact .inr ⟨g, cap, cur, rfl, Nat.le_trans hb hg, r⟩
theorem filter_step (p : Nat → Bool) (j : Nat) : (List.range (j + 1)).filter p = (List.range j).filter p ++ (if p j then [j] else []) := by
  rw [List.range_succ, List.filter_append]
  congr 1
  by_cases h : p j = true
  · simp [h]
  · simp [h]
theorem filter_len (p : Nat → Bool) (j : Nat) : ((List.range j).filter p).length ≤ j := by
  have := List.length_filter_le p (List.range j)
  simpa using this
def kidsZ (l : List Ac) (n : Int) : List Nat := if thereB l n then kidsV l n.toNat else []

set_option maxHeartbeats 2000000 in
set_option maxRecDepth 20000 in
theorem rkids_any {w : World} {d : Nat} {l : List Ac} (hT : RefT w d l) (hn : l.length * 48 ≤ 140737488355328) (n : Int) :
    Calls Try.prog 45 #[.pointer (some ⟨d, 0, none⟩), .int .i64 n] w fun e w' => ∃ v, e = .returned v ∧ w'.ownsRow w.heap.size 3 1 v (kidsZ l n).length (ints (kidsZ l n)) ∧ Below w.heap.size w w' := by
  have ht := there_any hT n
  unfold kidsZ
  cases hb : thereB l n with
  | false =>
    rw [hb] at ht
    go_enter Try.func45, Try.ntmps45
    go_wp2_with fail
    refine ht.mono ?_
    rintro e w1 ⟨rfl, b1⟩
    go_wp2
    go_ret
    exact ⟨_, rfl, World.ownsRow_nil _ _ _ _, b1⟩
  | true =>
    rw [hb] at ht
    obtain ⟨h0, h1⟩ : 0 ≤ n ∧ n < l.length := by simpa [thereB] using hb
    obtain ⟨m, rfl⟩ : ∃ m : Nat, n = m := ⟨n.toNat, by omega⟩
    simp only [if_true, Int.toNat_natCast]
    obtain ⟨i0, hi0, hz0, hz1, hz2⟩ := info_parts Try.inf3
    obtain ⟨q, hq⟩ : ∃ q, l.length = q := ⟨_, rfl⟩
    have hkv : kidsV l m = (List.range q).filter fun i => decide ((l[i]?.map (·.pa)) = some (m : Int)) := by rw [← hq]; rfl
    obtain ⟨P, hP⟩ : ∃ P : Nat → Bool, P = fun i => decide ((l[i]?.map (·.pa)) = some (m : Int)) := ⟨_, rfl⟩
    rw [hkv, ← hP]
    rw [hq] at hn h1
    clear hkv
    go_enter Try.func45, Try.ntmps45
    go_wp2_with fail
    refine ht.mono ?_
    rintro e w1 ⟨rfl, b1⟩
    obtain ⟨ao, c, g1, g2, _⟩ := hT.below b1
    have c0 : w1.cell? ⟨d, 0, none⟩ = some (.slice ao l.length c) := cells_at g1 rfl
    obtain ⟨g, o, hg, hc⟩ := g2
    rw [hq] at c0 hg
    clear g1
    go_wp2_with fail
    go_loopg [5, 17] q (fun gk pv p wr => ∃ (j : Nat) (v : Value), j + gk = q ∧ p = .int .i64 j ∧ v = pv ∧ wr.ownsRow w1.heap.size 3 1 v ((List.range j).filter P).length (ints ((List.range j).filter P)) ∧ Below w1.heap.size w1 wr)
    case atStart => exact ⟨0, _, by omega, rfl, rfl, World.ownsRow_nil _ _ _ _, Below.refl _ _⟩
    case round =>
      obtain ⟨j, v, hj, rfl, rfl, hrow, hb1⟩ := hrel
      by_cases hlt : j < q
      · have hlt' : (j : Int) < q := by omega
        obtain ⟨a, ha⟩ : ∃ a, l[j]? = some a := ⟨_, List.getElem?_eq_getElem (by omega)⟩
        obtain rfl := hg (by omega)
        obtain ⟨d0, d1, d2, d3, d4⟩ := (hc j a ha).below hb1
        have hPj : P j = decide (a.pa = m) := by rw [hP]; simp [ha]
        have hfs := filter_step P j
        have hfl := filter_len P j
        have hz := hb1.size
        obtain ⟨F, hF⟩ : ∃ F, (List.range j).filter P = F := ⟨_, rfl⟩
        rw [hF] at hrow hfs hfl
        clear hc hg ha hF
        by_cases e : a.pa = m
        · have hPt : P j = true := by rw [hPj]; simp [e]
          rw [if_pos hPt] at hfs
          have HFS : Hid _ := hfs
          have HB1 : Hid _ := hb1
          rw [e] at d1
          clear hfs hPt hPj hP hb1 e
          have hnc : ∀ i u, [Value.int .i64 (j : Int)][i]? = some u → ((wr.alloc (.cells #[.string a.nm, .int .i64 m, .int .i64 a.sh, .bool a.cl, .int .u64 a.us] 39)).alloc (.cells #[.int .i64 j] 3)).cell? ((⟨wr.heap.size + 1, 0, none⟩ : Addr).add i) = some u := by
            have := cell_one_new (wr.alloc (.cells #[.string a.nm, .int .i64 m, .int .i64 a.sh, .bool a.cl, .int .u64 a.us] 39)) (.int .i64 j) 3
            rwa [World.size_alloc] at this
          go_upto_region 8 with fail
          go_wp2_with (at_builtin; refine wpList_append_own_at _ rfl (.tmp 26) (.tmp 28) 50 rfl w1.heap.size 3 i0 _ 1 8 Try.underlying50 hi0 hz0 hz1 hz2 rfl (by decide) v F.length (ints F) rfl ((hrow.alloc _).alloc _) ⟨wr.heap.size + 1, 0, none⟩ 1 1 [.int .i64 (j : Int)] rfl rfl hnc (fun u hu => by simp at hu; subst hu; rfl) ?_ ?_ ?_ ?_; exact (Nat.le_trans (m := 35184372088832) (by omega) (by decide)); omega; (simp; omega); intro v' w5 hown hgr _ _)
          go_roundg (q - (j + 1))
          case measure => omega
          case rel =>
            refine ⟨j + 1, v', by omega, rfl, rfl, ?_, ?_⟩
            · rw [HFS.out]; simpa [ints] using hown
            · exact below_gr ((HB1.out.alloc hz _).alloc (by simp; omega) _) ((hrow.alloc _).alloc _) (Nat.le_refl _) hgr
        · have hPt : P j = false := by rw [hPj]; simp [e]
          rw [if_neg (by simp [hPt]), List.append_nil] at hfs
          have HFS : Hid _ := hfs
          have HB1 : Hid _ := hb1
          clear hfs hPt hPj hP hb1
          go_wp2
          go_roundg (q - (j + 1))
          case measure => omega
          case rel => exact ⟨j + 1, _, by omega, rfl, rfl, by rw [HFS.out]; exact hrow.alloc _, HB1.out.alloc hz _⟩
      · obtain rfl : j = q := by omega
        go_wp2
        go_ret
        exact ⟨_, rfl, own_base hrow b1.size, b1.trans (hb1.mono b1.size)⟩
end Go.Proofs.Ythkahbjcncbcfaa
