/-
  Acts that lie in memory; grown.
-/
import Derived.Test.YthkahbjcncbcfaaShB
namespace Go.Proofs.Ythkahbjcncbcfaa
open Go.RowKit Tr

namespace Tr
/-- An act. -/
structure Ax where
  kd : Int
  wh : Int
  nm : ByteArray
  pn : ByteArray
  n : Int
def OkAx (a : Ax) : Prop := a.nm.size ≤ maxLen ∧ a.pn.size ≤ maxLen
/-- What an act makes of a tree. -/
def stepV (l : List Ac) (a : Ax) : List Ac :=
  if amgV a.kd 4 = 0 then (addV l a.nm a.pn a.n).2.2 else if amgV a.kd 4 = 1 then (sharesV l a.nm a.n).2 else if amgV a.kd 4 = 2 then (moveV l a.nm a.pn).2 else (closeV l a.nm).2
theorem Wf.stepV {l : List Ac} (h : Wf l) (a : Ax) : Wf (Tr.stepV l a) := by
  unfold Tr.stepV
  split
  · exact h.addV _ _ _
  · split
    · exact h.sharesV _ _
    · split
      · exact h.moveV _ _
      · exact h.closeV _
def growV (xs : List Ax) : List Ac := xs.foldl stepV [rootAc]
theorem grow_take {xs : List Ax} {j : Nat} {a : Ax} (h : xs[j]? = some a) : growV (xs.take (j + 1)) = stepV (growV (xs.take j)) a := by
  unfold growV
  rw [List.take_add_one, h]
  simp [List.foldl_append]
theorem wf_fold {l : List Ac} (h : Wf l) : ∀ xs : List Ax, Wf (xs.foldl stepV l)
  | [] => h
  | a :: xs => wf_fold (h.stepV a) xs
theorem wf_grow (xs : List Ax) : Wf (growV xs) := wf_fold wf_new xs
end Tr
/-- The cells of an act. -/
structure AxAt (W : World) (g o : Nat) (a : Ax) : Prop where
  kd : W.cell? ⟨g, o, none⟩ = some (.int .i64 a.kd)
  wh : W.cell? ⟨g, o + 1, none⟩ = some (.int .i64 a.wh)
  nm : W.cell? ⟨g, o + 2, none⟩ = some (.string a.nm)
  pn : W.cell? ⟨g, o + 3, none⟩ = some (.string a.pn)
  n : W.cell? ⟨g, o + 4, none⟩ = some (.int .i64 a.n)
theorem AxAt.below {W W' : World} {B g o : Nat} {a : Ax} (h : AxAt W g o a) (b : Below B W W') (hB : W.heap.size ≤ B) : AxAt W' g o a := by
  have k : ∀ {x : Addr} {v : Value}, W.cell? x = some v → W'.cell? x = some v := fun hx => (b.cell (Nat.lt_of_lt_of_le (World.block_lt_of_cell? W _ hx) hB)).trans hx
  exact ⟨k h.kd, k h.wh, k h.nm, k h.pn, k h.n⟩
def ActsAt (W : World) (ao : Option Addr) (xs : List Ax) : Prop := ∃ g o, (0 < xs.length → ao = some ⟨g, o, none⟩) ∧ ∀ k a, xs[k]? = some a → AxAt W g (o + k * 5) a
theorem Tree.re {S S' : Nat → Prop} {W : World} {t : Nat} {l l' : List Ac} (h : Tree S W t l (kidB l)) (e : l = l') (b : ∀ j, S j → S' j) : Tree S' W t l' (kidB l') := by
  subst e
  exact h.mono (fun j _ hj => b j hj)

set_option maxHeartbeats 4000000 in
set_option maxRecDepth 20000 in
theorem grown_any {w : World} {ao : Option Addr} {xs : List Ax} {c : Nat} (hA : ActsAt w ao xs) (hok : ∀ a ∈ xs, OkAx a) (hn : xs.length * 56 ≤ 140737488355328) :
    Calls Try.prog 19 #[.slice ao xs.length c] w fun e w' => ∃ t, e = .returned (.pointer (some ⟨t, 0, none⟩)) ∧ Tree (fun j => w.heap.size ≤ j) w' t (growV xs) (kidB (growV xs)) ∧ Below w.heap.size w w' := by
  obtain ⟨g, o, hg, hc⟩ := hA
  obtain ⟨q, hq⟩ : ∃ q, xs.length = q := ⟨_, rfl⟩
  rw [hq] at hg hn ⊢
  go_enter Try.func19, Try.ntmps19
  go_wp2_with fail
  refine (tnew w).mono ?_
  rintro e w1 ⟨t, rfl, t1, b1⟩
  have T1 : Hid (Tree (fun j => w.heap.size ≤ j) w1 t [rootAc] (kidB [rootAc])) := t1
  have B1 : Hid _ := b1
  clear t1 b1
  go_wp2_with fail
  go_loopg [9] q (fun gk p wr => ∃ j : Nat, j + gk = q ∧ p = .int .i64 j ∧ Tree (fun j => w.heap.size ≤ j) wr t (growV (xs.take j)) (kidB (growV (xs.take j))) ∧ Below w.heap.size w wr)
  case atStart => exact ⟨0, by omega, rfl, by simpa [growV] using T1.out, B1.out⟩
  case round =>
    obtain ⟨j, hj, rfl, tr, hb⟩ := hrel
    by_cases hlt : j < q
    · have hlt' : (j : Int) < q := by omega
      obtain ⟨a, ha⟩ : ∃ a, xs[j]? = some a := ⟨_, List.getElem?_eq_getElem (by omega)⟩
      obtain rfl := hg (by omega)
      obtain ⟨d0, d1, d2, d3, d4⟩ := (hc j a ha).below hb (Nat.le_refl _)
      obtain ⟨o1, o2⟩ := hok a (List.mem_of_getElem? ha)
      have hgt := grow_take ha
      have hwf := wf_grow (xs.take j)
      obtain ⟨L, hL⟩ : ∃ L, growV (xs.take j) = L := ⟨_, rfl⟩
      rw [hL] at tr hgt hwf
      obtain ⟨wb, hwb⟩ : ∃ wb, wr.alloc (.cells #[.int .i64 a.kd, .int .i64 a.wh, .string a.nm, .string a.pn, .int .i64 a.n] 31) = wb := ⟨_, rfl⟩
      have bb : Below wr.heap.size wr wb := by rw [← hwb]; exact (Below.refl _ wr).alloc (Nat.le_refl _) _
      have yb : wb.heap[wr.heap.size]? = some (.cells #[.int .i64 a.kd, .int .i64 a.wh, .string a.nm, .string a.pn, .int .i64 a.n] 31 (0, 0)) := by rw [← hwb]; exact heap_alloc_new wr _
      obtain ⟨⟨x0, x1, x2, x3, x4⟩, _⟩ := cells5 yb
      have tb := tr.below bb
      have bw := hb.trans (bb.mono hb.size)
      have sw := bw.size
      have ham := among_any a.kd 4 wb (by decide) (by decide)
      obtain ⟨p1, p2⟩ := amgV_in a.kd 4 (by decide)
      have TB : Hid (Tree (fun j => w.heap.size ≤ j) wb t L (kidB L)) := tb
      have HG : Hid _ := hgt
      have BW : Hid _ := bw
      unfold stepV at HG
      obtain ⟨kd, hkd⟩ : ∃ kd, amgV a.kd 4 = kd := ⟨_, rfl⟩
      rw [hkd] at ham p1 p2 HG
      clear hc hg ha tr tb hgt bw hb bb yb hL hkd
      have hk : kd = 0 ∨ kd = 1 ∨ kd = 2 ∨ kd = 3 := by omega
      rcases hk with e0 | e1 | e2 | e3
      · subst e0
        have HE : Hid (growV (xs.take (j + 1)) = (addV L a.nm a.pn a.n).2.2) := HG.out
        clear HG
        go_wp2_with fail
        refine ham.mono ?_
        rintro e w2 ⟨rfl, rfl⟩
        go_wp2_with fail
        refine (tadd TB.out hwf o1 o2 a.n).mono ?_
        rintro e w3 ⟨rfl, t3, c3⟩
        have T3 : Hid (Tree (fun j => w.heap.size ≤ j) w3 t (growV (xs.take (j + 1))) (kidB (growV (xs.take (j + 1))))) := (t3.ext sw).re HE.out.symm (fun _ h => h)
        have B3 : Hid _ := BW.out.trans (c3.lo sw)
        clear t3 c3
        go_wp2
        go_roundg (q - (j + 1))
        case measure => omega
        case rel => exact ⟨j + 1, by omega, rfl, T3.out, B3.out⟩
      · subst e1
        have HE : Hid (growV (xs.take (j + 1)) = (sharesV L a.nm a.n).2) := HG.out
        clear HG
        go_wp2_with fail
        refine ham.mono ?_
        rintro e w2 ⟨rfl, rfl⟩
        go_wp2_with fail
        refine (tshares TB.out o1 a.n).mono ?_
        rintro e w3 ⟨rfl, t3, c3⟩
        have T3 : Hid (Tree (fun j => w.heap.size ≤ j) w3 t (growV (xs.take (j + 1))) (kidB (growV (xs.take (j + 1))))) := (t3.ext sw).re HE.out.symm (fun _ h => h)
        have B3 : Hid _ := BW.out.trans (c3.lo sw)
        clear t3 c3
        go_wp2
        go_roundg (q - (j + 1))
        case measure => omega
        case rel => exact ⟨j + 1, by omega, rfl, T3.out, B3.out⟩
      · subst e2
        have HE : Hid (growV (xs.take (j + 1)) = (moveV L a.nm a.pn).2) := HG.out
        clear HG
        go_wp2_with fail
        refine ham.mono ?_
        rintro e w2 ⟨rfl, rfl⟩
        go_wp2_with fail
        refine (tmove TB.out hwf o1 o2).mono ?_
        rintro e w3 ⟨rfl, t3, c3⟩
        have T3 : Hid (Tree (fun j => w.heap.size ≤ j) w3 t (growV (xs.take (j + 1))) (kidB (growV (xs.take (j + 1))))) := (t3.ext sw).re HE.out.symm (fun _ h => h)
        have B3 : Hid _ := BW.out.trans (c3.lo sw)
        clear t3 c3
        go_wp2
        go_roundg (q - (j + 1))
        case measure => omega
        case rel => exact ⟨j + 1, by omega, rfl, T3.out, B3.out⟩
      · subst e3
        have HE : Hid (growV (xs.take (j + 1)) = (closeV L a.nm).2) := HG.out
        clear HG
        go_wp2_with fail
        refine ham.mono ?_
        rintro e w2 ⟨rfl, rfl⟩
        go_wp2_with fail
        refine (tclose TB.out o1).mono ?_
        rintro e w3 ⟨rfl, t3, c3⟩
        have T3 : Hid (Tree (fun j => w.heap.size ≤ j) w3 t (growV (xs.take (j + 1))) (kidB (growV (xs.take (j + 1))))) := (t3.ext sw).re HE.out.symm (fun _ h => h)
        have B3 : Hid _ := BW.out.trans (c3.lo sw)
        clear t3 c3
        go_wp2
        go_roundg (q - (j + 1))
        case measure => omega
        case rel => exact ⟨j + 1, by omega, rfl, T3.out, B3.out⟩
    · obtain rfl : j = q := by omega
      rw [List.take_of_length_le (by omega)] at tr
      have TR : Hid (Tree (fun j => w.heap.size ≤ j) wr t (growV xs) (kidB (growV xs))) := tr
      clear tr
      go_wp2
      go_ret
      exact ⟨t, rfl, TR.out, hb⟩
end Go.Proofs.Ythkahbjcncbcfaa
