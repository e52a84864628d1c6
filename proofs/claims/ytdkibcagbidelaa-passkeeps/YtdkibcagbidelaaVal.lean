/-
  slices.Values at the runs: an iterator that gives them.
-/
import Derived.Test.YtdkibcagbidelaaRs
namespace Go.Proofs.Ytdkibcagbidelaa
open Go.RowKit Go.Shelf Pr

attribute [local go_sem] Oper.semAt_some

def natOf (v : Value) : Nat := match v with
  | .int _ z => z.toNat
  | _ => 0
theorem cell_al {w : World} {p : Addr} {v : Value} (h : w.cell? p = some v) (o : Obj) : (w.alloc o).cell? p = some v := (World.cell?_alloc_lt _ _ _ (World.block_lt_of_cell? w p h)).trans h
theorem cell_nw (w : World) {cs : Array Value} {t : TypeId} {k : Nat} {v : Value} (h : cs[k]? = some v) : (w.alloc (.cells cs t)).cell? ⟨w.heap.size, k, none⟩ = some v := by
  unfold World.cell?
  rw [heap_alloc_new w (.cells cs t)]
  exact h
theorem cells_at {w : World} {b k : Nat} {cs : Array Value} {e : TypeId} {f : Nat × Nat} {v : Value} (h : w.heap[b]? = some (.cells cs e f)) (hv : cs[k]? = some v) : w.cell? ⟨b, k, none⟩ = some v := by
  unfold World.cell?
  rw [h]
  simpa using hv
/-- Runs that lie in memory, and where. -/
structure RunsG (g o : Nat) (W : World) (ao : Option Addr) (l : List Rn) : Prop where
  at_ : 0 < l.length → ao = some ⟨g, o, none⟩
  cell : ∀ k r, l[k]? = some r → W.cell? ⟨g, o + k * 2, none⟩ = some (.int .i64 r.nd) ∧ W.cell? ⟨g, o + k * 2 + 1, none⟩ = some (.int .i64 r.en)
theorem RunsG.runs {g o : Nat} {W : World} {ao : Option Addr} {l : List Rn} (h : RunsG g o W ao l) : RunsAt W ao l := ⟨g, o, h.at_, h.cell⟩
theorem RunsAt.g {W : World} {ao : Option Addr} {l : List Rn} (h : RunsAt W ao l) : ∃ g o, RunsG g o W ao l := h.elim fun g h => h.elim fun o h => ⟨g, o, h.1, h.2⟩
theorem RunsG.chg {g o : Nat} {W W' : World} {ao : Option Addr} {l : List Rn} {K : Nat → Prop} (h : RunsG g o W ao l) (c : Chg K W W') (hK : 0 < l.length → ¬ K g) : RunsG g o W' ao l :=
  ⟨h.at_, fun k r hr => have := hK (by have := (List.getElem?_eq_some_iff.1 hr).1; omega); ⟨c.cell (h.cell k r hr).1 this, c.cell (h.cell k r hr).2 this⟩⟩
theorem RunsG.lt {g o : Nat} {W : World} {ao : Option Addr} {l : List Rn} (h : RunsG g o W ao l) (hl : 0 < l.length) : g < W.heap.size := World.block_lt_of_cell? W _ (h.cell 0 _ (List.getElem?_eq_getElem hl)).1

theorem values_any (ao : Option Addr) (n c : Nat) (w : World) : Calls Try.prog 57 #[.slice ao n c] w fun e w' => e = .returned (.func (.func 62) #[] #[.pointer (some ⟨w.heap.size, 0, none⟩)]) ∧ w' = w.alloc (.cells #[.slice ao n c] 23) := by
  go_enter Try.func57, Try.ntmps57
  go_wp2
  go_ret
  exact ⟨rfl, rfl⟩

def encR (r : Rn) : Array Value := #[.agg #[.int .i64 r.nd, .int .i64 r.en]]
set_option maxRecDepth 100000 in
set_option maxHeartbeats 2000000 in
theorem values_gives {W : World} {b g o c : Nat} {ao : Option Addr} {l : List Rn} (hb : W.cell? ⟨b, 0, none⟩ = some (.slice ao l.length c)) (hA : RunsG g o W ao l) (hlen : l.length * 16 ≤ 140737488355328) :
    Gives 62 #[.pointer (some ⟨b, 0, none⟩)] encR l (fun j => j = b ∨ (0 < l.length ∧ j = g)) W := by
  intro n L N T Tx hn hN h0 hT hY
  refine callsIn_of_wp Try.func62 rfl trivial ?_ rfl
  simp only [Try.ntmps62, List.size_toArray, List.length_cons, List.length_nil, Nat.reduceAdd, Nat.reduceSub, Array.replicate_succ, Array.replicate_zero, List.push_toArray, List.append_toArray, List.nil_append, List.cons_append]
  have T0 : Hid (T W.heap.size 0 W) := h0 W (Below.refl _ _)
  have HA : Hid _ := hA
  clear hA h0
  obtain ⟨q, hq⟩ : ∃ q, l.length = q := ⟨_, rfl⟩
  rw [hq] at hlen hb ⊢
  gi_wp2
  gi_loopw [7] (fun p wr => ∃ k : Nat, p = .int .i64 k ∧ k ≤ q ∧ RunsG g o wr ao l ∧ T W.heap.size k wr ∧ W.heap.size ≤ wr.heap.size) (fun p _ => q - natOf p)
  case atStart => exact ⟨0, rfl, by omega, HA.out, T0.out, Nat.le_refl _⟩
  case round =>
    obtain ⟨k, rfl, hkq, hls, hTk, hwz⟩ := hrel
    by_cases hlt : k < q
    · obtain ⟨r, hr⟩ : ∃ r, l[k]? = some r := ⟨_, List.getElem?_eq_getElem (by omega)⟩
      obtain ⟨x0, x1⟩ := hls.cell k r hr
      obtain rfl := hls.at_ (by omega)
      obtain ⟨wn, hwn⟩ : ∃ wn, wr.alloc (.cells #[.int .i64 r.nd, .int .i64 r.en] 45) = wn := ⟨_, rfl⟩
      have bn : Below wr.heap.size wr wn := by rw [← hwn]; exact (Below.refl _ _).alloc (Nat.le_refl _) _
      have kn : KeepsOthers wr wn := by rw [← hwn]; exact KeepsOthers.alloc _ _
      obtain ⟨fn, tmps, assign, body, hy, hR⟩ := hY W.heap.size k r wn (Nat.le_refl _) (Nat.le_trans hwz bn.size) hr (hT _ _ _ _ (Nat.le_refl _) hTk (Chg.of_below bn _) kn)
      have LSn : Hid (RunsG g o wn (some ⟨g, o, none⟩) l) := hls.chg (Chg.of_below bn (fun _ => False)) (fun _ h => h)
      have HWZ : Hid (W.heap.size ≤ wn.heap.size) := Nat.le_trans hwz bn.size
      have y0 : wn.cell? ⟨wr.heap.size, 0, none⟩ = some (.int .i64 r.nd) := by rw [← hwn]; exact cell_nw wr rfl
      have y1 : wn.cell? ⟨wr.heap.size, 1, none⟩ = some (.int .i64 r.en) := by rw [← hwn]; exact cell_nw wr rfl
      have HG : Hid (0 < l.length → g < W.heap.size) := fun h => HA.out.lt h
      unfold encR at hy
      clear hls hTk hT hY
      gi_wp2
      refine hR.mono ?_
      rintro e w3 (⟨rfl, hT3, hC3⟩ | ⟨rfl, hx3⟩)
      · gi_wp2
        go_roundw
        case rel =>
          refine ⟨k + 1, rfl, by omega, LSn.out.chg hC3 ?_, hT3, Nat.le_trans HWZ.out hC3.size⟩
          rintro hl (h | h)
          · exact (hN g h).2 (.inr ⟨hl, rfl⟩)
          · have := HG.out hl
            omega
        case measure => simp [natOf]; omega
      · gi_wp2
        refine bodyPost_ret (results_none rfl _ _ _) rfl ?_
        exact ⟨⟨_, rfl⟩, .inr hx3⟩
    · obtain rfl : k = q := by omega
      have TK : Hid _ := hTk
      clear hTk hls
      gi_wp2
      go_end0
      exact ⟨⟨_, rfl⟩, .inl ⟨_, Nat.le_refl _, TK.out⟩⟩
theorem values_seq {w : World} {b g o c : Nat} {ao : Option Addr} {l : List Rn} (hb : w.cell? ⟨b, 0, none⟩ = some (.slice ao l.length c)) (hA : RunsG g o w ao l) (hlen : l.length * 16 ≤ 140737488355328) :
    SeqOf 62 #[.pointer (some ⟨b, 0, none⟩)] encR l (fun j => j = b ∨ (0 < l.length ∧ j = g)) w :=
  ⟨fun j hj => by
    rcases hj with rfl | ⟨hl, rfl⟩
    · exact World.block_lt_of_cell? w _ hb
    · exact hA.lt hl, fun W cW => values_gives (cW.cell hb (fun h => h (.inl rfl))) (hA.chg cW (fun hl h => h (.inr ⟨hl, rfl⟩))) hlen⟩
end Go.Proofs.Ytdkibcagbidelaa
