/-
  Package profile: what All hands back gives the steps.
-/
import Derived.Test.YtdkibcagbidelaaPfP
import Derived.Test.YtdkibcagbidelaaCol
namespace Go.Proofs.Ytdkibcagbidelaa
open Go.RowKit Go.Shelf Pr

attribute [local go_sem] Oper.semAt_some

theorem keeps_below {w w' : World} (b : Below w.heap.size w w') : KeepsOthers w w' := ⟨b.size, fun k _ h _ => (b.block k (Array.getElem?_eq_some_iff.1 h).1).trans h⟩
def encS (s : Stp) : Array Value := #[.agg #[.int .i64 s.at_, .int .i64 s.fr]]
/-- What the step's block tells. -/
def atOf (b : Nat) (w : World) : Int := match w.cell? ⟨b, 0, none⟩ with
  | some (.int _ z) => z
  | _ => 0

theorem keepS {w0 w1 w2 : World} {p : Addr} {v : Value} (b : Below w1.heap.size w1 w2) (h : w1.cell? p = some v ∧ w1.frozen? p = false ∧ Below w0.heap.size w0 w1) : w2.cell? p = some v ∧ w2.frozen? p = false ∧ Below w0.heap.size w0 w2 := by
  have hlt := World.block_lt_of_cell? w1 p h.1
  refine ⟨(b.cell hlt).trans h.1, ?_, h.2.2.trans (b.mono h.2.2.size)⟩
  have e := b.block _ hlt
  unfold World.frozen? at h ⊢
  rw [e]
  exact h.2.1
theorem take_sum {M : List Rn} (c n : Nat) : sumN (M.take (c + n)) = sumN (M.take c) + sumN ((M.drop c).take n) := by rw [List.take_add, sumN_app]

set_option maxRecDepth 100000 in
set_option maxHeartbeats 4000000 in
theorem all2_gives {W : World} {bn bf bo g o c : Nat} {ao : Option Addr} {now free : Int} {l M : List Rn} (h1 : W.cell? ⟨bn, 0, none⟩ = some (.int .i64 now)) (h2 : W.cell? ⟨bf, 0, none⟩ = some (.int .i64 free)) (h3 : W.cell? ⟨bo, 0, none⟩ = some (.slice ao M.length c))
    (hA : Sl g o W ao M c) (hc : c ≤ maxLen) (hlen : l.length * 16 ≤ 140737488355328) (hp : M.Perm l) (hs : Srt M) (hr : right free l = true) :
    Gives 52 #[.pointer (some ⟨bn, 0, none⟩), .pointer (some ⟨bf, 0, none⟩), .pointer (some ⟨bo, 0, none⟩)] encS (stepsV now free l) (fun j => j = bn ∨ j = bf ∨ j = bo ∨ (0 < M.length ∧ j = g)) W := by
  intro n L N T Tx hn hN h0 hT hY
  refine callsIn_of_wp Try.func52 rfl trivial ?_ rfl
  simp only [Try.ntmps52, List.size_toArray, List.length_cons, List.length_nil, Nat.reduceAdd, Nat.reduceSub, Array.replicate_succ, Array.replicate_zero, List.push_toArray, List.append_toArray, List.nil_append, List.cons_append]
  have HA : Hid _ := hA
  have HP : Hid _ := hp
  have HS : Hid _ := hs
  have HR : Hid _ := hr
  have H0 : Hid _ := h0
  have HT : Hid _ := hT
  have HY : Hid _ := hY
  have HN : Hid _ := hN
  clear hA hp hs hr h0 hT hY hN
  have l1 : bn < W.heap.size := World.block_lt_of_cell? W _ h1
  have l2 : bf < W.heap.size := World.block_lt_of_cell? W _ h2
  have l3 : bo < W.heap.size := World.block_lt_of_cell? W _ h3
  gi_wp2
  gi_region
  obtain ⟨W1, hW1⟩ : ∃ W1, (W.alloc (.cells #[.int .i64 now, .int .i64 free] 82)).drew = W1 := ⟨_, rfl⟩
  have b1 : Below W.heap.size W W1 := by rw [← hW1]; exact ((Below.refl _ W).alloc (Nat.le_refl _) _).drew
  have z1 : W1.heap.size = W.heap.size + 1 := by rw [← hW1]; show (W.alloc _).heap.size = _; simp
  have y1 : W1.heap[W.heap.size]? = some (.cells #[.int .i64 now, .int .i64 free] 82 (0, 0)) := by rw [← hW1]; exact heap_alloc_new W _
  rw [hW1]
  clear hW1 h1 h2 h3 l1 l2 l3
  have T0 : Hid (T W1.heap.size 0 W1) := H0.out W1 b1
  have B1 : Hid _ := b1
  clear b1
  obtain ⟨q, hq⟩ : ∃ q, M.length = q := ⟨_, rfl⟩
  have hlq : l.length = q := by rw [← HP.out.length_eq]; exact hq
  rw [hlq] at hlen
  have HLQ : Hid _ := hlq
  have HQ : Hid _ := hq
  rw [hq]
  clear hq hlq
  obtain ⟨st, hst⟩ : ∃ st, W.heap.size = st := ⟨_, rfl⟩
  rw [hst] at y1 z1 ⊢
  have HST : Hid _ := hst
  clear hst
  have hS : stepsV now free l = fromV free l now := by unfold stepsV fromV; rw [if_pos HR.out]
  have HSS : Hid _ := hS
  clear hS
  gi_wp2_with fail
  gi_loopw [6] (fun p wr => ∃ (k : Nat) (a f : Int) (c0 oL cL : Nat) (aL : Option Addr), p = .slice aL (q - c0) cL ∧ Sl g oL wr aL (M.drop c0) cL ∧ cL ≤ maxLen ∧ c0 ≤ q ∧ (∀ r ∈ M.take c0, r.en ≤ a) ∧ f = free + sumN (M.take c0) ∧ wr.heap[st]? = some (.cells #[.int .i64 a, .int .i64 f] 82 (0, 0)) ∧ (stepsV now free l).drop k = fromV free l a ∧ T W1.heap.size k wr ∧ W1.heap.size ≤ wr.heap.size) (fun _ wr => cnt l (atOf st wr))
  case atStart =>
    refine ⟨0, now, free, 0, o, c, ao, rfl, ?_, hc, Nat.zero_le _, fun r hr => by simp at hr, by simp [sumN], y1, HSS.out, T0.out, Nat.le_refl _⟩
    exact HA.out.below B1.out
  case round =>
    obtain ⟨k, a, f, c0, oL, cL, aL, rfl, hsl, hcL, hc0, hin, hf, hst, hdr, hTk, hwz⟩ := hrel
    have x0 : wr.cell? ⟨st, 0, none⟩ = some (.int .i64 a) := cells_at hst rfl
    have hpa := parted_any hsl (by simp [HQ.out]; omega) hcL a
    rw [List.length_drop, HQ.out] at hpa
    have hcut := cut_su HS.out hin
    obtain ⟨n1, hn1⟩ : ∃ n1, nEnd a (M.drop c0) = n1 := ⟨_, rfl⟩
    have hn1l : n1 ≤ q - c0 := by
      have := nEnd_le a (M.drop c0)
      rw [hn1, List.length_drop, HQ.out] at this
      exact this
    rw [hn1] at hpa hcut
    have HCUT : Hid _ := hcut
    have HDR : Hid _ := hdr
    have HTK : Hid _ := hTk
    have HF : Hid _ := hf
    have HSTB : Hid _ := hst
    clear hcut hdr hTk hf hst hin hsl hn1
    gi_wp2_with (first
      | (refine ⟨trivial, ?_⟩; gi_at_call 53; refine (callsIn_wide.2 hpa).mono ?_; rintro e w2 ⟨a1, a2, rfl, sl1, ⟨o2, sl2⟩, b2⟩))
    clear hpa
    have hst2 : w2.heap[st]? = some (.cells #[.int .i64 a, .int .i64 f] 82 (0, 0)) := (b2.block _ (Array.getElem?_eq_some_iff.1 HSTB.out).1).trans HSTB.out
    have x1 : w2.cell? ⟨st, 1, none⟩ = some (.int .i64 f) := cells_at hst2 rfl
    have xf : w2.frozen? ⟨st, 1, none⟩ = false := frozen_at hst2
    have hMok : M.all okR = true := by
      obtain ⟨_, hok⟩ : okF free = true ∧ l.all okR = true := by simpa [right] using HR.out
      rw [List.all_eq_true] at hok ⊢
      exact fun r hr => hok r (HP.out.mem_iff.1 hr)
    have hfree : 0 ≤ free ∧ free ≤ 256 := by
      obtain ⟨hf, _⟩ : okF free = true ∧ l.all okR = true := by simpa [right] using HR.out
      simpa [okF] using hf
    have q1 := sumN_bound (take_all hMok c0)
    have q2 := sumN_bound (take_all (drop_all hMok c0) n1)
    have q3 := take_sum (M := M) c0 n1
    have hl1 : ((M.drop c0).take n1).length = n1 := by rw [List.length_take, List.length_drop, HQ.out]; omega
    have hl0 : (M.take c0).length ≤ q := by rw [List.length_take, HQ.out]; omega
    obtain ⟨sm, hsm⟩ : ∃ sm, sumN ((M.drop c0).take n1) = sm := ⟨_, rfl⟩
    have hno : ∀ W', Below w2.heap.size w2 W' → Calls Try.prog 54 #[.slice a1 n1 n1] W' fun e w' => e = .returned (.int .i64 sm) ∧ Below W'.heap.size W' w' := fun W' hB => by
      have := nodesOf_any (c := n1) (sl1.below hB).g.runs (by rw [hl1]; omega) (take_all (drop_all hMok c0) n1)
      rwa [hl1, hsm] at this
    rw [hsm] at q2 q3
    rw [hl1] at q2
    have f0 : 0 ≤ f := by have := HF.out; omega
    have f1 : f ≤ 256 + 256 * q := by have := HF.out; omega
    have s0 : 0 ≤ sm := q2.1
    have s1 : sm ≤ 256 * q := by omega
    have hfs : f + sm = atV free l a := by
      rw [at_su, ← su_perm HP.out, HCUT.out.2.2, q3]
      have := HF.out
      omega
    have HFS : Hid _ := hfs
    have hb0 : Below w2.heap.size w2 w2.drew := (Below.refl _ w2).drew
    clear hfs q1 q2 q3 hl1 hl0 hsm hfree
    refine wpIn_wide.2 ?_
    have hno2 := (hno _ hb0).mono (R' := fun e w3 => e = .returned (.int .i64 sm) ∧ w3.cell? ⟨st, 1, none⟩ = some (.int .i64 f) ∧ w3.frozen? ⟨st, 1, none⟩ = false ∧ Below w2.heap.size w2 w3) (fun e w3 h => ⟨h.1, keepS h.2 ⟨x1, xf, hb0⟩⟩)
    clear hno
    go_region_with (first | (go_at_call 54; refine hno2.mono ?_; rintro e w3 ⟨rfl, x3, xf3, b3⟩))
    all_goals
      have hwr : IntKind.i64.wrap (f + sm) = f + sm := by rw [IntKind.wrap_i64]; omega
      rw [hwr]
      clear hno2 x1 xf hb0
      have hst3 : w3.heap[st]? = some (.cells #[.int .i64 a, .int .i64 f] 82 (0, 0)) := (b3.block _ (Array.getElem?_eq_some_iff.1 hst2).1).trans hst2
      obtain ⟨A, hA⟩ : ∃ A, w3.setCell ⟨st, 1, none⟩ (.int .i64 (f + sm)) = A := ⟨_, rfl⟩
      have hstA : A.heap[st]? = some (.cells #[.int .i64 a, .int .i64 (f + sm)] 82 (0, 0)) := by rw [← hA]; exact heap_setCell_same w3 st 1 _ 82 _ hst3
      have b13 : Below wr.heap.size wr w3 := b2.trans (b3.mono b2.size)
      have cA : Chg (fun j => j = st) wr A := by rw [← hA]; exact (Chg.of_below b13 _).setCell _ _ (.inl rfl)
      have kA : KeepsOthers wr A := by rw [← hA]; exact (keeps_below b13).trans (KeepsOthers.setCell _ _ _)
      have zA : W1.heap.size ≤ A.heap.size := Nat.le_trans hwz cA.size
      have hWst := HST.out
      have TA := HT.out W1.heap.size k wr A (by omega) HTK.out (cA.mono (fun j _ e => by subst e; exact ⟨by omega, by omega⟩)) kA
      have hs : (stepsV now free l)[k]? = some ⟨a, f + sm⟩ := by
        have e1 : ((stepsV now free l).drop k)[0]? = some ⟨a, f + sm⟩ := by rw [HDR.out, HFS.out]; rfl
        rwa [List.getElem?_drop, Nat.add_zero] at e1
      obtain ⟨fn, tmps, assign, body, hy, hRd⟩ := HY.out W1.heap.size k ⟨a, f + sm⟩ A (by omega) zA hs TA
      unfold encS at hy
      dsimp only at hy
      have hgst : 0 < M.length → g < st := fun h => by have := HA.out.g.lt h; omega
      have sl2A := (sl2.below b3).chg (K := fun j => j = st) (W' := A) (by rw [← hA]; exact (Chg.refl _ w3).setCell _ _ (.inl rfl)) (fun h e => by have := hgst (by rw [HQ.out]; simp [HQ.out] at h; omega); omega)
      obtain ⟨m, hm⟩ : ∃ m, q - c0 - n1 = m := ⟨_, rfl⟩
      have y0 : A.cell? ⟨st, 0, none⟩ = some (.int .i64 a) := cells_at hstA rfl
      have y1 : A.cell? ⟨st, 1, none⟩ = some (.int .i64 (f + sm)) := cells_at hstA rfl
      have SL2 : Hid _ := sl2A
      have HSTA : Hid _ := hstA
      have HM : Hid _ := hm
      have HGST : Hid _ := hgst
      rw [hA, hm]
      clear hA hst3 hst2 b13 cA kA TA hs x3 xf3 b3 b2 sl1 sl2 sl2A hstA hm hgst hwr
      gi_wp2
      refine hRd.mono ?_
      rintro e w4 (⟨rfl, hT4, hC4⟩ | ⟨rfl, hx4⟩)
      · have hst4 : w4.heap[st]? = some (.cells #[.int .i64 a, .int .i64 (f + sm)] 82 (0, 0)) := by
          refine (hC4.block st (Array.getElem?_eq_some_iff.1 HSTA.out).1 ?_).trans HSTA.out
          rintro (h | h)
          · have := (HN.out st h).1; omega
          · omega
        have z4 : W1.heap.size ≤ w4.heap.size := Nat.le_trans zA hC4.size
        have HT4 : Hid _ := hT4
        have hmm := HM.out
        have hd2 : (M.drop c0).drop n1 = M.drop (c0 + n1) := by rw [List.drop_drop]
        have sl4 : Sl g o2 w4 a2 (M.drop (c0 + n1)) (cL - n1) := by
          rw [← hd2]
          refine SL2.out.chg hC4 (fun h e => ?_)
          have hgl : 0 < M.length := by rw [HQ.out]; simp [HQ.out] at h; omega
          rcases e with e | e
          · exact (HN.out g e).2 (.inr (.inr (.inr ⟨hgl, rfl⟩)))
          · have := HGST.out hgl; omega
        rcases m with _ | m
        · have HS4 : Hid _ := hst4
          clear hst4 sl4 hT4
          gi_wp2
          refine bodyPost_ret (results_none rfl _ _ _) rfl ⟨⟨_, rfl⟩, .inl ⟨W1.heap.size, by omega, ?_⟩⟩
          have e1 : stepsV now free l = (stepsV now free l).take k ++ fromV free l a := by rw [← HDR.out, List.take_append_drop]
          have e2 : fromV free l a = [⟨a, atV free l a⟩] := from_none (cut_last HP.out HCUT.out.1 (by rw [HQ.out]; omega))
          have e3 : (stepsV now free l).length = k + 1 := by
            have h1 : ((stepsV now free l).drop k).length = 1 := by rw [HDR.out, e2]; rfl
            rw [List.length_drop] at h1
            omega
          rw [e3]
          exact HT4.out
        · obtain ⟨r, hr⟩ : ∃ r, M[c0 + n1]? = some r := ⟨_, List.getElem?_eq_getElem (by rw [HQ.out]; omega)⟩
          have hr0 : (M.drop (c0 + n1))[0]? = some r := by rw [List.getElem?_drop, Nat.add_zero]; exact hr
          have hat : a2 = some ⟨g, o2, none⟩ := sl4.g.at_ (by rw [List.length_drop, HQ.out]; omega)
          subst hat
          obtain ⟨v0, v1⟩ := sl4.cell 0 r hr0
          have x4 : w4.cell? ⟨st, 0, none⟩ = some (.int .i64 a) := cells_at hst4 rfl
          have xf4 : w4.frozen? ⟨st, 0, none⟩ = false := frozen_at hst4
          have hnx := cut_next HP.out HS.out HCUT.out.1 HCUT.out.2.1 hr
          have HNX : Hid _ := hnx
          have SL4 : Hid _ := sl4
          have HS4 : Hid _ := hst4
          simp only [Nat.zero_mul, Nat.add_zero] at v0 v1
          clear hst4 sl4 hT4 hnx hr0
          gi_wp2
          go_roundw
          case rel =>
            refine ⟨k + 1, r.en, f + sm, c0 + n1, o2, cL - n1, some ⟨g, o2, none⟩, ?_, SL4.out.chg (K := fun j => j = st) ((Chg.refl _ w4).setCell _ _ (.inl rfl)) (fun h e => ?_), by omega, by omega, ?_, ?_, heap_setCell_same w4 st 0 _ 82 _ HS4.out, ?_, ?_, by rw [World.size_setCell]; exact z4⟩
            · rw [show q - (c0 + n1) = m + 1 by omega]
            · have := HGST.out (by rw [HQ.out]; omega); omega
            · intro s hs
              have := HCUT.out.1 s hs
              have := (next_some HNX.out).1
              omega
            · have := HF.out
              have h5 := take_sum (M := M) c0 n1
              have h6 := HCUT.out.2.2
              have h7 := HFS.out
              rw [at_su, ← su_perm HP.out, h6] at h7
              exact h7
            · have h8 := HDR.out
              rw [from_some HNX.out] at h8
              have : (stepsV now free l).drop (k + 1) = ((stepsV now free l).drop k).drop 1 := by rw [List.drop_drop]
              rw [this, h8]
              rfl
            · refine HT.out _ _ w4 _ (by omega) HT4.out ((Chg.refl _ w4).setCell _ _ (.inl ⟨by simp; omega, by simp; omega⟩)) (KeepsOthers.setCell _ _ _)
          case measure =>
            have e1 : atOf st (w4.setCell ⟨st, 0, none⟩ (.int .i64 r.en)) = r.en := by
              unfold atOf
              rw [show (w4.setCell ⟨st, 0, none⟩ (.int .i64 r.en)).cell? ⟨st, 0, none⟩ = some (.int .i64 r.en) from cells_at (heap_setCell_same w4 st 0 _ 82 _ HS4.out) rfl]
            have e2 : atOf st wr = a := by unfold atOf; rw [x0]
            rw [e1, e2]
            exact cnt_lt (next_some HNX.out).1 (next_some HNX.out).2.1
      · gi_wp2
        refine bodyPost_ret (results_none rfl _ _ _) rfl ?_
        exact ⟨⟨_, rfl⟩, .inr hx4⟩
end Go.Proofs.Ytdkibcagbidelaa
