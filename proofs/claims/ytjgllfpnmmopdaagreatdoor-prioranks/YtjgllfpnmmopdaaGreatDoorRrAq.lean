/-
  The reference's Ranks walked.
-/
import Derived.Test.YtjgllfpnmmopdaaGreatDoorXrk
import Derived.Deep.RegionHeld3
import Derived.Deep.CutBlock
import Derived.Deep.DeepCutAuto
import Derived.ArgAppend
namespace Go.Proofs.YtjgllfpnmmopdaaGreatDoor
open Go.RowKit Wd Tr Cg Ld
/-- The reference's row; nothing that was there has turned. -/
structure RrO (B : Nat) (w2 : World) (v : Value) (M : List Pr) (x : World) : Prop where
  row : x.ownsRow B 40 2 v M.length (flatP M)
  bel : Below w2.heap.size w2 x
  sh : ∃ g cap, v = .slice (some ⟨g, 0, none⟩) M.length cap ∧ M.length ≤ cap
theorem RrO.below {B : Nat} {w2 x y : World} {v : Value} {M : List Pr} (h : RrO B w2 v M x) (b : Below x.heap.size x y) : RrO B w2 v M y :=
  ⟨h.row.kept (Bk.gr_below b none) (by cases hv : v.ownBlock <;> simp), h.bel.trans (b.mono h.bel.size), h.sh⟩
def Rks (F : Nat) (f : Nat → Int) (cf : Cf) (now : Int) (jl : List Jb) (k : Nat) (M : List Pr) : Prop := M.Perm (rkF F f cf now (jl.take k) 0) ∧ M.Pairwise (Ahd keyR Pr.a)
theorem Rks.num {F : Nat} {f : Nat → Int} {cf : Cf} {now : Int} {jl : List Jb} {k : Nat} {M : List Pr} (h : Rks F f cf now jl k M) : ∀ x ∈ M, x.a < (k : Int) := fun x hx => by
  obtain ⟨i, j, h1, _, h3⟩ := rkF_mem _ 0 x (h.1.mem_iff.1 hx)
  have hi := (List.getElem?_eq_some_iff.1 h1).1
  simp only [List.length_take] at hi
  rw [h3]
  show ((0 + i : Nat) : Int) < k
  omega
theorem Rks.len {F : Nat} {f : Nat → Int} {cf : Cf} {now : Int} {jl : List Jb} {k : Nat} {M : List Pr} (h : Rks F f cf now jl k M) : M.length ≤ k := by
  rw [h.1.length_eq]
  have h1 := rkF_len (F := F) (f := f) (c := cf) (now := now) (jl.take k) 0
  simp only [List.length_take] at h1
  omega
theorem Rks.done {F : Nat} {f : Nat → Int} {cf : Cf} {now : Int} {jl : List Jb} {k : Nat} {M : List Pr} (h : Rks F f cf now jl k M) (hk : jl.length ≤ k) : M = rankL F f cf now jl := by
  refine one_sorted keyR Pr.a _ _ ?_ h.2 (rank_sorted F f cf now jl)
  have h1 := h.1
  rw [List.take_of_length_le hk] at h1
  exact h1.trans (rank_perm F f cf now jl).symm
theorem Rks.put {F : Nat} {f : Nat → Int} {cf : Cf} {now : Int} {jl : List Jb} {k t : Nat} {M : List Pr} {V : Int} (h : Rks F f cf now jl k M) (e : rkF F f cf now (jl.take (k + 1)) 0 = rkF F f cf now (jl.take k) 0 ++ [⟨(k : Int), V⟩]) (ht : t ≤ M.length)
    (h1 : ∀ x ∈ M.drop t, x.b < V) (h2 : ∀ h : 0 < t, V ≤ (M[t - 1]'(by omega)).b) : Rks F f cf now jl (k + 1) (M.take t ++ ⟨(k : Int), V⟩ :: M.drop t) := by
  refine ⟨?_, put_sorted keyR Pr.a ht h.2 h.num (fun x hx => by have := h1 x hx; show -V < -x.b; omega) (fun hp => by have := h2 hp; show -(_ : Int) ≤ -V; omega)⟩
  rw [e]
  exact put_perm.trans (h.1.append_right _)
theorem made0R (w : World) (B : Nat) (hB : B ≤ w.heap.size) : (w.alloc (.cells #[] 40)).ownsRow B 40 2 (.slice (some ⟨w.heap.size, 0, none⟩) 0 0) 0 [] := ⟨by simp, .inr ⟨w.heap.size, 0, #[], rfl, hB, heap_alloc_new w _, Nat.le_refl _, Nat.zero_le _, rfl, rfl⟩⟩
theorem made1R (w : World) (B : Nat) (x y : Int) (hB : B ≤ w.heap.size) : (w.alloc (.cells #[.int .i64 x, .int .i64 y] 40)).ownsRow B 40 2 (.slice (some ⟨w.heap.size, 0, none⟩) 1 1) 1 [.int .i64 x, .int .i64 y] := ⟨by simp, .inr ⟨w.heap.size, 1, _, rfl, hB, heap_alloc_new w _, Nat.le_refl _, by decide, rfl, rfl⟩⟩
theorem lit_grown {X w6 : World} {c : Array Value} {T : TypeId} (h : (X.drew.alloc (.cells c T)).grownBy w6 (Value.slice (some ⟨X.heap.size, 0, none⟩) 1 1).ownBlock) : Below X.heap.size X w6 :=
  Below.grown (((Below.refl _ X).drew).alloc (Nat.le_refl _) _) h (by simp) (fun k e => by simp [Value.ownBlock] at e; omega)
theorem drop_flat {M : List Pr} {t j : Nat} {u : Value} (h : (flatP (M.drop t))[j]? = some u) : (flatP M)[t * 2 + j]? = some u := by
  by_cases ht : t ≤ M.length
  · have e : flatP M = flatP (M.take t) ++ flatP (M.drop t) := by rw [← flatP_app, List.take_append_drop]
    rw [e, List.getElem?_append_right (by rw [flatP_len, List.length_take]; omega), flatP_len, List.length_take, show t * 2 + j - min t M.length * 2 = j by omega]
    exact h
  · rw [List.drop_of_length_le (by omega)] at h
    simp [flatP] at h
theorem take_flat {M : List Pr} {t j : Nat} {u : Value} (h : (flatP (M.take t))[j]? = some u) : (flatP M)[j]? = some u := by
  have e : flatP M = flatP (M.take t) ++ flatP (M.drop t) := by rw [← flatP_app, List.take_append_drop]
  have hl := (List.getElem?_eq_some_iff.1 h).1
  rw [e, List.getElem?_append_left hl]
  exact h
theorem news_one {x y : Int} (l : List Pr) : ∀ u ∈ [Value.int .i64 x, .int .i64 y] ++ flatP l, u.oneCell' = true := fun u hu => by
  rcases List.mem_append.1 hu with h | h
  · exact two_oneR u h
  · exact flatP_one l u h
theorem rest_shape {x : World} {B n : Nat} {v : Value} {xs : List Value} (h : x.ownsRow B 40 2 v (1 + n) xs) : ∃ g cap, v = .slice (some ⟨g, 0, none⟩) (1 + n) cap ∧ ∀ j u, xs[j]? = some u → x.cell? ((⟨g, 0, none⟩ : Addr).add j) = some u := by
  rcases h.2 with ⟨_, h0⟩ | ⟨g, cap, cur, e, _⟩
  · omega
  · exact ⟨g, cap, e, fun j u hj => h.cells (by rw [e]; rfl) j u hj⟩
theorem RrO.put {B : Nat} {w3 w4 w6 w7 : World} {v v7 : Value} {M : List Pr} {m t k : Nat} {V : Int} (h : RrO B w3 v M w4) (b : Below w4.heap.size w4 w6) (hB : B ≤ w6.heap.size) (hm : M.length = m) (ht : t ≤ m)
    (r : w7.ownsRow w6.heap.size 40 2 v7 (t + (1 + (m - t))) (flatP (M.take t) ++ ([.int .i64 k, .int .i64 V] ++ flatP (M.drop t)))) (g : w6.grownBy w7 none) : RrO B w3 v7 (M.take t ++ ⟨(k : Int), V⟩ :: M.drop t) w7 := by
  have e1 : (M.take t ++ ⟨(k : Int), V⟩ :: M.drop t).length = t + (1 + (m - t)) := by simp [hm]; omega
  have e2 : flatP (M.take t ++ ⟨(k : Int), V⟩ :: M.drop t) = flatP (M.take t) ++ ([.int .i64 k, .int .i64 V] ++ flatP (M.drop t)) := by rw [flatP_app]; rfl
  have b7 : Below w6.heap.size w6 w7 := ⟨g.os, g.tape, g.output, g.size, fun i hi => g.block i hi (by simp)⟩
  refine ⟨?_, (h.bel.trans (b.mono h.bel.size)).trans (b7.mono (Nat.le_trans h.bel.size b.size)), ?_⟩
  · rw [e1, e2]
    refine ⟨r.1, ?_⟩
    rcases r.2 with h0 | ⟨g', cap, cur, e, hb, rest⟩
    · exact .inl h0
    · exact .inr ⟨g', cap, cur, e, Nat.le_trans hB hb, rest⟩
  · rcases r.2 with ⟨_, h0⟩ | ⟨g', cap, cur, e, hb, _, hc, _⟩
    · omega
    · exact ⟨g', cap, by rw [e1]; exact e, by rw [e1]; exact hc⟩
theorem put_two {y : World} {b : Nat} {a0 a1 u v : Value} {T : TypeId} (h : y.heap[b]? = some (.cells #[a0, a1] T (0, 0))) : ((y.setCell ⟨b, 0, none⟩ u).setCell ⟨b, 1, none⟩ v).heap[b]? = some (.cells #[u, v] T (0, 0)) :=
  heap_setCell_same (y.setCell ⟨b, 0, none⟩ u) b 1 _ T v (heap_setCell_same y b 0 _ T u h)
set_option maxHeartbeats 4000000 in
set_option maxRecDepth 20000 in
theorem rranks_any {w : World} {cf : Cf} {now hd : Int} {ao jo : Option Addr} {la : List Ac} {jl : List Jb} {ca cj gj oj : Nat} (hin : StIn w ao jo la jl ca gj oj) :
    Calls Tryz.prog 7 #[.agg (stC cf now (.slice ao la.length ca) (.slice jo jl.length cj) hd)] w fun e w' => ∃ v, e = .returned v ∧ w'.ownsRow w.heap.size 40 2 v (rankL (lenE cf la) (facV la (wV la (flZ cf))) cf now jl).length (flatP (rankL (lenE cf la) (facV la (wV la (flZ cf))) cf now jl)) ∧ Below w.heap.size w w' := by
  obtain ⟨w0, hw0⟩ : ∃ w0, w.alloc (.cells (stC cf now (.slice ao la.length ca) (.slice jo jl.length cj) hd) 27) = w0 := ⟨_, rfl⟩
  have b0 : Below w.heap.size w w0 := by rw [← hw0]; exact (Below.refl _ _).alloc (Nat.le_refl _) _
  have hst0 : StB w0 w.heap.size cf now (.slice ao la.length ca) (.slice jo jl.length cj) hd := by rw [← hw0]; exact heap_alloc_new w _
  obtain ⟨w1, hw1⟩ : ∃ w1, w0.alloc (.cells #[] 40) = w1 := ⟨_, rfl⟩
  have b01 : Below w0.heap.size w0 w1 := by rw [← hw1]; exact (Below.refl _ _).alloc (Nat.le_refl _) _
  have HO1 : Hid (w1.ownsRow w.heap.size 40 2 (.slice (some ⟨w0.heap.size, 0, none⟩) 0 0) 0 []) := by rw [← hw1]; exact made0R w0 _ b0.size
  have HIN : Hid (StIn w ao jo la jl ca gj oj) := hin
  have HRF : Hid (∀ x, Below w.heap.size w x → Calls Tryz.prog 10 #[cfV cf, .slice ao la.length ca] x (REf x (lenE cf la) (firstN (facV la (wV la (flZ cf))) (lenE cf la)))) := fun x hx => by
    have h := hin.below hx
    exact rfacs_any h.acs h.us h.an
  have HCK := rcheck_any cf w1
  have HFL : Hid ((chkZ cf ≠ 0 → lenE cf la = 0) ∧ (lenE cf la ≠ la.length → lenE cf la = 0)) := by
    refine ⟨fun h => if_neg (fun k => h k.2), fun h => ?_⟩
    by_cases hc : loadE la = 0 ∧ chkZ cf = 0
    · exact absurd (if_pos hc) h
    · exact if_neg hc
  have HW : Hid (∀ j, j < lenE cf la → Word (facV la (wV la (flZ cf)) j)) := fun j hj => facs_word hin.us hj
  have HS1 : Hid (StB w1 w.heap.size cf now (.slice ao la.length ca) (.slice jo jl.length cj) hd ∧ Below w.heap.size w w1) := ⟨hst0.below b01, b0.trans (b01.mono b0.size)⟩
  obtain ⟨N, hN⟩ : ∃ N, jl.length = N := ⟨_, rfl⟩
  have HN : Hid (jl.length = N) := hN
  obtain ⟨L, hL⟩ : ∃ L, la.length = L := ⟨_, rfl⟩
  obtain ⟨F, hF⟩ : ∃ F, lenE cf la = F := ⟨_, rfl⟩
  obtain ⟨f, hf⟩ : ∃ f, facV la (wV la (flZ cf)) = f := ⟨_, rfl⟩
  rw [hF] at HRF HFL HW ⊢
  rw [hf] at HRF HW ⊢
  rw [hN] at HS1 hw0 ⊢
  rw [hL] at HRF HFL HS1 hw0 ⊢
  have HJN : Hid (N * 80 ≤ 140737488355328) := by have h := hin.jn; rw [hN] at h; exact h
  have HJO : Hid (0 < N → jo = some ⟨gj, oj, none⟩) := by have h := hin.jo; rw [hN] at h; exact h
  have HSL : Hid (∀ j ∈ jl, ∃ sa sl sc, j.set = .slice sa sl sc) := hin.sl
  have k0 : w1.cell? ⟨w.heap.size, 0, none⟩ = some (.int .i64 cf.nodes) := HS1.out.1.cell rfl
  have k1 : w1.cell? ⟨w.heap.size, 1, none⟩ = some (.int .i64 cf.queue) := HS1.out.1.cell rfl
  have k2 : w1.cell? ⟨w.heap.size, 2, none⟩ = some (.int .i64 cf.limit) := HS1.out.1.cell rfl
  have k3 : w1.cell? ⟨w.heap.size, 3, none⟩ = some (.int .i64 cf.age) := HS1.out.1.cell rfl
  have k4 : w1.cell? ⟨w.heap.size, 4, none⟩ = some (.int .i64 cf.fair) := HS1.out.1.cell rfl
  have k5 : w1.cell? ⟨w.heap.size, 5, none⟩ = some (.int .i64 cf.size) := HS1.out.1.cell rfl
  have k6 : w1.cell? ⟨w.heap.size, 6, none⟩ = some (.int .i64 cf.period) := HS1.out.1.cell rfl
  have k7 : w1.cell? ⟨w.heap.size, 7, none⟩ = some (.int .i64 cf.half) := HS1.out.1.cell rfl
  have k9 : w1.cell? ⟨w.heap.size, 9, none⟩ = some (.slice ao L ca) := HS1.out.1.cell rfl
  unfold stC at hw0 ⊢
  unfold cfV at HRF HCK
  clear hin b0 hst0 b01 hF hf hN hL
  by_cases hck : chkZ cf = 0
  · rw [hck] at HCK
    go_enter Tryz.func7, Tryz.ntmps7
    go_wp2_with fail
    refine HCK.mono ?_
    rintro e w2 ⟨rfl, hb2⟩
    have HS2 : Hid (StB w2 w.heap.size cf now (.slice ao L ca) (.slice jo N cj) hd ∧ Below w.heap.size w w2 ∧ w2.ownsRow w.heap.size 40 2 (.slice (some ⟨w0.heap.size, 0, none⟩) 0 0) 0 []) := ⟨HS1.out.1.below hb2, HS1.out.2.trans (hb2.mono HS1.out.2.size), HO1.out.kept (Bk.gr_below hb2 none) (.inr (by simp [Value.ownBlock]))⟩
    clear HCK hb2 HS1 HO1 hw0 hw1 k0 k1 k2 k3 k4 k5 k6 k7 k9 hck
    have k0 : w2.cell? ⟨w.heap.size, 0, none⟩ = some (.int .i64 cf.nodes) := HS2.out.1.cell rfl
    have k1 : w2.cell? ⟨w.heap.size, 1, none⟩ = some (.int .i64 cf.queue) := HS2.out.1.cell rfl
    have k2 : w2.cell? ⟨w.heap.size, 2, none⟩ = some (.int .i64 cf.limit) := HS2.out.1.cell rfl
    have k3 : w2.cell? ⟨w.heap.size, 3, none⟩ = some (.int .i64 cf.age) := HS2.out.1.cell rfl
    have k4 : w2.cell? ⟨w.heap.size, 4, none⟩ = some (.int .i64 cf.fair) := HS2.out.1.cell rfl
    have k5 : w2.cell? ⟨w.heap.size, 5, none⟩ = some (.int .i64 cf.size) := HS2.out.1.cell rfl
    have k6 : w2.cell? ⟨w.heap.size, 6, none⟩ = some (.int .i64 cf.period) := HS2.out.1.cell rfl
    have k7 : w2.cell? ⟨w.heap.size, 7, none⟩ = some (.int .i64 cf.half) := HS2.out.1.cell rfl
    have k9 : w2.cell? ⟨w.heap.size, 9, none⟩ = some (.slice ao L ca) := HS2.out.1.cell rfl
    have c2 := HRF.out w2 HS2.out.2.1
    go_wp2_with fail
    refine c2.mono ?_
    rintro e w3 href
    obtain ⟨gf, cr, rfl, hfc, hb3⟩ := rfacs_in href
    have HS3 : Hid (RkS w cf now hd (.slice ao L ca) (.slice jo N cj) gf F f gj oj jl w3) := ⟨HS2.out.1.below hb3, hfc, HIN.out.jb.below (HS2.out.2.1.trans (hb3.mono HS2.out.2.1.size)), HS2.out.2.1.trans (hb3.mono HS2.out.2.1.size)⟩
    have HO3 : Hid (w3.ownsRow w.heap.size 40 2 (.slice (some ⟨w0.heap.size, 0, none⟩) 0 0) 0 []) := HS2.out.2.2.kept (Bk.gr_below hb3 none) (.inr (by simp [Value.ownBlock]))
    clear c2 href hfc hb3 HS2 HRF k0 k1 k2 k3 k4 k5 k6 k7 k9 HIN
    have k9 : w3.cell? ⟨w.heap.size, 9, none⟩ = some (.slice ao L ca) := HS3.out.st.cell rfl
    by_cases hFL : F = L
    · have e1 : ((F : Int) != (L : Int)) = false := by simp [hFL]
      clear hFL HFL
      have HOA : Hid (RrO w.heap.size w3 (.slice (some ⟨w0.heap.size, 0, none⟩) 0 0) [] w3 ∧ Rks F f cf now jl 0 []) := ⟨⟨HO3.out, Below.refl _ _, ⟨_, _, rfl, Nat.le_refl _⟩⟩, by simp [Rks, rkF]⟩
      clear HO3
      go_wp2
      clear k9
      go_loopg [3, 5] N (fun gk v x wr => ∃ (k : Nat) (M : List Pr), k + gk = N ∧ x = .int .i64 k ∧ Rks F f cf now jl k M ∧ RrO w.heap.size w3 v M wr)
      case atStart => exact ⟨0, [], by omega, rfl, HOA.out.2, HOA.out.1⟩
      case round =>
        obtain ⟨k, M, hk, rfl, hrk, hro⟩ := hrel
        obtain ⟨g, cap, rfl, hcap⟩ := hro.sh
        obtain ⟨m, hm⟩ : ∃ m, M.length = m := ⟨_, rfl⟩
        have HMM : Hid (M.length = m ∧ m ≤ cap) := ⟨hm, by rw [← hm]; exact hcap⟩
        have HRO : Hid (RrO w.heap.size w3 (.slice (some ⟨g, 0, none⟩) M.length cap) M wr) := hro
        have HRS : Hid (RkS w cf now hd (.slice ao L ca) (.slice jo N cj) gf F f gj oj jl wr) := HS3.out.below hro.bel
        have HRK : Hid (Rks F f cf now jl k M) := hrk
        clear hro hrk HOA hcap
        rw [hm] at HRO ⊢
        clear hm
        have k10 : wr.cell? ⟨w.heap.size, 10, none⟩ = some (.slice jo N cj) := HRS.out.st.cell rfl
        by_cases hlt : k < N
        · obtain ⟨j, hj⟩ : ∃ j, jl[k]? = some j := ⟨_, List.getElem?_eq_getElem (by have := HN.out; omega)⟩
          obtain ⟨r0, r1, r2, r3, r4, r5, r6, r7⟩ := HRS.out.jb k j hj
          obtain rfl := HJO.out (by omega)
          obtain ⟨sa, sl, sc, hset⟩ := HSL.out j (List.mem_of_getElem? hj)
          rw [hset] at r7
          have HSET : Hid (j.set = .slice sa sl sc) := hset
          have HPN : Hid (pendB F j = false → Rks F f cf now jl (k + 1) M) := fun h => ⟨by rw [rkF_no hj h]; exact HRK.out.1, HRK.out.2⟩
          have HPY : Hid (pendB F j = true → rkF F f cf now (jl.take (k + 1)) 0 = rkF F f cf now (jl.take k) 0 ++ [⟨(k : Int), prioV cf now j.sb j.nd (f j.ac.toNat)⟩]) := fun h => rkF_yes hj h
          have HWK : Hid (wrap64 ((k : Int) + 1) = ((k + 1 : Nat) : Int)) := wrap64_nat (h := k + 1) (by have := HJN.out; omega)
          have hlt' : (k : Int) < N := by omega
          clear hj hset
          go_upto_region 11 with fail
          obtain ⟨jb, hjb⟩ : ∃ jb, wr.heap.size = jb := ⟨_, rfl⟩
          obtain ⟨w4, hw4⟩ : ∃ w4, wr.alloc (.cells #[.int .i64 j.ac, .int .i64 j.nd, .int .i64 j.lm, .int .i64 j.sb, .int .i64 j.st, .int .i64 j.sr, .int .i64 j.en, .slice sa sl sc] 34) = w4 := ⟨_, rfl⟩
          have b4 : Below wr.heap.size wr w4 := by rw [← hw4]; exact (Below.refl _ _).alloc (Nat.le_refl _) _
          have HO4 : Hid (RrO w.heap.size w3 (.slice (some ⟨g, 0, none⟩) m cap) M w4) := HRO.out.below b4
          have HR4 : Hid (RkS w cf now hd (.slice ao L ca) (.slice (some ⟨gj, oj, none⟩) N cj) gf F f gj oj jl w4) := HRS.out.below b4
          have HJ4 : Hid (w4.heap[jb]? = some (.cells #[.int .i64 j.ac, .int .i64 j.nd, .int .i64 j.lm, .int .i64 j.sb, .int .i64 j.st, .int .i64 j.sr, .int .i64 j.en, .slice sa sl sc] 34 (0, 0))) := by rw [← hw4, ← hjb]; exact heap_alloc_new wr _
          rw [hw4, hjb]
          clear hw4 b4 r0 r1 r2 r3 r4 r5 r6 r7 HRO HRS hjb k10
          have s0 : w4.cell? ⟨jb, 0, none⟩ = some (.int .i64 j.ac) := cells_at HJ4.out rfl
          have s4 : w4.cell? ⟨jb, 4, none⟩ = some (.int .i64 j.st) := cells_at HJ4.out rfl
          by_cases p1 : j.st = 1
          · by_cases p2 : 0 ≤ j.ac
            · by_cases p3 : j.ac < (F : Int)
              · have HRY : Hid (rkF F f cf now (jl.take (k + 1)) 0 = rkF F f cf now (jl.take k) 0 ++ [⟨(k : Int), prioV cf now j.sb j.nd (f j.ac.toNat)⟩]) := HPY.out (pend_iff.2 ⟨p1, p2, p3⟩)
                rw [p1] at HJ4 s4
                have hq : j.ac.toNat < F := by omega
                have d2 : ¬ j.ac < 0 := by omega
                have d3 : ¬ (F : Int) ≤ j.ac := by omega
                obtain ⟨V, hV⟩ : ∃ V, prioV cf now j.sb j.nd (f j.ac.toNat) = V := ⟨_, rfl⟩
                have cP : ∀ x, Calls Tryz.prog 19 #[.agg #[.int .i64 cf.nodes, .int .i64 cf.queue, .int .i64 cf.limit, .int .i64 cf.age, .int .i64 cf.fair, .int .i64 cf.size, .int .i64 cf.period, .int .i64 cf.half], .int .i64 now, .agg #[.int .i64 j.ac, .int .i64 j.nd, .int .i64 j.lm, .int .i64 j.sb, .int .i64 1, .int .i64 j.sr, .int .i64 j.en, .slice sa sl sc], .int .u64 (f j.ac.toNat)] x fun e w' => e = .returned (.int .i64 V) ∧ Below x.heap.size x w' := fun x => by
                  have h := rprio_any cf now j (HW.out _ hq) x
                  rw [hV] at h
                  unfold cfV jbV at h
                  rw [HSET.out, p1] at h
                  exact h
                rw [hV] at HRY
                have HC : Hid (∀ x, Below w4.heap.size w4 x → x.cell? ⟨w.heap.size, 0, none⟩ = some (.int .i64 cf.nodes) ∧ x.cell? ⟨w.heap.size, 1, none⟩ = some (.int .i64 cf.queue) ∧ x.cell? ⟨w.heap.size, 2, none⟩ = some (.int .i64 cf.limit) ∧ x.cell? ⟨w.heap.size, 3, none⟩ = some (.int .i64 cf.age) ∧ x.cell? ⟨w.heap.size, 4, none⟩ = some (.int .i64 cf.fair) ∧ x.cell? ⟨w.heap.size, 5, none⟩ = some (.int .i64 cf.size) ∧ x.cell? ⟨w.heap.size, 6, none⟩ = some (.int .i64 cf.period) ∧ x.cell? ⟨w.heap.size, 7, none⟩ = some (.int .i64 cf.half) ∧ x.cell? ⟨w.heap.size, 8, none⟩ = some (.int .i64 now) ∧ x.cell? ⟨jb, 0, none⟩ = some (.int .i64 j.ac) ∧ x.cell? ⟨jb, 1, none⟩ = some (.int .i64 j.nd) ∧ x.cell? ⟨jb, 2, none⟩ = some (.int .i64 j.lm) ∧ x.cell? ⟨jb, 3, none⟩ = some (.int .i64 j.sb) ∧ x.cell? ⟨jb, 4, none⟩ = some (.int .i64 1) ∧ x.cell? ⟨jb, 5, none⟩ = some (.int .i64 j.sr) ∧ x.cell? ⟨jb, 6, none⟩ = some (.int .i64 j.en) ∧ x.cell? ⟨jb, 7, none⟩ = some (.slice sa sl sc) ∧ x.cell? ⟨gf, j.ac.toNat, none⟩ = some (.int .u64 (f j.ac.toNat))) := fun x hx => round_cells (HR4.out.st.below hx) ((hx.block jb (Array.getElem?_eq_some_iff.1 HJ4.out).1).trans HJ4.out) (HR4.out.fc.below hx) hq
                have HC1 : Hid (w4.drew.cell? ⟨w.heap.size, 0, none⟩ = some (.int .i64 cf.nodes) ∧ w4.drew.cell? ⟨w.heap.size, 1, none⟩ = some (.int .i64 cf.queue) ∧ w4.drew.cell? ⟨w.heap.size, 2, none⟩ = some (.int .i64 cf.limit) ∧ w4.drew.cell? ⟨w.heap.size, 3, none⟩ = some (.int .i64 cf.age) ∧ w4.drew.cell? ⟨w.heap.size, 4, none⟩ = some (.int .i64 cf.fair) ∧ w4.drew.cell? ⟨w.heap.size, 5, none⟩ = some (.int .i64 cf.size) ∧ w4.drew.cell? ⟨w.heap.size, 6, none⟩ = some (.int .i64 cf.period) ∧ w4.drew.cell? ⟨w.heap.size, 7, none⟩ = some (.int .i64 cf.half) ∧ w4.drew.cell? ⟨w.heap.size, 8, none⟩ = some (.int .i64 now) ∧ w4.drew.cell? ⟨jb, 0, none⟩ = some (.int .i64 j.ac) ∧ w4.drew.cell? ⟨jb, 1, none⟩ = some (.int .i64 j.nd) ∧ w4.drew.cell? ⟨jb, 2, none⟩ = some (.int .i64 j.lm) ∧ w4.drew.cell? ⟨jb, 3, none⟩ = some (.int .i64 j.sb) ∧ w4.drew.cell? ⟨jb, 4, none⟩ = some (.int .i64 1) ∧ w4.drew.cell? ⟨jb, 5, none⟩ = some (.int .i64 j.sr) ∧ w4.drew.cell? ⟨jb, 6, none⟩ = some (.int .i64 j.en) ∧ w4.drew.cell? ⟨jb, 7, none⟩ = some (.slice sa sl sc) ∧ w4.drew.cell? ⟨gf, j.ac.toNat, none⟩ = some (.int .u64 (f j.ac.toNat))) := HC.out w4.drew ((Below.refl _ w4).drew)
                clear HPN HPY hV HJ4 HSL
                go_upto_region 12 with fail
                go_cut [7] (fun v x => ∃ rb, v = .pointer (some ⟨rb, 0, none⟩) ∧ x.heap[rb]? = some (.cells #[.int .i64 k, .int .i64 V] 40 (0, 0)) ∧ Below w4.heap.size w4 x)
                case first =>
                  go_region_held3 (fun x => x.cell? ⟨w.heap.size, 0, none⟩ = some (.int .i64 cf.nodes) ∧ x.cell? ⟨w.heap.size, 1, none⟩ = some (.int .i64 cf.queue) ∧ x.cell? ⟨w.heap.size, 2, none⟩ = some (.int .i64 cf.limit) ∧ x.cell? ⟨w.heap.size, 3, none⟩ = some (.int .i64 cf.age) ∧ x.cell? ⟨w.heap.size, 4, none⟩ = some (.int .i64 cf.fair) ∧ x.cell? ⟨w.heap.size, 5, none⟩ = some (.int .i64 cf.size) ∧ x.cell? ⟨w.heap.size, 6, none⟩ = some (.int .i64 cf.period) ∧ x.cell? ⟨w.heap.size, 7, none⟩ = some (.int .i64 cf.half) ∧ x.cell? ⟨w.heap.size, 8, none⟩ = some (.int .i64 now) ∧ x.cell? ⟨jb, 0, none⟩ = some (.int .i64 j.ac) ∧ x.cell? ⟨jb, 1, none⟩ = some (.int .i64 j.nd) ∧ x.cell? ⟨jb, 2, none⟩ = some (.int .i64 j.lm) ∧ x.cell? ⟨jb, 3, none⟩ = some (.int .i64 j.sb) ∧ x.cell? ⟨jb, 4, none⟩ = some (.int .i64 1) ∧ x.cell? ⟨jb, 5, none⟩ = some (.int .i64 j.sr) ∧ x.cell? ⟨jb, 6, none⟩ = some (.int .i64 j.en) ∧ x.cell? ⟨jb, 7, none⟩ = some (.slice sa sl sc) ∧ x.cell? ⟨gf, j.ac.toNat, none⟩ = some (.int .u64 (f j.ac.toNat))) (first | exact HC1.out | exact HC.out _ (by assumption) | exact HC.out _ BY.out | exact HC.out _ (((Below.refl _ w4).drew).alloc (Nat.le_refl _) _) | exact HC.out _ (BY.out.alloc BY.out.size _) | exact HC.out _ ((BY.out.setCell (Nat.le_refl _) _).setCell (Nat.le_refl _) _)) (first
                    | (go_at_call 19; refine (cP _).mono ?_; rintro e y ⟨rfl, hy⟩; have BY : Hid (Below w4.heap.size w4 y) := (by first | exact ((Below.refl _ w4).drew).trans hy | exact (((Below.refl _ w4).drew).alloc (Nat.le_refl _) _).trans (hy.mono (by simp)) | exact (((Below.refl _ w4).alloc (Nat.le_refl _) _).drew).trans (hy.mono (by simp))); first | (have zb : y.heap[w4.heap.size]? = some (.cells #[.int .i64 0, .int .i64 0] 40 (0, 0)) := (hy.block _ (by simp)).trans (heap_alloc_new w4 _); have z0 : y.cell? ⟨w4.heap.size, 0, none⟩ = some (.int .i64 0) := cells_at zb rfl; have z1 : y.cell? ⟨w4.heap.size, 1, none⟩ = some (.int .i64 0) := cells_at zb rfl; have z2 : y.frozen? ⟨w4.heap.size, 0, none⟩ = false := frozen_at zb; have z3 : y.frozen? ⟨w4.heap.size, 1, none⟩ = false := frozen_at zb; have HZB : Hid (y.heap[w4.heap.size]? = some (.cells #[.int .i64 0, .int .i64 0] 40 (0, 0))) := zb; clear zb) | skip))
                  all_goals
                    go_wp2
                    go_meet
                    first
                    | exact ⟨w4.heap.size, rfl, put_two HZB.out, (BY.out.setCell (Nat.le_refl _) _).setCell (Nat.le_refl _) _⟩
                    | exact ⟨y.heap.size, rfl, heap_alloc_new y _, BY.out.alloc BY.out.size _⟩
                    | exact ⟨y.heap.size, rfl, put_two (heap_alloc_new y _), ((BY.out.alloc BY.out.size _).setCell BY.out.size _).setCell BY.out.size _⟩
                case rest =>
                  obtain ⟨rb, rfl, hrb, hbx⟩ := hcut
                  have HX : Hid (wc.heap[rb]? = some (.cells #[.int .i64 k, .int .i64 V] 40 (0, 0)) ∧ Below w4.heap.size w4 wc) := ⟨hrb, hbx⟩
                  have HMK : Hid (m ≤ k) := by rw [← HMM.out.1]; exact HRK.out.len
                  have HCE : Hid (∀ x, Below w4.heap.size w4 x → ∀ j u, (flatP M)[j]? = some u → x.cell? ((⟨g, 0, none⟩ : Addr).add j) = some u) := fun x hx j u hj => cellB hx (HO4.out.row.cells rfl j u hj)
                  clear hrb hbx HC1 HC cP s0 s4 d2 d3
                  go_wp2
                  go_loopg [8] m (fun gk x wq => ∃ t : Nat, t = gk ∧ t ≤ m ∧ x = .int .i64 t ∧ (∀ z ∈ M.drop t, z.b < V) ∧ wq.heap[rb]? = some (.cells #[.int .i64 k, .int .i64 V] 40 (0, 0)) ∧ Below w4.heap.size w4 wq)
                  case atStart => exact ⟨m, rfl, Nat.le_refl _, rfl, (fun z hz => by rw [List.drop_of_length_le (by have := HMM.out.1; omega)] at hz; cases hz), HX.out⟩
                  case round =>
                    obtain ⟨t, rfl, htm, rfl, hdr, hrb, hbx⟩ := hrel
                    have HX2 : Hid (wr.heap[rb]? = some (.cells #[.int .i64 k, .int .i64 V] 40 (0, 0)) ∧ Below w4.heap.size w4 wr) := ⟨hrb, hbx⟩
                    have HDR : Hid (∀ z ∈ M.drop t, z.b < V) := hdr
                    clear hrb hbx hdr HX
                    have r1 : wr.cell? ⟨rb, 1, none⟩ = some (.int .i64 V) := cells_at HX2.out.1 rfl
                    cases t with
                    | zero =>
                      have HEX : Hid (∀ h : 0 < 0, V ≤ (M[0 - 1]'(by omega)).b) := fun h => absurd h (Nat.lt_irrefl 0)
                      go_upto_region 14 with fail
                      go_quiet (fail)
                      have HX3 : Hid ((wr.drewN nq).heap[rb]? = some (.cells #[.int .i64 k, .int .i64 V] 40 (0, 0)) ∧ Below w4.heap.size w4 (wr.drewN nq)) := ⟨HX2.out.1, below_drewN HX2.out.2 nq⟩
                      have HRN : Hid (Rks F f cf now jl (k + 1) (M.take (0) ++ ⟨(k : Int), V⟩ :: M.drop (0))) := HRK.out.put HRY.out (by rw [HMM.out.1]; exact htm) HDR.out HEX.out
                      generalize (wr.drewN nq) = X at *
                      clear HX2 HRK HDR HEX r1
                      have HRB : Hid (∀ x, Below X.heap.size X x → x.cell? ⟨rb, 0, none⟩ = some (.int .i64 k) ∧ x.cell? ⟨rb, 1, none⟩ = some (.int .i64 V)) := fun x hx => by
                        have h := (hx.block rb (Array.getElem?_eq_some_iff.1 HX3.out.1).1).trans HX3.out.1
                        exact ⟨cells_at h rfl, cells_at h rfl⟩
                      have HXB : Hid (w.heap.size ≤ X.heap.size) := by have h1 := HR4.out.bel.size; have h2 := HX3.out.2.size; show w.heap.size ≤ X.heap.size; omega
                      have HDL : Hid ((flatP (M.drop (0))).length = (m - (0)) * 2) := by rw [flatP_len, List.length_drop, HMM.out.1]; exact rfl
                      have HCT : Hid (m ≤ cap) := HMM.out.2
                      have hle1 : ((0 : Nat) : Int) ≤ m := by omega
                      by_cases hct : cap = 0
                      · subst hct
                        have HDC : Hid (∀ j u, (flatP (M.drop (0)))[j]? = some u → (X.drew.alloc (.cells #[.int .i64 k, .int .i64 V] 40)).cell? ((⟨g, 0, none⟩ : Addr).add j) = some u) := fun j u hj => by
                          have h := HDL.out
                          have h2 := HCT.out
                          have h3 := (List.getElem?_eq_some_iff.1 hj).1
                          omega
                        obtain ⟨i3, hi3, hz30, hz31, hz32⟩ := info_parts Tryz.soRa
                        go_upto_region 16 with fail
                        go_region_held3 (fun x => x.cell? ⟨rb, 0, none⟩ = some (.int .i64 k) ∧ x.cell? ⟨rb, 1, none⟩ = some (.int .i64 V)) (first | exact HRB.out _ ((Below.refl _ X).drew) | exact HRB.out _ (((Below.refl _ X).drew).alloc (Nat.le_refl _) _) | exact HRB6.out) (first
                          | (refine step_appB rfl (.tmp 86) (.tmp 89) 35 rfl w.heap.size 40 i3 _ 2 16 Tryz.underlying35 hi3 hz30 hz31 hz32 rfl (by decide) (.slice (some ⟨X.heap.size, 0, none⟩) 1 1) 1 [.int .i64 k, .int .i64 V] (by simp [Act.eval]) (made1R X.drew _ _ _ HXB.out) ⟨g, 0, none⟩ (m - 0) (0 - 0) (flatP (M.drop 0)) (by simp [Act.eval]) HDL.out HDC.out (flatP_one _) (by have := HMK.out; have := HJN.out; unfold maxLen; omega) (by have := HMK.out; have := HJN.out; omega) (by have := HXB.out; simp; omega) ?_; intro v6 w6 r1' g1' r4'; have HR6 : Hid (w6.ownsRow w.heap.size 40 2 v6 (1 + (m - 0)) ([.int .i64 k, .int .i64 V] ++ flatP (M.drop 0))) := r1'; have HB6 : Hid (Below X.heap.size X w6) := lit_grown g1'; have HRB6 : Hid (w6.cell? ⟨rb, 0, none⟩ = some (.int .i64 k) ∧ w6.cell? ⟨rb, 1, none⟩ = some (.int .i64 V)) := HRB.out w6 HB6.out))
                        all_goals
                          clear r1' g1' r4' HRB6
                          obtain ⟨g2, cap2, rfl, HNC⟩ := rest_shape HR6.out
                          have HNC' : Hid (∀ j u, ([Value.int .i64 k, .int .i64 V] ++ flatP (M.drop (0)))[j]? = some u → w6.cell? ((⟨g2, 0, none⟩ : Addr).add j) = some u) := HNC
                          have HNL : Hid (([Value.int .i64 k, .int .i64 V] ++ flatP (M.drop (0))).length = (1 + (m - (0))) * 2) := HR6.out.1
                          have HTL : Hid ((flatP (M.take (0))).length = (0) * 2) := by rw [flatP_len, List.length_take, HMM.out.1]; show min _ _ * 2 = _; rw [Nat.min_eq_left htm]
                          have HB46 : Hid (Below w4.heap.size w4 w6) := HX3.out.2.trans (HB6.out.mono HX3.out.2.size)
                          have HTC : Hid (∀ b, some (⟨g, 0, none⟩ : Addr) = some b → ∀ j u, (flatP (M.take (0)))[j]? = some u → w6.cell? (b.add j) = some u) := fun b e j u hj => by cases e; exact HCE.out w6 HB46.out j u (take_flat hj)
                          have HTM : Hid (0 ≤ m) := htm
                          have hc0 : (0 : Int) ≤ ((0 : Nat) : Int) := by omega
                          have hc1 : ((0 : Nat) : Int) ≤ (((0) : Nat) : Int) := by have := HCT.out; omega
                          clear HNC
                          obtain ⟨i4, hi4, hz40, hz41, hz42⟩ := info_parts Tryz.soRa
                          go_wp2_with (at_builtin; refine wpList_append_grows _ rfl (.tmp 94) (.tmp 95) 35 rfl 40 i4 _ 2 16 Tryz.underlying35 hi4 hz40 hz41 hz42 rfl (by decide) (some ⟨g, 0, none⟩) (0) (0) (flatP (M.take (0))) rfl (fun h => by cases h) HTL.out HTC.out ⟨g2, 0, none⟩ (1 + (m - (0))) cap2 ([.int .i64 k, .int .i64 V] ++ flatP (M.drop (0))) rfl HNL.out HNC'.out (news_one _) (by omega) (by have := HMK.out; have := HJN.out; unfold maxLen; omega) (by have := HMK.out; have := HJN.out; omega) ?_; intro v7 w7 r7 g7; have HO7 : Hid (RrO w.heap.size w3 v7 (M.take (0) ++ ⟨(k : Int), V⟩ :: M.drop (0)) w7) := HO4.out.put HB46.out (Nat.le_trans HXB.out HB6.out.size) HMM.out.1 HTM.out r7 g7; clear r7 g7)
                          go_roundg (N - (k + 1))
                          case measure => omega
                          case rel => exact ⟨k + 1, _, by omega, by first | rfl | (rw [HWK.out]), HRN.out, HO7.out⟩
                      · have HDC : Hid (∀ j u, (flatP (M.drop (0)))[j]? = some u → (X.drew.alloc (.cells #[.int .i64 k, .int .i64 V] 40)).cell? ((⟨g, (0) * 2, none⟩ : Addr).add j) = some u) := fun j u hj => by
                          have h := HCE.out (X.drew.alloc (.cells #[.int .i64 k, .int .i64 V] 40)) ((HX3.out.2.drew).alloc HX3.out.2.size _) ((0) * 2 + j) u (drop_flat hj)
                          rw [Addr.add_lit] at h ⊢
                          rw [Nat.zero_add] at h
                          exact h
                        obtain ⟨i3, hi3, hz30, hz31, hz32⟩ := info_parts Tryz.soRa
                        go_upto_region 16 with fail
                        go_region_held3 (fun x => x.cell? ⟨rb, 0, none⟩ = some (.int .i64 k) ∧ x.cell? ⟨rb, 1, none⟩ = some (.int .i64 V)) (first | exact HRB.out _ ((Below.refl _ X).drew) | exact HRB.out _ (((Below.refl _ X).drew).alloc (Nat.le_refl _) _) | exact HRB6.out) (first
                          | (refine step_appB rfl (.tmp 86) (.tmp 89) 35 rfl w.heap.size 40 i3 _ 2 16 Tryz.underlying35 hi3 hz30 hz31 hz32 rfl (by decide) (.slice (some ⟨X.heap.size, 0, none⟩) 1 1) 1 [.int .i64 k, .int .i64 V] (by simp [Act.eval]) (made1R X.drew _ _ _ HXB.out) ⟨g, 0 * 2, none⟩ (m - 0) (cap - 0) (flatP (M.drop 0)) (by simp [Act.eval]) HDL.out HDC.out (flatP_one _) (by have := HMK.out; have := HJN.out; unfold maxLen; omega) (by have := HMK.out; have := HJN.out; omega) (by have := HXB.out; simp; omega) ?_; intro v6 w6 r1' g1' r4'; have HR6 : Hid (w6.ownsRow w.heap.size 40 2 v6 (1 + (m - 0)) ([.int .i64 k, .int .i64 V] ++ flatP (M.drop 0))) := r1'; have HB6 : Hid (Below X.heap.size X w6) := lit_grown g1'; have HRB6 : Hid (w6.cell? ⟨rb, 0, none⟩ = some (.int .i64 k) ∧ w6.cell? ⟨rb, 1, none⟩ = some (.int .i64 V)) := HRB.out w6 HB6.out))
                        all_goals
                          clear r1' g1' r4' HRB6
                          obtain ⟨g2, cap2, rfl, HNC⟩ := rest_shape HR6.out
                          have HNC' : Hid (∀ j u, ([Value.int .i64 k, .int .i64 V] ++ flatP (M.drop (0)))[j]? = some u → w6.cell? ((⟨g2, 0, none⟩ : Addr).add j) = some u) := HNC
                          have HNL : Hid (([Value.int .i64 k, .int .i64 V] ++ flatP (M.drop (0))).length = (1 + (m - (0))) * 2) := HR6.out.1
                          have HTL : Hid ((flatP (M.take (0))).length = (0) * 2) := by rw [flatP_len, List.length_take, HMM.out.1]; show min _ _ * 2 = _; rw [Nat.min_eq_left htm]
                          have HB46 : Hid (Below w4.heap.size w4 w6) := HX3.out.2.trans (HB6.out.mono HX3.out.2.size)
                          have HTC : Hid (∀ b, some (⟨g, 0, none⟩ : Addr) = some b → ∀ j u, (flatP (M.take (0)))[j]? = some u → w6.cell? (b.add j) = some u) := fun b e j u hj => by cases e; exact HCE.out w6 HB46.out j u (take_flat hj)
                          have HTM : Hid (0 ≤ m) := htm
                          have hc0 : (0 : Int) ≤ ((0 : Nat) : Int) := by omega
                          have hc1 : ((0 : Nat) : Int) ≤ cap := by have := HCT.out; omega
                          clear HNC
                          obtain ⟨i4, hi4, hz40, hz41, hz42⟩ := info_parts Tryz.soRa
                          go_wp2_with (at_builtin; refine wpList_append_grows _ rfl (.tmp 94) (.tmp 95) 35 rfl 40 i4 _ 2 16 Tryz.underlying35 hi4 hz40 hz41 hz42 rfl (by decide) (some ⟨g, 0, none⟩) (0) (0) (flatP (M.take (0))) rfl (fun h => by cases h) HTL.out HTC.out ⟨g2, 0, none⟩ (1 + (m - (0))) cap2 ([.int .i64 k, .int .i64 V] ++ flatP (M.drop (0))) rfl HNL.out HNC'.out (news_one _) (by omega) (by have := HMK.out; have := HJN.out; unfold maxLen; omega) (by have := HMK.out; have := HJN.out; omega) ?_; intro v7 w7 r7 g7; have HO7 : Hid (RrO w.heap.size w3 v7 (M.take (0) ++ ⟨(k : Int), V⟩ :: M.drop (0)) w7) := HO4.out.put HB46.out (Nat.le_trans HXB.out HB6.out.size) HMM.out.1 HTM.out r7 g7; clear r7 g7)
                          go_roundg (N - (k + 1))
                          case measure => omega
                          case rel => exact ⟨k + 1, _, by omega, by first | rfl | (rw [HWK.out]), HRN.out, HO7.out⟩
                    | succ s =>
                      obtain ⟨p, hp⟩ : ∃ p, M[s]? = some p := ⟨_, List.getElem?_eq_getElem (by have := HMM.out.1; omega)⟩
                      have HPS : Hid (M[s]? = some p) := hp
                      have b1 : wr.cell? ⟨g, s * 2 + 1, none⟩ = some (.int .i64 p.b) := by
                        have h := HCE.out wr HX2.out.2 (s * 2 + 1) _ (flatP_at M s p hp).2
                        rw [Addr.add_lit, Nat.zero_add] at h
                        exact h
                      have hsm : (s : Int) < m := by omega
                      have hs0 : (0 : Int) < (s : Int) + 1 := by omega
                      have HWS : Hid (wrap64 (s : Int) = (s : Int)) := wrap64_nat (h := s) (by have := HMK.out; have := HJN.out; omega)
                      clear hp
                      by_cases hpv : p.b < V
                      · have HD2 : Hid (∀ z ∈ M.drop s, z.b < V) := fun z hz => by
                          rw [List.drop_eq_getElem_cons (by have := HMM.out.1; omega), (List.getElem?_eq_some_iff.1 HPS.out).2] at hz
                          rcases List.mem_cons.1 hz with e | e
                          · rw [e]; exact hpv
                          · exact HDR.out z e
                        have hws := HWS.out
                        generalize p.b = pb at *
                        go_upto_region 14 with fail
                        go_quiet (fail)
                        have HX3 : Hid ((wr.drewN nq).heap[rb]? = some (.cells #[.int .i64 k, .int .i64 V] 40 (0, 0)) ∧ Below w4.heap.size w4 (wr.drewN nq)) := ⟨HX2.out.1, below_drewN HX2.out.2 nq⟩
                        go_wp2
                        go_roundg s
                        case measure => omega
                        case rel => exact ⟨s, rfl, by omega, by first | rfl | (rw [HWS.out]), HD2.out, HX3.out⟩
                      · have HEX : Hid (∀ h : 0 < s + 1, V ≤ (M[s + 1 - 1]'(by have := HMM.out.1; omega)).b) := fun _ => by
                          have e := (List.getElem?_eq_some_iff.1 HPS.out).2
                          show V ≤ (M[s]'_).b
                          rw [e]; omega
                        have hws := HWS.out
                        clear HPS
                        generalize p.b = pb at *
                        go_upto_region 14 with fail
                        go_quiet (fail)
                        have HX3 : Hid ((wr.drewN nq).heap[rb]? = some (.cells #[.int .i64 k, .int .i64 V] 40 (0, 0)) ∧ Below w4.heap.size w4 (wr.drewN nq)) := ⟨HX2.out.1, below_drewN HX2.out.2 nq⟩
                        have HRN : Hid (Rks F f cf now jl (k + 1) (M.take (s + 1) ++ ⟨(k : Int), V⟩ :: M.drop (s + 1))) := HRK.out.put HRY.out (by rw [HMM.out.1]; exact htm) HDR.out HEX.out
                        generalize (wr.drewN nq) = X at *
                        clear HX2 HRK HDR HEX r1
                        have HRB : Hid (∀ x, Below X.heap.size X x → x.cell? ⟨rb, 0, none⟩ = some (.int .i64 k) ∧ x.cell? ⟨rb, 1, none⟩ = some (.int .i64 V)) := fun x hx => by
                          have h := (hx.block rb (Array.getElem?_eq_some_iff.1 HX3.out.1).1).trans HX3.out.1
                          exact ⟨cells_at h rfl, cells_at h rfl⟩
                        have HXB : Hid (w.heap.size ≤ X.heap.size) := by have h1 := HR4.out.bel.size; have h2 := HX3.out.2.size; show w.heap.size ≤ X.heap.size; omega
                        have HDL : Hid ((flatP (M.drop (s + 1))).length = (m - (s + 1)) * 2) := by rw [flatP_len, List.length_drop, HMM.out.1]; exact rfl
                        have HCT : Hid (m ≤ cap) := HMM.out.2
                        have hle1 : (s : Int) + 1 ≤ m := by omega
                        have hle3 : (0 : Int) ≤ (s : Int) + 1 := by omega
                        have hle4 : (s : Int) + 1 ≤ cap := by have := HCT.out; omega
                        by_cases hct : cap = s + 1
                        · subst hct
                          have HDC : Hid (∀ j u, (flatP (M.drop (s + 1)))[j]? = some u → (X.drew.alloc (.cells #[.int .i64 k, .int .i64 V] 40)).cell? ((⟨g, 0, none⟩ : Addr).add j) = some u) := fun j u hj => by
                            have h := HDL.out
                            have h2 := HCT.out
                            have h3 := (List.getElem?_eq_some_iff.1 hj).1
                            omega
                          obtain ⟨i3, hi3, hz30, hz31, hz32⟩ := info_parts Tryz.soRa
                          go_upto_region 16 with fail
                          go_region_held3 (fun x => x.cell? ⟨rb, 0, none⟩ = some (.int .i64 k) ∧ x.cell? ⟨rb, 1, none⟩ = some (.int .i64 V)) (first | exact HRB.out _ ((Below.refl _ X).drew) | exact HRB.out _ (((Below.refl _ X).drew).alloc (Nat.le_refl _) _) | exact HRB6.out) (first
                            | (refine step_appB rfl (.tmp 86) (.tmp 89) 35 rfl w.heap.size 40 i3 _ 2 16 Tryz.underlying35 hi3 hz30 hz31 hz32 rfl (by decide) (.slice (some ⟨X.heap.size, 0, none⟩) 1 1) 1 [.int .i64 k, .int .i64 V] (by simp [Act.eval]) (made1R X.drew _ _ _ HXB.out) ⟨g, 0, none⟩ (m - (s + 1)) ((s + 1) - (s + 1)) (flatP (M.drop (s + 1))) (by simp [Act.eval]) HDL.out HDC.out (flatP_one _) (by have := HMK.out; have := HJN.out; unfold maxLen; omega) (by have := HMK.out; have := HJN.out; omega) (by have := HXB.out; simp; omega) ?_; intro v6 w6 r1' g1' r4'; have HR6 : Hid (w6.ownsRow w.heap.size 40 2 v6 (1 + (m - (s + 1))) ([.int .i64 k, .int .i64 V] ++ flatP (M.drop (s + 1)))) := r1'; have HB6 : Hid (Below X.heap.size X w6) := lit_grown g1'; have HRB6 : Hid (w6.cell? ⟨rb, 0, none⟩ = some (.int .i64 k) ∧ w6.cell? ⟨rb, 1, none⟩ = some (.int .i64 V)) := HRB.out w6 HB6.out))
                          all_goals
                            clear r1' g1' r4' HRB6
                            obtain ⟨g2, cap2, rfl, HNC⟩ := rest_shape HR6.out
                            have HNC' : Hid (∀ j u, ([Value.int .i64 k, .int .i64 V] ++ flatP (M.drop (s + 1)))[j]? = some u → w6.cell? ((⟨g2, 0, none⟩ : Addr).add j) = some u) := HNC
                            have HNL : Hid (([Value.int .i64 k, .int .i64 V] ++ flatP (M.drop (s + 1))).length = (1 + (m - (s + 1))) * 2) := HR6.out.1
                            have HTL : Hid ((flatP (M.take (s + 1))).length = (s + 1) * 2) := by rw [flatP_len, List.length_take, HMM.out.1]; show min _ _ * 2 = _; rw [Nat.min_eq_left htm]
                            have HB46 : Hid (Below w4.heap.size w4 w6) := HX3.out.2.trans (HB6.out.mono HX3.out.2.size)
                            have HTC : Hid (∀ b, some (⟨g, 0, none⟩ : Addr) = some b → ∀ j u, (flatP (M.take (s + 1)))[j]? = some u → w6.cell? (b.add j) = some u) := fun b e j u hj => by cases e; exact HCE.out w6 HB46.out j u (take_flat hj)
                            have HTM : Hid (s + 1 ≤ m) := htm
                            have hc0 : (0 : Int) ≤ (s : Int) + 1 := by omega
                            have hc1 : (s : Int) + 1 ≤ (s : Int) + 1 := by omega
                            clear HNC
                            obtain ⟨i4, hi4, hz40, hz41, hz42⟩ := info_parts Tryz.soRa
                            go_wp2_with (at_builtin; refine wpList_append_grows _ rfl (.tmp 94) (.tmp 95) 35 rfl 40 i4 _ 2 16 Tryz.underlying35 hi4 hz40 hz41 hz42 rfl (by decide) (some ⟨g, 0, none⟩) (s + 1) (s + 1) (flatP (M.take (s + 1))) rfl (fun h => by cases h) HTL.out HTC.out ⟨g2, 0, none⟩ (1 + (m - (s + 1))) cap2 ([.int .i64 k, .int .i64 V] ++ flatP (M.drop (s + 1))) rfl HNL.out HNC'.out (news_one _) (by omega) (by have := HMK.out; have := HJN.out; unfold maxLen; omega) (by have := HMK.out; have := HJN.out; omega) ?_; intro v7 w7 r7 g7; have HO7 : Hid (RrO w.heap.size w3 v7 (M.take (s + 1) ++ ⟨(k : Int), V⟩ :: M.drop (s + 1)) w7) := HO4.out.put HB46.out (Nat.le_trans HXB.out HB6.out.size) HMM.out.1 HTM.out r7 g7; clear r7 g7)
                            go_roundg (N - (k + 1))
                            case measure => omega
                            case rel => exact ⟨k + 1, _, by omega, by first | rfl | (rw [HWK.out]), HRN.out, HO7.out⟩
                        · have HDC : Hid (∀ j u, (flatP (M.drop (s + 1)))[j]? = some u → (X.drew.alloc (.cells #[.int .i64 k, .int .i64 V] 40)).cell? ((⟨g, (s + 1) * 2, none⟩ : Addr).add j) = some u) := fun j u hj => by
                            have h := HCE.out (X.drew.alloc (.cells #[.int .i64 k, .int .i64 V] 40)) ((HX3.out.2.drew).alloc HX3.out.2.size _) ((s + 1) * 2 + j) u (drop_flat hj)
                            rw [Addr.add_lit] at h ⊢
                            rw [Nat.zero_add] at h
                            exact h
                          obtain ⟨i3, hi3, hz30, hz31, hz32⟩ := info_parts Tryz.soRa
                          go_upto_region 16 with fail
                          go_region_held3 (fun x => x.cell? ⟨rb, 0, none⟩ = some (.int .i64 k) ∧ x.cell? ⟨rb, 1, none⟩ = some (.int .i64 V)) (first | exact HRB.out _ ((Below.refl _ X).drew) | exact HRB.out _ (((Below.refl _ X).drew).alloc (Nat.le_refl _) _) | exact HRB6.out) (first
                            | (refine step_appB rfl (.tmp 86) (.tmp 89) 35 rfl w.heap.size 40 i3 _ 2 16 Tryz.underlying35 hi3 hz30 hz31 hz32 rfl (by decide) (.slice (some ⟨X.heap.size, 0, none⟩) 1 1) 1 [.int .i64 k, .int .i64 V] (by simp [Act.eval]) (made1R X.drew _ _ _ HXB.out) ⟨g, (s + 1) * 2, none⟩ (m - (s + 1)) (cap - (s + 1)) (flatP (M.drop (s + 1))) (by simp [Act.eval]) HDL.out HDC.out (flatP_one _) (by have := HMK.out; have := HJN.out; unfold maxLen; omega) (by have := HMK.out; have := HJN.out; omega) (by have := HXB.out; simp; omega) ?_; intro v6 w6 r1' g1' r4'; have HR6 : Hid (w6.ownsRow w.heap.size 40 2 v6 (1 + (m - (s + 1))) ([.int .i64 k, .int .i64 V] ++ flatP (M.drop (s + 1)))) := r1'; have HB6 : Hid (Below X.heap.size X w6) := lit_grown g1'; have HRB6 : Hid (w6.cell? ⟨rb, 0, none⟩ = some (.int .i64 k) ∧ w6.cell? ⟨rb, 1, none⟩ = some (.int .i64 V)) := HRB.out w6 HB6.out))
                          all_goals
                            clear r1' g1' r4' HRB6
                            obtain ⟨g2, cap2, rfl, HNC⟩ := rest_shape HR6.out
                            have HNC' : Hid (∀ j u, ([Value.int .i64 k, .int .i64 V] ++ flatP (M.drop (s + 1)))[j]? = some u → w6.cell? ((⟨g2, 0, none⟩ : Addr).add j) = some u) := HNC
                            have HNL : Hid (([Value.int .i64 k, .int .i64 V] ++ flatP (M.drop (s + 1))).length = (1 + (m - (s + 1))) * 2) := HR6.out.1
                            have HTL : Hid ((flatP (M.take (s + 1))).length = (s + 1) * 2) := by rw [flatP_len, List.length_take, HMM.out.1]; show min _ _ * 2 = _; rw [Nat.min_eq_left htm]
                            have HB46 : Hid (Below w4.heap.size w4 w6) := HX3.out.2.trans (HB6.out.mono HX3.out.2.size)
                            have HTC : Hid (∀ b, some (⟨g, 0, none⟩ : Addr) = some b → ∀ j u, (flatP (M.take (s + 1)))[j]? = some u → w6.cell? (b.add j) = some u) := fun b e j u hj => by cases e; exact HCE.out w6 HB46.out j u (take_flat hj)
                            have HTM : Hid (s + 1 ≤ m) := htm
                            have hc0 : (0 : Int) ≤ (s : Int) + 1 := by omega
                            have hc1 : (s : Int) + 1 ≤ cap := by have := HCT.out; omega
                            clear HNC
                            obtain ⟨i4, hi4, hz40, hz41, hz42⟩ := info_parts Tryz.soRa
                            go_wp2_with (at_builtin; refine wpList_append_grows _ rfl (.tmp 94) (.tmp 95) 35 rfl 40 i4 _ 2 16 Tryz.underlying35 hi4 hz40 hz41 hz42 rfl (by decide) (some ⟨g, 0, none⟩) (s + 1) (s + 1) (flatP (M.take (s + 1))) rfl (fun h => by cases h) HTL.out HTC.out ⟨g2, 0, none⟩ (1 + (m - (s + 1))) cap2 ([.int .i64 k, .int .i64 V] ++ flatP (M.drop (s + 1))) rfl HNL.out HNC'.out (news_one _) (by omega) (by have := HMK.out; have := HJN.out; unfold maxLen; omega) (by have := HMK.out; have := HJN.out; omega) ?_; intro v7 w7 r7 g7; have HO7 : Hid (RrO w.heap.size w3 v7 (M.take (s + 1) ++ ⟨(k : Int), V⟩ :: M.drop (s + 1)) w7) := HO4.out.put HB46.out (Nat.le_trans HXB.out HB6.out.size) HMM.out.1 HTM.out r7 g7; clear r7 g7)
                            go_roundg (N - (k + 1))
                            case measure => omega
                            case rel => exact ⟨k + 1, _, by omega, by first | rfl | (rw [HWK.out]), HRN.out, HO7.out⟩
              · have HRN : Hid (Rks F f cf now jl (k + 1) M) := HPN.out (pend_no (fun h => p3 h.2.2))
                have d2 : ¬ j.ac < 0 := by omega
                have d3 : (F : Int) ≤ j.ac := by omega
                clear HPN HPY
                go_wp2
                go_roundg (N - (k + 1))
                case measure => omega
                case rel => exact ⟨k + 1, M, by omega, by first | rfl | (rw [HWK.out]), HRN.out, HO4.out⟩
            · have HRN : Hid (Rks F f cf now jl (k + 1) M) := HPN.out (pend_no (fun h => p2 h.2.1))
              have d2 : j.ac < 0 := by omega
              clear HPN HPY
              go_wp2
              go_roundg (N - (k + 1))
              case measure => omega
              case rel => exact ⟨k + 1, M, by omega, by first | rfl | (rw [HWK.out]), HRN.out, HO4.out⟩
          · have HRN : Hid (Rks F f cf now jl (k + 1) M) := HPN.out (pend_no (fun h => p1 h.1))
            have d1 : (j.st != 1) = true := by simpa using p1
            clear HPN HPY
            go_wp2
            go_roundg (N - (k + 1))
            case measure => omega
            case rel => exact ⟨k + 1, M, by omega, by first | rfl | (rw [HWK.out]), HRN.out, HO4.out⟩
        · have hge : ¬ (k : Int) < N := by omega
          have HE : Hid (wr.ownsRow w.heap.size 40 2 (.slice (some ⟨g, 0, none⟩) m cap) (rankL F f cf now jl).length (flatP (rankL F f cf now jl)) ∧ Below w.heap.size w wr) := by
            have h := HRK.out.done (by have := HN.out; omega)
            rw [← h]
            exact ⟨HRO.out.row, HRS.out.bel⟩
          clear HRO HRS HRK hlt
          go_wp2
          go_ret
          exact ⟨_, rfl, HE.out⟩
    · have hF0 : F = 0 := HFL.out.2 hFL
      have e1 : ((F : Int) != (L : Int)) = true := by simp; omega
      have HE : Hid (w3.ownsRow w.heap.size 40 2 (.slice (some ⟨w0.heap.size, 0, none⟩) 0 0) (rankL F f cf now jl).length (flatP (rankL F f cf now jl)) ∧ Below w.heap.size w w3) := by
        have h0 := rank_len0 f cf now jl
        rw [hF0, List.eq_nil_of_length_eq_zero h0]
        exact ⟨HO3.out, HS3.out.bel⟩
      clear hF0 hFL HO3 HS3
      go_wp2
      go_ret
      exact ⟨_, rfl, HE.out⟩
  · have hF0 : F = 0 := HFL.out.1 hck
    have hck' : (chkZ cf != 0) = true := by simpa using hck
    have HE : Hid (∀ x, Below w1.heap.size w1 x → x.ownsRow w.heap.size 40 2 (.slice (some ⟨w0.heap.size, 0, none⟩) 0 0) (rankL F f cf now jl).length (flatP (rankL F f cf now jl)) ∧ Below w.heap.size w x) := fun x hx => by
      have h0 := rank_len0 f cf now jl
      rw [hF0, List.eq_nil_of_length_eq_zero h0]
      exact ⟨HO1.out.kept (Bk.gr_below hx none) (.inr (by simp [Value.ownBlock])), HS1.out.2.trans (hx.mono HS1.out.2.size)⟩
    clear hF0 hck HO1 HS1
    generalize chkZ cf = e0 at *
    go_enter Tryz.func7, Tryz.ntmps7
    go_wp2_with fail
    refine HCK.mono ?_
    rintro e w2 ⟨rfl, hb2⟩
    have HE2 : Hid _ := HE.out w2 hb2
    clear HCK HE k0 k1 k2 k3 k4 k5 k6 k7 k9
    go_wp2
    go_ret
    exact ⟨_, rfl, HE2.out⟩
end Go.Proofs.YtjgllfpnmmopdaaGreatDoor
