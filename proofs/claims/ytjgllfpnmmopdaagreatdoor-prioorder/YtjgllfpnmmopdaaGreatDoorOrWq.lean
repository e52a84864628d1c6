/-
  PrioOrder walked.
-/
import Derived.Test.YtjgllfpnmmopdaaGreatDoorXrk
import Derived.Deep.RegionHeld3
namespace Go.Proofs.YtjgllfpnmmopdaaGreatDoor
open Go.RowKit Wd Tr Cg Ld
/-- The cells that are read of one rank's job. -/
theorem order_cells {w x : World} {cf : Cf} {now hd : Int} {av : Value} {gf F g gj oj N cj i q sl sc : Nat} {f : Nat → Int} {jl : List Jb} {RK : List Pr} {sa : Option Addr} {j : Jb} {p : Pr} {pb : Int} (h : Po w cf now hd av (.slice (some ⟨gj, oj, none⟩) N cj) gf F f gj oj jl g RK x) (hj : jl[q]? = some j) (hst : j.st = 1) (hset : j.set = .slice sa sl sc) (hq : j.ac.toNat < F) (hp : RK[i]? = some p) (hb : p.b = pb) :
    x.cell? ⟨w.heap.size, 0, none⟩ = some (.int .i64 cf.nodes) ∧ x.cell? ⟨w.heap.size, 1, none⟩ = some (.int .i64 cf.queue) ∧ x.cell? ⟨w.heap.size, 2, none⟩ = some (.int .i64 cf.limit) ∧ x.cell? ⟨w.heap.size, 3, none⟩ = some (.int .i64 cf.age) ∧ x.cell? ⟨w.heap.size, 4, none⟩ = some (.int .i64 cf.fair) ∧ x.cell? ⟨w.heap.size, 5, none⟩ = some (.int .i64 cf.size) ∧ x.cell? ⟨w.heap.size, 6, none⟩ = some (.int .i64 cf.period) ∧ x.cell? ⟨w.heap.size, 7, none⟩ = some (.int .i64 cf.half) ∧ x.cell? ⟨w.heap.size, 8, none⟩ = some (.int .i64 now) ∧ x.cell? ⟨w.heap.size, 10, none⟩ = some (.slice (some ⟨gj, oj, none⟩) N cj) ∧ x.cell? ⟨gj, oj + q * 8, none⟩ = some (.int .i64 j.ac) ∧ x.cell? ⟨gj, oj + q * 8 + 1, none⟩ = some (.int .i64 j.nd) ∧ x.cell? ⟨gj, oj + q * 8 + 2, none⟩ = some (.int .i64 j.lm) ∧ x.cell? ⟨gj, oj + q * 8 + 3, none⟩ = some (.int .i64 j.sb) ∧ x.cell? ⟨gj, oj + q * 8 + 4, none⟩ = some (.int .i64 1) ∧ x.cell? ⟨gj, oj + q * 8 + 5, none⟩ = some (.int .i64 j.sr) ∧ x.cell? ⟨gj, oj + q * 8 + 6, none⟩ = some (.int .i64 j.en) ∧ x.cell? ⟨gj, oj + q * 8 + 7, none⟩ = some (.slice sa sl sc) ∧ x.cell? ⟨gf, j.ac.toNat, none⟩ = some (.int .u64 (f j.ac.toNat)) ∧ x.cell? ⟨g, i * 2 + 1, none⟩ = some (.int .i64 pb) := by
  obtain ⟨r0, r1, r2, r3, r4, r5, r6, r7⟩ := h.jb q j hj
  rw [hst] at r4
  rw [hset] at r7
  have r8 := (h.rk.at hp).2
  rw [hb] at r8
  exact ⟨h.st.cell rfl, h.st.cell rfl, h.st.cell rfl, h.st.cell rfl, h.st.cell rfl, h.st.cell rfl, h.st.cell rfl, h.st.cell rfl, h.st.cell rfl, h.st.cell rfl, r0, r1, r2, r3, r4, r5, r6, r7, h.fc _ hq, r8⟩
theorem dNz (x : World) (q : Nat) : Below x.heap.size x (x.drewN q) := ⟨rfl, rfl, rfl, Nat.le_refl _, fun _ _ => rfl⟩
theorem sn_le {B : Nat} {a b : World} (h : Below B a b) (hB : B ≤ a.heap.size := by omega) : B ≤ b.drew.heap.size := Nat.le_trans hB h.size
set_option maxHeartbeats 4000000 in
set_option maxRecDepth 20000 in
theorem order_walk {w : World} {cf : Cf} {now hd : Int} {ao jo : Option Addr} {la : List Ac} {jl : List Jb} {ca cj gj oj : Nat} (hin : StIn w ao jo la jl ca gj oj) :
    Calls Tryz.prog 4 #[.agg (stC cf now (.slice ao la.length ca) (.slice jo jl.length cj) hd)] w fun e w' => e = .returned (.bool true) ∧ Below w.heap.size w w' := by
  obtain ⟨w1, hw1⟩ : ∃ w1, w.alloc (.cells (stC cf now (.slice ao la.length ca) (.slice jo jl.length cj) hd) 27) = w1 := ⟨_, rfl⟩
  have b1 : Below w.heap.size w w1 := by rw [← hw1]; exact (Below.refl _ _).alloc (Nat.le_refl _) _
  have hst : StB w1 w.heap.size cf now (.slice ao la.length ca) (.slice jo jl.length cj) hd := by rw [← hw1]; exact heap_alloc_new w _
  have HIN : Hid (StIn w ao jo la jl ca gj oj) := hin
  have HRK : Hid (∀ x, Below w.heap.size w x → Calls Tryz.prog 6 #[.agg (stC cf now (.slice ao la.length ca) (.slice jo jl.length cj) hd)] x fun e w' => ∃ g n, e = .returned (.slice (some ⟨g, 0, none⟩) n n) ∧ n = (rankL (lenE cf la) (facV la (wV la (flZ cf))) cf now jl).length ∧ x.heap.size ≤ g ∧ RwR w' g (rankL (lenE cf la) (facV la (wV la (flZ cf))) cf now jl) ∧ Below x.heap.size x w') := fun x hx => by
    have h := hin.below hx
    exact ranks_any h.tab h.acs h.nms h.us h.an h.ac h.jo h.jb h.jn h.sl
  have HRF : Hid (∀ x, Below w.heap.size w x → Calls Tryz.prog 10 #[cfV cf, .slice ao la.length ca] x (REf x (lenE cf la) (firstN (facV la (wV la (flZ cf))) (lenE cf la)))) := fun x hx => by
    have h := hin.below hx
    exact rfacs_any h.acs h.us h.an
  have HCK : Hid (∀ x, Calls Tryz.prog 11 #[cfV cf] x fun e w' => e = .returned (.int .i64 (chkZ cf)) ∧ Below x.heap.size x w') := fun x => rcheck_any cf x
  have HFL : Hid ((chkZ cf ≠ 0 → lenE cf la = 0) ∧ (lenE cf la ≠ la.length → lenE cf la = 0)) := by
    refine ⟨fun h => if_neg (fun k => h k.2), fun h => ?_⟩
    by_cases hc : loadE la = 0 ∧ chkZ cf = 0
    · exact absurd (if_pos hc) h
    · exact if_neg hc
  have HW : Hid (∀ j, j < lenE cf la → Word (facV la (wV la (flZ cf)) j)) := fun j hj => facs_word hin.us hj
  have HS1 : Hid (StB w1 w.heap.size cf now (.slice ao la.length ca) (.slice jo jl.length cj) hd ∧ Below w.heap.size w w1) := ⟨hst, b1⟩
  have hs := shown_any w1
  obtain ⟨N, hN⟩ : ∃ N, jl.length = N := ⟨_, rfl⟩
  have HN : Hid (jl.length = N) := hN
  obtain ⟨L, hL⟩ : ∃ L, la.length = L := ⟨_, rfl⟩
  obtain ⟨F, hF⟩ : ∃ F, lenE cf la = F := ⟨_, rfl⟩
  obtain ⟨f, hf⟩ : ∃ f, facV la (wV la (flZ cf)) = f := ⟨_, rfl⟩
  rw [hF] at HRK HRF HFL HW
  rw [hf] at HRK HRF HW
  rw [hN] at HRK HS1 hw1 ⊢
  rw [hL] at HRK HRF HFL HS1 hw1 ⊢
  have HJN : Hid (N * 80 ≤ 140737488355328) := by have h := hin.jn; rw [hN] at h; exact h
  have HJO : Hid (0 < N → jo = some ⟨gj, oj, none⟩) := by have h := hin.jo; rw [hN] at h; exact h
  have HSL : Hid (∀ j ∈ jl, ∃ sa sl sc, j.set = .slice sa sl sc) := hin.sl
  unfold stC at hw1 HRK ⊢
  unfold cfV at HRF HCK
  clear hin b1 hst hF hf hN hL
  go_enter Tryz.func4, Tryz.ntmps4
  go_wp2_with fail
  refine hs.mono ?_
  rintro e w2 ⟨rfl, hb2⟩
  have HS2 : Hid (StB w2 w.heap.size cf now (.slice ao L ca) (.slice jo N cj) hd ∧ Below w.heap.size w w2) := ⟨HS1.out.1.below hb2, HS1.out.2.trans (hb2.mono HS1.out.2.size)⟩
  clear hs hb2 HS1 hw1
  have k0 : w2.cell? ⟨w.heap.size, 0, none⟩ = some (.int .i64 cf.nodes) := HS2.out.1.cell rfl
  have k1 : w2.cell? ⟨w.heap.size, 1, none⟩ = some (.int .i64 cf.queue) := HS2.out.1.cell rfl
  have k2 : w2.cell? ⟨w.heap.size, 2, none⟩ = some (.int .i64 cf.limit) := HS2.out.1.cell rfl
  have k3 : w2.cell? ⟨w.heap.size, 3, none⟩ = some (.int .i64 cf.age) := HS2.out.1.cell rfl
  have k4 : w2.cell? ⟨w.heap.size, 4, none⟩ = some (.int .i64 cf.fair) := HS2.out.1.cell rfl
  have k5 : w2.cell? ⟨w.heap.size, 5, none⟩ = some (.int .i64 cf.size) := HS2.out.1.cell rfl
  have k6 : w2.cell? ⟨w.heap.size, 6, none⟩ = some (.int .i64 cf.period) := HS2.out.1.cell rfl
  have k7 : w2.cell? ⟨w.heap.size, 7, none⟩ = some (.int .i64 cf.half) := HS2.out.1.cell rfl
  have k8 : w2.cell? ⟨w.heap.size, 8, none⟩ = some (.int .i64 now) := HS2.out.1.cell rfl
  have k9 : w2.cell? ⟨w.heap.size, 9, none⟩ = some (.slice ao L ca) := HS2.out.1.cell rfl
  have k10 : w2.cell? ⟨w.heap.size, 10, none⟩ = some (.slice jo N cj) := HS2.out.1.cell rfl
  have k11 : w2.cell? ⟨w.heap.size, 11, none⟩ = some (.int .i64 hd) := HS2.out.1.cell rfl
  have c1 := HRK.out w2 HS2.out.2
  go_wp2_with fail
  refine c1.mono ?_
  rintro e w3 ⟨g, n, rfl, hn, hg, hrk, hb3⟩
  have HS3 : Hid (StB w3 w.heap.size cf now (.slice ao L ca) (.slice jo N cj) hd ∧ Below w.heap.size w w3 ∧ RwR w3 g (rankL F f cf now jl)) := ⟨HS2.out.1.below hb3, HS2.out.2.trans (hb3.mono HS2.out.2.size), hrk⟩
  have HNL : Hid (n = (rankL F f cf now jl).length) := hn
  clear c1 hn hg hrk hb3 HS2 HRK k0 k1 k2 k3 k4 k5 k6 k7 k8 k9 k10 k11
  have k0 : w3.cell? ⟨w.heap.size, 0, none⟩ = some (.int .i64 cf.nodes) := HS3.out.1.cell rfl
  have k1 : w3.cell? ⟨w.heap.size, 1, none⟩ = some (.int .i64 cf.queue) := HS3.out.1.cell rfl
  have k2 : w3.cell? ⟨w.heap.size, 2, none⟩ = some (.int .i64 cf.limit) := HS3.out.1.cell rfl
  have k3 : w3.cell? ⟨w.heap.size, 3, none⟩ = some (.int .i64 cf.age) := HS3.out.1.cell rfl
  have k4 : w3.cell? ⟨w.heap.size, 4, none⟩ = some (.int .i64 cf.fair) := HS3.out.1.cell rfl
  have k5 : w3.cell? ⟨w.heap.size, 5, none⟩ = some (.int .i64 cf.size) := HS3.out.1.cell rfl
  have k6 : w3.cell? ⟨w.heap.size, 6, none⟩ = some (.int .i64 cf.period) := HS3.out.1.cell rfl
  have k7 : w3.cell? ⟨w.heap.size, 7, none⟩ = some (.int .i64 cf.half) := HS3.out.1.cell rfl
  have k8 : w3.cell? ⟨w.heap.size, 8, none⟩ = some (.int .i64 now) := HS3.out.1.cell rfl
  have k9 : w3.cell? ⟨w.heap.size, 9, none⟩ = some (.slice ao L ca) := HS3.out.1.cell rfl
  have k10 : w3.cell? ⟨w.heap.size, 10, none⟩ = some (.slice jo N cj) := HS3.out.1.cell rfl
  have k11 : w3.cell? ⟨w.heap.size, 11, none⟩ = some (.int .i64 hd) := HS3.out.1.cell rfl
  have c2 := HRF.out w3 HS3.out.2.1
  go_wp2_with fail
  refine c2.mono ?_
  rintro e w4 href
  obtain ⟨gf, cr, rfl, hfc, hb4⟩ := rfacs_in href
  have HP4 : Hid (Po w cf now hd (.slice ao L ca) (.slice jo N cj) gf F f gj oj jl g (rankL F f cf now jl) w4) := ⟨HS3.out.1.below hb4, hfc, HIN.out.jb.below (HS3.out.2.1.trans (hb4.mono HS3.out.2.1.size)), HS3.out.2.2.below hb4, HS3.out.2.1.trans (hb4.mono HS3.out.2.1.size)⟩
  clear c2 href hfc hb4 HS3 HRF k0 k1 k2 k3 k4 k5 k6 k7 k8 k9 k10 k11
  have k0 : w4.cell? ⟨w.heap.size, 0, none⟩ = some (.int .i64 cf.nodes) := HP4.out.st.cell rfl
  have k1 : w4.cell? ⟨w.heap.size, 1, none⟩ = some (.int .i64 cf.queue) := HP4.out.st.cell rfl
  have k2 : w4.cell? ⟨w.heap.size, 2, none⟩ = some (.int .i64 cf.limit) := HP4.out.st.cell rfl
  have k3 : w4.cell? ⟨w.heap.size, 3, none⟩ = some (.int .i64 cf.age) := HP4.out.st.cell rfl
  have k4 : w4.cell? ⟨w.heap.size, 4, none⟩ = some (.int .i64 cf.fair) := HP4.out.st.cell rfl
  have k5 : w4.cell? ⟨w.heap.size, 5, none⟩ = some (.int .i64 cf.size) := HP4.out.st.cell rfl
  have k6 : w4.cell? ⟨w.heap.size, 6, none⟩ = some (.int .i64 cf.period) := HP4.out.st.cell rfl
  have k7 : w4.cell? ⟨w.heap.size, 7, none⟩ = some (.int .i64 cf.half) := HP4.out.st.cell rfl
  have k8 : w4.cell? ⟨w.heap.size, 8, none⟩ = some (.int .i64 now) := HP4.out.st.cell rfl
  have k9 : w4.cell? ⟨w.heap.size, 9, none⟩ = some (.slice ao L ca) := HP4.out.st.cell rfl
  have k10 : w4.cell? ⟨w.heap.size, 10, none⟩ = some (.slice jo N cj) := HP4.out.st.cell rfl
  have k11 : w4.cell? ⟨w.heap.size, 11, none⟩ = some (.int .i64 hd) := HP4.out.st.cell rfl
  have c3 := HCK.out w4
  go_wp2_with fail
  refine c3.mono ?_
  rintro e w5 ⟨rfl, hb5⟩
  have HP5 : Hid (Po w cf now hd (.slice ao L ca) (.slice jo N cj) gf F f gj oj jl g (rankL F f cf now jl) w5) := HP4.out.below hb5
  clear c3 hb5 HP4 HCK k0 k1 k2 k3 k4 k5 k6 k7 k8 k9 k10 k11
  have k9 : w5.cell? ⟨w.heap.size, 9, none⟩ = some (.slice ao L ca) := HP5.out.st.cell rfl
  have k10 : w5.cell? ⟨w.heap.size, 10, none⟩ = some (.slice jo N cj) := HP5.out.st.cell rfl
  by_cases hck : chkZ cf = 0
  · by_cases hFL : F = L
    · have e1 : ((F : Int) != (L : Int)) = false := by simp [hFL]
      clear hFL HFL HIN
      rw [hck]
      clear hck
      obtain ⟨RK, hRK⟩ : ∃ RK, rankL F f cf now jl = RK := ⟨_, rfl⟩
      have HOK : Hid (∀ i p, RK[i]? = some p → ∃ q j, RkOk F f cf now jl RK i p q j) := by rw [← hRK]; exact fun i p h => rk_ok h
      have HSO : Hid (RK.Pairwise (Ahd keyR Pr.a)) := by rw [← hRK]; exact rank_sorted F f cf now jl
      have HCN : Hid ((rkF F f cf now jl 0).length = RK.length) := by rw [← hRK, (rank_perm F f cf now jl).length_eq]; exact rfl
      rw [hRK] at HP5 HNL
      clear hRK
      have HNN : Hid (n ≤ N) := by have h1 := rkF_len (F := F) (f := f) (c := cf) (now := now) jl 0; rw [HCN.out, ← HNL.out, HN.out] at h1; exact h1
      obtain ⟨w6, hmk, hB6, hb6, hz6⟩ := make_B w5 (n := N) (by have := HJN.out; omega)
      obtain ⟨sn, hsn⟩ : ∃ sn, w5.heap.size = sn := ⟨_, rfl⟩
      have HB6 : Hid (RowB w6 sn N (seenA RK 0) ∧ Below sn w5 w6) := by rw [← hsn]; exact ⟨hB6, hb6⟩
      have HP6 : Hid (Po w cf now hd (.slice ao L ca) (.slice jo N cj) gf F f gj oj jl g RK w5) := HP5.out
      have hsl : sn ≤ w5.heap.size := by omega
      clear hB6 hb6 hz6 HP5
      have HPX : Hid (∀ x, Below sn w5 x → Po w cf now hd (.slice ao L ca) (.slice jo N cj) gf F f gj oj jl g RK x) := fun x hx => HP6.out.below (by rw [hsn]; exact hx)
      rw [hsn] at hmk
      clear HP6 hsn
      go_wp2
      clear k9 k10 hmk
      go_loopg [6] n (fun gk x wr => ∃ i : Nat, i + gk = n ∧ x = .int .i64 i ∧ RowB wr sn N (seenA RK i) ∧ Below sn w5 wr)
      case atStart => exact ⟨0, by omega, rfl, HB6.out.1, HB6.out.2⟩
      case round =>
        obtain ⟨i, hi, rfl, hrb, hbw⟩ := hrel
        have HR : Hid (RowB wr sn N (seenA RK i) ∧ Below sn w5 wr) := ⟨hrb, hbw⟩
        clear hrb hbw HB6
        by_cases hlt : i < n
        · obtain ⟨p, hp⟩ : ∃ p, RK[i]? = some p := ⟨_, List.getElem?_eq_getElem (by have := HNL.out; omega)⟩
          obtain ⟨q, j, hok⟩ := HOK.out i p hp
          have HO : Hid (RkOk F f cf now jl RK i p q j) := hok
          have hqN : q < N := by have := (List.getElem?_eq_some_iff.1 hok.job).1; have := HN.out; omega
          obtain rfl := HJO.out (by omega)
          obtain ⟨sa, sl, sc, hset⟩ := HSL.out j (List.mem_of_getElem? hok.job)
          have HU : Hid (∀ t, t < N → seenA RK (i + 1) t = if t = q then true else seenA RK i t) := fun t _ => seenA_put hp hok.e1 t
          have hpo := HPX.out wr HR.out.2
          have k10 : wr.cell? ⟨w.heap.size, 10, none⟩ = some (.slice (some ⟨gj, oj, none⟩) N cj) := hpo.st.cell rfl
          have a1 := (hpo.rk.at hp).1
          rw [hok.e1] at a1
          have a3 := HR.out.1.cell hqN
          rw [hok.new] at a3
          have a4 := HR.out.1.free q
          have a5 := (hpo.jb q j hok.job).j4
          rw [hok.st] at a5
          have q1 : ¬ (q : Int) < 0 := by omega
          have q2 : ¬ (N : Int) ≤ q := by omega
          have q3 : (q : Int) < N := by omega
          have HXR : Hid (RowB (wr.setCell ⟨sn, q, none⟩ (.bool true)) sn N (seenA RK (i + 1)) ∧ Below sn w5 (wr.setCell ⟨sn, q, none⟩ (.bool true))) := ⟨HR.out.1.set hqN HU.out, HR.out.2.setCell (Nat.le_refl _) _⟩
          have HWK : Hid (wrap64 ((i : Int) + 1) = ((i + 1 : Nat) : Int)) := wrap64_nat (h := i + 1) (by have := HJN.out; have := HNN.out; omega)
          have HP : Hid (RK[i]? = some p ∧ j.set = .slice sa sl sc) := ⟨hp, hset⟩
          have hlt' : (i : Int) < n := by omega
          clear hpo hok hset hp HU HR
          go_upto_region 15 with fail
          generalize wr.setCell ⟨sn, q, none⟩ (.bool true) = X at *
          clear k10 a1 a3 a4 a5
          have hpo := HPX.out X HXR.out.2
          obtain ⟨V, hV⟩ : ∃ V, prioV cf now j.sb j.nd (f j.ac.toNat) = V := ⟨_, rfl⟩
          have hq : j.ac.toNat < F := by have := HO.out.a0; have := HO.out.a1; omega
          have cP : ∀ x, Calls Tryz.prog 12 #[.agg #[.int .i64 cf.nodes, .int .i64 cf.queue, .int .i64 cf.limit, .int .i64 cf.age, .int .i64 cf.fair, .int .i64 cf.size, .int .i64 cf.period, .int .i64 cf.half], .int .i64 now, .agg #[.int .i64 j.ac, .int .i64 j.nd, .int .i64 j.lm, .int .i64 j.sb, .int .i64 1, .int .i64 j.sr, .int .i64 j.en, .slice sa sl sc], .int .u64 (f j.ac.toNat)] x fun e w' => e = .returned (.int .i64 V) ∧ Below x.heap.size x w' := fun x => by
            have h := prio_any cf now j (HW.out _ hq) x
            rw [hV] at h
            unfold cfV jbV at h
            rw [HP.out.2, HO.out.st] at h
            exact h
          have HC : Hid (∀ x, Below sn w5 x → x.cell? ⟨w.heap.size, 0, none⟩ = some (.int .i64 cf.nodes) ∧ x.cell? ⟨w.heap.size, 1, none⟩ = some (.int .i64 cf.queue) ∧ x.cell? ⟨w.heap.size, 2, none⟩ = some (.int .i64 cf.limit) ∧ x.cell? ⟨w.heap.size, 3, none⟩ = some (.int .i64 cf.age) ∧ x.cell? ⟨w.heap.size, 4, none⟩ = some (.int .i64 cf.fair) ∧ x.cell? ⟨w.heap.size, 5, none⟩ = some (.int .i64 cf.size) ∧ x.cell? ⟨w.heap.size, 6, none⟩ = some (.int .i64 cf.period) ∧ x.cell? ⟨w.heap.size, 7, none⟩ = some (.int .i64 cf.half) ∧ x.cell? ⟨w.heap.size, 8, none⟩ = some (.int .i64 now) ∧ x.cell? ⟨w.heap.size, 10, none⟩ = some (.slice (some ⟨gj, oj, none⟩) N cj) ∧ x.cell? ⟨gj, oj + q * 8, none⟩ = some (.int .i64 j.ac) ∧ x.cell? ⟨gj, oj + q * 8 + 1, none⟩ = some (.int .i64 j.nd) ∧ x.cell? ⟨gj, oj + q * 8 + 2, none⟩ = some (.int .i64 j.lm) ∧ x.cell? ⟨gj, oj + q * 8 + 3, none⟩ = some (.int .i64 j.sb) ∧ x.cell? ⟨gj, oj + q * 8 + 4, none⟩ = some (.int .i64 1) ∧ x.cell? ⟨gj, oj + q * 8 + 5, none⟩ = some (.int .i64 j.sr) ∧ x.cell? ⟨gj, oj + q * 8 + 6, none⟩ = some (.int .i64 j.en) ∧ x.cell? ⟨gj, oj + q * 8 + 7, none⟩ = some (.slice sa sl sc) ∧ x.cell? ⟨gf, j.ac.toNat, none⟩ = some (.int .u64 (f j.ac.toNat)) ∧ x.cell? ⟨g, i * 2 + 1, none⟩ = some (.int .i64 V)) := fun x hx => order_cells (HPX.out x hx) HO.out.job HO.out.st HP.out.2 hq HP.out.1 (by rw [HO.out.e2, hV])
          have HC1 : Hid (X.drew.cell? ⟨w.heap.size, 0, none⟩ = some (.int .i64 cf.nodes) ∧ X.drew.cell? ⟨w.heap.size, 1, none⟩ = some (.int .i64 cf.queue) ∧ X.drew.cell? ⟨w.heap.size, 2, none⟩ = some (.int .i64 cf.limit) ∧ X.drew.cell? ⟨w.heap.size, 3, none⟩ = some (.int .i64 cf.age) ∧ X.drew.cell? ⟨w.heap.size, 4, none⟩ = some (.int .i64 cf.fair) ∧ X.drew.cell? ⟨w.heap.size, 5, none⟩ = some (.int .i64 cf.size) ∧ X.drew.cell? ⟨w.heap.size, 6, none⟩ = some (.int .i64 cf.period) ∧ X.drew.cell? ⟨w.heap.size, 7, none⟩ = some (.int .i64 cf.half) ∧ X.drew.cell? ⟨w.heap.size, 8, none⟩ = some (.int .i64 now) ∧ X.drew.cell? ⟨w.heap.size, 10, none⟩ = some (.slice (some ⟨gj, oj, none⟩) N cj) ∧ X.drew.cell? ⟨gj, oj + q * 8, none⟩ = some (.int .i64 j.ac) ∧ X.drew.cell? ⟨gj, oj + q * 8 + 1, none⟩ = some (.int .i64 j.nd) ∧ X.drew.cell? ⟨gj, oj + q * 8 + 2, none⟩ = some (.int .i64 j.lm) ∧ X.drew.cell? ⟨gj, oj + q * 8 + 3, none⟩ = some (.int .i64 j.sb) ∧ X.drew.cell? ⟨gj, oj + q * 8 + 4, none⟩ = some (.int .i64 1) ∧ X.drew.cell? ⟨gj, oj + q * 8 + 5, none⟩ = some (.int .i64 j.sr) ∧ X.drew.cell? ⟨gj, oj + q * 8 + 6, none⟩ = some (.int .i64 j.en) ∧ X.drew.cell? ⟨gj, oj + q * 8 + 7, none⟩ = some (.slice sa sl sc) ∧ X.drew.cell? ⟨gf, j.ac.toNat, none⟩ = some (.int .u64 (f j.ac.toNat)) ∧ X.drew.cell? ⟨g, i * 2 + 1, none⟩ = some (.int .i64 V)) := HC.out X.drew (HXR.out.2.drew)
          have k10 : X.cell? ⟨w.heap.size, 10, none⟩ = some (.slice (some ⟨gj, oj, none⟩) N cj) := hpo.st.cell rfl
          have a0 := (hpo.jb q j HO.out.job).j0
          have z0 := HO.out.a0
          have z1 := HO.out.a1
          have d1 : decide (j.ac < 0) = false := decide_eq_false (by omega)
          have d2 : decide ((F : Int) ≤ j.ac) = false := decide_eq_false (by omega)
          have d3 : (V != V) = false := by simp
          have HPB : Hid (p.b = V) := by rw [HO.out.e2, hV]; exact rfl
          clear hpo hV
          go_upto_region 16 with fail
          clear k10 a0
          go_region_held3 (fun x => x.cell? ⟨w.heap.size, 0, none⟩ = some (.int .i64 cf.nodes) ∧ x.cell? ⟨w.heap.size, 1, none⟩ = some (.int .i64 cf.queue) ∧ x.cell? ⟨w.heap.size, 2, none⟩ = some (.int .i64 cf.limit) ∧ x.cell? ⟨w.heap.size, 3, none⟩ = some (.int .i64 cf.age) ∧ x.cell? ⟨w.heap.size, 4, none⟩ = some (.int .i64 cf.fair) ∧ x.cell? ⟨w.heap.size, 5, none⟩ = some (.int .i64 cf.size) ∧ x.cell? ⟨w.heap.size, 6, none⟩ = some (.int .i64 cf.period) ∧ x.cell? ⟨w.heap.size, 7, none⟩ = some (.int .i64 cf.half) ∧ x.cell? ⟨w.heap.size, 8, none⟩ = some (.int .i64 now) ∧ x.cell? ⟨w.heap.size, 10, none⟩ = some (.slice (some ⟨gj, oj, none⟩) N cj) ∧ x.cell? ⟨gj, oj + q * 8, none⟩ = some (.int .i64 j.ac) ∧ x.cell? ⟨gj, oj + q * 8 + 1, none⟩ = some (.int .i64 j.nd) ∧ x.cell? ⟨gj, oj + q * 8 + 2, none⟩ = some (.int .i64 j.lm) ∧ x.cell? ⟨gj, oj + q * 8 + 3, none⟩ = some (.int .i64 j.sb) ∧ x.cell? ⟨gj, oj + q * 8 + 4, none⟩ = some (.int .i64 1) ∧ x.cell? ⟨gj, oj + q * 8 + 5, none⟩ = some (.int .i64 j.sr) ∧ x.cell? ⟨gj, oj + q * 8 + 6, none⟩ = some (.int .i64 j.en) ∧ x.cell? ⟨gj, oj + q * 8 + 7, none⟩ = some (.slice sa sl sc) ∧ x.cell? ⟨gf, j.ac.toNat, none⟩ = some (.int .u64 (f j.ac.toNat)) ∧ x.cell? ⟨g, i * 2 + 1, none⟩ = some (.int .i64 V)) (first | exact HC1.out | exact HC.out _ BY.out) (first
            | (go_at_call 12; refine (cP _).mono ?_; rintro e y ⟨rfl, hy⟩; have BY : Hid (Below sn w5 y) := (HXR.out.2.drew).trans (hy.mono (sn_le HXR.out.2)); have HYR : Hid (RowB y sn N (seenA RK (i + 1)) ∧ Below sn w5 y) := ⟨RowB.below HXR.out.1 (((Below.refl _ X).drew).trans hy), BY.out⟩))
          clear HC1 cP
          have hpo := HPX.out y HYR.out.2
          have a1 := (hpo.rk.at HP.out.1).2
          rw [HPB.out] at a1
          have HAH : Hid (∀ m, i = m + 1 → ∃ p', RK[m]? = some p' ∧ Ahd keyR Pr.a p' p) := fun m e => by
            have hl := (List.getElem?_eq_some_iff.1 HP.out.1).1
            refine ⟨RK[m]'(by omega), List.getElem?_eq_getElem (by omega), ?_⟩
            have hh := (List.pairwise_iff_getElem.1 HSO.out) m i (by omega) hl (by omega)
            rw [(List.getElem?_eq_some_iff.1 HP.out.1).2] at hh
            exact hh
          have HPA : Hid (p.a = (q : Int)) := HO.out.e1
          have HPO : Hid (Po w cf now hd (.slice ao L ca) (.slice (some ⟨gj, oj, none⟩) N cj) gf F f gj oj jl g RK y) := hpo
          clear hpo HO HC z0 z1 d1 d2 d3 BY HP hy
          by_cases hi0 : i = 0
          · subst hi0
            clear HPO HAH
            go_upto_region 18 with fail
            go_quiet (fail)
            have HZ : Hid (RowB (y.drewN nq) sn N (seenA RK (0 + 1)) ∧ Below sn w5 (y.drewN nq)) := ⟨HYR.out.1.below (dNz y nq), below_drewN HYR.out.2 nq⟩
            go_wp2
            go_roundg (n - (0 + 1))
            case measure => omega
            case rel => exact ⟨0 + 1, by omega, by first | rfl | (rw [HWK.out]), HZ.out⟩
          · obtain ⟨m, rfl⟩ : ∃ m, i = m + 1 := ⟨i - 1, by omega⟩
            obtain ⟨p', hp', hah⟩ := HAH.out m rfl
            obtain ⟨b1, b2⟩ := HPO.out.rk.at hp'
            have hwm : wrap64 (m : Int) = (m : Int) := wrap64_nat (h := m) (by have := HJN.out; have := HNN.out; omega)
            have hlm : (m : Int) < n := by omega
            have hm0 : (0 : Int) < (m : Int) + 1 := by omega
            have hm1 : (0 : Int) ≤ (m : Int) + 1 := by omega
            have hl1 : (m : Int) + 1 < n := by omega
            have HWK2 : Hid (wrap64 ((m : Int) + 1 + 1) = ((m + 1 + 1 : Nat) : Int)) := wrap64_nat (h := m + 1 + 1) (by have := HJN.out; have := HNN.out; omega)
            clear hlt'
            have HAH2 : Hid (V < p'.b ∨ p'.b = V ∧ p'.a < (q : Int)) := by
              have h := hah
              unfold Ahd keyR at h
              rw [HPB.out, HPA.out] at h
              show V < p'.b ∨ p'.b = V ∧ p'.a < (q : Int)
              omega
            clear hp' hah HAH HPO hwm
            generalize p'.a = pa' at *
            generalize p'.b = pb' at *
            rcases HAH2.out with h | ⟨h, h'⟩
            · have n1 : ¬ pb' < V := by omega
              have n2 : (pb' == V) = false := by simp; omega
              have hwm : wrap64 (m : Int) = (m : Int) := wrap64_nat (h := m) (by have := HJN.out; have := HNN.out; omega)
              clear h HAH2
              go_upto_region 18 with fail
              go_quiet (fail)
              have HZ : Hid (RowB (y.drewN nq) sn N (seenA RK (m + 1 + 1)) ∧ Below sn w5 (y.drewN nq)) := ⟨HYR.out.1.below (dNz y nq), below_drewN HYR.out.2 nq⟩
              go_wp2
              go_roundg (n - (m + 1 + 1))
              case measure => omega
              case rel => exact ⟨m + 1 + 1, by omega, by first | rfl | (rw [HWK2.out]), HZ.out⟩
            · subst h
              have n1 : ¬ pb' < pb' := by omega
              have n2 : (pb' == pb') = true := by simp
              have n3 : ¬ (q : Int) < pa' := by omega
              have hwm : wrap64 (m : Int) = (m : Int) := wrap64_nat (h := m) (by have := HJN.out; have := HNN.out; omega)
              clear h' HAH2
              go_upto_region 18 with fail
              go_quiet (fail)
              have HZ : Hid (RowB (y.drewN nq) sn N (seenA RK (m + 1 + 1)) ∧ Below sn w5 (y.drewN nq)) := ⟨HYR.out.1.below (dNz y nq), below_drewN HYR.out.2 nq⟩
              go_wp2
              go_roundg (n - (m + 1 + 1))
              case measure => omega
              case rel => exact ⟨m + 1 + 1, by omega, by first | rfl | (rw [HWK2.out]), HZ.out⟩
        · have hge : ¬ (i : Int) < n := by omega
          have HB7 : Hid (Below sn w5 wr) := HR.out.2
          clear HR hlt hi HOK HSO HW
          go_wp2
          go_loopg [9, 10] N (fun gk mv x wq => ∃ k : Nat, k + gk = N ∧ mv = .int .i64 ((rkF F f cf now (jl.take k) 0).length : Nat) ∧ x = .int .i64 k ∧ Below sn w5 wq)
          case atStart => exact ⟨0, by omega, rfl, rfl, HB7.out⟩
          case round =>
            obtain ⟨k, hk, rfl, rfl, hbw⟩ := hrel
            have HB8 : Hid (Below sn w5 wr) := hbw
            have hpo := HPX.out wr hbw
            have k10 : wr.cell? ⟨w.heap.size, 10, none⟩ = some (.slice jo N cj) := hpo.st.cell rfl
            clear hbw HB7
            by_cases hlt : k < N
            · obtain ⟨j, hj⟩ : ∃ j, jl[k]? = some j := ⟨_, List.getElem?_eq_getElem (by have := HN.out; omega)⟩
              obtain ⟨r0, r1, r2, r3, r4, r5, r6, r7⟩ := hpo.jb k j hj
              obtain rfl := HJO.out (by omega)
              obtain ⟨sa, sl, sc, hset⟩ := HSL.out j (List.mem_of_getElem? hj)
              rw [hset] at r7
              have HPN : Hid (pendB F j = false → (rkF F f cf now (jl.take (k + 1)) 0).length = (rkF F f cf now (jl.take k) 0).length) := fun h => by rw [rkF_no hj h]
              have HPY : Hid (pendB F j = true → (rkF F f cf now (jl.take (k + 1)) 0).length = (rkF F f cf now (jl.take k) 0).length + 1) := fun h => by rw [rkF_yes hj h, List.length_append]; rfl
              have HWK : Hid (wrap64 ((k : Int) + 1) = ((k + 1 : Nat) : Int)) := wrap64_nat (h := k + 1) (by have := HJN.out; omega)
              have HLK : Hid ((rkF F f cf now (jl.take k) 0).length ≤ k) := by
                have h1 := rkF_len (F := F) (f := f) (c := cf) (now := now) (jl.take k) 0
                simp only [List.length_take] at h1
                show _ ≤ k
                omega
              obtain ⟨m1, hm1⟩ : ∃ m1, (rkF F f cf now (jl.take (k + 1)) 0).length = m1 := ⟨_, rfl⟩
              have HM1 : Hid ((rkF F f cf now (jl.take (k + 1)) 0).length = m1) := hm1
              rw [hm1] at HPN HPY
              clear hm1
              generalize (rkF F f cf now (jl.take k) 0).length = m0 at *
              have HWM : Hid (wrap64 ((m0 : Int) + 1) = ((m0 + 1 : Nat) : Int)) := wrap64_nat (h := m0 + 1) (by have := HJN.out; have := HLK.out; omega)
              have hlt' : (k : Int) < N := by omega
              clear hj hset hpo
              go_upto_region 25 with fail
              obtain ⟨jb, hjb⟩ : ∃ jb, wr.heap.size = jb := ⟨_, rfl⟩
              obtain ⟨w3', hw3⟩ : ∃ w3', wr.alloc (.cells #[.int .i64 j.ac, .int .i64 j.nd, .int .i64 j.lm, .int .i64 j.sb, .int .i64 j.st, .int .i64 j.sr, .int .i64 j.en, .slice sa sl sc] 34) = w3' := ⟨_, rfl⟩
              have HJ3 : Hid (w3'.heap[jb]? = some (.cells #[.int .i64 j.ac, .int .i64 j.nd, .int .i64 j.lm, .int .i64 j.sb, .int .i64 j.st, .int .i64 j.sr, .int .i64 j.en, .slice sa sl sc] 34 (0, 0))) := by rw [← hw3, ← hjb]; exact heap_alloc_new wr _
              have HB9 : Hid (Below sn w5 w3') := by rw [← hw3]; exact HB8.out.alloc (Nat.le_trans hsl HB8.out.size) _
              rw [hw3, hjb]
              clear hw3 r0 r1 r2 r3 r4 r5 r6 r7 hjb HB8 k10
              have s0 : w3'.cell? ⟨jb, 0, none⟩ = some (.int .i64 j.ac) := cells_at HJ3.out rfl
              have s4 : w3'.cell? ⟨jb, 4, none⟩ = some (.int .i64 j.st) := cells_at HJ3.out rfl
              by_cases p1 : j.st = 1
              · by_cases p2 : 0 ≤ j.ac
                · by_cases p3 : j.ac < (F : Int)
                  · have HRY : Hid (m1 = m0 + 1) := HPY.out (pend_iff.2 ⟨p1, p2, p3⟩)
                    clear HPN HPY
                    go_wp2
                    go_roundg (N - (k + 1))
                    case measure => omega
                    case rel => exact ⟨k + 1, by omega, by rw [HM1.out, HRY.out]; first | rfl | (rw [HWM.out]), by first | rfl | (rw [HWK.out]), HB9.out⟩
                  · have HRN : Hid (m1 = m0) := HPN.out (pend_no (fun h => p3 h.2.2))
                    clear HPN HPY
                    go_wp2
                    go_roundg (N - (k + 1))
                    case measure => omega
                    case rel => exact ⟨k + 1, by omega, by rw [HM1.out, HRN.out], by first | rfl | (rw [HWK.out]), HB9.out⟩
                · have HRN : Hid (m1 = m0) := HPN.out (pend_no (fun h => p2 h.2.1))
                  clear HPN HPY
                  go_wp2
                  go_roundg (N - (k + 1))
                  case measure => omega
                  case rel => exact ⟨k + 1, by omega, by rw [HM1.out, HRN.out], by first | rfl | (rw [HWK.out]), HB9.out⟩
              · have HRN : Hid (m1 = m0) := HPN.out (pend_no (fun h => p1 h.1))
                clear HPN HPY
                go_wp2
                go_roundg (N - (k + 1))
                case measure => omega
                case rel => exact ⟨k + 1, by omega, by rw [HM1.out, HRN.out], by first | rfl | (rw [HWK.out]), HB9.out⟩
            · have hge2 : ¬ (k : Int) < N := by omega
              have HE : Hid ((rkF F f cf now (jl.take k) 0).length = n) := by rw [List.take_of_length_le (by have := HN.out; omega), HCN.out]; exact HNL.out.symm
              rw [HE.out]
              have HBF : Hid (Below w.heap.size w wr) := hpo.bel
              have hnn : ((n : Int) == (n : Int)) = true := by simp
              clear hpo
              go_wp2
              go_ret
              exact ⟨rfl, HBF.out⟩
    · have hF0 : F = 0 := HFL.out.2 hFL
      have e1 : ((F : Int) != (L : Int)) = true := by simp; omega
      have HN0 : Hid (n = 0) := by rw [HNL.out, hF0]; exact rank_len0 f cf now jl
      have hn0 := HN0.out
      subst hn0
      have HBF : Hid (Below w.heap.size w w5) := HP5.out.bel
      rw [hck]
      clear HP5 HNL HN0 hF0 hFL hck
      go_wp2
      go_ret
      exact ⟨rfl, HBF.out⟩
  · have hF0 : F = 0 := HFL.out.1 hck
    have HN0 : Hid (n = 0) := by rw [HNL.out, hF0]; exact rank_len0 f cf now jl
    have hn0 := HN0.out
    subst hn0
    have hck' : (chkZ cf != 0) = true := by simpa using hck
    have HBF : Hid (Below w.heap.size w w5) := HP5.out.bel
    clear HP5 HNL HN0 hF0 hck
    generalize chkZ cf = e0 at *
    go_wp2
    go_ret
    exact ⟨rfl, HBF.out⟩
end Go.Proofs.YtjgllfpnmmopdaaGreatDoor
