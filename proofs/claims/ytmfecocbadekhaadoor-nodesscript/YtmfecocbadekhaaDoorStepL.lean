/-
  step: List.
-/
import Derived.Test.YtmfecocbadekhaaDoorStepA
namespace Go.Proofs.YtmfecocbadekhaaDoor
open Go.RowKit Nd

/-- What cell o of step's result holds. -/
def cvL (N : Nat) (w : World) (o : Nat) : Value := (w.cell? ⟨N + 3, o, none⟩).getD (.pointer none)
structure LR (w5 : World) (N : Nat) (s : St) (g c L Na Nb gr : Nat) (w' : World) : Prop where
  set : SetIn w' s.b1 s.n1 s.F1
  ref : RefIn w' s.d1 g c s.n1 s.F1
  ra : ∀ j, j < L → w'.cell? ⟨Na, 0 + j, none⟩ = some (.int .i64 (nth (lst s.F1) j))
  rb : ∀ j, j < L → w'.cell? ⟨Nb, 0 + j, none⟩ = some (.int .i64 (nth (lst s.F1) j))
  rc : ∀ j, j < L → w'.cell? ⟨gr, 0 + j, none⟩ = some (.int .i64 (nth (lst s.F1) j))
  chg : Chg (fun i => i = N + 3) w5 w'
  lt : N + 3 < w5.heap.size
  ne : s.b1 ≠ N + 3 ∧ s.d1 ≠ N + 3 ∧ g ≠ N + 3 ∧ Na ≠ N + 3 ∧ Nb ≠ N + 3 ∧ gr ≠ N + 3
abbrev LS (w5 : World) (N : Nat) (s : St) (g c L Na Nb gr : Nat) (w' : World) : Prop := w'.cell? ⟨N, 0, none⟩ = some (.pointer (some ⟨s.b1, 0, none⟩)) ∧ w'.cell? ⟨N, 1, none⟩ = some (.pointer (some ⟨s.d1, 0, none⟩)) ∧ w'.cell? ⟨N + 3, 0, none⟩ = some (cvL N w' 0) ∧ w'.cell? ⟨N + 3, 1, none⟩ = some (cvL N w' 1) ∧ w'.frozen? ⟨N + 3, 0, none⟩ = false ∧ w'.frozen? ⟨N + 3, 1, none⟩ = false ∧ LR w5 N s g c L Na Nb gr w'
section
variable {w5 w1 x : World} {N : Nat} {s : St} {g c L Na Nb gr : Nat}
theorem l_in (h : LS w5 N s g c L Na Nb gr w1) : LR w5 N s g c L Na Nb gr w1 := h.2.2.2.2.2.2
theorem l_keep (hx : Below w1.heap.size w1 x) (h : LS w5 N s g c L Na Nb gr w1) : LS w5 N s g c L Na Nb gr x := by
  obtain ⟨a, b, d, e, f, f', r⟩ := h
  have cb := Chg.of_below hx (fun _ => False)
  have hz := r.chg.size
  have hl := r.lt
  have q : ∀ o v, w1.cell? ⟨N + 3, o, none⟩ = some v → x.cell? ⟨N + 3, o, none⟩ = some v := fun o v hv => cb.cell hv (fun h => h)
  have qf : ∀ o, w1.frozen? ⟨N + 3, o, none⟩ = false → x.frozen? ⟨N + 3, o, none⟩ = false := fun o hv => (hx.frozen (p := ⟨N + 3, o, none⟩) (by simp; omega)).trans hv
  have q0 := q 0 _ d
  have q1 := q 1 _ e
  refine ⟨cb.cell a (fun h => h), cb.cell b (fun h => h), ?_, ?_, qf 0 f, qf 1 f', ⟨r.set.below hx, r.ref.below hx, fun j hj => cb.cell (r.ra j hj) (fun h => h), fun j hj => cb.cell (r.rb j hj) (fun h => h), fun j hj => cb.cell (r.rc j hj) (fun h => h), r.chg.trans cb (fun _ _ h => h.elim), r.lt, r.ne⟩⟩
  · unfold cvL; rw [q0]; rfl
  · unfold cvL; rw [q1]; rfl
theorem l_store (y z : Value) (h : LS w5 N s g c L Na Nb gr w1) : LS w5 N s g c L Na Nb gr ((w1.setCell ⟨N + 1 + 1 + 1, 0, none⟩ y).setCell ⟨N + 1 + 1 + 1, 1, none⟩ z) := by
  obtain ⟨a, b, d, e, f, f', r⟩ := h
  have cp := chg_pair w1 (N + 3) y z
  have e1 : (w1.setCell ⟨N + 3, 0, none⟩ y).cell? ⟨N + 3, 1, none⟩ = some (cvL N w1 1) := (World.cell?_setCell_other _ _ _ _ (by simp)).trans e
  have c0 : ((w1.setCell ⟨N + 3, 0, none⟩ y).setCell ⟨N + 3, 1, none⟩ z).cell? ⟨N + 3, 0, none⟩ = some y := (World.cell?_setCell_other _ _ _ _ (by simp)).trans (World.cell?_setCell_same _ _ _ d)
  have c1 : ((w1.setCell ⟨N + 3, 0, none⟩ y).setCell ⟨N + 3, 1, none⟩ z).cell? ⟨N + 3, 1, none⟩ = some z := World.cell?_setCell_same _ _ _ e1
  obtain ⟨n1, n2, n3, n4, n5, n6⟩ := r.ne
  refine ⟨cp.cell a (by simp), cp.cell b (by simp), ?_, ?_, by simpa using f, by simpa using f', ⟨cp.set r.set (by omega) n1, cp.ref r.ref n2 n3, fun j hj => cp.cell (r.ra j hj) n4, fun j hj => cp.cell (r.rb j hj) n5, fun j hj => cp.cell (r.rc j hj) n6, r.chg.trans cp (fun _ _ h => h), r.lt, r.ne⟩⟩
  · show ((w1.setCell ⟨N + 3, 0, none⟩ y).setCell ⟨N + 3, 1, none⟩ z).cell? ⟨N + 3, 0, none⟩ = some (cvL N ((w1.setCell ⟨N + 3, 0, none⟩ y).setCell ⟨N + 3, 1, none⟩ z) 0)
    unfold cvL; rw [c0]; rfl
  · show ((w1.setCell ⟨N + 3, 0, none⟩ y).setCell ⟨N + 3, 1, none⟩ z).cell? ⟨N + 3, 1, none⟩ = some (cvL N ((w1.setCell ⟨N + 3, 0, none⟩ y).setCell ⟨N + 3, 1, none⟩ z) 1)
    unfold cvL; rw [c1]; rfl
end
theorem same_yb (g m cap g' cap' : Nat) (f : Nat → Int) (w : World) (hm : m ≤ 256)
    (hc : ∀ j, j < m → w.cell? ⟨g, 0 + j, none⟩ = some (.int .i64 (f j))) (hc' : ∀ j, j < m → w.cell? ⟨g', 0 + j, none⟩ = some (.int .i64 (f j))) :
    Calls Tryd.prog 13 #[.slice (some ⟨g, 0, none⟩) m cap, .slice (some ⟨g', 0, none⟩) m cap'] w fun e w' => e = .returned (.bool true) ∧ Below w.heap.size w w' :=
  (same_yes g 0 m cap g' 0 m cap' _ _ f f w (fun _ => rfl) (fun _ => rfl) (by omega) (by omega) hc hc' (same_self _ _ _ (fun _ _ => rfl))).mono fun _ _ ⟨he, q, hq⟩ => ⟨he, by rw [hq]; exact drew_below w q⟩
theorem free_yb (b n F : Nat) (w : World) (h : SetIn w b n F) : Calls Tryd.prog 17 #[.pointer (some ⟨b, 0, none⟩)] w fun e w' => e = .returned (.int .i64 (lst F).length) ∧ Below w.heap.size w w' :=
  (free_any b n F w h).mono fun _ _ ⟨he, hw⟩ => ⟨he, by rw [hw]; exact Below.refl _ _⟩

set_option maxHeartbeats 8000000 in
set_option maxRecDepth 20000 in
theorem step_list (H : Nat) (s : St) (sec : Bool) (nn : Int) (la : Option Addr) (m lc : Nat) (w : World) (hT : Two w H s) (hfew : s.es.length ≤ 310) (hFG : s.G1 = s.F1) :
    Calls Tryd.prog 9 #[.agg #[.pointer (some ⟨s.b1, 0, none⟩), .pointer (some ⟨s.d1, 0, none⟩)], .agg #[.pointer (some ⟨s.b2, 0, none⟩), .pointer (some ⟨s.d2, 0, none⟩)], .pointer (some ⟨H, 0, none⟩), .agg #[.bool sec, .int .i64 4, .int .i64 nn, .slice la m lc]] w fun e w' =>
      ∃ s', e = .returned (.tuple #[.agg #[.pointer (some ⟨s'.b1, 0, none⟩), .pointer (some ⟨s'.d1, 0, none⟩)], .bool true]) ∧ Mv w H s 2 w' s' ∧ s'.G1 = s'.F1 := by
  obtain ⟨W, hW⟩ : ∃ W, headW w s.b1 s.d1 s.b2 s.d2 sec 4 nn la m lc = W := ⟨_, rfl⟩
  have g0 := mv_start (sec := sec) (kind := 4) (nn := nn) (la := la) (m := m) (lc := lc) hT
  have hd0 := head_of hT g0
  have HW : Hid (headW w s.b1 s.d1 s.b2 s.d2 sec 4 nn la m lc = W) := hW
  have hz4' : W.heap.size = w.heap.size + 4 := by rw [← hW, (head_at w s.b1 s.d1 s.b2 s.d2 sec 4 nn la m lc).2.2]
  have hz4 : Hid (W.heap.size = w.heap.size + 4) := hz4'
  have hz0 : 0 < W.heap.size := by omega
  have hz00 := g0.two.lt
  rw [hW] at g0 hd0 hz00
  clear hz4'
  unfold headW at hW
  have h256 := lst_len s.F1
  obtain ⟨L, hL⟩ : ∃ L, (lst s.F1).length = L := ⟨_, rfl⟩
  have HL : Hid ((lst s.F1).length = L) := hL
  have hlx : ((lst s.F1).map (fun k : Nat => (k : Int))).length = L := by rw [List.length_map]; exact hL
  have hxl := vals_ints (lst s.F1)
  rw [hL] at h256
  clear hL
  have p0 := hd0.p0
  have p1 := hd0.p1
  have x1 := hd0.x1
  go_enter Tryd.func9, Tryd.ntmps9
  go_wp2_with fail
  refine (list_any s.b1 s.n1 s.F1 _ g0.two.s1).mono ?_
  rintro e w1 ⟨rfl, ho1, hb1⟩
  have g1 := g0.step hb1
  have hz1 := own_lt ho1
  rw [← HW.out] at g1
  have hd1 := head_of hT g1
  rw [HW.out] at g1
  rw [HL.out] at ho1 ⊢
  clear p0 p1 x1 hd0 hb1
  have p0 := hd1.p0
  have p1 := hd1.p1
  go_wp2_with fail
  refine (list_any s.b1 s.n1 s.F1 _ g1.two.s1).mono ?_
  rintro e w2 ⟨rfl, ho2, hb2⟩
  have g2 := g1.step hb2
  have hz2 := own_lt ho2
  have ho12 := own_below ho1 hb2
  rw [← HW.out] at g2
  have hd2 := head_of hT g2
  rw [HW.out] at g2
  rw [HL.out] at ho2 ⊢
  rw [hxl] at ho12 ho2
  have ho12' := owns_low ho12
  have ho2' := owns_low ho2
  clear p0 p1 hd1 hb2 ho12 ho2 ho1
  have p0 := hd2.p0
  have p1 := hd2.p1
  have xa : W.heap.size ∉ s.blks H := fun e => by have := hz00 _ e; omega
  have xb : w1.heap.size ∉ s.blks H := fun e => by have := hz00 _ e; omega
  have feetIn : ∀ (q : St) (i : Nat), i = H ∨ i ∈ foot q.ao q.aw q.es → i ∈ q.blks H := fun q i hi => by
    rcases hi with hi | hi
    · simp [St.blks, hi]
    · simp [St.blks, St.feet, hi]
  go_wp2_with fail
  refine (keep_n H s.ao s.aw s.co s.cw s.es (some ⟨W.heap.size, 0, none⟩) L _ _ g2.two.nums (by omega) hlx ho12' h256 (fun i hi => ?_)).mono ?_
  · simp [ablk] at hi
    subst hi
    exact ⟨fun e => xa (feetIn s _ (.inl e)), fun e => xa (feetIn s _ (.inr e))⟩
  rintro e w3 ⟨rfl, ao3, aw3, co3, cw3, gw3, cw13, hN3, hf3, hc3⟩
  have g3 := mv_keep (W0 := W) g2 hz0 (by omega) hN3 hf3 hc3 (fun i hi => by simp [ablk] at hi; subst hi; exact ⟨by omega, xa⟩)
  have ho23 := hc3.own ho2' (fun i hi e => by simp [ablk] at hi; subst hi; exact xb (feetIn s _ e))
  have xb3 : w1.heap.size ≠ H ∧ w1.heap.size ∉ foot ao3 aw3 (s.es ++ [⟨some ⟨W.heap.size, 0, none⟩, ((lst s.F1).map (fun k : Nat => (k : Int))).length, gw3, cw13, (lst s.F1).map (fun k : Nat => (k : Int))⟩]) := ⟨fun e => xb (feetIn s _ (.inl e)), fun e => by
    rcases hf3 _ e with h1 | h1 | h1
    · exact xb (feetIn s _ (.inr h1))
    · simp [ablk] at h1; omega
    · omega⟩
  obtain ⟨s3, g3', e1, e2, e3, e4, e5⟩ : ∃ s3 : St, Mv W H s (0 + 1) w3 s3 ∧ s3.b1 = s.b1 ∧ s3.d1 = s.d1 ∧ s3.G1 = s3.F1 ∧ s3.F1 = s.F1 ∧ (s3.es.length ≤ 311 ∧ (w1.heap.size ≠ H ∧ w1.heap.size ∉ foot s3.ao s3.aw s3.es) ∧ w1.heap.size ∉ s3.blks H ∧ ∃ e ∈ s3.es, e.ao = some ⟨W.heap.size, 0, none⟩ ∧ e.co = L ∧ e.xs = (lst s.F1).map (fun k : Nat => (k : Int)) ∧ s3.n1 = s.n1) := by
    refine ⟨_, g3, rfl, rfl, hFG, rfl, by simp; omega, xb3, ?_, ⟨_, List.mem_append.2 (.inr (List.mem_singleton.2 rfl)), rfl, hlx, rfl, rfl⟩⟩
    intro hh
    have hb := hh
    simp only [St.blks, St.feet, List.mem_cons] at hb
    rcases hb with h1 | h1 | h1 | h1 | h1 | h1 | h1 | h1
    · exact xb (by simp [St.blks, h1])
    · exact xb (by simp [St.blks, h1])
    · exact xb (by simp [St.blks, h1])
    · exact xb (by simp [St.blks, h1])
    · exact xb (by simp [St.blks, h1])
    · exact xb (by simp [St.blks, h1])
    · exact xb3.1 h1
    · exact xb3.2 h1
  obtain ⟨e51, e52, e53, ea, hea, ea1, ea2, ea3, ea4⟩ := e5
  clear hN3 hf3 hc3 g3 xb3 g2 hd2 p0 p1 hxl ho12' ho2'
  go_wp2_with fail
  refine (keep_n H s3.ao s3.aw s3.co s3.cw s3.es (some ⟨w1.heap.size, 0, none⟩) L _ _ g3'.two.nums (by omega) hlx ho23 h256 (fun i hi => ?_)).mono ?_
  · simp [ablk] at hi
    subst hi
    exact e52
  rintro e w4 ⟨rfl, ao4, aw4, co4, cw4, gw4, cw14, hN4, hf4, hc4⟩
  have g4 := mv_keep (W0 := W) g3' hz0 (by omega) hN4 hf4 hc4 (fun i hi => by simp [ablk] at hi; subst hi; exact ⟨by omega, e53⟩)
  have hEa := (hN4.ent ea (List.mem_append.2 (.inl hea))).out
  have hEb := (hN4.ent _ (List.mem_append.2 (.inr (List.mem_singleton.2 rfl)))).out
  rw [ea1, ea2, ea3, hlx, ← vals_ints] at hEa
  simp only [hlx] at hEb
  rw [← vals_ints] at hEb
  obtain ⟨s4, g4', b1, b2, b3, b4, b5⟩ : ∃ s4 : St, Mv W H s (0 + 1 + 1) w4 s4 ∧ s4.b1 = s.b1 ∧ s4.d1 = s.d1 ∧ s4.G1 = s4.F1 ∧ s4.F1 = s.F1 ∧ s4.n1 = s.n1 := ⟨_, g4, e1, e2, e3, e4, ea4⟩
  have hs4 := g4'.two.s1
  have hr4 := g4'.two.r1
  rw [b3, b4, b5, b2] at hr4
  rw [b1, b4, b5] at hs4
  have hzW4 := g4'.chg.size
  rw [← HW.out] at g4'
  have hd4 := head_of hT g4'
  rw [HW.out] at g4'
  clear hN4 hf4 hc4 g4 g3' hea ho23 e51 e52 e53 g1 g0 xa xb hW
  have p0 := hd4.p0
  have p1 := hd4.p1
  go_wp2_with fail
  refine (rlist_any s.d1 s4.g1 s4.c1 s.n1 s.F1 _ hr4).mono ?_
  rintro e w5 ⟨gr, cr, rfl, hgr, ho5, hb5⟩
  rw [HL.out] at ho5 ⊢
  have g5 := g4'.step hb5
  have hs5 := hs4.below hb5
  have hr5 := hr4.below hb5
  have ra : Hid (∀ j, j < L → w5.cell? ⟨W.heap.size, 0 + j, none⟩ = some (.int .i64 (nth (lst s.F1) j))) := fun j hj => own_cells (own_below hEa hb5) j (by rw [HL.out]; exact hj)
  have rb : Hid (∀ j, j < L → w5.cell? ⟨w1.heap.size, 0 + j, none⟩ = some (.int .i64 (nth (lst s.F1) j))) := fun j hj => own_cells (own_below hEb hb5) j (by rw [HL.out]; exact hj)
  have rc : Hid (∀ j, j < L → w5.cell? ⟨gr, 0 + j, none⟩ = some (.int .i64 (nth (lst s.F1) j))) := fun j hj => own_cells ho5 j (by rw [HL.out]; exact hj)
  rw [← HW.out] at g5
  have hd5 := head_of hT g5
  clear p0 p1 hd4 g4' hs4 hr4 hEa hEb ho5 hb5
  have hz5 : w.heap.size + 3 < w5.heap.size := by have := World.block_lt_of_cell? w5 _ hd5.r0; simpa using this
  have hzT := hT.lt
  have l1 := hzT s.b1 (by simp [St.blks])
  have l2 := hzT s.d1 (by simp [St.blks])
  have S0 : Hid (LS w5 w.heap.size s s4.g1 s4.c1 L W.heap.size w1.heap.size gr w5.drew) := by
    refine ⟨hd5.p0, hd5.p1, ?_, ?_, hd5.f0, hd5.f1, ⟨hs5.below (drew_below w5 1), hr5.of_heap rfl, ra.out, rb.out, rc.out, Chg.of_below (drew_below w5 1) _, hz5, by omega, by omega, ?_, by have := hz4.out; omega, by have := hz4.out; omega, by have := hz4.out; omega⟩⟩
    · show w5.cell? _ = _
      rw [hd5.r0]; unfold cvL; show _ = some ((w5.cell? _).getD _); rw [hd5.r0]; rfl
    · show w5.cell? _ = _
      rw [hd5.r1]; unfold cvL; show _ = some ((w5.cell? _).getD _); rw [hd5.r1]; rfl
    · have hgg := g5.new s4.g1 (by simp [St.blks])
      rcases hgg with h1 | h1
      · have := hzT _ h1; omega
      · rw [HW.out] at h1; have := hz4.out; omega
  clear hs5 hr5 ra rb rc
  go_wp2_with fail
  go_region_held3 (fun w' => w'.cell? ⟨w.heap.size, 0, none⟩ = some (.pointer (some ⟨s.b1, 0, none⟩)) ∧ w'.cell? ⟨w.heap.size, 1, none⟩ = some (.pointer (some ⟨s.d1, 0, none⟩)) ∧ w'.cell? ⟨w.heap.size + 3, 0, none⟩ = some (cvL w.heap.size w' 0) ∧ w'.cell? ⟨w.heap.size + 3, 1, none⟩ = some (cvL w.heap.size w' 1) ∧ w'.frozen? ⟨w.heap.size + 3, 0, none⟩ = false ∧ w'.frozen? ⟨w.heap.size + 3, 1, none⟩ = false ∧ LR w5 w.heap.size s s4.g1 s4.c1 L W.heap.size w1.heap.size gr w') (first | exact S0.out | exact l_store _ _ (by assumption) | exact l_keep (by assumption) (by assumption))
    (first
    | (go_at_call_of 13 (Addr.mk w1.heap.size 0 none); refine (same_yb w1.heap.size L L gr cr (nth (lst s.F1)) _ h256 ?_ ?_).mono ?_; (exact (l_in (by assumption)).rb); (exact (l_in (by assumption)).rc); rintro e x ⟨rfl, hx⟩)
    | (go_at_call 13; refine (same_yb W.heap.size L L gr cr (nth (lst s.F1)) _ h256 ?_ ?_).mono ?_; (exact (l_in (by assumption)).ra); (exact (l_in (by assumption)).rc); rintro e x ⟨rfl, hx⟩)
    | (go_at_call 17; refine (free_yb s.b1 s.n1 s.F1 _ ?_).mono ?_; (exact (l_in (by assumption)).set); rintro e x ⟨rfl, hx⟩)
    | (go_at_call 28; refine (rfree_any s.d1 s4.g1 s4.c1 s.n1 s.F1 _ ?_).mono ?_; (exact (l_in (by assumption)).ref); rintro e x ⟨rfl, hx⟩; have hfin := l_keep hx (by assumption)))
  all_goals
    have s0 := hfin.2.2.1
    have s1 := hfin.2.2.2.1
    have t0 := hfin.2.2.2.2.1
    have t1 := hfin.2.2.2.2.2.1
    have hF := (l_in hfin).chg
    clear hfin
    go_wp2
    refine bodyPost_ret (v := .tuple #[.agg #[.pointer (some ⟨s.b1, 0, none⟩), .pointer (some ⟨s.d1, 0, none⟩)], .bool true]) (by simp [results, Tryd.results9, go_sem, s0, s1]) rfl ?_
    exact step_fin hT g5 b1 b2 b3 (hF.trans (chg_pair x (w.heap.size + 3) _ _) (fun _ _ h => h)) (fun i hi => .inl hi) (by omega)
end Go.Proofs.YtmfecocbadekhaaDoor
