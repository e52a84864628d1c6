/-
 LAYER 16: the reference's Ideal in memory.
 LAYER 16: the reference (backfillref16): New.
 LAYER 16: the reference's Ideal in memory: its two rows, each turned on its own.
 IDEALPLAYS: pairs side by side: whose a block is.
 LAYER 10: the reference's Factor, Charge, Fade (out of stage 12's).
 LAYER 16: the reference (backfillref16): Open.
-/
import Derived.Test.YtdkbmligaodpmaaGreatDoorXrfz
import Derived.Test.YtdkbmligaodpmaaGreatDoorXilz
import Derived.Test.YtdkbmligaodpmaaGreatDoorXihz
namespace Go.Proofs.YtdkbmligaodpmaaGreatDoor
open Go.RowKit Wd Tr Cg

def nmP (u : Int) : Int × Int := (hiW u, loW u)
def flatN (U : List Int) : List Value := flat2 (U.map nmP)
theorem flatN_len (U : List Int) : (flatN U).length = U.length * 2 := by unfold flatN; rw [flat2_len, List.length_map]
theorem flatN_one (U : List Int) : ∀ u ∈ flatN U, u.oneCell' = true := flat2_one _
theorem flatN_app (U V : List Int) : flatN (U ++ V) = flatN U ++ flatN V := by unfold flatN; rw [List.map_append, flat2_app]
theorem flatN_at {U : List Int} {k : Nat} {u : Int} (h : U[k]? = some u) : (flatN U)[k * 2]? = some (.int .u64 (hiW u)) ∧ (flatN U)[k * 2 + 1]? = some (.int .u64 (loW u)) :=
 flat2_at (p := nmP u) (by rw [List.getElem?_map, h]; rfl)
theorem flat2_set : ∀ {L : List (Int × Int)} {k : Nat}, k < L.length → ∀ p : Int × Int, ((flat2 L).set (k * 2) (.int .u64 p.1)).set (k * 2 + 1) (.int .u64 p.2) = flat2 (L.set k p)
 | [], k, h, _ => by simp at h
 | c :: L, 0, _, p => rfl
 | c :: L, k + 1, h, p => by
  have ih := flat2_set (L := L) (k := k) (by simpa using h) p
  have e : (k + 1) * 2 = k * 2 + 2 := by omega
  rw [e]
  show _ :: _ :: _ = _ :: _ :: _
  rw [← ih]
theorem flatN_set {U : List Int} {k : Nat} (h : k < U.length) (u : Int) : ((flatN U).set (k * 2) (.int .u64 (hiW u))).set (k * 2 + 1) (.int .u64 (loW u)) = flatN (U.set k u) := by
 unfold flatN
 rw [List.map_set]
 exact flat2_set (p := nmP u) (by simpa using h)
theorem row_nm {W : World} {B g cap : Nat} {U : List Int} (h : W.ownsRow B 68 2 (.slice (some ⟨g, 0, none⟩) U.length cap) U.length (flatN U)) {k : Nat} {u : Int} (hk : U[k]? = some u) :
  ∃ cs, W.heap[g]? = some (.cells cs 68 (0, 0)) ∧ cs[k * 2]? = some (.int .u64 (hiW u)) ∧ cs[k * 2 + 1]? = some (.int .u64 (loW u)) ∧
   ∀ (W' : World) (u' : Int), W'.heap[g]? = some (.cells (put2 cs (k * 2) u') 68 (0, 0)) → W'.ownsRow B 68 2 (.slice (some ⟨g, 0, none⟩) U.length cap) (U.set k u').length (flatN (U.set k u')) := by
 have hlt := (List.getElem?_eq_some_iff.1 hk).1
 rcases h.2 with ⟨h0, _⟩ | ⟨g', cap', cs, hv, hb, hg, hnc, hcm, hcs, htake⟩
 ·cases h0
 ·cases hv
  have key : ∀ j v, j < U.length * 2 → (flatN U)[j]? = some v → cs[j]? = some v := fun j v hj hv => by
   rw [← htake, List.getElem?_take, if_pos hj] at hv
   simpa using hv
  obtain ⟨a0, a1⟩ := flatN_at hk
  refine ⟨cs, hg, key _ _ (by omega) a0, key _ _ (by omega) a1, fun W' u' hW => ?_⟩
  rw [List.length_set]
  refine ⟨by rw [flatN_len, List.length_set], .inr ⟨g, cap, _, rfl, hb, hW, hnc, hcm, by simpa [put2] using hcs, ?_⟩⟩
  rw [← flatN_set hlt u', ← htake]
  simp only [put2, Array.toList_setIfInBounds, List.take_set]
theorem nms_own {W : World} {B g cap : Nat} {U : List Int} (h : W.ownsRow B 68 2 (.slice (some ⟨g, 0, none⟩) U.length cap) U.length (flatN U)) : NmsAt W g U := fun k u hk => by
 obtain ⟨cs, hg, h0, h1, _⟩ := row_nm h hk
 exact ⟨(cell_of hg h0).1, (cell_of hg h1).1⟩

/- THE REFERENCE's IDEAL. -/
def rdH (c : Cf) (v1 v2 : Value) : Array Value := #[.int .i64 c.nodes, .int .i64 c.queue, .int .i64 c.limit, .int .i64 c.age, .int .i64 c.fair, .int .i64 c.size, .int .i64 c.period, .int .i64 c.half, v1, v2]
structure RIdl (c : Cf) (B : Nat) (W : World) (d : Nat) (v1 v2 : Value) (L : List Bd) : Prop where
 blk : W.heap[d]? = some (.cells (rdH c v1 v2) 45 (0, 0))
 row1 : W.ownsRow B 68 2 v1 L.length (flatN (L.map Bd.lo))
 row2 : W.ownsRow B 68 2 v2 L.length (flatN (L.map Bd.hi))
 apart : ∀ k, v1.ownBlock = some k → v2.ownBlock ≠ some k
 lo : B ≤ d
 ok : ∀ b ∈ L, b.Ok
 few : L.length ≤ 1000000
def RK (d : Nat) (v1 v2 : Value) (j : Nat) : Prop := j = d ∨ v1.ownBlock = some j ∨ v2.ownBlock = some j
section
variable {c : Cf} {B : Nat} {W W' : World} {d : Nat} {v1 v2 : Value} {L : List Bd} {K : Nat → Prop}
theorem RIdl.lt (h : RIdl c B W d v1 v2 L) : ∀ k, RK d v1 v2 k → k < W.heap.size := fun k hk => by
 rcases hk with rfl | hk | hk
 ·exact (Array.getElem?_eq_some_iff.1 h.blk).1
 ·exact (h.row1.lt k hk).2
 ·exact (h.row2.lt k hk).2
theorem RIdl.low (h : RIdl c B W d v1 v2 L) : ∀ k, RK d v1 v2 k → B ≤ k := fun k hk => by
 rcases hk with rfl | hk | hk
 ·exact h.lo
 ·exact (h.row1.lt k hk).1
 ·exact (h.row2.lt k hk).1
theorem RIdl.below (h : RIdl c B W d v1 v2 L) (b : Below W.heap.size W W') : RIdl c B W' d v1 v2 L :=
 ⟨heapK h.blk b, row_kept h.row1 b, row_kept h.row2 b, h.apart, h.lo, h.ok, h.few⟩
theorem RIdl.chg (h : RIdl c B W d v1 v2 L) (x : Chg K W W') (hK : ∀ k, RK d v1 v2 k → ¬ K k) : RIdl c B W' d v1 v2 L :=
 ⟨(x.block d (h.lt d (.inl rfl)) (hK d (.inl rfl))).trans h.blk, row_same h.row1 (fun k hk => x.block k (h.lt k (.inr (.inl hk))) (hK k (.inr (.inl hk)))), row_same h.row2 (fun k hk => x.block k (h.lt k (.inr (.inr hk))) (hK k (.inr (.inr hk)))), h.apart, h.lo, h.ok, h.few⟩
theorem RIdl.base {B' : Nat} (h : RIdl c B W d v1 v2 L) (hb : B' ≤ B) : RIdl c B' W d v1 v2 L := ⟨h.blk, own_base h.row1 hb, own_base h.row2 hb, h.apart, Nat.le_trans hb h.lo, h.ok, h.few⟩
theorem RIdl.sh1 (h : RIdl c B W d v1 v2 L) : ∃ ao cp, v1 = .slice ao L.length cp := sl_shape h.row1
theorem RIdl.sh2 (h : RIdl c B W d v1 v2 L) : ∃ ao cp, v2 = .slice ao L.length cp := sl_shape h.row2
end
end Go.Proofs.YtdkbmligaodpmaaGreatDoor
namespace Go.Proofs.YtdkbmligaodpmaaGreatDoor
open Go.RowKit Wd Tr Cg

set_option maxHeartbeats 1000000 in
set_option maxRecDepth 20000 in
theorem rinew_no {c : Cf} (h : chkZ c ≠ 0) (w : World) : Calls Tryz.prog 9 #[cfV c] w fun e w' => e = .returned (.tuple #[.pointer none, .int .i64 (chkZ c)]) ∧ Below w.heap.size w w' := by
 have c1 := rcheck_any c
 have hS := St.new w c
 generalize chkZ c = z at *
 unfold cfV at *
 go_enter Tryz.func9, Tryz.ntmps9
 go_wp2_with fail
 refine (c1 _).mono ?_
 rintro e w1 ⟨rfl, b1⟩
 replace hS := keepW hS b1
 have hB := hS.bel
 clear b1 c1 hS
 go_wp2
 go_ret2
 exact ⟨rfl, hB⟩
theorem heap_top (W : World) (o : Obj) : (W.alloc o).heap[W.heap.size]? = some o := by unfold World.alloc; exact Array.getElem?_push_size
theorem made_nm (W : World) {B : Nat} (hB : B ≤ W.heap.size) : (W.alloc (.cells #[.int .u64 0, .int .u64 0] 68)).ownsRow B 68 2 (.slice (some ⟨W.heap.size, 0, none⟩) 1 1) 1 (flatN [0]) :=
 ⟨rfl, .inr ⟨W.heap.size, 1, #[.int .u64 0, .int .u64 0], rfl, hB, heap_top W _, by decide, by decide, rfl, rfl⟩⟩
set_option maxHeartbeats 1000000 in
set_option maxRecDepth 20000 in
theorem rinew_yes {c : Cf} (h : chkZ c = 0) (w : World) : Calls Tryz.prog 9 #[cfV c] w fun e w' => ∃ d v1 v2, e = .returned (.tuple #[.pointer (some ⟨d, 0, none⟩), .int .i64 0]) ∧ RIdl c w.heap.size w' d v1 v2 [zeB] ∧ Below w.heap.size w w' := by
 have c1 := rcheck_any c
 rw [h] at c1
 have hS := St.new w c
 unfold cfV at *
 clear h
 go_enter Tryz.func9, Tryz.ntmps9
 go_wp2_with fail
 refine (c1 _).mono ?_
 rintro e w1 ⟨rfl, b1⟩
 replace hS := keepW hS b1
 clear b1 c1
 obtain ⟨s0, s1, s2, s3, s4, s5, s6, s7, hB, hz⟩ := hS
 have hsz := hB.size
 have HR : Hid (∀ (W2 : World), RIdl c w.heap.size (((w1.alloc (.cells #[.int .u64 0, .int .u64 0] 68)).alloc (.cells #[.int .u64 0, .int .u64 0] 68)).alloc (.cells (rdH c (.slice (some ⟨w1.heap.size, 0, none⟩) 1 1) (.slice (some ⟨w1.heap.size + 1, 0, none⟩) 1 1)) 45)) (w1.heap.size + 1 + 1) (.slice (some ⟨w1.heap.size, 0, none⟩) 1 1) (.slice (some ⟨w1.heap.size + 1, 0, none⟩) 1 1) [zeB]) := fun _ =>
  have r1 := made_nm w1 hsz
  have r2 := made_nm (w1.alloc (.cells #[.int .u64 0, .int .u64 0] 68)) (B := w.heap.size) (by simp; omega)
  ⟨by have hh := heap_top ((w1.alloc (.cells #[.int .u64 0, .int .u64 0] 68)).alloc (.cells #[.int .u64 0, .int .u64 0] 68)) (.cells (rdH c (.slice (some ⟨w1.heap.size, 0, none⟩) 1 1) (.slice (some ⟨w1.heap.size + 1, 0, none⟩) 1 1)) 45); simp only [World.size_alloc] at hh; exact hh, row_kept (row_kept r1 (Bk.below1 _ _)) (Bk.below1 _ _), by have r := row_kept r2 (Bk.below1 _ (.cells (rdH c (.slice (some ⟨w1.heap.size, 0, none⟩) 1 1) (.slice (some ⟨w1.heap.size + 1, 0, none⟩) 1 1)) 45)); simp only [World.size_alloc] at r; exact r, fun k hk e => by simp [Value.ownBlock] at hk e; omega, by omega, fun b hb => by simp at hb; subst hb; exact ze_ok, by simp⟩
 have HB : Hid (Below w.heap.size w (((w1.alloc (.cells #[.int .u64 0, .int .u64 0] 68)).alloc (.cells #[.int .u64 0, .int .u64 0] 68)).alloc (.cells (rdH c (.slice (some ⟨w1.heap.size, 0, none⟩) 1 1) (.slice (some ⟨w1.heap.size + 1, 0, none⟩) 1 1)) 45))) := ((hB.alloc hsz _).alloc (by simp; omega) _).alloc (by simp; omega) _
 go_wp2
 go_ret2
 exact ⟨_, _, _, rfl, HR.out w1, HB.out⟩
end Go.Proofs.YtdkbmligaodpmaaGreatDoor
namespace Go.Proofs.YtdkbmligaodpmaaGreatDoor
open Go.RowKit Wd Tr Cg

structure R2 (c : Cf) (B : Nat) (W : World) (d : Nat) (v1 v2 : Value) (U1 U2 : List Int) : Prop where
 blk : W.heap[d]? = some (.cells (rdH c v1 v2) 45 (0, 0))
 row1 : W.ownsRow B 68 2 v1 U1.length (flatN U1)
 row2 : W.ownsRow B 68 2 v2 U2.length (flatN U2)
 apart : ∀ k, v1.ownBlock = some k → v2.ownBlock ≠ some k
 lo : B ≤ d
section
variable {c : Cf} {B : Nat} {W W' : World} {d : Nat} {v1 v2 : Value} {U1 U2 : List Int} {L : List Bd} {K : Nat → Prop}
theorem RIdl.two (h : RIdl c B W d v1 v2 L) : R2 c B W d v1 v2 (L.map Bd.lo) (L.map Bd.hi) := ⟨h.blk, by rw [List.length_map]; exact h.row1, by rw [List.length_map]; exact h.row2, h.apart, h.lo⟩
theorem R2.one (h : R2 c B W d v1 v2 U1 U2) (h1 : U1 = L.map Bd.lo) (h2 : U2 = L.map Bd.hi) (ok : ∀ b ∈ L, b.Ok) (few : L.length ≤ 1000000) : RIdl c B W d v1 v2 L := by
 subst h1 h2
 have r1 := h.row1
 have r2 := h.row2
 rw [List.length_map] at r1 r2
 exact ⟨h.blk, r1, r2, h.apart, h.lo, ok, few⟩
theorem R2.lt (h : R2 c B W d v1 v2 U1 U2) : ∀ k, RK d v1 v2 k → k < W.heap.size := fun k hk => by
 rcases hk with rfl | hk | hk
 ·exact (Array.getElem?_eq_some_iff.1 h.blk).1
 ·exact (h.row1.lt k hk).2
 ·exact (h.row2.lt k hk).2
theorem R2.nd1 (h : R2 c B W d v1 v2 U1 U2) : ¬ v1.ownBlock = some d := fun e => by
 obtain ⟨cs, hcs⟩ := own_tag h.row1 d e
 rw [h.blk] at hcs
 cases hcs
theorem R2.nd2 (h : R2 c B W d v1 v2 U1 U2) : ¬ v2.ownBlock = some d := fun e => by
 obtain ⟨cs, hcs⟩ := own_tag h.row2 d e
 rw [h.blk] at hcs
 cases hcs
theorem R2.below (h : R2 c B W d v1 v2 U1 U2) (b : Below W.heap.size W W') : R2 c B W' d v1 v2 U1 U2 :=
 ⟨heapK h.blk b, row_kept h.row1 b, row_kept h.row2 b, h.apart, h.lo⟩
theorem R2.c8 (h : R2 c B W d v1 v2 U1 U2) : W.cell? ⟨d, 8, none⟩ = some v1 ∧ W.frozen? ⟨d, 8, none⟩ = false := cell_of h.blk rfl
theorem R2.c9 (h : R2 c B W d v1 v2 U1 U2) : W.cell? ⟨d, 9, none⟩ = some v2 ∧ W.frozen? ⟨d, 9, none⟩ = false := cell_of h.blk rfl
theorem R2.c0 (h : R2 c B W d v1 v2 U1 U2) : W.cell? ⟨d, 0, none⟩ = some (.int .i64 c.nodes) := (cell_of h.blk rfl).1
theorem R2.c6 (h : R2 c B W d v1 v2 U1 U2) : W.cell? ⟨d, 6, none⟩ = some (.int .i64 c.period) := (cell_of h.blk rfl).1
theorem R2.c7 (h : R2 c B W d v1 v2 U1 U2) : W.cell? ⟨d, 7, none⟩ = some (.int .i64 c.half) := (cell_of h.blk rfl).1
theorem R2.at1 (h : R2 c B W d v1 v2 U1 U2) {k : Nat} {u : Int} (hk : U1[k]? = some u) : ∃ g cp, v1 = .slice (some ⟨g, 0, none⟩) U1.length cp ∧ (W.cell? ⟨g, k * 2, none⟩ = some (.int .u64 (hiW u)) ∧ W.frozen? ⟨g, k * 2, none⟩ = false) ∧ (W.cell? ⟨g, k * 2 + 1, none⟩ = some (.int .u64 (loW u)) ∧ W.frozen? ⟨g, k * 2 + 1, none⟩ = false) := by
 have hlt := (List.getElem?_eq_some_iff.1 hk).1
 rcases h.row1.2 with ⟨_, h0⟩ | ⟨g, cp, cur, rfl, r⟩
 ·omega
 ·obtain ⟨cs, hg, h0, h1, _⟩ := row_nm h.row1 hk
  exact ⟨g, cp, rfl, cell_of hg h0, cell_of hg h1⟩
theorem R2.at2 (h : R2 c B W d v1 v2 U1 U2) {k : Nat} {u : Int} (hk : U2[k]? = some u) : ∃ g cp, v2 = .slice (some ⟨g, 0, none⟩) U2.length cp ∧ (W.cell? ⟨g, k * 2, none⟩ = some (.int .u64 (hiW u)) ∧ W.frozen? ⟨g, k * 2, none⟩ = false) ∧ (W.cell? ⟨g, k * 2 + 1, none⟩ = some (.int .u64 (loW u)) ∧ W.frozen? ⟨g, k * 2 + 1, none⟩ = false) := by
 have hlt := (List.getElem?_eq_some_iff.1 hk).1
 rcases h.row2.2 with ⟨_, h0⟩ | ⟨g, cp, cur, rfl, r⟩
 ·omega
 ·obtain ⟨cs, hg, h0, h1, _⟩ := row_nm h.row2 hk
  exact ⟨g, cp, rfl, cell_of hg h0, cell_of hg h1⟩
theorem two_chg (W : World) (g o o' : Nat) (p q : Value) : Chg (fun j => j = g) W ((W.setCell ⟨g, o, none⟩ p).setCell ⟨g, o', none⟩ q) := ((Chg.refl (fun j => j = g) W).setCell _ _ (.inl rfl)).setCell _ _ (.inl rfl)
theorem R2.wr1 {g cp : Nat} (h : R2 c B W d (.slice (some ⟨g, 0, none⟩) U1.length cp) v2 U1 U2) {k : Nat} {u : Int} (hk : U1[k]? = some u) (u' : Int) :
  R2 c B ((W.setCell ⟨g, k * 2, none⟩ (.int .u64 (hiW u'))).setCell ⟨g, k * 2 + 1, none⟩ (.int .u64 (loW u'))) d (.slice (some ⟨g, 0, none⟩) U1.length cp) v2 (U1.set k u') U2 := by
 obtain ⟨cs, hg, h0, h1, hput⟩ := row_nm h.row1 hk
 have hC := two_chg W g (k * 2) (k * 2 + 1) (.int .u64 (hiW u')) (.int .u64 (loW u'))
 have n1 := h.nd1
 refine ⟨(hC.block d (h.lt d (.inl rfl)) (fun e => n1 (by rw [e]; rfl))).trans h.blk, hput _ u' (set_put2 hg u'), row_same h.row2 (fun j hj => hC.block j (h.lt j (.inr (.inr hj))) (fun e => h.apart g rfl (by rw [← e]; exact hj))), h.apart, h.lo⟩
theorem R2.wr2 {g cp : Nat} (h : R2 c B W d v1 (.slice (some ⟨g, 0, none⟩) U2.length cp) U1 U2) {k : Nat} {u : Int} (hk : U2[k]? = some u) (u' : Int) :
  R2 c B ((W.setCell ⟨g, k * 2, none⟩ (.int .u64 (hiW u'))).setCell ⟨g, k * 2 + 1, none⟩ (.int .u64 (loW u'))) d v1 (.slice (some ⟨g, 0, none⟩) U2.length cp) U1 (U2.set k u') := by
 obtain ⟨cs, hg, h0, h1, hput⟩ := row_nm h.row2 hk
 have hC := two_chg W g (k * 2) (k * 2 + 1) (.int .u64 (hiW u')) (.int .u64 (loW u'))
 have n1 := h.nd2
 refine ⟨(hC.block d (h.lt d (.inl rfl)) (fun e => n1 (by rw [e]; rfl))).trans h.blk, row_same h.row1 (fun j hj => hC.block j (h.lt j (.inr (.inl hj))) (fun e => h.apart j hj (by rw [e]; rfl))), hput _ u' (set_put2 hg u'), h.apart, h.lo⟩
theorem R2.sw1 {v' : Value} {U' : List Int} {B' : Nat} (h : R2 c B W d v1 v2 U1 U2) (r : W.ownsRow B' 68 2 v' U'.length (flatN U')) (hB : B ≤ B') (ha : ∀ k, v'.ownBlock = some k → v2.ownBlock ≠ some k) : R2 c B (W.setCell ⟨d, 8, none⟩ v') d v' v2 U' U2 := by
 have n2 := h.nd2
 have n1 : ¬ v'.ownBlock = some d := fun e => by
  obtain ⟨cs, hcs⟩ := own_tag r d e
  rw [h.blk] at hcs
  cases hcs
 refine ⟨heap_setCell_same W d 8 _ 45 v' h.blk, own_base (row_same r (fun k hk => Below.heap_setCell _ _ _ _ (fun e => n1 (by rw [hk, e])))) hB, row_same h.row2 (fun k hk => Below.heap_setCell _ _ _ _ (fun e => n2 (by rw [hk, e]))), ha, h.lo⟩
theorem R2.sw2 {v' : Value} {U' : List Int} {B' : Nat} (h : R2 c B W d v1 v2 U1 U2) (r : W.ownsRow B' 68 2 v' U'.length (flatN U')) (hB : B ≤ B') (ha : ∀ k, v1.ownBlock = some k → v'.ownBlock ≠ some k) : R2 c B (W.setCell ⟨d, 9, none⟩ v') d v1 v' U1 U' := by
 have n2 := h.nd1
 have n1 : ¬ v'.ownBlock = some d := fun e => by
  obtain ⟨cs, hcs⟩ := own_tag r d e
  rw [h.blk] at hcs
  cases hcs
 refine ⟨heap_setCell_same W d 9 _ 45 v' h.blk, row_same h.row1 (fun k hk => Below.heap_setCell _ _ _ _ (fun e => n2 (by rw [hk, e]))), own_base (row_same r (fun k hk => Below.heap_setCell _ _ _ _ (fun e => n1 (by rw [hk, e])))) hB, ha, h.lo⟩
end
end Go.Proofs.YtdkbmligaodpmaaGreatDoor
namespace Go.Proofs.YtdkbmligaodpmaaGreatDoor
open Go.RowKit Wd Tr Cg

structure Pt where
 t : Nat
 tv : Value
 d : Nat
 v1 : Value
 v2 : Value
 L : List Bd
structure Pair (c : Cf) (B : Nat) (own : Nat → Nat) (i : Nat) (p : Pt) (W : World) : Prop where
 tr : Idl c B W p.t p.tv p.L
 tl : ∀ k, IK p.t p.tv k → own k = i
 rf : RIdl c B W p.d p.v1 p.v2 p.L
 rl : ∀ k, RK p.d p.v1 p.v2 k → own k = i
 few : 0 < p.L.length ∧ p.L.length ≤ 200
abbrev ptV (p : Pt) : List Value := [.pointer (some ⟨p.t, 0, none⟩), .pointer (some ⟨p.d, 0, none⟩)]
def flatP : List Pt → List Value
 | [] => []
 | p :: ps => ptV p ++ flatP ps
theorem flatP_app : ∀ ps qs : List Pt, flatP (ps ++ qs) = flatP ps ++ flatP qs
 | [], _ => rfl
 | p :: ps, qs => by simp only [List.cons_append, flatP, flatP_app ps qs, List.append_assoc]
theorem flatP_at : ∀ {ps : List Pt} {k : Nat} {p : Pt}, ps[k]? = some p → (flatP ps)[k * 2]? = some (.pointer (some ⟨p.t, 0, none⟩)) ∧ (flatP ps)[k * 2 + 1]? = some (.pointer (some ⟨p.d, 0, none⟩))
 | [], k, p, h => by simp at h
 | q :: ps, 0, p, h => by
  simp only [List.getElem?_cons_zero, Option.some.injEq] at h
  subst h
  exact ⟨rfl, rfl⟩
 | q :: ps, k + 1, p, h => by
  simp only [List.getElem?_cons_succ] at h
  obtain ⟨h0, h1⟩ := flatP_at h
  have e : (k + 1) * 2 = k * 2 + 2 := by omega
  rw [e]
  exact ⟨h0, h1⟩
theorem flatP_set : ∀ {ps : List Pt} {k : Nat}, k < ps.length → ∀ p : Pt, ((flatP ps).set (k * 2) (.pointer (some ⟨p.t, 0, none⟩))).set (k * 2 + 1) (.pointer (some ⟨p.d, 0, none⟩)) = flatP (ps.set k p)
 | [], k, h, _ => by simp at h
 | q :: ps, 0, _, p => rfl
 | q :: ps, k + 1, h, p => by
  have ih := flatP_set (ps := ps) (k := k) (by simpa using h) p
  have e : (k + 1) * 2 = k * 2 + 2 := by omega
  rw [e]
  show _ :: _ :: _ = _ :: _ :: _
  rw [← ih]
  rfl
theorem set_same {α : Type} {l : List α} {k : Nat} {x : α} (h : l[k]? = some x) : l.set k x = l := by
 obtain ⟨h1, rfl⟩ := List.getElem?_eq_some_iff.1 h
 exact List.set_getElem_self h1
theorem flatP_same {ps : List Pt} {k : Nat} {p p' : Pt} (hk : ps[k]? = some p) (ht : p'.t = p.t) (hd : p'.d = p.d) : flatP (ps.set k p') = flatP ps := by
 obtain ⟨hlt, _⟩ := List.getElem?_eq_some_iff.1 hk
 obtain ⟨a0, a1⟩ := flatP_at hk
 rw [← flatP_set hlt p', ht, hd, set_same a0, set_same a1]
structure Fam (c : Cf) (B : Nat) (own : Nat → Nat) (ps : List Pt) (v : Value) (W : World) : Prop where
 ok : ∀ i p, ps[i]? = some p → Pair c B own i p W
 row : W.ownsRow B 35 2 v ps.length (flatP ps)
section
variable {c : Cf} {B : Nat} {own own' : Nat → Nat} {ps : List Pt} {v : Value} {W W' : World} {i : Nat} {p : Pt}
theorem Idl.tag {d : Nat} {L : List Bd} (h : Idl c B W d v L) {k : Nat} (hk : IK d v k) : ∃ cs t, W.heap[k]? = some (.cells cs t (0, 0)) ∧ (t = 96 ∨ t = 100) := by
 rcases hk with rfl | hk
 ·exact ⟨_, _, h.blk, .inl rfl⟩
 ·obtain ⟨cs, hcs⟩ := own_tag h.row k hk
  exact ⟨cs, _, hcs, .inr rfl⟩
theorem RIdl.tag {d : Nat} {v1 v2 : Value} {L : List Bd} (h : RIdl c B W d v1 v2 L) {k : Nat} (hk : RK d v1 v2 k) : ∃ cs t, W.heap[k]? = some (.cells cs t (0, 0)) ∧ (t = 45 ∨ t = 68) := by
 rcases hk with rfl | hk | hk
 ·exact ⟨_, _, h.blk, .inl rfl⟩
 ·obtain ⟨cs, hcs⟩ := own_tag h.row1 k hk
  exact ⟨cs, _, hcs, .inr rfl⟩
 ·obtain ⟨cs, hcs⟩ := own_tag h.row2 k hk
  exact ⟨cs, _, hcs, .inr rfl⟩
theorem tags_apart {k : Nat} {cs cs' : Array Value} {t t' : TypeId} (h : W.heap[k]? = some (.cells cs t (0, 0))) (h' : W.heap[k]? = some (.cells cs' t' (0, 0))) : t = t' := by
 rw [h] at h'
 cases h'
 rfl
theorem id_apart {t d : Nat} {tv v1 v2 : Value} {L M : List Bd} {B' : Nat} (h1 : Idl c B W t tv L) (h2 : RIdl c B' W d v1 v2 M) : ∀ k, IK t tv k → ¬ RK d v1 v2 k := fun k e1 e2 => by
 obtain ⟨_, t1, a1, b1⟩ := h1.tag e1
 obtain ⟨_, t2, a2, b2⟩ := h2.tag e2
 have e := tags_apart a1 a2
 rcases b1 with rfl | rfl <;> rcases b2 with rfl | rfl <;> exact absurd e (by decide)
theorem Pair.free (h : Pair c B own i p W) {n : Nat} {us : List Value} (r : W.ownsRow B 35 2 v n us) {k : Nat} (hk : v.ownBlock = some k) : ¬ (IK p.t p.tv k ∨ RK p.d p.v1 p.v2 k) := fun e => by
 obtain ⟨cs, a0⟩ := own_tag r k hk
 rcases e with e | e
 ·obtain ⟨_, t1, a1, b1⟩ := h.tr.tag e
  have e' := tags_apart a0 a1
  rcases b1 with rfl | rfl <;> exact absurd e' (by decide)
 ·obtain ⟨_, t1, a1, b1⟩ := h.rf.tag e
  have e' := tags_apart a0 a1
  rcases b1 with rfl | rfl <;> exact absurd e' (by decide)
theorem Pair.lt (h : Pair c B own i p W) {k : Nat} (e : IK p.t p.tv k ∨ RK p.d p.v1 p.v2 k) : k < W.heap.size := e.elim (h.tr.lt k) (h.rf.lt k)
theorem Pair.lab (h : Pair c B own i p W) {k : Nat} (e : IK p.t p.tv k ∨ RK p.d p.v1 p.v2 k) : own k = i := e.elim (h.tl k) (h.rl k)
theorem Pair.chg {K : Nat → Prop} (h : Pair c B own i p W) (cc : Chg K W W') (hK : ∀ k, (IK p.t p.tv k ∨ RK p.d p.v1 p.v2 k) → ¬ K k) : Pair c B own i p W' :=
 ⟨h.tr.chg cc (fun k hk => hK k (.inl hk)), h.tl, h.rf.chg cc (fun k hk => hK k (.inr hk)), h.rl, h.few⟩
theorem Pair.below (h : Pair c B own i p W) (cc : Below W.heap.size W W') : Pair c B own i p W' := h.chg (K := fun _ => False) (Chg.of_below cc _) (fun _ _ e => e)
theorem Pair.relb (h : Pair c B own i p W) (e : ∀ k, k < W.heap.size → own' k = own k) : Pair c B own' i p W :=
 ⟨h.tr, fun k hk => (e k (h.tr.lt k hk)).trans (h.tl k hk), h.rf, fun k hk => (e k (h.rf.lt k hk)).trans (h.rl k hk), h.few⟩
theorem Fam.below (h : Fam c B own ps v W) (cc : Below W.heap.size W W') : Fam c B own ps v W' := ⟨fun i p hp => (h.ok i p hp).below cc, row_kept h.row cc⟩
theorem Fam.relb (h : Fam c B own ps v W) (e : ∀ k, k < W.heap.size → own' k = own k) : Fam c B own' ps v W := ⟨fun i p hp => (h.ok i p hp).relb e, h.row⟩
theorem Fam.turned (h : Fam c B own ps v W) (hi : ps[i]? = some p) {p' : Pt} (ht : p'.t = p.t) (hd : p'.d = p.d) (tr : Idl c B W' p'.t p'.tv p'.L) (rf : RIdl c B W' p'.d p'.v1 p'.v2 p'.L) (few : 0 < p'.L.length ∧ p'.L.length ≤ 200)
  (hv : ∀ k, IK p'.t p'.tv k → IK p.t p.tv k ∨ W.heap.size ≤ k) (hv' : ∀ k, RK p'.d p'.v1 p'.v2 k → RK p.d p.v1 p.v2 k ∨ W.heap.size ≤ k) (cc : Chg (fun k => IK p.t p.tv k ∨ RK p.d p.v1 p.v2 k) W W') : ∃ own', Fam c B own' (ps.set i p') v W' := by
 have hp := h.ok i p hi
 obtain ⟨own', ho⟩ : ∃ own' : Nat → Nat, own' = fun k => if k < W.heap.size then own k else i := ⟨_, rfl⟩
 have oo : ∀ k, k < W.heap.size → own' k = own k := fun k hk => by rw [ho]; simp [hk]
 have on : ∀ k, W.heap.size ≤ k → own' k = i := fun k hk => by rw [ho]; simp [Nat.not_lt.2 hk]
 have h' := h.relb oo
 refine ⟨own', fun j q hq => ?_, ?_⟩
 ·by_cases e : j = i
  ·subst e
   rw [List.getElem?_set_self (List.getElem?_eq_some_iff.1 hi).1] at hq
   obtain rfl := Option.some.inj hq
   refine ⟨tr, fun k hk => ?_, rf, fun k hk => ?_, few⟩
   ·rcases hv k hk with x | x
    ·exact (oo k (hp.tr.lt k x)).trans (hp.tl k x)
    ·exact on k x
   ·rcases hv' k hk with x | x
    ·exact (oo k (hp.rf.lt k x)).trans (hp.rl k x)
    ·exact on k x
  ·rw [List.getElem?_set_ne (fun x => e x.symm)] at hq
   have hq' := h'.ok j q hq
   refine hq'.chg cc (fun k hk x => e ?_)
   have y1 := hq'.lab hk
   have y2 := hp.lab x
   rw [oo k (hp.lt x)] at y1
   exact y1.symm.trans y2
 ·rw [List.length_set, flatP_same hi ht hd]
  exact row_same h.row (fun k hk => cc.block k (h.row.lt k hk).2 (hp.free h.row hk))
theorem row_grow {ob : Obj} {W1 : World} (hg : (W1.alloc ob).grownBy W' v.ownBlock) : Chg (fun k => v.ownBlock = some k) W1 W' :=
 ((Chg.refl _ W1).alloc ob).trans (K' := fun k => v.ownBlock = some k) (Chg.of_gr hg (fun _ e => .inl e)) (fun _ _ h => h)
theorem Fam.more {W1 : World} {ob : Obj} {v' : Value} {p' : Pt} (h : Fam c B own ps v W) (hB : B ≤ W.heap.size) (b1 : Below W.heap.size W W1) (tr : Idl c W.heap.size W1 p'.t p'.tv p'.L) (rf : RIdl c W.heap.size W1 p'.d p'.v1 p'.v2 p'.L) (few : 0 < p'.L.length ∧ p'.L.length ≤ 200)
  (o : W'.ownsRow B 35 2 v' (ps.length + 1) (flatP ps ++ ptV p')) (g : (W1.alloc ob).grownBy W' v.ownBlock) : ∃ own', Fam c B own' (ps ++ [p']) v' W' := by
 have cc := row_grow g
 obtain ⟨own', ho⟩ : ∃ own' : Nat → Nat, own' = fun k => if k < W.heap.size then own k else ps.length := ⟨_, rfl⟩
 have oo : ∀ k, k < W.heap.size → own' k = own k := fun k hk => by rw [ho]; simp [hk]
 have on : ∀ k, W.heap.size ≤ k → own' k = ps.length := fun k hk => by rw [ho]; simp [Nat.not_lt.2 hk]
 have h' := (h.relb oo).below b1
 refine ⟨own', fun j q hq => ?_, ?_⟩
 ·by_cases e : j = ps.length
  ·subst e
   simp at hq
   subst hq
   have hn : Pair c B own' ps.length p' W1 := ⟨tr.base hB, fun k hk => on k (tr.low k hk), rf.base hB, fun k hk => on k (rf.low k hk), few⟩
   exact hn.chg cc (fun k hk x => hn.free h'.row x hk)
  ·have hj : j < ps.length := by
    have := (List.getElem?_eq_some_iff.1 hq).1
    simp at this
    omega
   rw [List.getElem?_append_left hj] at hq
   have hq' := h'.ok j q hq
   exact hq'.chg cc (fun k hk x => hq'.free h'.row x hk)
 ·rw [List.length_append, flatP_app]
  simpa [flatP] using o
theorem Fam.at (h : Fam c B own ps v W) (hi : ps[i]? = some p) : ∃ g cp, v = .slice (some ⟨g, 0, none⟩) ps.length cp ∧ (W.cell? ⟨g, i * 2, none⟩ = some (.pointer (some ⟨p.t, 0, none⟩)) ∧ W.frozen? ⟨g, i * 2, none⟩ = false) ∧ (W.cell? ⟨g, i * 2 + 1, none⟩ = some (.pointer (some ⟨p.d, 0, none⟩)) ∧ W.frozen? ⟨g, i * 2 + 1, none⟩ = false) := by
 have hlt := (List.getElem?_eq_some_iff.1 hi).1
 obtain ⟨a0, a1⟩ := flatP_at hi
 have hr := h.row
 rcases h.row.2 with ⟨_, h0⟩ | ⟨g, cp, cur, rfl, r⟩
 ·omega
 ·exact ⟨g, cp, rfl, ⟨by rw [hr.cellAt (i * 2) (by omega)]; exact a0, hr.frozenAt (i * 2)⟩, ⟨by rw [hr.cellAt (i * 2 + 1) (by omega)]; exact a1, hr.frozenAt (i * 2 + 1)⟩⟩
theorem Fam.put {W1 : World} {p' : Pt} {g cp : Nat} (h : Fam c B own ps (.slice (some ⟨g, 0, none⟩) ps.length cp) W) (hB : B ≤ W.heap.size) (hi : i < ps.length) (b1 : Below W.heap.size W W1) (tr : Idl c W.heap.size W1 p'.t p'.tv p'.L) (rf : RIdl c W.heap.size W1 p'.d p'.v1 p'.v2 p'.L) (few : 0 < p'.L.length ∧ p'.L.length ≤ 200) :
  ∃ own', Fam c B own' (ps.set i p') (.slice (some ⟨g, 0, none⟩) ps.length cp) ((W1.setCell ⟨g, i * 2, none⟩ (.pointer (some ⟨p'.t, 0, none⟩))).setCell ⟨g, i * 2 + 1, none⟩ (.pointer (some ⟨p'.d, 0, none⟩))) := by
 have cc := two_chg W1 g (i * 2) (i * 2 + 1) (.pointer (some ⟨p'.t, 0, none⟩)) (.pointer (some ⟨p'.d, 0, none⟩))
 obtain ⟨own', ho⟩ : ∃ own' : Nat → Nat, own' = fun k => if k < W.heap.size then own k else i := ⟨_, rfl⟩
 have oo : ∀ k, k < W.heap.size → own' k = own k := fun k hk => by rw [ho]; simp [hk]
 have on : ∀ k, W.heap.size ≤ k → own' k = i := fun k hk => by rw [ho]; simp [Nat.not_lt.2 hk]
 have h' := (h.relb oo).below b1
 refine ⟨own', fun j q hq => ?_, ?_⟩
 ·by_cases e : j = i
  ·subst e
   rw [List.getElem?_set_self hi] at hq
   obtain rfl := Option.some.inj hq
   have hn : Pair c B own' j p' W1 := ⟨tr.base hB, fun k hk => on k (tr.low k hk), rf.base hB, fun k hk => on k (rf.low k hk), few⟩
   exact hn.chg cc (fun k hk x => hn.free h'.row (k := k) (by rw [show k = g from x]; rfl) hk)
  ·rw [List.getElem?_set_ne (fun x => e x.symm)] at hq
   have hq' := h'.ok j q hq
   exact hq'.chg cc (fun k hk x => hq'.free h'.row (k := k) (by rw [show k = g from x]; rfl) hk)
 ·have s1 := (h'.row.stored (i * 2) (.pointer (some ⟨p'.t, 0, none⟩))).1
  have s2 := (s1.stored (i * 2 + 1) (.pointer (some ⟨p'.d, 0, none⟩))).1
  rw [flatP_set hi p'] at s2
  rw [List.length_set]
  exact s2
theorem Fam.act {Y x1 x2 : World} (h : Fam c B own ps v Y) (hi : ps[i]? = some p) {tv' v1' v2' : Value} {L' : List Bd} (I1 : Idl c B x1 p.t tv' L') (C1 : Chg (IK p.t p.tv) Y x1) (a1 : ∀ k, IK p.t tv' k → IK p.t p.tv k ∨ Y.heap.size ≤ k)
  (R2 : RIdl c B x2 p.d v1' v2' L') (C2 : Chg (RK p.d p.v1 p.v2) x1 x2) (a2 : ∀ k, RK p.d v1' v2' k → RK p.d p.v1 p.v2 k ∨ x1.heap.size ≤ k) (few : 0 < L'.length ∧ L'.length ≤ 200) : ∃ own', Fam c B own' (ps.set i ⟨p.t, tv', p.d, v1', v2', L'⟩) v x2 := by
 have hp := h.ok i p hi
 have R1 := hp.rf.chg C1 (fun k hk e => id_apart hp.tr hp.rf k e hk)
 have I2 := I1.chg C2 (fun k hk e => id_apart I1 R1 k hk e)
 have s1 := C1.size
 refine h.turned (p' := ⟨p.t, tv', p.d, v1', v2', L'⟩) hi rfl rfl I2 R2 few a1 (fun k hk => (a2 k hk).imp (fun x => x) (fun x => by omega)) ((C1.mono (fun _ _ x => .inl x)).trans (C2.mono (K' := fun k => IK p.t p.tv k ∨ RK p.d p.v1 p.v2 k) (fun _ _ x => .inr x)) (fun _ _ x => x))
theorem Fam.rf1 {Y x1 : World} (h : Fam c B own ps v Y) (hi : ps[i]? = some p) (C1 : Chg (IK p.t p.tv) Y x1) : RIdl c B x1 p.d p.v1 p.v2 p.L :=
 (h.ok i p hi).rf.chg C1 (fun k hk e => id_apart (h.ok i p hi).tr (h.ok i p hi).rf k e hk)
theorem Idl.noptr {d : Nat} {L : List Bd} (h : Idl c B W d v L) (hL : 0 < L.length) {n : Nat} {q : Option Addr} (hc : W.cell? ⟨n, 0, none⟩ = some (.pointer q)) : ¬ IK d v n := fun e => by
 rcases e with rfl | e
 ·rw [h.c0] at hc
  obtain ⟨ao, cp, rfl⟩ := h.shape
  cases hc
 ·have hr := h.row
  obtain ⟨b, hb⟩ : ∃ b, L[0]? = some b := ⟨_, List.getElem?_eq_getElem hL⟩
  rcases h.row.2 with ⟨rfl, h0⟩ | ⟨g, cp, cur, rfl, r⟩
  ·omega
  ·have : g = n := by simpa [Value.ownBlock] using e
   subst this
   rw [hr.cellAt 0 (by omega), (flat4_at hb).1] at hc
   cases hc
theorem RIdl.noptr {d : Nat} {v1 v2 : Value} {L : List Bd} (h : RIdl c B W d v1 v2 L) (hL : 0 < L.length) {n : Nat} {q : Option Addr} (hc : W.cell? ⟨n, 0, none⟩ = some (.pointer q)) : ¬ RK d v1 v2 n := fun e => by
 have key : ∀ (v : Value) (U : List Int), 0 < U.length → W.ownsRow B 68 2 v U.length (flatN U) → ¬ v.ownBlock = some n := fun v U hU hr e => by
  obtain ⟨b, hb⟩ : ∃ b, U[0]? = some b := ⟨_, List.getElem?_eq_getElem hU⟩
  have hr2 := hr
  rcases hr.2 with ⟨rfl, h0⟩ | ⟨g, cp, cur, rfl, r⟩
  ·omega
  ·have : g = n := by simpa [Value.ownBlock] using e
   subst this
   rw [hr2.cellAt 0 (by omega), (flatN_at hb).1] at hc
   cases hc
 rcases e with rfl | e | e
 ·rw [h.two.c0] at hc
  cases hc
 ·exact key v1 (L.map Bd.lo) (by simpa using hL) h.two.row1 e
 ·exact key v2 (L.map Bd.hi) (by simpa using hL) h.two.row2 e
theorem Idl.store2 {d : Nat} {L : List Bd} (h : Idl c B W d v L) (hL : 0 < L.length) {n : Nat} {q : Option Addr} (hc : W.cell? ⟨n, 0, none⟩ = some (.pointer q)) (a b : Value) : Idl c B ((W.setCell ⟨n, 0, none⟩ a).setCell ⟨n, 1, none⟩ b) d v L :=
 h.chg (two_chg W n 0 1 a b) (fun k hk e => h.noptr hL hc (by rw [← show k = n from e]; exact hk))
theorem RIdl.store2 {d : Nat} {v1 v2 : Value} {L : List Bd} (h : RIdl c B W d v1 v2 L) (hL : 0 < L.length) {n : Nat} {q : Option Addr} (hc : W.cell? ⟨n, 0, none⟩ = some (.pointer q)) (a b : Value) : RIdl c B ((W.setCell ⟨n, 0, none⟩ a).setCell ⟨n, 1, none⟩ b) d v1 v2 L :=
 h.chg (two_chg W n 0 1 a b) (fun k hk e => h.noptr hL hc (by rw [← show k = n from e]; exact hk))
end
theorem fam_start {c : Cf} {B : Nat} {W : World} {p : Pt} (hP : Idl c B W p.t p.tv p.L) (hR : RIdl c B W p.d p.v1 p.v2 p.L) (few : 0 < p.L.length ∧ p.L.length ≤ 200) (hB : B ≤ W.heap.size) :
  ∃ own, Fam c B own [p] (.slice (some ⟨W.heap.size, 0, none⟩) 1 1) (W.alloc (.cells #[.pointer (some ⟨p.t, 0, none⟩), .pointer (some ⟨p.d, 0, none⟩)] 35)) := by
 have bb := Bk.below1 W (.cells #[.pointer (some ⟨p.t, 0, none⟩), .pointer (some ⟨p.d, 0, none⟩)] 35)
 refine ⟨fun _ => 0, fun i q hq => ?_, rfl, .inr ⟨W.heap.size, 1, _, rfl, hB, heap_top W _, Nat.le_refl _, by decide, rfl, rfl⟩⟩
 have hi : i = 0 := by have := (List.getElem?_eq_some_iff.1 hq).1; simp at this; exact this
 subst hi
 simp at hq
 subst hq
 exact ⟨hP.below bb, fun _ _ => rfl, hR.below bb, fun _ _ => rfl, few⟩
end Go.Proofs.YtdkbmligaodpmaaGreatDoor
namespace Go.Proofs.YtdkbmligaodpmaaGreatDoor
open Go.RowKit Wd Tr Cg Ld

theorem rfactor_yes {c : Cf} (r : Rng c) (w : World) :
  Calls Tryz.prog 58 #[.int .i64 c.period, .int .i64 c.half] w fun e w' => e = .returned (.tuple #[.int .u64 (frs c), .int .i64 0]) ∧ Below w.heap.size w w' := by
 have h1 := r.p0; have h2 := r.p1; have h3 := r.h0; have h4 := r.h1
 have he := e_box r
 have c1 := rexp_any h1 h2 h3 h4
 have e1 : c.period * 4294967296 / c.half = ((eZ c).toNat : Nat) := by show eZ c = _; omega
 rw [e1] at c1
 have c2 := rhalf_any (eZ c).toNat (by omega)
 unfold frs
 generalize (eZ c).toNat = E at *
 generalize c.period = P at *
 generalize c.half = H at *
 clear e1 he
 go_enter Tryz.func58, Tryz.ntmps58
 go_wp2_with fail
 refine (c1 _).mono ?_
 rintro e w1 ⟨rfl, rfl⟩
 go_wp2_with fail
 refine (c2 _).mono ?_
 rintro e w2 ⟨rfl, b2⟩
 go_wp2
 go_ret2
 exact ⟨rfl, b2⟩
theorem rcharge_any {u n : Int} (hu : Word u) (h0 : 0 ≤ n) (hn : n < 4294967296) (w : World) :
  Calls Tryz.prog 59 #[.int .u64 u, .int .i64 n] w fun e w' => e = .returned (.int .u64 (chU u n)) ∧ Below w.heap.size w w' := by
 have ho : ofV n = n * 4294967296 := by unfold ofV; rw [if_neg (by omega)]; exact nar_small (by omega)
 have hw : Word (n * 4294967296) := ⟨by omega, by omega⟩
 have h : ¬ n < 0 := by omega
 have c1 := rqof_any n (by omega)
 rw [ho] at c1
 have c2 := rqadd_any u (n * 4294967296) hu hw
 unfold chU
 go_enter Tryz.func59, Tryz.ntmps59
 go_wp2_with fail
 refine (c1 _).mono ?_
 rintro e w1 ⟨rfl, b1⟩
 go_wp2_with fail
 refine (c2 _).mono ?_
 rintro e w2 ⟨rfl, b2⟩
 go_wp2
 go_ret
 exact ⟨rfl, b1.trans (b2.mono b1.size)⟩
theorem rfade_any {u f : Int} (hu : Word u) (h0 : 0 ≤ f) (h1 : f ≤ 9223372036854775808) (w : World) :
  Calls Tryz.prog 60 #[.int .u64 u, .int .u64 f] w fun e w' => e = .returned (.int .u64 (fdU f u)) ∧ Below w.heap.size w w' := by
 have c1 := rpart_any u f hu ⟨h0, by omega⟩
 have em : minV f = f := by unfold minV; split <;> omega
 have e1 : partV u f = fdU f u := by unfold partV fdU; rw [em]
 rw [e1] at c1
 go_enter Tryz.func60, Tryz.ntmps60
 go_wp2_with fail
 refine (c1 _).mono ?_
 rintro e w1 ⟨rfl, b1⟩
 go_wp2
 go_ret
 exact ⟨rfl, b1⟩
end Go.Proofs.YtdkbmligaodpmaaGreatDoor
namespace Go.Proofs.YtdkbmligaodpmaaGreatDoor
open Go.RowKit Wd Tr Cg

theorem Tryz.infRn : (Tryz.prog.info? 68).map (fun i => (i.zero, i.size, i.bytes)) = some (some (.agg #[.int .u64 0, .int .u64 0]), 2, 16) := by kernel_rfl
theorem flatN_cells {W : World} {B : Nat} {v : Value} {U : List Int} (h : W.ownsRow B 68 2 v U.length (flatN U)) : ∃ ao c, v = .slice ao U.length c ∧ (ao = none → U.length = 0 ∧ c = 0) ∧ ∀ ad, ao = some ad → ∀ j u, (flatN U)[j]? = some u → W.cell? (ad.add j) = some u := by
 rcases h.2 with ⟨rfl, h0⟩ | ⟨g, cap, cur, rfl, r⟩
 ·exact ⟨none, 0, by rw [h0], fun _ => ⟨h0, rfl⟩, fun ad e => by cases e⟩
 ·refine ⟨_, cap, rfl, (fun e => by cases e), fun ad e j u hu => ?_⟩
  cases e
  exact h.cells rfl j u hu
theorem two_one (a b : Int) : ∀ u ∈ ([.int .u64 a, .int .u64 b] : List Value), u.oneCell' = true := fun u hu => by
 simp at hu
 rcases hu with rfl | rfl <;> rfl
theorem flatN_more (U : List Int) : flatN U ++ [.int .u64 0, .int .u64 0] = flatN (U ++ [0]) := by rw [flatN_app]; rfl
section
variable {c : Cf} {B : Nat} {w w2 : World} {d : Nat} {v1 v2 v' : Value} {U1 U2 : List Int} {q : Nat}
theorem R2.open1 (h : R2 c B w d v1 v2 U1 U2) (hB : B ≤ w.heap.size) (hq : U1.length = q) (b2 : Below w.heap.size w w2) (o : w2.ownsRow w.heap.size 68 2 v' (q + 1) (flatN U1 ++ [.int .u64 0, .int .u64 0])) :
  (w2.cell? ⟨d, 8, none⟩ = some v1 ∧ w2.frozen? ⟨d, 8, none⟩ = false) ∧ R2 c B (w2.setCell ⟨d, 8, none⟩ v') d v' v2 (U1 ++ [0]) U2 ∧ Chg (RK d v1 v2) w (w2.setCell ⟨d, 8, none⟩ v') ∧ (∀ k, RK d v' v2 k → RK d v1 v2 k ∨ w.heap.size ≤ k) := by
 have s2 := h.below b2
 have hl : (U1 ++ [0]).length = q + 1 := by simp [hq]
 rw [flatN_more, ← hl] at o
 refine ⟨s2.c8, s2.sw1 o hB (fun k hk e => ?_), (Chg.of_below b2 _).setCell _ _ (.inl (.inl rfl)), fun k hk => ?_⟩
 ·have := (o.lt k hk).1
  have := h.lt k (.inr (.inr e))
  omega
 ·rcases hk with hk | hk | hk
  ·exact .inl (.inl hk)
  ·exact .inr (o.lt k hk).1
  ·exact .inl (.inr (.inr hk))
theorem R2.open2 (h : R2 c B w d v1 v2 U1 U2) (hB : B ≤ w.heap.size) (hq : U2.length = q) (b2 : Below w.heap.size w w2) (o : w2.ownsRow w.heap.size 68 2 v' (q + 1) (flatN U2 ++ [.int .u64 0, .int .u64 0])) :
  (w2.cell? ⟨d, 9, none⟩ = some v2 ∧ w2.frozen? ⟨d, 9, none⟩ = false) ∧ R2 c B (w2.setCell ⟨d, 9, none⟩ v') d v1 v' U1 (U2 ++ [0]) ∧ Chg (RK d v1 v2) w (w2.setCell ⟨d, 9, none⟩ v') ∧ (∀ k, RK d v1 v' k → RK d v1 v2 k ∨ w.heap.size ≤ k) := by
 have s2 := h.below b2
 have hl : (U2 ++ [0]).length = q + 1 := by simp [hq]
 rw [flatN_more, ← hl] at o
 refine ⟨s2.c9, s2.sw2 o hB (fun k hk e => ?_), (Chg.of_below b2 _).setCell _ _ (.inl (.inl rfl)), fun k hk => ?_⟩
 ·have := (o.lt k e).1
  have := h.lt k (.inr (.inl hk))
  omega
 ·rcases hk with hk | hk | hk
  ·exact .inl (.inl hk)
  ·exact .inl (.inr (.inl hk))
  ·exact .inr (o.lt k hk).1
end
set_option maxRecDepth 20000 in
set_option maxHeartbeats 2000000 in
theorem riopen_any {c : Cf} {B : Nat} {w : World} {d : Nat} {v1 v2 : Value} {L : List Bd} (h : RIdl c B w d v1 v2 L) (hB : B ≤ w.heap.size) (hf : L.length < 1000000) :
  Calls Tryz.prog 12 #[.pointer (some ⟨d, 0, none⟩)] w fun e w' => e = .returned (.int .i64 L.length) ∧ ∃ v1' v2', RIdl c B w' d v1' v2' (L ++ [zeB]) ∧ Chg (RK d v1 v2) w w' ∧ (∀ k, RK d v1' v2' k → RK d v1 v2 k ∨ w.heap.size ≤ k) := by
 obtain ⟨i0, hi0, hz0, hz1, hz2⟩ := info_parts Tryz.infRn
 obtain ⟨q, hq⟩ : ∃ q, L.length = q := ⟨_, rfl⟩
 have h2 := h.two
 have HOK : Hid ((∀ b ∈ L, b.Ok) ∧ L.length = q) := ⟨h.ok, hq⟩
 obtain ⟨U1, hU1⟩ : ∃ U1, L.map Bd.lo = U1 := ⟨_, rfl⟩
 obtain ⟨U2, hU2⟩ : ∃ U2, L.map Bd.hi = U2 := ⟨_, rfl⟩
 have HU : Hid (L.map Bd.lo = U1 ∧ L.map Bd.hi = U2) := ⟨hU1, hU2⟩
 rw [hU1, hU2] at h2
 have hl1 : U1.length = q := by rw [← hU1, List.length_map]; exact hq
 have hl2 : U2.length = q := by rw [← hU2, List.length_map]; exact hq
 have hdl := h2.lt d (.inl rfl)
 have c8 := h2.c8.1
 have b0 : Below w.heap.size w (w.alloc (.cells #[] 68)) := (Below.refl _ w).alloc (Nat.le_refl _) _
 obtain ⟨ao1, c1, e1, n1, k1⟩ := flatN_cells (h2.below b0).row1
 have HF1 : Hid ((flatN U1).length = q * 2) := show (flatN U1).length = q * 2 by rw [flatN_len, hl1]
 have HF2 : Hid ((flatN U2).length = q * 2) := show (flatN U2).length = q * 2 by rw [flatN_len, hl2]
 rw [hl1] at e1 n1
 rw [hq] at hf ⊢
 subst e1
 have HH : Hid (R2 c B w d (.slice ao1 q c1) v2 U1 U2) := h2
 have HN1 : Hid _ := n1
 have HC1 : Hid _ := k1
 have HM : Hid _ := made0 w 68 2
 have HL1 : Hid (U1.length = q) := hl1
 have HL2 : Hid (U2.length = q) := hl2
 have HB0 : Hid (Below w.heap.size w (w.alloc (.cells #[] 68))) := b0
 have HB : Hid (B ≤ w.heap.size) := hB
 clear h h2 n1 k1 hU1 hU2 hq hl1 hl2 b0 hB
 go_enter Tryz.func12, Tryz.ntmps12
 go_upto_region 2 with (first
  | (at_builtin; refine wpList_append_any rfl (.tmp 4) (.tmp 8) 43 rfl w.heap.size 68 i0 _ 2 16 Tryz.underlying43 hi0 hz0 hz1 hz2 rfl (by decide) (.slice (some ⟨w.heap.size, 0, none⟩) 0 0) 0 [] rfl HM.out ao1 q c1 (flatN U1) rfl HN1.out HF1.out HC1.out (flatN_one U1) ?_ ?_ ?_ ?_; exact (Nat.le_trans (m := 35184372088832) (by omega) (by decide)); omega; (simp); intro va w1 o1 g1; rw [Nat.zero_add, List.nil_append] at o1; have b1 : Below w.heap.size w w1 := HB0.out.grown g1 (by simp) (fun k e => by simp [Value.ownBlock] at e; omega); have z1 := b1.size)
  | (at_builtin; refine wpList_append_own_at _ rfl (.tmp 9) (.tmp 11) 43 rfl w.heap.size 68 i0 _ 2 16 Tryz.underlying43 hi0 hz0 hz1 hz2 rfl (by decide) _ q (flatN U1) rfl (o1.alloc _) ⟨w1.heap.size, 0, none⟩ 1 1 [.int .u64 0, .int .u64 0] rfl rfl (new_cells w1 [.int .u64 0, .int .u64 0] 68) (two_one 0 0) (Nat.le_trans (m := 35184372088832) (by omega) (by decide)) (by omega) (by simp; omega) ?_; intro vb w2 o2 g2 _ _; have b2 : Below w.heap.size w w2 := (b1.alloc z1 _).grown g2 (by simp; omega) (fun k e => (o1.lt k e).1); obtain ⟨gb, cb, eb, _⟩ := own_slice o2; subst eb; have hfin := HH.out.open1 HB.out HL1.out b2 o2; have y0 := hfin.1.1; have y1 := hfin.1.2; have HF : Hid _ := hfin.2; clear hfin o2 g2 b2 o1 g1 b1 z1))
 clear y0 y1 HM HN1 HC1 HB0 c8 HF1 hdl
 obtain ⟨w3, hw3⟩ : ∃ w3, w2.setCell ⟨d, 8, none⟩ (.slice (some ⟨gb, 0, none⟩) (q + 1) cb) = w3 := ⟨_, rfl⟩
 rw [hw3] at HF ⊢
 clear hw3
 have h3 := HF.out.1
 have hdl := h3.lt d (.inl rfl)
 have c9 := h3.c9.1
 have b0 : Below w3.heap.size w3 (w3.alloc (.cells #[] 68)) := (Below.refl _ w3).alloc (Nat.le_refl _) _
 obtain ⟨ao2, c2, e2, n2, k2⟩ := flatN_cells (h3.below b0).row2
 rw [HL2.out] at e2 n2
 subst e2
 have HN2 : Hid _ := n2
 have HC2 : Hid _ := k2
 have HM : Hid _ := made0 w3 68 2
 have HB0 : Hid (Below w3.heap.size w3 (w3.alloc (.cells #[] 68))) := b0
 have HB3 : Hid (B ≤ w3.heap.size) := Nat.le_trans HB.out HF.out.2.1.size
 clear h3 n2 k2 b0
 go_upto_region 3 with (first
  | (at_builtin; refine wpList_append_any rfl (.tmp 16) (.tmp 20) 43 rfl w3.heap.size 68 i0 _ 2 16 Tryz.underlying43 hi0 hz0 hz1 hz2 rfl (by decide) (.slice (some ⟨w3.heap.size, 0, none⟩) 0 0) 0 [] rfl HM.out ao2 q c2 (flatN U2) rfl HN2.out HF2.out HC2.out (flatN_one U2) ?_ ?_ ?_ ?_; exact (Nat.le_trans (m := 35184372088832) (by omega) (by decide)); omega; (simp); intro va w4 o4 g4; rw [Nat.zero_add, List.nil_append] at o4; have b4 : Below w3.heap.size w3 w4 := HB0.out.grown g4 (by simp) (fun k e => by simp [Value.ownBlock] at e; omega); have z4 := b4.size)
  | (at_builtin; refine wpList_append_own_at _ rfl (.tmp 21) (.tmp 23) 43 rfl w3.heap.size 68 i0 _ 2 16 Tryz.underlying43 hi0 hz0 hz1 hz2 rfl (by decide) _ q (flatN U2) rfl (o4.alloc _) ⟨w4.heap.size, 0, none⟩ 1 1 [.int .u64 0, .int .u64 0] rfl rfl (new_cells w4 [.int .u64 0, .int .u64 0] 68) (two_one 0 0) (Nat.le_trans (m := 35184372088832) (by omega) (by decide)) (by omega) (by simp; omega) ?_; intro vb w5 o5 g5 _ _; have b5 : Below w3.heap.size w3 w5 := (b4.alloc z4 _).grown g5 (by simp; omega) (fun k e => (o4.lt k e).1); obtain ⟨ge, ce, ee, _⟩ := own_slice o5; subst ee; have hfin := HF.out.1.open2 HB3.out HL2.out b5 o5; have y0 := hfin.1.1; have y1 := hfin.1.2; have HF5 : Hid _ := hfin.2; clear hfin o5 g5 b5 o4 g4 b4 z4))
 clear y0 y1 HM HN2 HC2 HB0 c9 HF2 hdl
 obtain ⟨w6, hw6⟩ : ∃ w6, w5.setCell ⟨d, 9, none⟩ (.slice (some ⟨ge, 0, none⟩) (q + 1) ce) = w6 := ⟨_, rfl⟩
 rw [hw6] at HF5 ⊢
 clear hw6
 have c8 := HF5.out.1.c8.1
 go_wp2
 go_ret
 obtain ⟨r5, x5, y5⟩ := HF5.out
 obtain ⟨_, x3, y3⟩ := HF.out
 refine ⟨by simp, _, _, r5.one (by rw [List.map_append, HU.out.1]; rfl) (by rw [List.map_append, HU.out.2]; rfl) (fun b hb => ?_) (by rw [List.length_append, HOK.out.2]; simp; omega), x3.trans x5 (fun i hi e => ?_), fun k hk => ?_⟩
 ·rcases List.mem_append.1 hb with x | x
  ·exact HOK.out.1 b x
  ·simp at x
   subst x
   exact ze_ok
 ·rcases y3 i e with x | x
  ·exact x
  ·omega
 ·rcases y5 k hk with x | x
  ·exact y3 k x
  ·exact .inr (by have := x3.size; omega)
end Go.Proofs.YtdkbmligaodpmaaGreatDoor
