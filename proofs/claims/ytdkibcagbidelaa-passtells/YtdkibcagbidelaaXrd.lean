/-
  LAYER 15, the reference: a round in memory.
  LAYER 15, the reference: a round in memory, written.
  LAYER 15, the reference: (*round).start.
-/
import Derived.Test.YtdkibcagbidelaaLsK
import Derived.Test.YtdkibcagbidelaaPtM
import Derived.Deep.CutBlock
import Derived.Deep.DeepCutAuto
import Derived.WalkSmall
import Derived.Deep.AppendLies
import Derived.Deep.DrawnRows
namespace Go.Proofs.Ytdkibcagbidelaa
open Go.RowKit Pr

/-- Wants that are left: they came in, or they lie in a row of their own. -/
def LeftAt (B : Nat) (W : World) (ao : Option Addr) (l : List Wt) : Prop := ∃ g o, (0 < l.length → ao = some ⟨g, o, none⟩ ∧ (g < B ∨ ∃ cs, W.heap[g]? = some (.cells cs 40 (0, 0)))) ∧ ∀ k r, l[k]? = some r → W.cell? ⟨g, o + k * 3, none⟩ = some (.int .i64 r.job) ∧ W.cell? ⟨g, o + k * 3 + 1, none⟩ = some (.int .i64 r.nd) ∧ W.cell? ⟨g, o + k * 3 + 2, none⟩ = some (.int .i64 r.lm)
/-- Runs: likewise. -/
def RunL (B : Nat) (W : World) (ao : Option Addr) (l : List Rn) : Prop := ∃ g o, (0 < l.length → ao = some ⟨g, o, none⟩ ∧ (g < B ∨ ∃ cs, W.heap[g]? = some (.cells cs 45 (0, 0)))) ∧ ∀ k r, l[k]? = some r → W.cell? ⟨g, o + k * 2, none⟩ = some (.int .i64 r.nd) ∧ W.cell? ⟨g, o + k * 2 + 1, none⟩ = some (.int .i64 r.en)
theorem LeftAt.wants {B : Nat} {W : World} {ao : Option Addr} {l : List Wt} (h : LeftAt B W ao l) : WantsAt W ao l := by
  obtain ⟨g, o, h1, h2⟩ := h
  exact ⟨g, o, fun h => (h1 h).1, h2⟩
theorem RunL.runs {B : Nat} {W : World} {ao : Option Addr} {l : List Rn} (h : RunL B W ao l) : RunsAt W ao l := by
  obtain ⟨g, o, h1, h2⟩ := h
  exact ⟨g, o, fun h => (h1 h).1, h2⟩
theorem LeftAt.keep {B : Nat} {W W' : World} {ao : Option Addr} {l : List Wt} (h : LeftAt B W ao l) (hk : ∀ g, (g < B ∨ ∃ cs, W.heap[g]? = some (.cells cs 40 (0, 0))) → W'.heap[g]? = W.heap[g]?) : LeftAt B W' ao l := by
  obtain ⟨g, o, h1, h2⟩ := h
  by_cases hl : 0 < l.length
  · obtain ⟨ha, hb⟩ := h1 hl
    have hg := hk g hb
    refine ⟨g, o, fun _ => ⟨ha, hb.imp id (fun ⟨cs, hc⟩ => ⟨cs, hg.trans hc⟩)⟩, fun k r hr => ?_⟩
    obtain ⟨a, b, c⟩ := h2 k r hr
    exact ⟨(World.cell?_of_block hg).trans a, (World.cell?_of_block hg).trans b, (World.cell?_of_block hg).trans c⟩
  · exact ⟨g, o, fun h => absurd h hl, fun k r hr => absurd (List.getElem?_eq_some_iff.1 hr).1 (by omega)⟩
theorem RunL.keep {B : Nat} {W W' : World} {ao : Option Addr} {l : List Rn} (h : RunL B W ao l) (hk : ∀ g, (g < B ∨ ∃ cs, W.heap[g]? = some (.cells cs 45 (0, 0))) → W'.heap[g]? = W.heap[g]?) : RunL B W' ao l := by
  obtain ⟨g, o, h1, h2⟩ := h
  by_cases hl : 0 < l.length
  · obtain ⟨ha, hb⟩ := h1 hl
    have hg := hk g hb
    refine ⟨g, o, fun _ => ⟨ha, hb.imp id (fun ⟨cs, hc⟩ => ⟨cs, hg.trans hc⟩)⟩, fun k r hr => ?_⟩
    obtain ⟨a, b⟩ := h2 k r hr
    exact ⟨(World.cell?_of_block hg).trans a, (World.cell?_of_block hg).trans b⟩
  · exact ⟨g, o, fun h => absurd h hl, fun k r hr => absurd (List.getElem?_eq_some_iff.1 hr).1 (by omega)⟩
theorem LeftAt.row {B B' : Nat} {W : World} {v : Value} {l : List Wt} (h : W.ownsRow B' 40 3 v l.length (flatW l)) : ∃ lo cl, v = .slice lo l.length cl ∧ LeftAt B W lo l ∧ l.length ≤ cl ∧ (lo = none → l.length = 0 ∧ cl = 0) := by
  rcases h.2 with ⟨rfl, h0⟩ | ⟨g, cap, cur, rfl, hb, hg, hc1, hc2, _, ht⟩
  · refine ⟨none, 0, by rw [h0], ⟨0, 0, fun h => by omega, fun j s hs => ?_⟩, by omega, fun _ => ⟨h0, rfl⟩⟩
    rw [List.length_eq_zero_iff.1 h0] at hs
    simp at hs
  · refine ⟨some ⟨g, 0, none⟩, cap, rfl, ⟨g, 0, fun _ => ⟨rfl, .inr ⟨cur, hg⟩⟩, fun j s hs => ?_⟩, hc1, fun e => by cases e⟩
    have hj : j < l.length := (List.getElem?_eq_some_iff.1 hs).1
    obtain ⟨h1, h2, h3⟩ := flatW_at l j s hs
    rw [← ht, List.getElem?_take_of_lt (by omega), Array.getElem?_toList] at h1 h2 h3
    rw [Nat.zero_add]
    exact ⟨cells_at hg h1, cells_at hg h2, cells_at hg h3⟩
theorem RunL.row {B B' : Nat} {W : World} {v : Value} {l : List Rn} (h : W.ownsRow B' 45 2 v l.length (flatR l)) : ∃ ro cr, v = .slice ro l.length cr ∧ RunL B W ro l ∧ l.length ≤ cr ∧ (ro = none → l.length = 0 ∧ cr = 0) := by
  rcases h.2 with ⟨rfl, h0⟩ | ⟨g, cap, cur, rfl, hb, hg, hc1, hc2, _, ht⟩
  · refine ⟨none, 0, by rw [h0], ⟨0, 0, fun h => by omega, fun j s hs => ?_⟩, by omega, fun _ => ⟨h0, rfl⟩⟩
    rw [List.length_eq_zero_iff.1 h0] at hs
    simp at hs
  · refine ⟨some ⟨g, 0, none⟩, cap, rfl, ⟨g, 0, fun _ => ⟨rfl, .inr ⟨cur, hg⟩⟩, fun j s hs => ?_⟩, hc1, fun e => by cases e⟩
    have hj : j < l.length := (List.getElem?_eq_some_iff.1 hs).1
    obtain ⟨h1, h2⟩ := flatR_at l j s hs
    rw [← ht, List.getElem?_take_of_lt (by omega), Array.getElem?_toList] at h1 h2
    rw [Nat.zero_add]
    exact ⟨cells_at hg h1, cells_at hg h2⟩
/-- A round. -/
structure Rd (B b : Nat) (lo ro : Option Addr) (cl cr : Nat) (sv : Value) (now : Int) (s : Ps) (l : List Wt) (W : World) : Prop where
  blk : W.heap[b]? = some (.cells #[.int .i64 now, .int .i64 s.fr, .slice lo l.length cl, .slice ro s.rs.length cr, sv] 65 (0, 0))
  left : LeftAt B W lo l
  runs : RunL B W ro s.rs
  starts : W.ownsRow B 3 1 sv s.st.length (jobsV s.st)
  low : B ≤ b
  lcap : l.length ≤ cl
  lnil : lo = none → l.length = 0 ∧ cl = 0
  rnil : ro = none → s.rs.length = 0 ∧ cr = 0
theorem Rd.below {B b : Nat} {lo ro : Option Addr} {cl cr : Nat} {sv : Value} {now : Int} {s : Ps} {l : List Wt} {W W' : World} (h : Rd B b lo ro cl cr sv now s l W) (hb : Below W.heap.size W W') (hB : B ≤ W.heap.size) : Rd B b lo ro cl cr sv now s l W' := by
  refine ⟨bk hb h.blk, h.left.keep (fun g hg => ?_), h.runs.keep (fun g hg => ?_), rowB hb h.starts, h.low, h.lcap, h.lnil, h.rnil⟩
  · exact hb.block g (hg.elim (fun h => by omega) (fun ⟨_, h⟩ => lt_of_blk h))
  · exact hb.block g (hg.elim (fun h => by omega) (fun ⟨_, h⟩ => lt_of_blk h))
end Go.Proofs.Ytdkibcagbidelaa
namespace Go.Proofs.Ytdkibcagbidelaa
open Go.RowKit Pr

theorem Rd.other {B b : Nat} {lo ro : Option Addr} {cl cr : Nat} {sv : Value} {now : Int} {s : Ps} {l : List Wt} {W : World} (h : Rd B b lo ro cl cr sv now s l W) (k : Nat) (v : Value) {g : Nat} {t : TypeId} (ht : t ≠ 65) (hg : g < B ∨ ∃ cs, W.heap[g]? = some (.cells cs t (0, 0))) : (W.setCell ⟨b, k, none⟩ v).heap[g]? = W.heap[g]? := by
  refine Below.heap_setCell _ _ _ _ ?_
  rcases hg with hg | ⟨cs, hg⟩
  · have := h.low
    show g ≠ b
    omega
  · exact tag_ne hg h.blk ht
theorem Rd.paid {B b : Nat} {lo ro : Option Addr} {cl cr : Nat} {sv : Value} {now : Int} {s : Ps} {l : List Wt} {W : World} (h : Rd B b lo ro cl cr sv now s l W) (fr : Int) : Rd B b lo ro cl cr sv now ⟨fr, s.rs, s.st⟩ l (W.setCell ⟨b, 1, none⟩ (.int .i64 fr)) :=
  ⟨heap_setCell_same W b 1 _ 65 _ h.blk, h.left.keep (fun _ hg => h.other 1 _ (by decide) hg), h.runs.keep (fun _ hg => h.other 1 _ (by decide) hg), row_keep h.starts (fun _ hk => h.other 1 _ (t := 3) (by decide) (.inr (row_tag h.starts hk).2)), h.low, h.lcap, h.lnil, h.rnil⟩
theorem Rd.ran {B b : Nat} {lo ro ro' : Option Addr} {cl cr cr' : Nat} {sv : Value} {now : Int} {s : Ps} {l : List Wt} {W : World} {rs : List Rn} (h : Rd B b lo ro cl cr sv now s l W) (hr : RunL B W ro' rs) (hn : ro' = none → rs.length = 0 ∧ cr' = 0) : Rd B b lo ro' cl cr' sv now ⟨s.fr, rs, s.st⟩ l (W.setCell ⟨b, 3, none⟩ (.slice ro' rs.length cr')) :=
  ⟨heap_setCell_same W b 3 _ 65 _ h.blk, h.left.keep (fun _ hg => h.other 3 _ (by decide) hg), hr.keep (fun _ hg => h.other 3 _ (by decide) hg), row_keep h.starts (fun _ hk => h.other 3 _ (t := 3) (by decide) (.inr (row_tag h.starts hk).2)), h.low, h.lcap, h.lnil, hn⟩
theorem Rd.less {B b : Nat} {lo lo' ro : Option Addr} {cl cl' cr : Nat} {sv : Value} {now : Int} {s : Ps} {l l' : List Wt} {W : World} (h : Rd B b lo ro cl cr sv now s l W) (hl : LeftAt B W lo' l') (hn : lo' = none → l'.length = 0 ∧ cl' = 0) (hc : l'.length ≤ cl') : Rd B b lo' ro cl' cr sv now s l' (W.setCell ⟨b, 2, none⟩ (.slice lo' l'.length cl')) :=
  ⟨heap_setCell_same W b 2 _ 65 _ h.blk, hl.keep (fun _ hg => h.other 2 _ (by decide) hg), h.runs.keep (fun _ hg => h.other 2 _ (by decide) hg), row_keep h.starts (fun _ hk => h.other 2 _ (t := 3) (by decide) (.inr (row_tag h.starts hk).2)), h.low, hc, hn, h.rnil⟩
/-- Where a start was told behind the others. -/
theorem Rd.told {B b gg cap : Nat} {lo ro : Option Addr} {cl cr : Nat} {sv : Value} {now : Int} {s : Ps} {l : List Wt} {W w1 : World} {o : Obj} {x : Wt} (h : Rd B b lo ro cl cr sv now s l W) (hB : B ≤ W.heap.size)
    (hown : w1.ownsRow B 3 1 (.slice (some ⟨gg, 0, none⟩) (s.st.length + 1) cap) (s.st.length + 1) (jobsV s.st ++ [.int .i64 x.job])) (hg : ((W.alloc o).drew).grownBy w1 sv.ownBlock) :
    Rd B b lo ro cl cr (.slice (some ⟨gg, 0, none⟩) (s.st.length + 1) cap) now ⟨s.fr, s.rs, s.st ++ [x]⟩ l (w1.setCell ⟨b, 4, none⟩ (.slice (some ⟨gg, 0, none⟩) (s.st.length + 1) cap)) ∧ w1.cell? ⟨b, 4, none⟩ = some sv ∧ w1.frozen? ⟨b, 4, none⟩ = false := by
  have kp : ∀ (i : Nat) (t : TypeId), t ≠ 3 → (i < B ∨ ∃ cs, W.heap[i]? = some (.cells cs t (0, 0))) → w1.heap[i]? = W.heap[i]? := fun i t ht hi => by
    have hlt : i < W.heap.size := hi.elim (fun h => by omega) (fun ⟨_, h⟩ => lt_of_blk h)
    have e1 : (W.alloc o).drew.heap[i]? = W.heap[i]? := Below.heap_alloc _ _ _ hlt
    refine (hg.block i (by show i < (W.alloc o).heap.size; simp; omega) (fun e => ?_)).trans e1
    obtain ⟨hBk, cs', hk⟩ := row_tag h.starts e.symm
    rcases hi with hi | ⟨cs, hi⟩
    · omega
    · exact tag_ne hi hk ht rfl
  have bm := (kp b 65 (by decide) (.inr ⟨_, h.blk⟩)).trans h.blk
  have hgm : gg ≠ b := by
    obtain ⟨_, cs', hk⟩ := row_tag hown (k := gg) rfl
    exact tag_ne hk bm (by decide)
  have kp2 : ∀ (i : Nat) (t : TypeId), t ≠ 3 → t ≠ 65 → (i < B ∨ ∃ cs, W.heap[i]? = some (.cells cs t (0, 0))) → (w1.setCell ⟨b, 4, none⟩ (.slice (some ⟨gg, 0, none⟩) (s.st.length + 1) cap)).heap[i]? = W.heap[i]? := fun i t ht1 ht2 hi => by
    refine (Below.heap_setCell _ _ _ _ ?_).trans (kp i t ht1 hi)
    rcases hi with hi | ⟨cs, hi⟩
    · have := h.low
      show i ≠ b
      omega
    · exact tag_ne hi h.blk ht2
  refine ⟨⟨heap_setCell_same w1 b 4 _ 65 _ bm, h.left.keep (fun g hg => kp2 g 40 (by decide) (by decide) hg), h.runs.keep (fun g hg => kp2 g 45 (by decide) (by decide) hg), ?_, h.low, h.lcap, h.lnil, h.rnil⟩, cells_at bm rfl, frozen_at bm⟩
  have e : jobsV (s.st ++ [x]) = jobsV s.st ++ [.int .i64 x.job] := by simp [jobsV]
  rw [List.length_append, e]
  exact row_keep hown (fun k e => Below.heap_setCell _ _ _ _ (by
    have : gg = k := by simpa [Value.ownBlock] using e
    show k ≠ b
    omega))
end Go.Proofs.Ytdkibcagbidelaa
namespace Go.Proofs.Ytdkibcagbidelaa
open Go.RowKit Pr

theorem rs_room {n : Nat} (h : n * 16 ≤ 140737488359424) : (0 + n + (0 + n) / 4 + 192) * 16 ≤ 281474976710656 ∧ (n + 1 + (n + 1) / 4 + 192) * 16 ≤ 281474976710656 ∧ 0 + n ≤ maxLen ∧ n + 1 ≤ maxLen := by
  refine ⟨by omega, by omega, Nat.le_trans (m := 35184372088832) (by omega) (by decide), Nat.le_trans (m := 35184372088832) (by omega) (by decide)⟩
theorem row_form {W : World} {B e sz n : Nat} {v : Value} {vs : List Value} (h : W.ownsRow B e sz v n vs) : ∃ lo m c, v = .slice lo m c := by
  rcases h.2 with ⟨rfl, _⟩ | ⟨g, cap, cur, rfl, _⟩
  · exact ⟨_, _, _, rfl⟩
  · exact ⟨_, _, _, rfl⟩
theorem ws_room {i q : Nat} (h : q * 24 ≤ 140737490000000) (hi : i < q) : (0 + i ≤ maxLen ∧ (0 + i + (0 + i) / 4 + 192) * 24 ≤ 281474976710656) ∧ (i + (q - (i + 1)) ≤ maxLen ∧ (i + (q - (i + 1)) + (i + (q - (i + 1))) / 4 + 192) * 24 ≤ 281474976710656) := by
  refine ⟨⟨Nat.le_trans (m := 35184372088832) (by omega) (by decide), by omega⟩, Nat.le_trans (m := 35184372088832) (by omega) (by decide), by omega⟩
set_option maxRecDepth 20000 in
set_option maxHeartbeats 4000000 in
theorem start_any {w : World} {B b : Nat} {lo ro : Option Addr} {cl cr : Nat} {sv : Value} {now : Int} {s : Ps} {l : List Wt} (h : Rd B b lo ro cl cr sv now s l w) (hB : B ≤ w.heap.size) {i : Nat} {x : Wt} (hi : l[i]? = some x)
    (hn0 : 0 ≤ now) (hn1 : now ≤ 2199023255552) (hx : 1 ≤ x.nd ∧ x.nd ≤ s.fr ∧ 1 ≤ x.lm ∧ x.lm ≤ 1048576) (hf : s.fr ≤ 256) (hst : s.st.length ≤ 256) (hrs : s.rs.length * 16 ≤ 140737488359424) (hll : l.length * 24 ≤ 140737490000000) :
    Calls Try.prog 24 #[.pointer (some ⟨b, 0, none⟩), .int .i64 i] w fun e w' => e = .returned (.tuple #[]) ∧ ∃ lo' ro' cl' cr' sv', Rd B b lo' ro' cl' cr' sv' now (stV now s x) (l.eraseIdx i) w' ∧ Below B w w' := by
  have hil : i < l.length := (List.getElem?_eq_some_iff.1 hi).1
  obtain ⟨q, hq⟩ : ∃ q, l.length = q := ⟨_, rfl⟩
  have HQ : Hid (l.length = q) := hq
  obtain ⟨g, o, hg, hc⟩ := h.left.wants
  obtain rfl := hg (by omega)
  obtain ⟨c0, c1, c2⟩ := hc i x hi
  have b2 := cells_at h.blk (k := 2) rfl
  rw [hq] at b2 hil hll
  have HR : Hid (Rd B b (some ⟨g, o, none⟩) ro cl cr sv now s l w) := h
  clear h hg hc hq
  go_enter Try.func24, Try.ntmps24
  go_upto_region 1 with fail
  obtain ⟨zx, hzx⟩ : ∃ zx, w.heap.size = zx := ⟨_, rfl⟩
  obtain ⟨W1, hW1⟩ : ∃ W1, w.alloc (.cells #[.int .i64 x.job, .int .i64 x.nd, .int .i64 x.lm] 40) = W1 := ⟨_, rfl⟩
  have bw1 : Below w.heap.size w W1 := by rw [← hW1]; exact (Below.refl _ w).alloc (Nat.le_refl _) _
  have hb1 : W1.heap[zx]? = some (.cells #[.int .i64 x.job, .int .i64 x.nd, .int .i64 x.lm] 40 (0, 0)) := by rw [← hW1, ← hzx]; exact heap_alloc_new w _
  try rw [hW1]
  try rw [hzx]
  have HR1 : Hid (Rd B b (some ⟨g, o, none⟩) ro cl cr sv now s l W1) := HR.out.below bw1 hB
  have HB1 : Hid (Below B w W1) := bw1.mono hB
  have hB1 : B ≤ W1.heap.size := Nat.le_trans hB bw1.size
  have HX1 : Hid (W1.heap[zx]? = some (.cells #[.int .i64 x.job, .int .i64 x.nd, .int .i64 x.lm] 40 (0, 0))) := hb1
  have k0 : W1.cell? ⟨zx, 0, none⟩ = some (.int .i64 x.job) := cells_at hb1 rfl
  have m4 : W1.cell? ⟨b, 4, none⟩ = some sv := cells_at HR1.out.blk rfl
  have srow : W1.ownsRow B 3 1 sv s.st.length (jobsV s.st) := HR1.out.starts
  have ag2 : sv.ownBlock ≠ some zx := fun e => by obtain ⟨_, cs, hk⟩ := row_tag srow e; exact tag_ne hk hb1 (by decide) rfl
  have hbz : zx < W1.heap.size := lt_of_blk hb1
  have hbx : b ≠ zx := tag_ne HR1.out.blk hb1 (by decide)
  obtain ⟨i0, hi0, hz0, hzz1, hz2⟩ := info_parts Try.infJ
  clear bw1 hb1 hW1 hzx c0 c1 c2 b2 HR
  go_cut [] (fun wd => ∃ sv', Rd B b (some ⟨g, o, none⟩) ro cl cr sv' now ⟨s.fr, s.rs, s.st ++ [x]⟩ l wd ∧ Below B w wd ∧ wd.heap[zx]? = some (.cells #[.int .i64 x.job, .int .i64 x.nd, .int .i64 x.lm] 40 (0, 0)))
  case first =>
    refine wp_region_last (S := (fun x' : World => x'.cell? ⟨zx, 0, none⟩ = some (.int .i64 x.job) ∧ x'.cell? ⟨b, 4, none⟩ = some sv)) (L := 11) (by kernel_rfl) ?_
    have HS0 : (fun x' : World => x'.cell? ⟨zx, 0, none⟩ = some (.int .i64 x.job) ∧ x'.cell? ⟨b, 4, none⟩ = some sv) W1.drew := ⟨k0, m4⟩
    refine last_take (i := 0) (v := ?v0a) rfl (by kernel_rfl) (by kernel_rfl) (by kernel_rfl) (by kernel_rfl) rfl (fun _ _ _ h => h) (by rfl) HS0 ?hy0a ?rest0a
    case hy0a =>
      intro xx hSx
      obtain ⟨s1, s2⟩ := hSx
      go_simp
      try (with_reducible rfl)
    simp only [Act.put, List.setIfInBounds_toArray, List.set_cons_zero, List.set_cons_succ]
    refine last_take (i := 1) (v := ?v1a) rfl (by kernel_rfl) (by kernel_rfl) (by kernel_rfl) (by kernel_rfl) rfl (fun _ _ _ h => h) (by rfl) HS0 ?hy1a ?rest1a
    case hy1a =>
      intro xx hSx
      obtain ⟨s1, s2⟩ := hSx
      go_simp
      try (with_reducible rfl)
    simp only [Act.put, List.setIfInBounds_toArray, List.set_cons_zero, List.set_cons_succ]
    refine last_take (i := 2) (v := ?v2a) rfl (by kernel_rfl) (by kernel_rfl) (by kernel_rfl) (by kernel_rfl) rfl (fun _ _ _ h => h) (by rfl) HS0 ?hy2a ?rest2a
    case hy2a =>
      intro xx hSx
      obtain ⟨s1, s2⟩ := hSx
      go_simp
      try (with_reducible rfl)
    simp only [Act.put, List.setIfInBounds_toArray, List.set_cons_zero, List.set_cons_succ]
    refine last_take (i := 3) (v := ?v3a) rfl (by kernel_rfl) (by kernel_rfl) (by kernel_rfl) (by kernel_rfl) rfl (fun _ _ _ h => h) (by rfl) HS0 ?hy3a ?rest3a
    case hy3a =>
      intro xx hSx
      obtain ⟨s1, s2⟩ := hSx
      go_simp
      try (with_reducible rfl)
    simp only [Act.put, List.setIfInBounds_toArray, List.set_cons_zero, List.set_cons_succ]
    refine last_take (i := 4) (v := ?v4a) rfl (by kernel_rfl) (by kernel_rfl) (by kernel_rfl) (by kernel_rfl) rfl (fun _ _ _ h => h) (by rfl) HS0 ?hy4a ?rest4a
    case hy4a =>
      intro xx hSx
      obtain ⟨s1, s2⟩ := hSx
      go_simp
      try (with_reducible rfl)
    simp only [Act.put, List.setIfInBounds_toArray, List.set_cons_zero, List.set_cons_succ]
    refine last_take (i := 5) (v := ?v5a) rfl (by kernel_rfl) (by kernel_rfl) (by kernel_rfl) (by kernel_rfl) rfl (fun _ _ _ h => h) (by rfl) HS0 ?hy5a ?rest5a
    case hy5a =>
      intro xx hSx
      obtain ⟨s1, s2⟩ := hSx
      go_simp
      try (with_reducible rfl)
    simp only [Act.put, List.setIfInBounds_toArray, List.set_cons_zero, List.set_cons_succ]
    refine last_take (i := 6) (v := ?v6a) rfl (by kernel_rfl) (by kernel_rfl) (by kernel_rfl) (by kernel_rfl) rfl (fun _ _ _ h => h) (by rfl) HS0 ?hy6a ?rest6a
    case hy6a =>
      intro xx hSx
      obtain ⟨s1, s2⟩ := hSx
      go_simp
      try (with_reducible rfl)
    simp only [Act.put, List.setIfInBounds_toArray, List.set_cons_zero, List.set_cons_succ]
    refine last_one (i := 7) (by kernel_rfl) rfl ?_
    intro K1 hK1
    go_simp
    have HS1 : (fun x' : World => x'.cell? ⟨zx, 0, none⟩ = some (.int .i64 x.job) ∧ x'.cell? ⟨b, 4, none⟩ = some sv) (W1.drew.alloc (.cells #[.int .i64 x.job] 3)) := ⟨cell_al k0 _, cell_al m4 _⟩
    refine hK1.out _ _ (fun _ => HS1) (fun _ => ?_)
    clear hK1 K1
    refine last_one (i := 8) (by kernel_rfl) rfl ?_
    intro K2 hK2
    refine step_append_lies _ (by rfl) _ _ _ (by rfl) B 3 i0 _ 1 8 Try.underlying28 hi0 hz0 hzz1 hz2 rfl (by omega) sv s.st.length (jobsV s.st) (by rfl) (World.ownsRow.alloc (w := W1.drew) srow _) ⟨W1.heap.size, 0, none⟩ 1 1 [.int .i64 x.job] (by rfl) (by rfl) (World.news_of_block (cs := #[.int .i64 x.job]) (t := 3) (fr := (0, 0)) (heap_alloc_new W1.drew _)) (by simp [Value.oneCell']) (by omega) (Nat.le_trans (m := 35184372088832) (by omega) (by decide)) (by omega) (by simp; omega) (W1.heap.size + 1) (by simp) ?_
    intro gg cap w1 hown1 hgrow hat hlt
    obtain ⟨z1, z3, z4⟩ := HR1.out.told (x := x) hB1 hown1 hgrow
    have hzk : w1.heap[zx]? = some (.cells #[.int .i64 x.job, .int .i64 x.nd, .int .i64 x.lm] 40 (0, 0)) := (hgrow.block zx (by show zx < (W1.alloc _).heap.size; simp; omega) (Ne.symm ag2)).trans ((Below.heap_alloc _ _ _ hbz).trans HX1.out)
    have HZK : Hid (w1.heap[zx]? = some (.cells #[.int .i64 x.job, .int .i64 x.nd, .int .i64 x.lm] 40 (0, 0))) := hzk
    have HS2 : (fun x' : World => x'.cell? ⟨zx, 0, none⟩ = some (.int .i64 x.job) ∧ x'.cell? ⟨b, 4, none⟩ = some sv) w1 := ⟨cells_at hzk rfl, z3⟩
    have Z1 : Hid _ := z1
    have Z2 : Hid (Below B w w1) := (HB1.out.drew.alloc (by simpa using hB1) _).grown hgrow (by simp; omega) (fun k e => (row_tag srow e).1)
    refine hK2.out _ _ (fun _ => HS2) (fun _ => ?_)
    clear hK2 K2 z1 hown1 hgrow hat HS1 HS0 hzk
    refine last_one (i := 9) (by kernel_rfl) rfl ?_
    intro K9 hK9
    go_simp
    refine hK9.out _ _ (fun _ => HS2) (fun _ => ?_)
    clear hK9 K9
    refine last_one (i := 10) (by kernel_rfl) rfl ?_
    intro K9 hK9
    go_simp
    refine hK9.out _ _ (fun _ => HS2) (fun _ => ?_)
    clear hK9 K9
    refine last_one (i := 11) (by kernel_rfl) rfl ?_
    intro K3 hK3
    go_simp
    refine hK3.out _ _ (fun h => absurd rfl h) (fun _ => ?_)
    clear hK3 K3
    refine last_done (by kernel_rfl) ?_ _
    go_wp2
    go_meet
    exact ⟨_, Z1.out, Z2.out.setCell (p := ⟨b, 4, none⟩) HR1.out.low _, (Below.heap_setCell _ _ _ _ (Ne.symm hbx)).trans HZK.out⟩
  case rest =>
    obtain ⟨sv1, hR2, hB2, hx2⟩ := hcut
    clear k0 m4 srow ag2 hbz hbx i0 hi0 hz0 hzz1 hz2 HR1 HB1 HX1 hB1
    have HR2 : Hid (Rd B b (some ⟨g, o, none⟩) ro cl cr sv1 now ⟨s.fr, s.rs, s.st ++ [x]⟩ l wc) := hR2
    have HB2 : Hid (Below B w wc) := hB2
    have HX2 : Hid (wc.heap[zx]? = some (.cells #[.int .i64 x.job, .int .i64 x.nd, .int .i64 x.lm] 40 (0, 0))) := hx2
    have k1 : wc.cell? ⟨zx, 1, none⟩ = some (.int .i64 x.nd) := cells_at hx2 rfl
    have m1 : wc.cell? ⟨b, 1, none⟩ = some (.int .i64 s.fr) := cells_at hR2.blk rfl
    have f1 : wc.frozen? ⟨b, 1, none⟩ = false := frozen_at hR2.blk
    have hbx : b ≠ zx := tag_ne hR2.blk hx2 (by decide)
    clear hR2 hB2 hx2
    go_upto_region 2 with fail
    go_cut [] (fun wd => Rd B b (some ⟨g, o, none⟩) ro cl cr sv1 now ⟨s.fr - x.nd, s.rs, s.st ++ [x]⟩ l wd ∧ Below B w wd ∧ wd.heap[zx]? = some (.cells #[.int .i64 x.job, .int .i64 x.nd, .int .i64 x.lm] 40 (0, 0)))
    case first =>
      refine wp_region_last (S := (fun x' : World => x'.cell? ⟨zx, 1, none⟩ = some (.int .i64 x.nd) ∧ x'.cell? ⟨b, 1, none⟩ = some (.int .i64 s.fr))) (L := 10) (by kernel_rfl) ?_
      have HS0 : (fun x' : World => x'.cell? ⟨zx, 1, none⟩ = some (.int .i64 x.nd) ∧ x'.cell? ⟨b, 1, none⟩ = some (.int .i64 s.fr)) wc.drew := ⟨k1, m1⟩
      refine last_take (i := 0) (v := ?v0b) rfl (by kernel_rfl) (by kernel_rfl) (by kernel_rfl) (by kernel_rfl) rfl (fun _ _ _ h => h) (by rfl) HS0 ?hy0b ?rest0b
      case hy0b =>
        intro xx hSx
        obtain ⟨s1, s2⟩ := hSx
        go_simp
        try (with_reducible rfl)
      simp only [Act.put, List.setIfInBounds_toArray, List.set_cons_zero, List.set_cons_succ]
      refine last_take (i := 1) (v := ?v1b) rfl (by kernel_rfl) (by kernel_rfl) (by kernel_rfl) (by kernel_rfl) rfl (fun _ _ _ h => h) (by rfl) HS0 ?hy1b ?rest1b
      case hy1b =>
        intro xx hSx
        obtain ⟨s1, s2⟩ := hSx
        go_simp
        try (with_reducible rfl)
      simp only [Act.put, List.setIfInBounds_toArray, List.set_cons_zero, List.set_cons_succ]
      refine last_take (i := 2) (v := ?v2b) rfl (by kernel_rfl) (by kernel_rfl) (by kernel_rfl) (by kernel_rfl) rfl (fun _ _ _ h => h) (by rfl) HS0 ?hy2b ?rest2b
      case hy2b =>
        intro xx hSx
        obtain ⟨s1, s2⟩ := hSx
        go_simp
        try (with_reducible rfl)
      simp only [Act.put, List.setIfInBounds_toArray, List.set_cons_zero, List.set_cons_succ]
      refine last_take (i := 3) (v := ?v3b) rfl (by kernel_rfl) (by kernel_rfl) (by kernel_rfl) (by kernel_rfl) rfl (fun _ _ _ h => h) (by rfl) HS0 ?hy3b ?rest3b
      case hy3b =>
        intro xx hSx
        obtain ⟨s1, s2⟩ := hSx
        go_simp
        try (with_reducible rfl)
      simp only [Act.put, List.setIfInBounds_toArray, List.set_cons_zero, List.set_cons_succ]
      refine last_take (i := 4) (v := ?v4b) rfl (by kernel_rfl) (by kernel_rfl) (by kernel_rfl) (by kernel_rfl) rfl (fun _ _ _ h => h) (by rfl) HS0 ?hy4b ?rest4b
      case hy4b =>
        intro xx hSx
        obtain ⟨s1, s2⟩ := hSx
        go_simp
        try (with_reducible rfl)
      simp only [Act.put, List.setIfInBounds_toArray, List.set_cons_zero, List.set_cons_succ]
      refine last_take (i := 5) (v := ?v5b) rfl (by kernel_rfl) (by kernel_rfl) (by kernel_rfl) (by kernel_rfl) rfl (fun _ _ _ h => h) (by rfl) HS0 ?hy5b ?rest5b
      case hy5b =>
        intro xx hSx
        obtain ⟨s1, s2⟩ := hSx
        go_simp
        try (with_reducible rfl)
      simp only [Act.put, List.setIfInBounds_toArray, List.set_cons_zero, List.set_cons_succ]
      refine last_take (i := 6) (v := ?v6b) rfl (by kernel_rfl) (by kernel_rfl) (by kernel_rfl) (by kernel_rfl) rfl (fun _ _ _ h => h) (by rfl) HS0 ?hy6b ?rest6b
      case hy6b =>
        intro xx hSx
        obtain ⟨s1, s2⟩ := hSx
        go_simp
        try (with_reducible rfl)
      simp only [Act.put, List.setIfInBounds_toArray, List.set_cons_zero, List.set_cons_succ]
      refine last_take (i := 7) (v := ?v7b) rfl (by kernel_rfl) (by kernel_rfl) (by kernel_rfl) (by kernel_rfl) rfl (fun _ _ _ h => h) (by rfl) HS0 ?hy7b ?rest7b
      case hy7b =>
        intro xx hSx
        obtain ⟨s1, s2⟩ := hSx
        go_simp
        try (with_reducible rfl)
      simp only [Act.put, List.setIfInBounds_toArray, List.set_cons_zero, List.set_cons_succ]
      refine last_one (i := 8) (by kernel_rfl) rfl ?_
      intro K9 hK9
      go_simp
      refine hK9.out _ _ (fun _ => HS0) (fun _ => ?_)
      clear hK9 K9
      refine last_one (i := 9) (by kernel_rfl) rfl ?_
      intro K9 hK9
      go_simp
      refine hK9.out _ _ (fun _ => HS0) (fun _ => ?_)
      clear hK9 K9
      refine last_one (i := 10) (by kernel_rfl) rfl ?_
      intro K3 hK3
      go_simp
      refine hK3.out _ _ (fun h => absurd rfl h) (fun _ => ?_)
      clear hK3 K3
      refine last_done (by kernel_rfl) ?_ _
      go_wp2
      go_meet
      have e9 : IntKind.i64.wrap (s.fr - x.nd) = s.fr - x.nd := by rw [IntKind.wrap_i64]; omega
      rw [e9]
      exact ⟨(HR2.out.paid _).below ((Below.refl _ _).drew) (by have := HB2.out.size; simp; omega), (HB2.out.setCell (p := ⟨b, 1, none⟩) HR2.out.low _).drew, (Below.heap_setCell _ _ _ _ (Ne.symm hbx)).trans HX2.out⟩
    case rest =>
      obtain ⟨hR3, hB3, hx3⟩ := hcut
      have HR3 : Hid (Rd B b (some ⟨g, o, none⟩) ro cl cr sv1 now ⟨s.fr - x.nd, s.rs, s.st ++ [x]⟩ l wc) := hR3
      have HB3 : Hid (Below B w wc) := hB3
      have HX3 : Hid (wc.heap[zx]? = some (.cells #[.int .i64 x.job, .int .i64 x.nd, .int .i64 x.lm] 40 (0, 0))) := hx3
      have k1 : wc.cell? ⟨zx, 1, none⟩ = some (.int .i64 x.nd) := cells_at hx3 rfl
      have k2 : wc.cell? ⟨zx, 2, none⟩ = some (.int .i64 x.lm) := cells_at hx3 rfl
      have m0 : wc.cell? ⟨b, 0, none⟩ = some (.int .i64 now) := cells_at hR3.blk rfl
      have m3 : wc.cell? ⟨b, 3, none⟩ = some (.slice ro s.rs.length cr) := cells_at hR3.blk rfl
      have hBw : B ≤ wc.heap.size := Nat.le_trans hB hB3.size
      have HWR : Hid (IntKind.i64.wrap (now + x.lm) = now + x.lm) := by show IntKind.i64.wrap (now + x.lm) = now + x.lm; rw [IntKind.wrap_i64]; omega
      obtain ⟨i1, hi1, hy0, hy1, hy2⟩ := info_parts Try.inf45
      have HRN : Hid (∀ y, Below wc.heap.size wc y → ∀ ad, ro = some ad → ∀ j u, (flatR s.rs)[j]? = some u → y.cell? (ad.add j) = some u) := fun y hy ad had j u hu => by
        have hra := (HR3.out.runs.runs).below hy
        obtain ⟨g9, o9, h9, k9⟩ := hra
        have hjl := (List.getElem?_eq_some_iff.1 hu).1
        rw [flatR_len] at hjl
        have e9 := h9 (by show 0 < s.rs.length; omega)
        rw [had] at e9
        obtain rfl := Option.some.inj e9
        exact flatR_cell k9 j u hu
      have HRL : Hid ((flatR s.rs).length = s.rs.length * 2) := flatR_len s.rs
      have hrnil : ro = none → s.rs.length = 0 ∧ cr = 0 := HR3.out.rnil
      obtain ⟨hb1, hb2, hm1, hm2⟩ := rs_room hrs
      have HFIN : Hid (∀ y gg cap, Below wc.heap.size wc y → y.ownsRow wc.heap.size 45 2 (.slice (some ⟨gg, 0, none⟩) (s.rs.length + 1) cap) (s.rs.length + 1) (flatR s.rs ++ [.int .i64 x.nd, .int .i64 (now + x.lm)]) →
          (∃ ro' cr', Rd B b (some ⟨g, o, none⟩) ro' cl cr' sv1 now (stV now s x) l (y.setCell ⟨b, 3, none⟩ (.slice (some ⟨gg, 0, none⟩) (s.rs.length + 1) cap))) ∧ Below B w (y.setCell ⟨b, 3, none⟩ (.slice (some ⟨gg, 0, none⟩) (s.rs.length + 1) cap)) ∧ (y.setCell ⟨b, 3, none⟩ (.slice (some ⟨gg, 0, none⟩) (s.rs.length + 1) cap)).heap[zx]? = some (.cells #[.int .i64 x.job, .int .i64 x.nd, .int .i64 x.lm] 40 (0, 0))) := fun y gg cap hy ho => by
        have h1 := HR3.out.below hy hBw
        have h2 : y.ownsRow wc.heap.size 45 2 (.slice (some ⟨gg, 0, none⟩) (s.rs.length + 1) cap) (s.rs ++ [rOf now x]).length (flatR (s.rs ++ [rOf now x])) := by rw [List.length_append, flatR_snoc]; exact ho
        obtain ⟨ro', cr', e, hr, hc, hn⟩ := RunL.row (B := B) h2
        have e2 := e
        rw [show (s.rs ++ [rOf now x]).length = s.rs.length + 1 by simp] at e2
        rw [e2]
        refine ⟨⟨ro', cr', ?_⟩, ?_, ?_⟩
        · have h3 := h1.ran hr hn
          rw [show (s.rs ++ [rOf now x]).length = s.rs.length + 1 by simp] at h3
          exact h3
        · exact (HB3.out.trans (hy.mono hBw)).setCell (p := ⟨b, 3, none⟩) HR3.out.low _
        · exact (Below.heap_setCell _ _ _ _ (Ne.symm hbx)).trans (bk hy HX3.out)
      clear hR3 hB3 hx3
      go_upto_region 3 with fail
      go_cut [] (fun wd => (∃ ro' cr', Rd B b (some ⟨g, o, none⟩) ro' cl cr' sv1 now (stV now s x) l wd) ∧ Below B w wd ∧ wd.heap[zx]? = some (.cells #[.int .i64 x.job, .int .i64 x.nd, .int .i64 x.lm] 40 (0, 0)))
      case first =>
        have hwr := HWR.out
        refine wp_region_last (S := (fun x' : World => x'.cell? ⟨zx, 1, none⟩ = some (.int .i64 x.nd) ∧ x'.cell? ⟨zx, 2, none⟩ = some (.int .i64 x.lm) ∧ x'.cell? ⟨b, 0, none⟩ = some (.int .i64 now) ∧ x'.cell? ⟨b, 3, none⟩ = some (.slice ro s.rs.length cr))) (L := 21) (by kernel_rfl) ?_
        have HSB : Hid (∀ y, Below wc.heap.size wc y → (fun x' : World => x'.cell? ⟨zx, 1, none⟩ = some (.int .i64 x.nd) ∧ x'.cell? ⟨zx, 2, none⟩ = some (.int .i64 x.lm) ∧ x'.cell? ⟨b, 0, none⟩ = some (.int .i64 now) ∧ x'.cell? ⟨b, 3, none⟩ = some (.slice ro s.rs.length cr)) y) := fun y hy => ⟨(hy.cell (World.block_lt_of_cell? _ _ k1)).trans k1, (hy.cell (World.block_lt_of_cell? _ _ k2)).trans k2, (hy.cell (World.block_lt_of_cell? _ _ m0)).trans m0, (hy.cell (World.block_lt_of_cell? _ _ m3)).trans m3⟩
        have HD0 : Hid (Below wc.heap.size wc wc.drew) := (Below.refl _ _).drew
        have HS0 := HSB.out _ HD0.out
        refine last_take (i := 0) (v := ?v0c) rfl (by kernel_rfl) (by kernel_rfl) (by kernel_rfl) (by kernel_rfl) rfl (fun _ _ _ h => h) (by rfl) HS0 ?hy0c ?rest0c
        case hy0c =>
          intro xx hSx
          obtain ⟨s1, s2, s3, s4⟩ := hSx
          go_simp
          try (with_reducible rfl)
        simp only [Act.put, List.setIfInBounds_toArray, List.set_cons_zero, List.set_cons_succ]
        refine last_take (i := 2) (v := ?v2c) rfl (by kernel_rfl) (by kernel_rfl) (by kernel_rfl) (by kernel_rfl) rfl (fun _ _ _ h => h) (by rfl) HS0 ?hy2c ?rest2c
        case hy2c =>
          intro xx hSx
          obtain ⟨s1, s2, s3, s4⟩ := hSx
          go_simp
          try (with_reducible rfl)
        simp only [Act.put, List.setIfInBounds_toArray, List.set_cons_zero, List.set_cons_succ]
        refine last_take (i := 3) (v := ?v3c) rfl (by kernel_rfl) (by kernel_rfl) (by kernel_rfl) (by kernel_rfl) rfl (fun _ _ _ h => h) (by rfl) HS0 ?hy3c ?rest3c
        case hy3c =>
          intro xx hSx
          obtain ⟨s1, s2, s3, s4⟩ := hSx
          go_simp
          try (with_reducible rfl)
        simp only [Act.put, List.setIfInBounds_toArray, List.set_cons_zero, List.set_cons_succ]
        refine last_take (i := 4) (v := ?v4c) rfl (by kernel_rfl) (by kernel_rfl) (by kernel_rfl) (by kernel_rfl) rfl (fun _ _ _ h => h) (by rfl) HS0 ?hy4c ?rest4c
        case hy4c =>
          intro xx hSx
          obtain ⟨s1, s2, s3, s4⟩ := hSx
          go_simp
          try (with_reducible rfl)
        simp only [Act.put, List.setIfInBounds_toArray, List.set_cons_zero, List.set_cons_succ]
        refine last_take (i := 5) (v := ?v5c) rfl (by kernel_rfl) (by kernel_rfl) (by kernel_rfl) (by kernel_rfl) rfl (fun _ _ _ h => h) (by rfl) HS0 ?hy5c ?rest5c
        case hy5c =>
          intro xx hSx
          obtain ⟨s1, s2, s3, s4⟩ := hSx
          go_simp
          try (with_reducible rfl)
        simp only [Act.put, List.setIfInBounds_toArray, List.set_cons_zero, List.set_cons_succ]
        refine last_take (i := 7) (v := ?v7c) rfl (by kernel_rfl) (by kernel_rfl) (by kernel_rfl) (by kernel_rfl) rfl (fun _ _ _ h => h) (by rfl) HS0 ?hy7c ?rest7c
        case hy7c =>
          intro xx hSx
          obtain ⟨s1, s2, s3, s4⟩ := hSx
          go_simp
          try (with_reducible rfl)
        simp only [Act.put, List.setIfInBounds_toArray, List.set_cons_zero, List.set_cons_succ]
        refine last_take (i := 8) (v := ?v8c) rfl (by kernel_rfl) (by kernel_rfl) (by kernel_rfl) (by kernel_rfl) rfl (fun _ _ _ h => h) (by rfl) HS0 ?hy8c ?rest8c
        case hy8c =>
          intro xx hSx
          obtain ⟨s1, s2, s3, s4⟩ := hSx
          go_simp
          try (with_reducible rfl)
        simp only [Act.put, List.setIfInBounds_toArray, List.set_cons_zero, List.set_cons_succ]
        refine last_take (i := 9) (v := ?v9c) rfl (by kernel_rfl) (by kernel_rfl) (by kernel_rfl) (by kernel_rfl) rfl (fun _ _ _ h => h) (by rfl) HS0 ?hy9c ?rest9c
        case hy9c =>
          intro xx hSx
          obtain ⟨s1, s2, s3, s4⟩ := hSx
          go_simp
          try (with_reducible rfl)
        simp only [Act.put, List.setIfInBounds_toArray, List.set_cons_zero, List.set_cons_succ]
        refine last_take (i := 10) (v := ?v10c) rfl (by kernel_rfl) (by kernel_rfl) (by kernel_rfl) (by kernel_rfl) rfl (fun _ _ _ h => h) (by rfl) HS0 ?hy10c ?rest10c
        case hy10c =>
          intro xx hSx
          obtain ⟨s1, s2, s3, s4⟩ := hSx
          go_simp
          try (with_reducible rfl)
        simp only [Act.put, List.setIfInBounds_toArray, List.set_cons_zero, List.set_cons_succ]
        refine last_take (i := 11) (v := ?v11c) rfl (by kernel_rfl) (by kernel_rfl) (by kernel_rfl) (by kernel_rfl) rfl (fun _ _ _ h => h) (by rfl) HS0 ?hy11c ?rest11c
        case hy11c =>
          intro xx hSx
          obtain ⟨s1, s2, s3, s4⟩ := hSx
          go_simp
          try (with_reducible rfl)
        simp only [Act.put, List.setIfInBounds_toArray, List.set_cons_zero, List.set_cons_succ]
        refine last_take (i := 12) (v := ?v12c) rfl (by kernel_rfl) (by kernel_rfl) (by kernel_rfl) (by kernel_rfl) rfl (fun _ _ _ h => h) (by rfl) HS0 ?hy12c ?rest12c
        case hy12c =>
          intro xx hSx
          obtain ⟨s1, s2, s3, s4⟩ := hSx
          go_simp
          try (with_reducible rfl)
        simp only [Act.put, List.setIfInBounds_toArray, List.set_cons_zero, List.set_cons_succ]
        refine last_take (i := 13) (v := ?v13c) rfl (by kernel_rfl) (by kernel_rfl) (by kernel_rfl) (by kernel_rfl) rfl (fun _ _ _ h => h) (by rfl) HS0 ?hy13c ?rest13c
        case hy13c =>
          intro xx hSx
          obtain ⟨s1, s2, s3, s4⟩ := hSx
          go_simp
          try (with_reducible rfl)
        simp only [Act.put, List.setIfInBounds_toArray, List.set_cons_zero, List.set_cons_succ]
        refine last_take (i := 14) (v := ?v14c) rfl (by kernel_rfl) (by kernel_rfl) (by kernel_rfl) (by kernel_rfl) rfl (fun _ _ _ h => h) (by rfl) HS0 ?hy14c ?rest14c
        case hy14c =>
          intro xx hSx
          obtain ⟨s1, s2, s3, s4⟩ := hSx
          go_simp
          try (with_reducible rfl)
        simp only [Act.put, List.setIfInBounds_toArray, List.set_cons_zero, List.set_cons_succ]
        refine last_take (i := 15) (v := ?v15c) rfl (by kernel_rfl) (by kernel_rfl) (by kernel_rfl) (by kernel_rfl) rfl (fun _ _ _ h => h) (by rfl) HS0 ?hy15c ?rest15c
        case hy15c =>
          intro xx hSx
          obtain ⟨s1, s2, s3, s4⟩ := hSx
          go_simp
          try (with_reducible rfl)
        simp only [Act.put, List.setIfInBounds_toArray, List.set_cons_zero, List.set_cons_succ]
        refine last_take (i := 16) (v := ?v16c) rfl (by kernel_rfl) (by kernel_rfl) (by kernel_rfl) (by kernel_rfl) rfl (fun _ _ _ h => h) (by rfl) HS0 ?hy16c ?rest16c
        case hy16c =>
          intro xx hSx
          obtain ⟨s1, s2, s3, s4⟩ := hSx
          go_simp
          try (with_reducible rfl)
        simp only [Act.put, List.setIfInBounds_toArray, List.set_cons_zero, List.set_cons_succ]
        clear hwr
        refine last_two (i := 1) (j := 17) (by kernel_rfl) rfl rfl ?_ ?_
        · intro K1 hK1
          go_simp
          have Hwb : Hid (Below wc.heap.size wc (wc.drew.alloc (.cells #[] 45))) := HD0.out.alloc (Nat.le_refl _) _
          refine hK1.out _ _ (fun _ => HSB.out _ Hwb.out) (fun _ => ?_)
          clear hK1 K1
          refine last_two (i := 6) (j := 17) (by kernel_rfl) rfl rfl ?_ ?_
          · intro K2 hK2
            refine step_append_any (by rfl) _ _ _ (by rfl) wc.heap.size 45 i1 _ 2 16 Try.underlying23 hi1 hy0 hy1 hy2 rfl (by omega) _ 0 [] (by rfl) (made0 wc.drew 45 2) ro s.rs.length cr (flatR s.rs) (by rfl) hrnil HRL.out (HRN.out _ Hwb.out) (flatR_one _) hm1 hb1 Hwb.out.size ?_
            intro v3 w3 hr3 hg3
            rw [Nat.zero_add, List.nil_append] at hr3
            have Hw3 : Hid (Below wc.heap.size wc w3) := Hwb.out.grown hg3 Hwb.out.size (fun k e => (row_tag (made0 wc.drew 45 2) e).1)
            have HRW : Hid (w3.ownsRow wc.heap.size 45 2 v3 s.rs.length (flatR s.rs)) := hr3
            refine hK2.out _ _ (fun _ => HSB.out _ Hw3.out) (fun _ => ?_)
            clear hK2 K2 hr3 hg3
            refine last_one (i := 17) (by kernel_rfl) rfl ?_
            intro K4 hK4
            go_simp
            have Hw4 : Hid (Below wc.heap.size wc (w3.alloc (.cells #[.int .i64 x.nd, .int .i64 (now + x.lm)] 45))) := Hw3.out.alloc Hw3.out.size _
            refine hK4.out _ _ (fun _ => HSB.out _ Hw4.out) (fun _ => ?_)
            clear hK4 K4
            refine last_one (i := 18) (by kernel_rfl) rfl ?_
            intro K5 hK5
            refine step_append_wide (by rfl) _ _ _ (by rfl) wc.heap.size 45 i1 _ 2 16 Try.underlying23 hi1 hy0 hy1 hy2 rfl (by omega) v3 s.rs.length (flatR s.rs) (by rfl) (World.ownsRow.alloc HRW.out _) ⟨w3.heap.size, 0, none⟩ 1 1 [.int .i64 x.nd, .int .i64 (now + x.lm)] (by rfl) (by rfl) (World.news_of_block (cs := #[.int .i64 x.nd, .int .i64 (now + x.lm)]) (t := 45) (fr := (0, 0)) (heap_alloc_new w3 _)) (by simp [Value.oneCell']) (by omega) hm2 hb2 Hw4.out.size ?_
            intro gg cap w9 hr9 hg9
            have H9 : Hid (Below wc.heap.size wc w9) := Hw4.out.grown hg9 Hw4.out.size (fun k e => (row_tag HRW.out e).1)
            have HF9 := HFIN.out w9 gg cap H9.out hr9
            have HS9 := HSB.out _ H9.out
            refine hK5.out _ _ (fun _ => HS9) (fun _ => ?_)
            clear hK5 K5 hr9 hg9
            have ff := frozen_at (HR3.out.below H9.out hBw).blk (k := 3)
            refine last_one (i := 19) (by kernel_rfl) rfl ?_
            intro K9 hK9
            go_simp
            refine hK9.out _ _ (fun _ => HS9) (fun _ => ?_)
            clear hK9 K9
            refine last_one (i := 20) (by kernel_rfl) rfl ?_
            intro K9 hK9
            go_simp
            refine hK9.out _ _ (fun _ => HS9) (fun _ => ?_)
            clear hK9 K9
            refine last_one (i := 21) (by kernel_rfl) rfl ?_
            intro K3 hK3
            go_simp
            refine hK3.out _ _ (fun h => absurd rfl h) (fun _ => ?_)
            clear hK3 K3
            refine last_done (by kernel_rfl) ?_ _
            go_wp2
            go_meet
            exact HF9
          · intro K2 hK2
            go_simp
            have Hw2 : Hid (Below wc.heap.size wc ((wc.drew.alloc (.cells #[] 45)).alloc (.cells #[.int .i64 x.nd, .int .i64 (now + x.lm)] 45))) := Hwb.out.alloc Hwb.out.size _
            refine hK2.out _ _ (fun _ => HSB.out _ Hw2.out) (fun _ => ?_)
            clear hK2 K2
            refine last_one (i := 6) (by kernel_rfl) rfl ?_
            intro K4 hK4
            have HR0 : Hid (((wc.drew.alloc (.cells #[] 45)).alloc (.cells #[.int .i64 x.nd, .int .i64 (now + x.lm)] 45)).ownsRow wc.heap.size 45 2 (.slice (some ⟨wc.heap.size, 0, none⟩) 0 0) 0 []) := World.ownsRow.alloc (made0 wc.drew 45 2) _
            refine step_append_any (by rfl) _ _ _ (by rfl) wc.heap.size 45 i1 _ 2 16 Try.underlying23 hi1 hy0 hy1 hy2 rfl (by omega) _ 0 [] (by rfl) (HR0.out) ro s.rs.length cr (flatR s.rs) (by rfl) hrnil HRL.out (HRN.out _ Hw2.out) (flatR_one _) hm1 hb1 Hw2.out.size ?_
            intro v3 w3 hr3 hg3
            rw [Nat.zero_add, List.nil_append] at hr3
            have Hw3 : Hid (Below wc.heap.size wc w3) := Hw2.out.grown hg3 Hw2.out.size (fun k e => (row_tag (HR0.out) e).1)
            have HRW : Hid (w3.ownsRow wc.heap.size 45 2 v3 s.rs.length (flatR s.rs)) := hr3
            have hnb : w3.heap[wc.heap.size + 1]? = some (.cells #[.int .i64 x.nd, .int .i64 (now + x.lm)] 45 (0, 0)) := (hg3.block _ (by simp) (fun e => by have e9 : wc.heap.size + 1 = wc.heap.size := Option.some.inj e; omega)).trans (by have h9 := heap_alloc_new (wc.drew.alloc (.cells #[] 45)) (.cells #[.int .i64 x.nd, .int .i64 (now + x.lm)] 45); rw [show (wc.drew.alloc (.cells #[] 45)).heap.size = wc.heap.size + 1 by simp] at h9; exact h9)
            refine hK4.out _ _ (fun _ => HSB.out _ Hw3.out) (fun _ => ?_)
            clear hK4 K4 hr3 hg3
            refine last_one (i := 18) (by kernel_rfl) rfl ?_
            intro K5 hK5
            refine step_append_wide (by rfl) _ _ _ (by rfl) wc.heap.size 45 i1 _ 2 16 Try.underlying23 hi1 hy0 hy1 hy2 rfl (by omega) v3 s.rs.length (flatR s.rs) (by rfl) (HRW.out) ⟨wc.heap.size + 1, 0, none⟩ 1 1 [.int .i64 x.nd, .int .i64 (now + x.lm)] (by rfl) (by rfl) (World.news_of_block (cs := #[.int .i64 x.nd, .int .i64 (now + x.lm)]) (t := 45) (fr := (0, 0)) (hnb)) (by simp [Value.oneCell']) (by omega) hm2 hb2 Hw3.out.size ?_
            intro gg cap w9 hr9 hg9
            have H9 : Hid (Below wc.heap.size wc w9) := Hw3.out.grown hg9 Hw3.out.size (fun k e => (row_tag HRW.out e).1)
            have HF9 := HFIN.out w9 gg cap H9.out hr9
            have HS9 := HSB.out _ H9.out
            refine hK5.out _ _ (fun _ => HS9) (fun _ => ?_)
            clear hK5 K5 hr9 hg9
            have ff := frozen_at (HR3.out.below H9.out hBw).blk (k := 3)
            refine last_one (i := 19) (by kernel_rfl) rfl ?_
            intro K9 hK9
            go_simp
            refine hK9.out _ _ (fun _ => HS9) (fun _ => ?_)
            clear hK9 K9
            refine last_one (i := 20) (by kernel_rfl) rfl ?_
            intro K9 hK9
            go_simp
            refine hK9.out _ _ (fun _ => HS9) (fun _ => ?_)
            clear hK9 K9
            refine last_one (i := 21) (by kernel_rfl) rfl ?_
            intro K3 hK3
            go_simp
            refine hK3.out _ _ (fun h => absurd rfl h) (fun _ => ?_)
            clear hK3 K3
            refine last_done (by kernel_rfl) ?_ _
            go_wp2
            go_meet
            exact HF9
        · intro K1 hK1
          go_simp
          have Hwb : Hid (Below wc.heap.size wc (wc.drew.alloc (.cells #[.int .i64 x.nd, .int .i64 (now + x.lm)] 45))) := HD0.out.alloc (Nat.le_refl _) _
          refine hK1.out _ _ (fun _ => HSB.out _ Hwb.out) (fun _ => ?_)
          clear hK1 K1
          refine last_one (i := 1) (by kernel_rfl) rfl ?_
          intro K2 hK2
          go_simp
          have Hw2 : Hid (Below wc.heap.size wc ((wc.drew.alloc (.cells #[.int .i64 x.nd, .int .i64 (now + x.lm)] 45)).alloc (.cells #[] 45))) := Hwb.out.alloc Hwb.out.size _
          refine hK2.out _ _ (fun _ => HSB.out _ Hw2.out) (fun _ => ?_)
          clear hK2 K2
          refine last_one (i := 6) (by kernel_rfl) rfl ?_
          intro K4 hK4
          have HR0 : Hid (((wc.drew.alloc (.cells #[.int .i64 x.nd, .int .i64 (now + x.lm)] 45)).alloc (.cells #[] 45)).ownsRow wc.heap.size 45 2 (.slice (some ⟨wc.heap.size + 1, 0, none⟩) 0 0) 0 []) := by
            have := own_base (made0 (wc.drew.alloc (.cells #[.int .i64 x.nd, .int .i64 (now + x.lm)] 45)) 45 2) Hwb.out.size
            rw [show (wc.drew.alloc (.cells #[.int .i64 x.nd, .int .i64 (now + x.lm)] 45)).heap.size = wc.heap.size + 1 by simp] at this
            exact this
          refine step_append_any (by rfl) _ _ _ (by rfl) wc.heap.size 45 i1 _ 2 16 Try.underlying23 hi1 hy0 hy1 hy2 rfl (by omega) _ 0 [] (by rfl) (HR0.out) ro s.rs.length cr (flatR s.rs) (by rfl) hrnil HRL.out (HRN.out _ Hw2.out) (flatR_one _) hm1 hb1 Hw2.out.size ?_
          intro v3 w3 hr3 hg3
          rw [Nat.zero_add, List.nil_append] at hr3
          have Hw3 : Hid (Below wc.heap.size wc w3) := Hw2.out.grown hg3 Hw2.out.size (fun k e => (row_tag (HR0.out) e).1)
          have HRW : Hid (w3.ownsRow wc.heap.size 45 2 v3 s.rs.length (flatR s.rs)) := hr3
          have hnb : w3.heap[wc.heap.size]? = some (.cells #[.int .i64 x.nd, .int .i64 (now + x.lm)] 45 (0, 0)) := (hg3.block _ (by simp; omega) (fun e => by have e9 : wc.heap.size = wc.heap.size + 1 := Option.some.inj e; omega)).trans ((Below.heap_alloc _ _ _ (by simp)).trans (heap_alloc_new wc.drew (.cells #[.int .i64 x.nd, .int .i64 (now + x.lm)] 45)))
          refine hK4.out _ _ (fun _ => HSB.out _ Hw3.out) (fun _ => ?_)
          clear hK4 K4 hr3 hg3
          refine last_one (i := 18) (by kernel_rfl) rfl ?_
          intro K5 hK5
          refine step_append_wide (by rfl) _ _ _ (by rfl) wc.heap.size 45 i1 _ 2 16 Try.underlying23 hi1 hy0 hy1 hy2 rfl (by omega) v3 s.rs.length (flatR s.rs) (by rfl) (HRW.out) ⟨wc.heap.size, 0, none⟩ 1 1 [.int .i64 x.nd, .int .i64 (now + x.lm)] (by rfl) (by rfl) (World.news_of_block (cs := #[.int .i64 x.nd, .int .i64 (now + x.lm)]) (t := 45) (fr := (0, 0)) (hnb)) (by simp [Value.oneCell']) (by omega) hm2 hb2 Hw3.out.size ?_
          intro gg cap w9 hr9 hg9
          have H9 : Hid (Below wc.heap.size wc w9) := Hw3.out.grown hg9 Hw3.out.size (fun k e => (row_tag HRW.out e).1)
          have HF9 := HFIN.out w9 gg cap H9.out hr9
          have HS9 := HSB.out _ H9.out
          refine hK5.out _ _ (fun _ => HS9) (fun _ => ?_)
          clear hK5 K5 hr9 hg9
          have ff := frozen_at (HR3.out.below H9.out hBw).blk (k := 3)
          refine last_one (i := 19) (by kernel_rfl) rfl ?_
          intro K9 hK9
          go_simp
          refine hK9.out _ _ (fun _ => HS9) (fun _ => ?_)
          clear hK9 K9
          refine last_one (i := 20) (by kernel_rfl) rfl ?_
          intro K9 hK9
          go_simp
          refine hK9.out _ _ (fun _ => HS9) (fun _ => ?_)
          clear hK9 K9
          refine last_one (i := 21) (by kernel_rfl) rfl ?_
          intro K3 hK3
          go_simp
          refine hK3.out _ _ (fun h => absurd rfl h) (fun _ => ?_)
          clear hK3 K3
          refine last_done (by kernel_rfl) ?_ _
          go_wp2
          go_meet
          exact HF9
      case rest =>
        obtain ⟨⟨ro4, cr4, hR4⟩, hB4, hx4⟩ := hcut
        have HR4 : Hid (Rd B b (some ⟨g, o, none⟩) ro4 cl cr4 sv1 now (stV now s x) l wc) := hR4
        have HB4 : Hid (Below B w wc) := hB4
        have hBw4 : B ≤ wc.heap.size := Nat.le_trans hB hB4.size
        clear hR4 hB4 hx4 HFIN hb1 hb2 hm1 hm2 hrnil HRL HRN i1 hi1 hy0 hy1 hy2 HWR k1 k2 m0 m3 HX3 HB3 HR3
        obtain ⟨zm, hzm⟩ : ∃ zm, wc.heap.size = zm := ⟨_, rfl⟩
        obtain ⟨W8, hW8⟩ : ∃ W8, wc.alloc (.cells #[] 40) = W8 := ⟨_, rfl⟩
        have b78 : Below wc.heap.size wc W8 := by rw [← hW8]; exact (Below.refl _ wc).alloc (Nat.le_refl _) _
        have HR8 : Hid (W8.ownsRow wc.heap.size 40 3 (.slice (some ⟨zm, 0, none⟩) 0 0) 0 []) := show W8.ownsRow wc.heap.size 40 3 (.slice (some ⟨zm, 0, none⟩) 0 0) 0 [] by rw [← hW8, ← hzm]; exact made0 wc 40 3
        have a2 := cells_at (HR4.out.below b78 hBw4).blk (k := 2) rfl
        have f2 := frozen_at (HR4.out.below b78 hBw4).blk (k := 2)
        rw [HQ.out] at a2
        have hcl : q ≤ cl := by have := HR4.out.lcap; rw [HQ.out] at this; exact this
        have hicl : i ≤ cl := by omega
        have hicl1 : i + 1 ≤ cl := by omega
        have HK : Hid (∀ y, Below wc.heap.size wc y → ∀ k r, l[k]? = some r → y.cell? ⟨g, o + k * 3, none⟩ = some (.int .i64 r.job) ∧ y.cell? ⟨g, o + k * 3 + 1, none⟩ = some (.int .i64 r.nd) ∧ y.cell? ⟨g, o + k * 3 + 2, none⟩ = some (.int .i64 r.lm)) := fun y hy k r hr => by
          obtain ⟨g9, o9, h9, k9⟩ := (HR4.out.left.wants).below hy
          have e9 := h9 (by have := (List.getElem?_eq_some_iff.1 hr).1; omega)
          obtain ⟨rfl, rfl⟩ : g = g9 ∧ o = o9 := by injection e9 with e9; injection e9 with e1 e2; exact ⟨e1, e2⟩
          exact k9 k r hr
        have HCT : Hid (∀ ad, some (⟨g, o, none⟩ : Addr) = some ad → ∀ j u, (flatW (l.take i))[j]? = some u → W8.cell? (ad.add j) = some u) := fun ad had j u hu => by
          obtain rfl := Option.some.inj had
          exact flatW_cell (fun k r hr => HK.out W8 b78 k r (by rw [List.getElem?_take] at hr; split at hr; exact hr; cases hr)) j u hu
        have HFT : Hid ((flatW (l.take i)).length = i * 3) := by show (flatW (l.take i)).length = i * 3; rw [flatW_len, List.length_take, Nat.min_eq_left (by have := HQ.out; omega)]
        have HB78 : Hid (Below wc.heap.size wc W8) := b78
        obtain ⟨j0, hj0, hw0, hw1, hw2⟩ := info_parts Try.inf40
        obtain ⟨hu1, hu2⟩ := ws_room hll hil
        clear b78
        go_upto_region 5 with (at_builtin; refine wpList_append_any rfl (.tmp 55) (.tmp 61) 22 rfl wc.heap.size 40 j0 _ 3 24 Try.underlying22 hj0 hw0 hw1 hw2 rfl (by decide) (.slice (some ⟨zm, 0, none⟩) 0 0) 0 [] rfl HR8.out (some ⟨g, o, none⟩) i cl (flatW (l.take i)) rfl (fun e => by cases e) HFT.out HCT.out (flatW_one _) ?_ ?_ ?_ ?_; exact hu1.1; exact hu1.2; exact HB78.out.size; intro v5 w5 hr5 hg5)
        rw [Nat.zero_add, List.nil_append] at hr5
        have b5 : Below wc.heap.size wc w5 := HB78.out.grown hg5 HB78.out.size (fun k e => by
          have : zm = k := by simpa [Value.ownBlock] using e
          omega)
        have HB5 : Hid (Below wc.heap.size wc w5) := b5
        have HR5 : Hid (w5.ownsRow wc.heap.size 40 3 v5 i (flatW (l.take i))) := hr5
        clear a2 f2 hr5 hg5 HR8 HCT HFT HB78 hW8 hzm
        have a2 := cells_at (HR4.out.below b5 hBw4).blk (k := 2) rfl
        have f2 := frozen_at (HR4.out.below b5 hBw4).blk (k := 2)
        rw [HQ.out] at a2
        clear b5
        have HEL : Hid ((l.eraseIdx i).length = i + (q - (i + 1))) := by show (l.eraseIdx i).length = i + (q - (i + 1)); rw [List.length_eraseIdx, if_pos (by have := HQ.out; omega)]; have := HQ.out; omega
        have HEF : Hid (flatW (l.take i) ++ flatW (l.drop (i + 1)) = flatW (l.eraseIdx i)) := by show flatW (l.take i) ++ flatW (l.drop (i + 1)) = flatW (l.eraseIdx i); rw [← flatW_app, List.eraseIdx_eq_take_drop_succ]
        have HDL : Hid ((flatW (l.drop (i + 1))).length = (q - (i + 1)) * 3) := by show (flatW (l.drop (i + 1))).length = (q - (i + 1)) * 3; rw [flatW_len, List.length_drop, HQ.out]
        have HDC : Hid (∀ j u, (flatW (l.drop (i + 1)))[j]? = some u → w5.cell? ((⟨g, o + (i + 1) * 3, none⟩ : Addr).add j) = some u) := fun j u hu => by
          refine flatW_cell (fun k r hr => ?_) j u hu
          rw [List.getElem?_drop] at hr
          have := HK.out w5 HB5.out (i + 1 + k) r hr
          rw [show o + (i + 1 + k) * 3 = o + (i + 1) * 3 + k * 3 by omega] at this
          exact this
        have HEND : Hid (∀ v6 w6, w6.ownsRow wc.heap.size 40 3 v6 (i + (q - (i + 1))) (flatW (l.take i) ++ flatW (l.drop (i + 1))) → w5.grownBy w6 v5.ownBlock → (∃ lo' ro' cl' cr' sv', Rd B b lo' ro' cl' cr' sv' now (stV now s x) (l.eraseIdx i) (w6.setCell ⟨b, 2, none⟩ v6)) ∧ Below B w (w6.setCell ⟨b, 2, none⟩ v6)) := fun v6 w6 hr6 hg6 => by
          rw [HEF.out, ← HEL.out] at hr6
          obtain ⟨lo', cl', rfl, hl6, hc6, hn6⟩ := LeftAt.row (B := B) hr6
          have b6 : Below wc.heap.size wc w6 := HB5.out.grown hg6 HB5.out.size (fun k e => (row_tag HR5.out e).1)
          exact ⟨⟨lo', ro4, cl', cr4, sv1, (HR4.out.below b6 hBw4).less hl6 hn6 hc6⟩, (HB4.out.trans (b6.mono hBw4)).setCell (p := ⟨b, 2, none⟩) HR4.out.low _⟩
        have HB6 : Hid (∀ w6, w5.grownBy w6 v5.ownBlock → Below wc.heap.size wc w6 ∧ w6.cell? ⟨b, 2, none⟩ = some (.slice (some ⟨g, o, none⟩) q cl) ∧ w6.frozen? ⟨b, 2, none⟩ = false) := fun w6 hg6 => by
          have b6 : Below wc.heap.size wc w6 := HB5.out.grown hg6 HB5.out.size (fun k e => (row_tag HR5.out e).1)
          have hbk := (HR4.out.below b6 hBw4).blk
          rw [HQ.out] at hbk
          exact ⟨b6, cells_at hbk rfl, frozen_at hbk⟩
        by_cases hce : cl = i + 1
        · obtain rfl : q = i + 1 := by omega
          subst hce
          have e0 : i + 1 - (i + 1) = 0 := Nat.sub_self _
          rw [e0] at HEND HDL hu2
          have hd0 : flatW (l.drop (i + 1)) = [] := List.length_eq_zero_iff.1 (by rw [HDL.out])
          go_wp2_with (at_builtin; refine wpList_append_any rfl (.tmp 64) (.tmp 71) 22 rfl wc.heap.size 40 j0 _ 3 24 Try.underlying22 hj0 hw0 hw1 hw2 rfl (by decide) v5 i (flatW (l.take i)) rfl HR5.out (some ⟨g, o, none⟩) 0 0 (flatW (l.drop (i + 1))) rfl (fun e => by cases e) HDL.out (fun ad _ j u hu => by rw [hd0] at hu; cases hu) (flatW_one _) hu2.1 hu2.2 HB5.out.size ?_; intro v6 w6 hr6 hg6; obtain ⟨b6, y2, yf⟩ := HB6.out w6 hg6; have HE6 := HEND.out v6 w6 hr6 hg6; obtain ⟨la, ln, lc, rfl⟩ := row_form hr6)
          go_end0
          exact ⟨rfl, by obtain ⟨⟨lo', ro', cl', cr', sv', h6⟩, h7⟩ := HE6; exact ⟨lo', ro', cl', cr', sv', h6, h7⟩⟩
        · go_wp2_with (at_builtin; refine wpList_append_any rfl (.tmp 64) (.tmp 71) 22 rfl wc.heap.size 40 j0 _ 3 24 Try.underlying22 hj0 hw0 hw1 hw2 rfl (by decide) v5 i (flatW (l.take i)) rfl HR5.out (some ⟨g, o + (i + 1) * 3, none⟩) (q - (i + 1)) (cl - (i + 1)) (flatW (l.drop (i + 1))) rfl (fun e => by cases e) HDL.out (fun ad had j u hu => by obtain rfl := Option.some.inj had; exact HDC.out j u hu) (flatW_one _) hu2.1 hu2.2 HB5.out.size ?_; intro v6 w6 hr6 hg6; obtain ⟨b6, y2, yf⟩ := HB6.out w6 hg6; have HE6 := HEND.out v6 w6 hr6 hg6; obtain ⟨la, ln, lc, rfl⟩ := row_form hr6)
          go_end0
          exact ⟨rfl, by obtain ⟨⟨lo', ro', cl', cr', sv', h6⟩, h7⟩ := HE6; exact ⟨lo', ro', cl', cr', sv', h6, h7⟩⟩
end Go.Proofs.Ytdkibcagbidelaa
