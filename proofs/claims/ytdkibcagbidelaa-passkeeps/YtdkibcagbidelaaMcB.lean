/-
  LAYER 15: package pass: the machine in memory.
-/
import Derived.Test.YtdkibcagbidelaaMcA
import Derived.Deep.AppendLies
namespace Go.Proofs.Ytdkibcagbidelaa
open Go.RowKit Pr

theorem meth_lets (a : Addr) (w : World) : (method 258 75 (.pointer (some a)) "backfill/pass.lets").run Try.prog w = .ok (98, .pointer (some a)) w := by kernel_rfl
theorem meth_started (a : Addr) (w : World) : (method 258 75 (.pointer (some a)) "backfill/pass.started").run Try.prog w = .ok (99, .pointer (some a)) w := by kernel_rfl
theorem meth_dlets (x y : Value) (w : World) : (method 258 94 (.agg #[x, y]) "backfill/pass.lets").run Try.prog w = .ok (100, .agg #[x, y]) w := by kernel_rfl
theorem meth_dstarted (x y : Value) (w : World) : (method 258 94 (.agg #[x, y]) "backfill/pass.started").run Try.prog w = .ok (101, .agg #[x, y]) w := by kernel_rfl
theorem lets_yes {x : Wt} {r : Nat} {fr : Int} {w : World} (hr : w.cell? ⟨r, 0, none⟩ = some (.int .i64 fr)) (h : x.nd ≤ fr) :
    Calls Try.prog 98 #[.pointer (some ⟨r, 0, none⟩), .agg #[.int .i64 x.job, .int .i64 x.nd, .int .i64 x.lm]] w fun e w' => e = .returned (.bool true) ∧ Below w.heap.size w w' := by
  have := lets_any x hr
  rwa [show decide (x.nd ≤ fr) = true from decide_eq_true h] at this
theorem lets_no {x : Wt} {r : Nat} {fr : Int} {w : World} (hr : w.cell? ⟨r, 0, none⟩ = some (.int .i64 fr)) (h : fr < x.nd) :
    Calls Try.prog 98 #[.pointer (some ⟨r, 0, none⟩), .agg #[.int .i64 x.job, .int .i64 x.nd, .int .i64 x.lm]] w fun e w' => e = .returned (.bool false) ∧ Below w.heap.size w w' := by
  have := lets_any x hr
  rwa [show decide (x.nd ≤ fr) = false from decide_eq_false (by omega)] at this

def jobsV (l : List Wt) : List Value := l.map fun w => .int .i64 w.job
/-- Wants that wait: they lie in a row of their own. -/
def WaitAt (W : World) (ao : Option Addr) (l : List Wt) : Prop := ∃ g o, (0 < l.length → ao = some ⟨g, o, none⟩ ∧ ∃ cs, W.heap[g]? = some (.cells cs 40 (0, 0))) ∧ ∀ k r, l[k]? = some r → W.cell? ⟨g, o + k * 3, none⟩ = some (.int .i64 r.job) ∧ W.cell? ⟨g, o + k * 3 + 1, none⟩ = some (.int .i64 r.nd) ∧ W.cell? ⟨g, o + k * 3 + 2, none⟩ = some (.int .i64 r.lm)
theorem WaitAt.keep {W W' : World} {ao : Option Addr} {l : List Wt} (h : WaitAt W ao l) (hk : ∀ (g : Nat) (cs : Array Value), W.heap[g]? = some (.cells cs 40 (0, 0)) → W'.heap[g]? = W.heap[g]?) : WaitAt W' ao l := by
  obtain ⟨g, o, h1, h2⟩ := h
  by_cases hl : 0 < l.length
  · obtain ⟨ha, cs, hcs⟩ := h1 hl
    have hg := hk g cs hcs
    refine ⟨g, o, fun _ => ⟨ha, cs, hg.trans hcs⟩, fun k r hr => ?_⟩
    obtain ⟨a, b, c⟩ := h2 k r hr
    exact ⟨(World.cell?_of_block hg).trans a, (World.cell?_of_block hg).trans b, (World.cell?_of_block hg).trans c⟩
  · exact ⟨g, o, fun h => absurd h hl, fun k r hr => by rw [List.length_eq_zero_iff.1 (Nat.eq_zero_of_not_pos hl)] at hr; simp at hr⟩
theorem WaitAt.wants {W : World} {ao : Option Addr} {l : List Wt} (h : WaitAt W ao l) : WantsAt W ao l := by
  obtain ⟨g, o, h1, h2⟩ := h
  exact ⟨g, o, fun h => (h1 h).1, h2⟩
theorem row_tag {W : World} {B e sz n : Nat} {v : Value} {vs : List Value} (h : W.ownsRow B e sz v n vs) {k : Nat} (hk : v.ownBlock = some k) : B ≤ k ∧ ∃ cs, W.heap[k]? = some (.cells cs e (0, 0)) := by
  rcases h.2 with ⟨e, _⟩ | ⟨g, cap, cur, e, hg, hh, _⟩
  · rw [e] at hk; cases hk
  · rw [e] at hk
    have : g = k := by simpa [Value.ownBlock] using hk
    subst this
    exact ⟨hg, cur, hh⟩
theorem row_keep {W W' : World} {B e sz n : Nat} {v : Value} {vs : List Value} (h : W.ownsRow B e sz v n vs) (hk : ∀ k : Nat, v.ownBlock = some k → W'.heap[k]? = W.heap[k]?) : W'.ownsRow B e sz v n vs := by
  refine ⟨h.1, ?_⟩
  rcases h.2 with h0 | ⟨g, cap, cur, rfl, hb, hg, r⟩
  · exact .inl h0
  · exact .inr ⟨g, cap, cur, rfl, hb, (hk g rfl).trans hg, r⟩

/-- A machine in memory. -/
structure Mc (B m r : Nat) (vr : Value) (ao : Option Addr) (c : Nat) (vs : Value) (now : Int) (s : Ps) (h : Wt) (l : List Wt) (W : World) : Prop where
  blk : W.heap[m]? = some (.cells #[.int .i64 now, .pointer (some ⟨r, 0, none⟩), vr, .slice ao l.length c, .int .i64 h.job, .int .i64 h.nd, .int .i64 h.lm, vs] 77 (0, 0))
  room : W.heap[r]? = some (.cells #[.int .i64 s.fr] 90 (0, 0))
  runs : W.ownsRow B 45 2 vr s.rs.length (flatR s.rs)
  starts : W.ownsRow B 3 1 vs s.st.length (jobsV s.st)
  wait : WaitAt W ao l
  lo : B ≤ m ∧ B ≤ r
theorem lt_of_blk {W : World} {i : Nat} {o : Obj} (h : W.heap[i]? = some o) : i < W.heap.size := (Array.getElem?_eq_some_iff.1 h).1
/-- Of a machine's blocks these alone are its own to turn. -/
def KM (B m r : Nat) (W : World) (i : Nat) : Prop := i = m ∨ i = r ∨ (B ≤ i ∧ ∃ (cs : Array Value) (t : TypeId), (t = 45 ∨ t = 3) ∧ W.heap[i]? = some (.cells cs t (0, 0)))
section
variable {B m r c : Nat} {vr vs : Value} {ao : Option Addr} {now : Int} {s : Ps} {h : Wt} {l : List Wt} {W W' : World}
theorem Mc.keep (hM : Mc B m r vr ao c vs now s h l W) (hk : ∀ (i : Nat) (cs : Array Value) (t : TypeId), (t = 77 ∨ t = 90 ∨ t = 45 ∨ t = 3 ∨ t = 40) → W.heap[i]? = some (.cells cs t (0, 0)) → W'.heap[i]? = W.heap[i]?) : Mc B m r vr ao c vs now s h l W' :=
  ⟨(hk _ _ _ (by simp) hM.blk).trans hM.blk, (hk _ _ _ (by simp) hM.room).trans hM.room,
    row_keep hM.runs (fun k e => by obtain ⟨_, cs, h⟩ := row_tag hM.runs e; exact hk k cs 45 (by simp) h),
    row_keep hM.starts (fun k e => by obtain ⟨_, cs, h⟩ := row_tag hM.starts e; exact hk k cs 3 (by simp) h),
    hM.wait.keep (fun g cs h => hk g cs 40 (by simp) h), hM.lo⟩
theorem Mc.below (hM : Mc B m r vr ao c vs now s h l W) (b : Below W.heap.size W W') : Mc B m r vr ao c vs now s h l W' :=
  hM.keep (fun i _ _ _ hi => b.block i (lt_of_blk hi))
theorem Mc.cells (hM : Mc B m r vr ao c vs now s h l W) : (W.cell? ⟨m, 0, none⟩ = some (.int .i64 now) ∧ W.cell? ⟨m, 1, none⟩ = some (.pointer (some ⟨r, 0, none⟩)) ∧ W.cell? ⟨m, 2, none⟩ = some vr ∧ W.cell? ⟨m, 3, none⟩ = some (.slice ao l.length c)) ∧
    (W.cell? ⟨m, 4, none⟩ = some (.int .i64 h.job) ∧ W.cell? ⟨m, 5, none⟩ = some (.int .i64 h.nd) ∧ W.cell? ⟨m, 6, none⟩ = some (.int .i64 h.lm) ∧ W.cell? ⟨m, 7, none⟩ = some vs) :=
  ⟨⟨cells_at hM.blk rfl, cells_at hM.blk rfl, cells_at hM.blk rfl, cells_at hM.blk rfl⟩, cells_at hM.blk rfl, cells_at hM.blk rfl, cells_at hM.blk rfl, cells_at hM.blk rfl⟩
theorem KM.trans {w w1 w2 : World} (h1 : Chg (KM B m r w) w w1) (h2 : Chg (KM B m r w1) w1 w2) : Chg (KM B m r w) w w2 := by
  refine h1.trans h2 (fun i hi hk => ?_)
  rcases hk with e | e | ⟨hB, cs, t, ht, hc⟩
  · exact .inl e
  · exact .inr (.inl e)
  · refine Classical.byContradiction (fun hn => hn ?_)
    exact .inr (.inr ⟨hB, cs, t, ht, (h1.block i hi hn).symm.trans hc⟩)
theorem KM.lo {i : Nat} (hM : Mc B m r vr ao c vs now s h l W) (hk : KM B m r W' i) : B ≤ i := by
  rcases hk with e | e | e
  · rw [e]; exact hM.lo.1
  · rw [e]; exact hM.lo.2
  · exact e.1
end
theorem jobsV_app (l : List Wt) (x : Wt) : jobsV (l ++ [x]) = jobsV l ++ [.int .i64 x.job] := by simp [jobsV]
theorem flatR_snoc (l : List Rn) (x : Rn) : flatR (l ++ [x]) = flatR l ++ [.int .i64 x.nd, .int .i64 x.en] := by rw [flatR_app]; rfl
theorem Try.infJ : (Try.prog.info? 3).map (fun i => (i.zero, i.size, i.bytes)) = some (some (.int .i64 0), 1, 8) := by kernel_rfl
end Go.Proofs.Ytdkibcagbidelaa
