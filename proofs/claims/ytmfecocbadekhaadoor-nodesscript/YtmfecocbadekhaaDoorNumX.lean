/-
  'h.out = append(h.out, v)', 'h.want = append(h.want, v)'.
-/
import Derived.Test.YtmfecocbadekhaaDoorNum
namespace Go.Proofs.YtmfecocbadekhaaDoor
open Go.RowKit Nd

theorem Tryd.info37 : (Tryd.prog.info? 37).map (fun i => (i.zero, i.size, i.bytes)) = some (some (.slice none 0 0), 1, 24) := by kernel_rfl

theorem two_setCell0 {w : World} {b : Nat} {v0 v1 u : Value} {t : TypeId} (h : w.heap[b]? = some (.cells #[v0, v1] t (0, 0))) : (w.setCell ⟨b, 0, none⟩ u).heap[b]? = some (.cells #[u, v1] t (0, 0)) := by
  obtain ⟨hlt, h'⟩ := Array.getElem?_eq_some_iff.1 h
  show (w.heap.modify b _)[b]? = _
  rw [Array.getElem?_eq_getElem (by simpa using hlt), Array.getElem_modify_self, h']
  rfl
theorem two_setCell1 {w : World} {b : Nat} {v0 v1 u : Value} {t : TypeId} (h : w.heap[b]? = some (.cells #[v0, v1] t (0, 0))) : (w.setCell ⟨b, 1, none⟩ u).heap[b]? = some (.cells #[v0, u] t (0, 0)) := by
  obtain ⟨hlt, h'⟩ := Array.getElem?_eq_some_iff.1 h
  show (w.heap.modify b _)[b]? = _
  rw [Array.getElem?_eq_getElem (by simpa using hlt), Array.getElem_modify_self, h']
  rfl

/-- The two rows of 'numbers', their entries left aside. -/
structure NumsX (w : World) (H : Nat) (ao aw : Option Addr) (co cw : Nat) (os ws : List Value) : Prop where
  blk : w.heap[H]? = some (.cells #[.slice ao os.length co, .slice aw ws.length cw] 34 (0, 0))
  out : w.ownsRow 0 37 1 (.slice ao os.length co) os.length os
  want : w.ownsRow 0 37 1 (.slice aw ws.length cw) ws.length ws
  nodup : (H :: (ablk ao ++ ablk aw)).Nodup

theorem own_head {w : World} {base e n cap : Nat} {ao : Option Addr} {xs : List Value} (h : w.ownsRow base e 1 (.slice ao n cap) n xs) : ∀ i ∈ ablk ao, i < w.heap.size ∧ ao = some ⟨i, 0, none⟩ := by
  intro i hi
  rcases owns_shape h with ⟨hv, _⟩ | ⟨g, cap', hv, _, _⟩
  · simp at hv
    rw [hv.1] at hi
    simp [ablk] at hi
  · simp at hv
    obtain ⟨rfl, rfl⟩ := hv
    simp [ablk] at hi
    subst hi
    exact ⟨own_lt h, rfl⟩
theorem moved_blk {w : World} {ao ao' : Option Addr} (h : Moved w ao ao') : ∀ i ∈ ablk ao', i ∈ ablk ao ∨ w.heap.size ≤ i := by
  intro i hi
  rcases h with rfl | ⟨g, hg, rfl⟩
  · exact .inl hi
  · simp [ablk] at hi
    subst hi
    exact .inr hg
theorem ablk_nodup (ao : Option Addr) : (ablk ao).Nodup := by cases ao <;> simp [ablk]
theorem moved_none {ao : Option Addr} {k : Nat} (h : ao.map (·.block) = some k) : k ∈ ablk ao := by simp [ablk, h]

section
variable {w w1 : World} {H : Nat} {ao aw : Option Addr} {co cw : Nat} {os ws : List Value} {v : Value} {n1 : Nat} {ao' : Option Addr} {co' : Nat}
theorem NumsX.lt (h : NumsX w H ao aw co cw os ws) : H < w.heap.size := (Array.getElem?_eq_some_iff.1 h.blk).1
theorem NumsX.c0 (h : NumsX w H ao aw co cw os ws) : w.cell? ⟨H, 0, none⟩ = some (.slice ao os.length co) := by simp [World.cell?, h.blk]
theorem NumsX.c1 (h : NumsX w H ao aw co cw os ws) : w.cell? ⟨H, 1, none⟩ = some (.slice aw ws.length cw) := by simp [World.cell?, h.blk]
theorem NumsX.f (h : NumsX w H ao aw co cw os ws) (o : Nat) : w.frozen? ⟨H, o, none⟩ = false := by simp [World.frozen?, h.blk]
theorem NumsX.chg {K : Nat → Prop} (c : Chg K w w1) (h : NumsX w H ao aw co cw os ws) (hH : ¬ K H) (ho : ∀ i ∈ ablk ao, ¬ K i) (hw : ∀ i ∈ ablk aw, ¬ K i) : NumsX w1 H ao aw co cw os ws :=
  ⟨by rw [c.block H h.lt hH]; exact h.blk, c.own h.out ho, c.own h.want hw, h.nodup⟩

theorem NumsX.outApp (h : NumsX w H ao aw co cw os ws) (hn : n1 = os.length + 1) (ho : w1.ownsRow 0 37 1 (.slice ao' n1 co') n1 (os ++ [v])) (hgr : (w.alloc (.cells #[v] 37)).grownBy w1 (ao.map (·.block))) (hmv : Moved (w.alloc (.cells #[v] 37)) ao ao') :
    w1.cell? ⟨H, 0, none⟩ = some (.slice ao os.length co) ∧ w1.frozen? ⟨H, 0, none⟩ = false ∧
    NumsX (w1.setCell ⟨H, 0, none⟩ (.slice ao' n1 co')) H ao' aw co' cw (os ++ [v]) ws ∧ Chg (fun i => i = H ∨ i ∈ ablk ao) w (w1.setCell ⟨H, 0, none⟩ (.slice ao' n1 co')) ∧ (∀ i ∈ ablk ao', i ∈ ablk ao ∨ w.heap.size ≤ i) := by
  have hlt := h.lt
  have hnd := h.nodup
  rw [List.nodup_cons] at hnd
  obtain ⟨hH, hnd⟩ := hnd
  have hnew : ∀ i ∈ ablk ao', i ∈ ablk ao ∨ w.heap.size ≤ i := fun i hi => by
    rcases moved_blk hmv i hi with h | h
    · exact .inl h
    · simp at h
      exact .inr (by omega)
  have cA : Chg (fun i => i ∈ ablk ao) w w1 := (Chg.of_below (Below.alloc1 w (.cells #[v] 37)) _).trans (Chg.of_gr (K := fun i => i ∈ ablk ao) hgr (fun k hk => .inl (moved_none hk))) (fun _ _ h => h)
  have hblk : w1.heap[H]? = some (.cells #[.slice ao os.length co, .slice aw ws.length cw] 34 (0, 0)) := by
    rw [cA.block H hlt (fun e => hH (List.mem_append.2 (.inl e)))]; exact h.blk
  have hw1 : w1.ownsRow 0 37 1 (.slice aw ws.length cw) ws.length ws := cA.own h.want (fun i hi hh => (List.nodup_append.1 hnd).2.2 i hh i hi rfl)
  have cB : Chg (fun i => i = H) w1 (w1.setCell ⟨H, 0, none⟩ (.slice ao' n1 co')) := Chg.of_gr (gr_set w1 ⟨H, 0, none⟩ _) (fun k hk => .inl (Option.some.inj hk).symm)
  have hHo : H ∉ ablk ao' := fun e => by
    rcases hnew H e with h | h
    · exact hH (List.mem_append.2 (.inl h))
    · omega
  have hHw : H ∉ ablk aw := fun e => hH (List.mem_append.2 (.inr e))
  subst hn
  refine ⟨by simp [World.cell?, hblk], by simp [World.frozen?, hblk], ⟨?_, ?_, cB.own hw1 (fun i hi e => hHw (e ▸ hi)), ?_⟩, ?_, hnew⟩
  · rw [two_setCell0 hblk]
    simp
  · have := cB.own ho (fun i hi e => hHo (e ▸ hi))
    simpa using this
  · rw [List.nodup_cons]
    refine ⟨fun e => (List.mem_append.1 e).elim hHo hHw, List.nodup_append.2 ⟨ablk_nodup _, ablk_nodup _, fun a ha b hb e => ?_⟩⟩
    subst e
    rcases hnew a ha with h1 | h1
    · exact (List.nodup_append.1 hnd).2.2 a h1 a hb rfl
    · have := (own_head h.want a hb).1
      omega
  · exact (cA.mono (fun i _ hi => .inr hi)).trans cB (fun i _ hi => .inl hi)
theorem NumsX.wantApp (h : NumsX w H ao aw co cw os ws) (hn : n1 = ws.length + 1) (ho : w1.ownsRow 0 37 1 (.slice ao' n1 co') n1 (ws ++ [v])) (hgr : (w.alloc (.cells #[v] 37)).grownBy w1 (aw.map (·.block))) (hmv : Moved (w.alloc (.cells #[v] 37)) aw ao') :
    w1.cell? ⟨H, 1, none⟩ = some (.slice aw ws.length cw) ∧ w1.frozen? ⟨H, 1, none⟩ = false ∧
    NumsX (w1.setCell ⟨H, 1, none⟩ (.slice ao' n1 co')) H ao ao' co co' os (ws ++ [v]) ∧ Chg (fun i => i = H ∨ i ∈ ablk aw) w (w1.setCell ⟨H, 1, none⟩ (.slice ao' n1 co')) ∧ (∀ i ∈ ablk ao', i ∈ ablk aw ∨ w.heap.size ≤ i) := by
  have hlt := h.lt
  have hnd := h.nodup
  rw [List.nodup_cons] at hnd
  obtain ⟨hH, hnd⟩ := hnd
  have hnew : ∀ i ∈ ablk ao', i ∈ ablk aw ∨ w.heap.size ≤ i := fun i hi => by
    rcases moved_blk hmv i hi with h | h
    · exact .inl h
    · simp at h
      exact .inr (by omega)
  have cA : Chg (fun i => i ∈ ablk aw) w w1 := (Chg.of_below (Below.alloc1 w (.cells #[v] 37)) _).trans (Chg.of_gr (K := fun i => i ∈ ablk aw) hgr (fun k hk => .inl (moved_none hk))) (fun _ _ h => h)
  have hblk : w1.heap[H]? = some (.cells #[.slice ao os.length co, .slice aw ws.length cw] 34 (0, 0)) := by
    rw [cA.block H hlt (fun e => hH (List.mem_append.2 (.inr e)))]; exact h.blk
  have hw1 : w1.ownsRow 0 37 1 (.slice ao os.length co) os.length os := cA.own h.out (fun i hi hh => (List.nodup_append.1 hnd).2.2 i hi i hh rfl)
  have cB : Chg (fun i => i = H) w1 (w1.setCell ⟨H, 1, none⟩ (.slice ao' n1 co')) := Chg.of_gr (gr_set w1 ⟨H, 1, none⟩ _) (fun k hk => .inl (Option.some.inj hk).symm)
  have hHo : H ∉ ablk ao' := fun e => by
    rcases hnew H e with h | h
    · exact hH (List.mem_append.2 (.inr h))
    · omega
  have hHw : H ∉ ablk ao := fun e => hH (List.mem_append.2 (.inl e))
  subst hn
  refine ⟨by simp [World.cell?, hblk], by simp [World.frozen?, hblk], ⟨?_, cB.own hw1 (fun i hi e => hHw (e ▸ hi)), ?_, ?_⟩, ?_, hnew⟩
  · rw [two_setCell1 hblk]
    simp
  · have := cB.own ho (fun i hi e => hHo (e ▸ hi))
    simpa using this
  · rw [List.nodup_cons]
    refine ⟨fun e => (List.mem_append.1 e).elim hHw hHo, List.nodup_append.2 ⟨ablk_nodup _, ablk_nodup _, fun a ha b hb e => ?_⟩⟩
    subst e
    rcases hnew a hb with h1 | h1
    · exact (List.nodup_append.1 hnd).2.2 a ha a h1 rfl
    · have := (own_head h.out a ha).1
      omega
  · exact (cA.mono (fun i _ hi => .inr hi)).trans cB (fun i _ hi => .inl hi)
end
end Go.Proofs.YtmfecocbadekhaaDoor
