/-
  THE STATEMENT PassTells: what is answered is the caller's: lists of lists in memory.
  LAYER 15, the statements' helper: asked: a pass of lists in memory of their own.
-/
import Derived.Test.YtdkibcagbidelaaXrp
namespace Go.Proofs.Ytdkibcagbidelaa
open Go.RowKit Pr

/-- Lists that were answered (O), and those that they are held against (C), from place i on: each in memory of its own. -/
structure Tl (B : Nat) (LL : Nat → List Int) (i ko kc : Nat) (v5 v6 : Value) (O C : List Value) (W : World) : Prop where
  ro : W.ownsRow B 28 1 v5 ko O
  rc : W.ownsRow B 28 1 v6 kc C
  ne : ∀ b : Nat, v5.ownBlock = some b → v6.ownBlock ≠ some b
  o : ∀ j v, i ≤ j → O[j]? = some v → W.ownsRow B 3 1 v (LL j).length (intsV (LL j))
  c : ∀ j v, i ≤ j → C[j]? = some v → W.ownsRow B 3 1 v (LL j).length (intsV (LL j))
  oo : ∀ j k u v, i ≤ j → i ≤ k → j ≠ k → O[j]? = some u → O[k]? = some v → ∀ b : Nat, u.ownBlock = some b → v.ownBlock ≠ some b
  oc : ∀ j k u v, i ≤ j → i ≤ k → O[j]? = some u → C[k]? = some v → ∀ b : Nat, u.ownBlock = some b → v.ownBlock ≠ some b
section
variable {B i ko kc : Nat} {LL : Nat → List Int} {v5 v6 : Value} {O C : List Value} {W W' : World}
theorem Tl.keep (h : Tl B LL i ko kc v5 v6 O C W) (h5 : ∀ b : Nat, v5.ownBlock = some b → W'.heap[b]? = W.heap[b]?) (h6 : ∀ b : Nat, v6.ownBlock = some b → W'.heap[b]? = W.heap[b]?)
    (ho : ∀ j v, i ≤ j → O[j]? = some v → ∀ b : Nat, v.ownBlock = some b → W'.heap[b]? = W.heap[b]?) (hc : ∀ j v, i ≤ j → C[j]? = some v → ∀ b : Nat, v.ownBlock = some b → W'.heap[b]? = W.heap[b]?) : Tl B LL i ko kc v5 v6 O C W' :=
  ⟨row_keep h.ro h5, row_keep h.rc h6, h.ne, fun j v hj hv => row_keep (h.o j v hj hv) (ho j v hj hv), fun j v hj hv => row_keep (h.c j v hj hv) (hc j v hj hv), h.oo, h.oc⟩
theorem Tl.below (h : Tl B LL i ko kc v5 v6 O C W) (hb : Below W.heap.size W W') : Tl B LL i ko kc v5 v6 O C W' :=
  ⟨rowB hb h.ro, rowB hb h.rc, h.ne, fun j v hj hv => rowB hb (h.o j v hj hv), fun j v hj hv => rowB hb (h.c j v hj hv), h.oo, h.oc⟩
theorem row_lt {e sz n : Nat} {v : Value} {vs : List Value} (h : W.ownsRow B e sz v n vs) {b : Nat} (hb : v.ownBlock = some b) : b < W.heap.size := by
  obtain ⟨_, cs, hk⟩ := row_tag h hb
  exact lt_of_blk hk
theorem row_ne {e e' sz sz' n n' B' : Nat} {v v' : Value} {vs vs' : List Value} (h : W.ownsRow B e sz v n vs) (h' : W.ownsRow B' e' sz' v' n' vs') (he : e ≠ e') {b : Nat} (hb : v.ownBlock = some b) : v'.ownBlock ≠ some b := fun hb' => by
  obtain ⟨_, cs, hk⟩ := row_tag h hb
  obtain ⟨_, cs', hk'⟩ := row_tag h' hb'
  exact tag_ne hk hk' he rfl
/-- What an append leaves alone. -/
theorem app_keep {o : Obj} {w2 : World} {r : Option Nat} (hg : (W.alloc o).grownBy w2 r) {b : Nat} (hb : b < W.heap.size) (hr : r ≠ some b) : w2.heap[b]? = W.heap[b]? :=
  (hg.block b (by simp; omega) (fun e => hr e.symm)).trans (Below.heap_alloc _ _ _ hb)
theorem Tl.pushO {v v5' : Value} {o : Obj} {w2 : World} (h : Tl B LL 0 ko kc v5 v6 O C W) (hv : W.ownsRow B 3 1 v (LL ko).length (intsV (LL ko)))
    (hap : ∀ b : Nat, v.ownBlock = some b → (∀ u ∈ O, u.ownBlock ≠ some b) ∧ (∀ u ∈ C, u.ownBlock ≠ some b)) (hr : w2.ownsRow B 28 1 v5' (ko + 1) (O ++ [v])) (hg : (W.alloc o).grownBy w2 v5.ownBlock) (hat : v5'.ownBlock = v5.ownBlock ∨ v5'.ownBlock = some (W.alloc o).heap.size) :
    Tl B LL 0 (ko + 1) kc v5' v6 (O ++ [v]) C w2 := by
  have hl : O.length = ko := by have := h.ro.1; omega
  have k3 : ∀ {u : Value} {n : Nat} {vs : List Value}, W.ownsRow B 3 1 u n vs → w2.ownsRow B 3 1 u n vs := fun hu => row_keep hu (fun b hb => app_keep hg (row_lt hu hb) (row_ne hu h.ro (by decide) hb))
  have get : ∀ j u, (O ++ [v])[j]? = some u → (O[j]? = some u ∧ j < ko) ∨ (j = ko ∧ u = v) := fun j u hu => by
    rcases Nat.lt_or_ge j O.length with hj | hj
    · rw [List.getElem?_append_left hj] at hu; exact .inl ⟨hu, by omega⟩
    · rw [List.getElem?_append_right hj] at hu
      have hz : j - O.length = 0 := by
        have := (List.getElem?_eq_some_iff.1 hu).1
        simp at this
        exact this
      rw [hz] at hu
      simp at hu
      exact .inr ⟨by omega, hu.symm⟩
  refine ⟨hr, ?_, ?_, ?_, fun j u hj hu => k3 (h.c j u hj hu), ?_, ?_⟩
  · exact row_keep h.rc (fun b hb => app_keep hg (row_lt h.rc hb) (fun e => h.ne b e hb))
  · intro b hb h6
    rcases hat with e | e
    · exact h.ne b (e ▸ hb) h6
    · have := row_lt h.rc h6
      rw [e] at hb
      simp at hb
      omega
  · intro j u _ hu
    rcases get j u hu with ⟨h1, _⟩ | ⟨rfl, rfl⟩
    · exact k3 (h.o j u (Nat.zero_le _) h1)
    · exact k3 hv
  · intro j k u u' _ _ hne hu hu' b hb hb'
    rcases get j u hu with ⟨h1, _⟩ | ⟨rfl, rfl⟩
    · rcases get k u' hu' with ⟨h2, _⟩ | ⟨rfl, rfl⟩
      · exact h.oo j k u u' (Nat.zero_le _) (Nat.zero_le _) hne h1 h2 b hb hb'
      · exact (hap b hb').1 u (List.mem_of_getElem? h1) hb
    · rcases get k u' hu' with ⟨h2, _⟩ | ⟨rfl, rfl⟩
      · exact (hap b hb).1 u' (List.mem_of_getElem? h2) hb'
      · exact hne rfl
  · intro j k u u' _ _ hu hu' b hb hb'
    rcases get j u hu with ⟨h1, _⟩ | ⟨rfl, rfl⟩
    · exact h.oc j k u u' (Nat.zero_le _) (Nat.zero_le _) h1 hu' b hb hb'
    · exact (hap b hb).2 u' (List.mem_of_getElem? hu') hb'
theorem Tl.pushC {v v6' : Value} {o : Obj} {w2 : World} (h : Tl B LL 0 ko kc v5 v6 O C W) (hv : W.ownsRow B 3 1 v (LL kc).length (intsV (LL kc)))
    (hap : ∀ b : Nat, v.ownBlock = some b → (∀ u ∈ O, u.ownBlock ≠ some b)) (hr : w2.ownsRow B 28 1 v6' (kc + 1) (C ++ [v])) (hg : (W.alloc o).grownBy w2 v6.ownBlock) (hat : v6'.ownBlock = v6.ownBlock ∨ v6'.ownBlock = some (W.alloc o).heap.size) :
    Tl B LL 0 ko (kc + 1) v5 v6' O (C ++ [v]) w2 := by
  have hl : C.length = kc := by have := h.rc.1; omega
  have k3 : ∀ {u : Value} {n : Nat} {vs : List Value}, W.ownsRow B 3 1 u n vs → w2.ownsRow B 3 1 u n vs := fun hu => row_keep hu (fun b hb => app_keep hg (row_lt hu hb) (row_ne hu h.rc (by decide) hb))
  have get : ∀ j u, (C ++ [v])[j]? = some u → (C[j]? = some u ∧ j < kc) ∨ (j = kc ∧ u = v) := fun j u hu => by
    rcases Nat.lt_or_ge j C.length with hj | hj
    · rw [List.getElem?_append_left hj] at hu; exact .inl ⟨hu, by omega⟩
    · rw [List.getElem?_append_right hj] at hu
      have hz : j - C.length = 0 := by
        have := (List.getElem?_eq_some_iff.1 hu).1
        simp at this
        exact this
      rw [hz] at hu
      simp at hu
      exact .inr ⟨by omega, hu.symm⟩
  refine ⟨?_, hr, ?_, fun j u hj hu => k3 (h.o j u hj hu), ?_, h.oo, ?_⟩
  · exact row_keep h.ro (fun b hb => app_keep hg (row_lt h.ro hb) (h.ne b hb))
  · intro b hb h6
    rcases hat with e | e
    · exact h.ne b hb (e ▸ h6)
    · have := row_lt h.ro hb
      rw [e] at h6
      simp at h6
      omega
  · intro j u _ hu
    rcases get j u hu with ⟨h1, _⟩ | ⟨rfl, rfl⟩
    · exact k3 (h.c j u (Nat.zero_le _) h1)
    · exact k3 hv
  · intro j k u u' _ _ hu hu' b hb hb'
    rcases get k u' hu' with ⟨h1, _⟩ | ⟨rfl, rfl⟩
    · exact h.oc j k u u' (Nat.zero_le _) (Nat.zero_le _) hu h1 b hb hb'
    · exact hap b hb' u (List.mem_of_getElem? hu) hb
theorem Tl.old (h : Tl B LL 0 ko kc v5 v6 O C W) : (∀ u ∈ O, ∀ b : Nat, u.ownBlock = some b → b < W.heap.size) ∧ (∀ u ∈ C, ∀ b : Nat, u.ownBlock = some b → b < W.heap.size) := by
  refine ⟨fun u hu b hb => ?_, fun u hu b hb => ?_⟩
  · obtain ⟨j, hj⟩ := List.getElem?_of_mem hu
    exact row_lt (h.o j u (Nat.zero_le _) hj) hb
  · obtain ⟨j, hj⟩ := List.getElem?_of_mem hu
    exact row_lt (h.c j u (Nat.zero_le _) hj) hb
theorem row_set {e n g c k : Nat} {xs : List Value} {v : Value} (h : W.ownsRow B e 1 (.slice (some ⟨g, 0, none⟩) n c) n xs) : (W.setCell ⟨g, k, none⟩ v).ownsRow B e 1 (.slice (some ⟨g, 0, none⟩) n c) n (xs.set k v) := by
  refine ⟨by rw [List.length_set]; exact h.1, .inr ?_⟩
  rcases h.2 with ⟨e0, _⟩ | ⟨g', cap, cur, e0, hb, hg, h1, h2, h3, h4⟩
  · cases e0
  · injection e0 with e1 e2 e3
    injection e1 with e1
    injection e1 with e1
    subst e1 e3
    refine ⟨g, c, cur.setIfInBounds k v, rfl, hb, heap_setCell_same W g k _ e _ hg, h1, h2, by simpa using h3, ?_⟩
    rw [Array.toList_setIfInBounds, List.take_set, h4]
theorem row_cell {e n g c k : Nat} {xs : List Value} {v : Value} (h : W.ownsRow B e 1 (.slice (some ⟨g, 0, none⟩) n c) n xs) (hk : xs[k]? = some v) : W.cell? ⟨g, k, none⟩ = some v ∧ W.frozen? ⟨g, k, none⟩ = false := by
  have hkn : k < n := by have := (List.getElem?_eq_some_iff.1 hk).1; have := h.1; omega
  rcases h.2 with ⟨e0, _⟩ | ⟨g', cap, cur, e0, hb, hg, h1, h2, h3, h4⟩
  · cases e0
  · injection e0 with e1 e2 e3
    injection e1 with e1
    injection e1 with e1
    subst e1 e3
    rw [← h4, List.getElem?_take_of_lt (by omega), Array.getElem?_toList] at hk
    exact ⟨cells_at hg hk, frozen_at hg⟩
/-- One of the lists is written over. -/
structure Md (B : Nat) (LL : Nat → List Int) (i : Nat) (v5 v6 : Value) (O C : List Value) (u : Value) (n : Nat) (xs : List Value) (W : World) : Prop where
  tl : Tl B LL (i + 1) 3 3 v5 v6 O C W
  at_ : O[i]? = some u
  row : W.ownsRow B 3 1 u n xs
  ap : ∀ b : Nat, u.ownBlock = some b → ∀ j, i + 1 ≤ j → (∀ v, O[j]? = some v → v.ownBlock ≠ some b) ∧ (∀ v, C[j]? = some v → v.ownBlock ≠ some b)
theorem Md.of {u : Value} (h : Tl B LL i 3 3 v5 v6 O C W) (hu : O[i]? = some u) : Md B LL i v5 v6 O C u (LL i).length (intsV (LL i)) W :=
  ⟨⟨h.ro, h.rc, h.ne, fun j v hj hv => h.o j v (by omega) hv, fun j v hj hv => h.c j v (by omega) hv, fun j k a b hj hk => h.oo j k a b (by omega) (by omega), fun j k a b hj hk => h.oc j k a b (by omega) (by omega)⟩, hu, h.o i u (Nat.le_refl _) hu,
    fun b hb j hj => ⟨fun v hv => h.oo i j u v (Nat.le_refl _) (by omega) (by omega) hu hv b hb, fun v hv => h.oc i j u v (Nat.le_refl _) (by omega) hu hv b hb⟩⟩
theorem Md.write {g n c k : Nat} {xs : List Value} {v : Value} (h : Md B LL i v5 v6 O C (.slice (some ⟨g, 0, none⟩) n c) n xs W) : Md B LL i v5 v6 O C (.slice (some ⟨g, 0, none⟩) n c) n (xs.set k v) (W.setCell ⟨g, k, none⟩ v) := by
  have hne : ∀ b : Nat, b ≠ g → (W.setCell ⟨g, k, none⟩ v).heap[b]? = W.heap[b]? := fun b hb => Below.heap_setCell _ _ _ _ hb
  have hg : (Value.slice (some ⟨g, 0, none⟩) n c).ownBlock = some g := rfl
  refine ⟨h.tl.keep ?_ ?_ ?_ ?_, h.at_, row_set h.row, h.ap⟩
  · exact fun b hb => hne b (fun e => row_ne h.tl.ro h.row (by decide) hb (by rw [e]; exact hg))
  · exact fun b hb => hne b (fun e => row_ne h.tl.rc h.row (by decide) hb (by rw [e]; exact hg))
  · exact fun j u hj hu b hb => hne b (fun e => (h.ap g hg j hj).1 u hu (e ▸ hb))
  · exact fun j u hj hu b hb => hne b (fun e => (h.ap g hg j hj).2 u hu (e ▸ hb))
/-- One more at the end of one of the lists, which is put back. -/
theorem Md.more {u u' : Value} {n g5 c5 : Nat} {xs ys : List Value} {o : Obj} {w2 : World} (h : Md B LL i (.slice (some ⟨g5, 0, none⟩) 3 c5) v6 O C u n xs W) (hr : w2.ownsRow B 3 1 u' (n + 1) ys) (hg : (W.alloc o).grownBy w2 u.ownBlock) (hat : u'.ownBlock = u.ownBlock ∨ u'.ownBlock = some (W.alloc o).heap.size) :
    Md B LL i (.slice (some ⟨g5, 0, none⟩) 3 c5) v6 (O.set i u') C u' (n + 1) ys (w2.setCell ⟨g5, i, none⟩ u') := by
  have k2 : ∀ {e : TypeId} {m : Nat} {v : Value} {vs : List Value}, W.ownsRow B e 1 v m vs → (∀ b : Nat, v.ownBlock = some b → u.ownBlock ≠ some b) → w2.ownsRow B e 1 v m vs := fun hv hne => row_keep hv (fun b hb => app_keep hg (row_lt hv hb) (hne b hb))
  have r5 := k2 h.tl.ro (fun b hb => row_ne h.tl.ro h.row (by decide) hb)
  have r6 := k2 h.tl.rc (fun b hb => row_ne h.tl.rc h.row (by decide) hb)
  have h5 : (Value.slice (some ⟨g5, 0, none⟩) 3 c5).ownBlock = some g5 := rfl
  have hne : ∀ b : Nat, b ≠ g5 → (w2.setCell ⟨g5, i, none⟩ u').heap[b]? = w2.heap[b]? := fun b hb => Below.heap_setCell _ _ _ _ hb
  have t3 : ∀ {m : Nat} {v : Value} {vs : List Value}, w2.ownsRow B 3 1 v m vs → (w2.setCell ⟨g5, i, none⟩ u').ownsRow B 3 1 v m vs := fun hv => row_keep hv (fun b hb => hne b (fun e => row_ne hv r5 (by decide) hb (by rw [e]; exact h5)))
  have hio : i < O.length := (List.getElem?_eq_some_iff.1 h.at_).1
  have ho : ∀ j v, i + 1 ≤ j → (O.set i u')[j]? = some v → O[j]? = some v := fun j v hj hv => by rw [List.getElem?_set_ne (by omega)] at hv; exact hv
  refine ⟨⟨row_set r5, ?_, h.tl.ne, fun j v hj hv => ?_, fun j v hj hv => ?_, fun j k a b hj hk hjk ha hb => h.tl.oo j k a b hj hk hjk (ho j a hj ha) (ho k b hk hb), fun j k a b hj hk ha hb => h.tl.oc j k a b hj hk (ho j a hj ha) hb⟩, by rw [List.getElem?_set_self hio], t3 hr, fun b hb j hj => ?_⟩
  · exact row_keep r6 (fun b hb => hne b (fun e => h.tl.ne g5 h5 (e ▸ hb)))
  · exact t3 (k2 (h.tl.o j v hj (ho j v hj hv)) (fun b hb hu => (h.ap b hu j hj).1 v (ho j v hj hv) hb))
  · exact t3 (k2 (h.tl.c j v hj hv) (fun b hb hu => (h.ap b hu j hj).2 v hv hb))
  · rcases hat with e | e
    · have := h.ap b (e ▸ hb) j hj
      exact ⟨fun v hv => this.1 v (ho j v hj hv), this.2⟩
    · rw [e] at hb
      have hbz : b = W.heap.size + 1 := by simpa using hb.symm
      refine ⟨fun v hv e2 => ?_, fun v hv e2 => ?_⟩
      · have := row_lt (h.tl.o j v hj (ho j v hj hv)) e2; omega
      · have := row_lt (h.tl.c j v hj hv) e2; omega
end
end Go.Proofs.Ytdkibcagbidelaa
namespace Go.Proofs.Ytdkibcagbidelaa
open Go.RowKit Pr

theorem ask_room {n : Nat} (h : n * 24 ≤ 140737488351232) : (0 + n ≤ maxLen ∧ (0 + n + (0 + n) / 4 + 192) * 24 ≤ 281474976710656) ∧ (n + 1 ≤ maxLen ∧ (n + 1 + (n + 1) / 4 + 192) * 24 ≤ 281474976710656) :=
  ⟨⟨Nat.le_trans (m := 35184372088832) (by omega) (by decide), by omega⟩, Nat.le_trans (m := 35184372088832) (by omega) (by decide), by omega⟩
theorem ask_roomR {n : Nat} (h : n * 16 ≤ 140737488351232) : (0 + n ≤ maxLen ∧ (0 + n + (0 + n) / 4 + 192) * 16 ≤ 281474976710656) ∧ (n + 1 ≤ maxLen ∧ (n + 1 + (n + 1) / 4 + 192) * 16 ≤ 281474976710656) :=
  ⟨⟨Nat.le_trans (m := 35184372088832) (by omega) (by decide), by omega⟩, Nat.le_trans (m := 35184372088832) (by omega) (by decide), by omega⟩
/-- A row of the call's own, with one element more. -/
theorem row_more {W : World} {B : Nat} {v : Value} {ws : List Wt} {x : Wt} (h : W.ownsRow B 40 3 v (ws.length + 1) (flatW (ws ++ [x]))) :
    ∃ g c cs, v = .slice (some ⟨g, 0, none⟩) (ws.length + 1) c ∧ ws.length + 1 ≤ c ∧ B ≤ g ∧ W.heap[g]? = some (.cells cs 40 (0, 0)) ∧ (ws.length + 1) * 3 ≤ cs.size ∧ WantsAt W (some ⟨g, 0, none⟩) ws ∧ W.cell? ⟨g, ws.length * 3, none⟩ = some (.int .i64 x.job) := by
  rcases h.2 with ⟨_, h0⟩ | ⟨g, cap, cur, rfl, hb, hg, hc1, hc2, hc3, ht⟩
  · omega
  · have hcell : ∀ j s, (ws ++ [x])[j]? = some s → W.cell? ⟨g, j * 3, none⟩ = some (.int .i64 s.job) ∧ W.cell? ⟨g, j * 3 + 1, none⟩ = some (.int .i64 s.nd) ∧ W.cell? ⟨g, j * 3 + 2, none⟩ = some (.int .i64 s.lm) := fun j s hs => by
      have hj : j < ws.length + 1 := by simpa using (List.getElem?_eq_some_iff.1 hs).1
      obtain ⟨h1, h2, h3⟩ := flatW_at (ws ++ [x]) j s hs
      rw [← ht, List.getElem?_take_of_lt (by omega), Array.getElem?_toList] at h1 h2 h3
      exact ⟨cells_at hg h1, cells_at hg h2, cells_at hg h3⟩
    refine ⟨g, cap, cur, rfl, hc1, hb, hg, ?_, ⟨g, 0, fun _ => rfl, fun k r hr => ?_⟩, ?_⟩
    · have h9 := congrArg List.length ht
      rw [List.length_take, flatW_len, List.length_append, List.length_singleton] at h9
      rw [← Array.length_toList]
      omega
    · rw [Nat.zero_add]
      exact hcell k r (by rw [List.getElem?_append_left (List.getElem?_eq_some_iff.1 hr).1]; exact hr)
    · exact (hcell ws.length x (by simp)).1
theorem rowR_more {W : World} {B : Nat} {v : Value} {rs : List Rn} {x : Rn} (h : W.ownsRow B 45 2 v (rs.length + 1) (flatR (rs ++ [x]))) :
    ∃ g c cs, v = .slice (some ⟨g, 0, none⟩) (rs.length + 1) c ∧ rs.length + 1 ≤ c ∧ B ≤ g ∧ W.heap[g]? = some (.cells cs 45 (0, 0)) ∧ (rs.length + 1) * 2 ≤ cs.size ∧ RunsAt W (some ⟨g, 0, none⟩) rs ∧ W.cell? ⟨g, rs.length * 2, none⟩ = some (.int .i64 x.nd) := by
  rcases h.2 with ⟨_, h0⟩ | ⟨g, cap, cur, rfl, hb, hg, hc1, hc2, hc3, ht⟩
  · omega
  · have hcell : ∀ j s, (rs ++ [x])[j]? = some s → W.cell? ⟨g, j * 2, none⟩ = some (.int .i64 s.nd) ∧ W.cell? ⟨g, j * 2 + 1, none⟩ = some (.int .i64 s.en) := fun j s hs => by
      have hj : j < rs.length + 1 := by simpa using (List.getElem?_eq_some_iff.1 hs).1
      obtain ⟨h1, h2⟩ := flatR_at (rs ++ [x]) j s hs
      rw [← ht, List.getElem?_take_of_lt (by omega), Array.getElem?_toList] at h1 h2
      exact ⟨cells_at hg h1, cells_at hg h2⟩
    refine ⟨g, cap, cur, rfl, hc1, hb, hg, ?_, ⟨g, 0, fun _ => rfl, fun k r hr => ?_⟩, ?_⟩
    · have h9 := congrArg List.length ht
      rw [List.length_take, flatR_len, List.length_append, List.length_singleton] at h9
      rw [← Array.length_toList]
      omega
    · rw [Nat.zero_add]
      exact hcell k r (by rw [List.getElem?_append_left (List.getElem?_eq_some_iff.1 hr).1]; exact hr)
    · exact (hcell rs.length x (by simp)).1
theorem row_set4 {W : World} {b B n : Nat} {cs : Array Value} {v : Value} {vs : List Value} {v0 v1 v2 v3 : Value} (hb : W.heap[b]? = some (.cells cs 30 (0, 0))) (h : W.ownsRow B 3 1 v n vs) :
    ((((W.setCell ⟨b, 0, none⟩ v0).setCell ⟨b, 1, none⟩ v1).setCell ⟨b, 2, none⟩ v2).setCell ⟨b, 3, none⟩ v3).ownsRow B 3 1 v n vs := by
  refine row_keep h (fun k e => ?_)
  obtain ⟨_, cs', hk⟩ := row_tag h e
  have hne : k ≠ b := tag_ne hk hb (by decide)
  exact (Below.heap_setCell _ _ _ _ hne).trans ((Below.heap_setCell _ _ _ _ hne).trans ((Below.heap_setCell _ _ _ _ hne).trans (Below.heap_setCell _ _ _ _ hne)))
set_option maxRecDepth 20000 in
set_option maxHeartbeats 8000000 in
theorem asked_any {w : World} {ao wo : Option Addr} {rs : List Rn} {ws : List Wt} {cr cw : Nat} (hA : RunsAt w ao rs) (hn : rs.length * 16 ≤ 140737488351232) (hW : WantsAt w wo ws) (hnw : ws.length * 24 ≤ 140737488351232) (hwn : wo = none → ws.length = 0 ∧ cw = 0) (han : ao = none → rs.length = 0 ∧ cr = 0) (hj : ∀ x ∈ ws, JobOk x) (now free ho : Int) :
    Calls Try.prog 9 #[.agg #[.int .i64 now, .int .i64 free, .slice wo ws.length cw, .int .i64 ho, .slice ao rs.length cr]] w fun e w' =>
      ∃ v, e = .returned (.tuple #[planV v (passR now free ws ho rs), .int .i64 (passE now free ws ho rs), .bool true]) ∧ w'.ownsRow w.heap.size 3 1 v (passR now free ws ho rs).st.length (intsV (passR now free ws ho rs).st) ∧ Below w.heap.size w w' := by
  obtain ⟨za, hza⟩ : ∃ za, w.heap.size = za := ⟨_, rfl⟩
  obtain ⟨W1, hW1⟩ : ∃ W1, (w.alloc (.cells #[.int .i64 now, .int .i64 free, .slice wo ws.length cw, .int .i64 ho, .slice ao rs.length cr] 25)).alloc (.cells #[.slice none 0 0, .int .i64 0, .int .i64 0, .int .i64 0] 30) = W1 := ⟨_, rfl⟩
  have b1 : Below w.heap.size w W1 := by rw [← hW1]; exact ((Below.refl _ w).alloc (Nat.le_refl _) _).alloc (by simp) _
  have ka : W1.heap[za]? = some (.cells #[.int .i64 now, .int .i64 free, .slice wo ws.length cw, .int .i64 ho, .slice ao rs.length cr] 25 (0, 0)) := by
    rw [← hW1, ← hza]
    exact (Below.heap_alloc _ _ _ (by simp)).trans (heap_alloc_new w _)
  have kp : W1.heap[za + 1]? = some (.cells #[.slice none 0 0, .int .i64 0, .int .i64 0, .int .i64 0] 30 (0, 0)) := by
    rw [← hW1, ← hza]
    have := heap_alloc_new (w.alloc (.cells #[.int .i64 now, .int .i64 free, .slice wo ws.length cw, .int .i64 ho, .slice ao rs.length cr] 25)) (.cells #[.slice none 0 0, .int .i64 0, .int .i64 0, .int .i64 0] 30)
    rwa [World.size_alloc] at this
  have CP : Hid (∀ W gw gr cpw cpr, RunsAt W gr rs → WantsAt W gw ws → Calls Try.prog 13 #[.int .i64 now, .int .i64 free, .slice gw ws.length cpw, .int .i64 ho, .slice gr rs.length cpr] W fun e w' =>
      ∃ v, e = .returned (.tuple #[planV v (passR now free ws ho rs), .int .i64 (passE now free ws ho rs)]) ∧ w'.ownsRow W.heap.size 3 1 v (passR now free ws ho rs).st.length (intsV (passR now free ws ho rs).st) ∧ Below W.heap.size W w') :=
    fun W gw gr cpw cpr h1 h2 => pass_any h1 (by omega) h2 (by omega) hj now free ho
  generalize passR now free ws ho rs = PV at *
  generalize passE now free ws ho rs = PE at *
  obtain ⟨hu1, hu2⟩ := ask_room hnw
  obtain ⟨hv1, hv2⟩ := ask_roomR hn
  have HKA : Hid _ := ka
  have HKP : Hid _ := kp
  have HB1 : Hid _ := b1
  have HW : Hid (WantsAt w wo ws) := hW
  have HA : Hid (RunsAt w ao rs) := hA
  obtain ⟨zm, hzm⟩ : ∃ zm, W1.heap.size = zm := ⟨_, rfl⟩
  obtain ⟨W2, hW2⟩ : ∃ W2, W1.alloc (.cells #[] 40) = W2 := ⟨_, rfl⟩
  have b2 : Below W1.heap.size W1 W2 := by rw [← hW2]; exact (Below.refl _ W1).alloc (Nat.le_refl _) _
  have HR2 : Hid (W2.ownsRow W1.heap.size 40 3 (.slice (some ⟨zm, 0, none⟩) 0 0) 0 []) := show W2.ownsRow W1.heap.size 40 3 (.slice (some ⟨zm, 0, none⟩) 0 0) 0 [] by rw [← hW2, ← hzm]; exact made0 W1 40 3
  have a2 := cells_at (bk b2 ka) (k := 2) rfl
  have HB2 : Hid (Below W1.heap.size W1 W2) := b2
  have HCW : Hid (∀ ad, wo = some ad → ∀ j u, (flatW ws)[j]? = some u → W2.cell? (ad.add j) = some u) := fun ad had j u hu => by
    obtain ⟨g9, o9, h9, k9⟩ := HW.out.below (b1.trans (b2.mono b1.size))
    have hjl := (List.getElem?_eq_some_iff.1 hu).1
    rw [flatW_len] at hjl
    have e9 := h9 (by omega)
    rw [had] at e9
    obtain rfl := Option.some.inj e9
    exact flatW_cell k9 j u hu
  have HFW : Hid ((flatW ws).length = ws.length * 3) := flatW_len ws
  obtain ⟨j0, hj0, hy0, hy1, hy2⟩ := info_parts Try.inf40
  obtain ⟨i0, hi0, hz0, hz1, hz2⟩ := info_parts Try.inf45
  clear ka kp b1 b2 hA hW
  go_enter Try.func9, Try.ntmps9
  go_upto_region 3 with (at_builtin; refine wpList_append_any rfl (.tmp 13) (.tmp 15) 22 rfl W1.heap.size 40 j0 _ 3 24 Try.underlying22 hj0 hy0 hy1 hy2 rfl (by decide) (.slice (some ⟨zm, 0, none⟩) 0 0) 0 [] rfl HR2.out wo ws.length cw (flatW ws) rfl hwn HFW.out HCW.out (flatW_one ws) hu1.1 hu1.2 HB2.out.size ?_; intro v3 w3 hr3 hg3)
  rw [Nat.zero_add, List.nil_append] at hr3
  have b3 : Below W1.heap.size W1 w3 := HB2.out.grown hg3 HB2.out.size (fun k e => by
    have : zm = k := by simpa [Value.ownBlock] using e
    omega)
  have HR3 : Hid (w3.ownsRow W1.heap.size 40 3 v3 ws.length (flatW ws)) := hr3
  have HB3 : Hid (Below W1.heap.size W1 w3) := b3
  clear a2 hr3 b3 hg3 HCW HR2 HB2 hW2 hzm
  go_upto_region 4 with (at_builtin; refine wpList_append_own_wide _ rfl (.tmp 17) (.tmp 19) 22 rfl W1.heap.size 40 j0 _ 3 24 Try.underlying22 hj0 hy0 hy1 hy2 rfl (by decide) _ ws.length (flatW ws) rfl (HR3.out.alloc _) ⟨w3.heap.size, 0, none⟩ 1 1 [.int .i64 (-77), .int .i64 0, .int .i64 0] rfl rfl (World.news_of_block (cs := #[.int .i64 (-77), .int .i64 0, .int .i64 0]) (t := 40) (fr := (0, 0)) (heap_alloc_new w3 _)) (by simp [Value.oneCell']) hu2.1 hu2.2 (Nat.le_trans HB3.out.size (by simp)) ?_; intro v4 w4 hr4 hg4 _)
  have hr4' : w4.ownsRow W1.heap.size 40 3 v4 (ws.length + 1) (flatW (ws ++ [⟨-77, 0, 0⟩])) := by rw [flatW_app]; exact hr4
  have b4 : Below W1.heap.size W1 w4 := (HB3.out.alloc HB3.out.size _).grown hg4 (Nat.le_trans HB3.out.size (by simp)) (fun k e => (row_tag HR3.out e).1)
  have HR4 : Hid (w4.ownsRow W1.heap.size 40 3 v4 (ws.length + 1) (flatW (ws ++ [⟨-77, 0, 0⟩]))) := hr4'
  have HB4 : Hid (Below W1.heap.size W1 w4) := b4
  obtain ⟨zr, hzr⟩ : ∃ zr, w4.heap.size = zr := ⟨_, rfl⟩
  obtain ⟨W5, hW5⟩ : ∃ W5, w4.alloc (.cells #[] 45) = W5 := ⟨_, rfl⟩
  have b5 : Below w4.heap.size w4 W5 := by rw [← hW5]; exact (Below.refl _ w4).alloc (Nat.le_refl _) _
  have HR5 : Hid (W5.ownsRow w4.heap.size 45 2 (.slice (some ⟨zr, 0, none⟩) 0 0) 0 []) := show W5.ownsRow w4.heap.size 45 2 (.slice (some ⟨zr, 0, none⟩) 0 0) 0 [] by rw [← hW5, ← hzr]; exact made0 w4 45 2
  have a4 := cells_at (bk b5 (bk b4 HKA.out)) (k := 4) rfl
  have HB5 : Hid (Below w4.heap.size w4 W5) := b5
  have HCR : Hid (∀ ad, ao = some ad → ∀ j u, (flatR rs)[j]? = some u → W5.cell? (ad.add j) = some u) := fun ad had j u hu => by
    have bb := HB1.out.trans (b4.mono HB1.out.size)
    obtain ⟨g9, o9, h9, k9⟩ := HA.out.below (bb.trans (b5.mono bb.size))
    have hjl := (List.getElem?_eq_some_iff.1 hu).1
    rw [flatR_len] at hjl
    have e9 := h9 (by omega)
    rw [had] at e9
    obtain rfl := Option.some.inj e9
    exact flatR_cell k9 j u hu
  have HFR : Hid ((flatR rs).length = rs.length * 2) := flatR_len rs
  clear hr4 hr4' b4 hg4 HR3 HB3 b5
  go_upto_region 6 with (at_builtin; refine wpList_append_any rfl (.tmp 22) (.tmp 24) 23 rfl w4.heap.size 45 i0 _ 2 16 Try.underlying23 hi0 hz0 hz1 hz2 rfl (by decide) (.slice (some ⟨zr, 0, none⟩) 0 0) 0 [] rfl HR5.out ao rs.length cr (flatR rs) rfl han HFR.out HCR.out (flatR_one rs) hv1.1 hv1.2 HB5.out.size ?_; intro v6 w6 hr6 hg6)
  rw [Nat.zero_add, List.nil_append] at hr6
  have b6 : Below w4.heap.size w4 w6 := HB5.out.grown hg6 HB5.out.size (fun k e => by
    have : zr = k := by simpa [Value.ownBlock] using e
    omega)
  have HR6 : Hid (w6.ownsRow w4.heap.size 45 2 v6 rs.length (flatR rs)) := hr6
  have HB6 : Hid (Below w4.heap.size w4 w6) := b6
  clear a4 hr6 b6 hg6 HCR HR5 HB5 hW5 hzr
  go_upto_region 7 with (at_builtin; refine wpList_append_own_wide _ rfl (.tmp 26) (.tmp 28) 23 rfl w4.heap.size 45 i0 _ 2 16 Try.underlying23 hi0 hz0 hz1 hz2 rfl (by decide) _ rs.length (flatR rs) rfl (HR6.out.alloc _) ⟨w6.heap.size, 0, none⟩ 1 1 [.int .i64 (-77), .int .i64 0] rfl rfl (World.news_of_block (cs := #[.int .i64 (-77), .int .i64 0]) (t := 45) (fr := (0, 0)) (heap_alloc_new w6 _)) (by simp [Value.oneCell']) hv2.1 hv2.2 (Nat.le_trans HB6.out.size (by simp)) ?_; intro v7 w7 hr7 hg7 _)
  have hr7' : w7.ownsRow w4.heap.size 45 2 v7 (rs.length + 1) (flatR (rs ++ [⟨-77, 0⟩])) := by rw [flatR_app]; exact hr7
  have b7 : Below w4.heap.size w4 w7 := (HB6.out.alloc HB6.out.size _).grown hg7 (Nat.le_trans HB6.out.size (by simp)) (fun k e => (row_tag HR6.out e).1)
  obtain ⟨gr, cpr, csr, rfl, hcr, hgr, hbr, hsr, hRA, hlr⟩ := rowR_more hr7'
  obtain ⟨gw, cpw, csw, rfl, hcw, hgw, hbw, hsw, hWA, hlw⟩ := row_more (rowB b7 HR4.out)
  have bW : Below W1.heap.size W1 w7 := HB4.out.trans (b7.mono HB4.out.size)
  have HB7 : Hid (Below w.heap.size w w7) := HB1.out.trans (bW.mono HB1.out.size)
  have ka := bk bW HKA.out
  have kp := bk bW HKP.out
  have HKA7 : Hid (w7.heap[za]? = some (.cells #[.int .i64 now, .int .i64 free, .slice wo ws.length cw, .int .i64 ho, .slice ao rs.length cr] 25 (0, 0))) := ka
  have HKP7 : Hid (w7.heap[za + 1]? = some (.cells #[.slice none 0 0, .int .i64 0, .int .i64 0, .int .i64 0] 30 (0, 0))) := kp
  have HGW : Hid (w7.heap[gw]? = some (.cells csw 40 (0, 0)) ∧ (ws.length + 1) * 3 ≤ csw.size ∧ w.heap.size ≤ gw) := ⟨hbw, hsw, Nat.le_trans HB1.out.size hgw⟩
  have HGR : Hid (w7.heap[gr]? = some (.cells csr 45 (0, 0)) ∧ (rs.length + 1) * 2 ≤ csr.size ∧ w.heap.size ≤ gr) := ⟨hbr, hsr, Nat.le_trans (Nat.le_trans HB1.out.size HB4.out.size) hgr⟩
  have HWA : Hid (WantsAt w7 (some ⟨gw, 0, none⟩) ws) := hWA
  have HRA : Hid (RunsAt w7 (some ⟨gr, 0, none⟩) rs) := hRA
  have HLW : Hid (w7.cell? ⟨gw, ws.length * 3, none⟩ = some (.int .i64 (-77))) := hlw
  have HLR : Hid (w7.cell? ⟨gr, rs.length * 2, none⟩ = some (.int .i64 (-77))) := hlr
  unfold planV at CP
  have CX : Hid (∀ x, Below w7.heap.size w7 x → Calls Try.prog 13 #[.int .i64 now, .int .i64 free, .slice (some ⟨gw, 0, none⟩) ws.length cpw, .int .i64 ho, .slice (some ⟨gr, 0, none⟩) rs.length cpr] x fun e w' =>
      ∃ v, e = .returned (.tuple #[.agg #[v, .int .i64 PV.ho, .int .i64 PV.sh, .int .i64 PV.ex], .int .i64 PE]) ∧ w'.ownsRow x.heap.size 3 1 v PV.st.length (intsV PV.st) ∧ Below x.heap.size x w') := fun x hx => CP.out x _ _ _ _ (HRA.out.below hx) (HWA.out.below hx)
  have HC : Hid (∀ x, Below w7.heap.size w7 x → x.cell? ⟨za, 0, none⟩ = some (.int .i64 now) ∧ x.cell? ⟨za, 1, none⟩ = some (.int .i64 free) ∧ x.cell? ⟨za, 2, none⟩ = some (.slice wo ws.length cw) ∧ x.cell? ⟨za, 3, none⟩ = some (.int .i64 ho) ∧ x.cell? ⟨za, 4, none⟩ = some (.slice ao rs.length cr)) := fun x hx => ⟨cells_at (bk hx HKA7.out) rfl, cells_at (bk hx HKA7.out) rfl, cells_at (bk hx HKA7.out) rfl, cells_at (bk hx HKA7.out) rfl, cells_at (bk hx HKA7.out) rfl⟩
  have HC1 := HC.out w7.drew ((Below.refl _ w7).drew)
  have HC1 : Hid (w7.drew.cell? ⟨za, 0, none⟩ = some (.int .i64 now) ∧ w7.drew.cell? ⟨za, 1, none⟩ = some (.int .i64 free) ∧ w7.drew.cell? ⟨za, 2, none⟩ = some (.slice wo ws.length cw) ∧ w7.drew.cell? ⟨za, 3, none⟩ = some (.int .i64 ho) ∧ w7.drew.cell? ⟨za, 4, none⟩ = some (.slice ao rs.length cr)) := HC1
  have HZA : Hid (w.heap.size ≤ za) := by show w.heap.size ≤ za; omega
  have hcw' : ws.length ≤ cpw := by omega
  have hcr' : rs.length ≤ cpr := by omega
  clear hr7 hr7' hg7 b7 bW ka kp hbw hsw hbr hsr hWA hRA hlw hlr hgw hgr CP HR4 HB4 HR6 HB6 HKA HKP HB1 HFW HFR hW1 hza
  go_cut [7, 8] (fun p7 p8 x => ∃ zq sa sc, p7 = .pointer (some ⟨zq, 0, none⟩) ∧ p8 = .int .i64 PE ∧ x.heap[zq]? = some (.cells #[.slice sa PV.st.length sc, .int .i64 PV.ho, .int .i64 PV.sh, .int .i64 PV.ex] 30 (0, 0)) ∧ x.ownsRow w7.heap.size 3 1 (.slice sa PV.st.length sc) PV.st.length (intsV PV.st) ∧ Below w7.heap.size w7 x ∧ w7.heap.size ≤ zq)
  case first =>
    go_region_held3 (fun x => x.cell? ⟨za, 0, none⟩ = some (.int .i64 now) ∧ x.cell? ⟨za, 1, none⟩ = some (.int .i64 free) ∧ x.cell? ⟨za, 2, none⟩ = some (.slice wo ws.length cw) ∧ x.cell? ⟨za, 3, none⟩ = some (.int .i64 ho) ∧ x.cell? ⟨za, 4, none⟩ = some (.slice ao rs.length cr))
      (first | exact HC1.out | exact HC.out _ (by assumption) | exact HC.out _ BY.out | exact HC.out _ (((Below.refl _ w7).drew).alloc (Nat.le_refl _) _) | exact HC.out _ (BY.out.alloc BY.out.size _) | exact HC.out _ (below4 BY.out (Nat.le_refl _)))
      (first | (go_at_call 13; refine (CX.out _ (by first | exact ((Below.refl _ w7).drew) | exact ((Below.refl _ w7).drew).alloc (Nat.le_refl _) _)).mono ?_; rintro e y ⟨v, rfl, hrv, hy⟩; obtain ⟨sa, sc, rfl, _⟩ := ints_row hrv; have HRV : Hid (y.ownsRow w7.heap.size 3 1 (.slice sa PV.st.length sc) PV.st.length (intsV PV.st)) := own_base hrv (by simp); have BY : Hid (Below w7.heap.size w7 y) := (by first | exact ((Below.refl _ w7).drew).trans hy | exact (((Below.refl _ w7).drew).alloc (Nat.le_refl _) _).trans (hy.mono (by simp))); first | (have zb : y.heap[w7.heap.size]? = some (.cells #[.slice none 0 0, .int .i64 0, .int .i64 0, .int .i64 0] 30 (0, 0)) := (hy.block _ (by simp)).trans (heap_alloc_new w7 _); have z0 := cells_at zb (k := 0) rfl; have z1 := cells_at zb (k := 1) rfl; have z2 := cells_at zb (k := 2) rfl; have z3 := cells_at zb (k := 3) rfl; have z4 := frozen_at zb (k := 0); have z5 := frozen_at zb (k := 1); have z6 := frozen_at zb (k := 2); have z7 := frozen_at zb (k := 3); have HZB : Hid (y.heap[w7.heap.size]? = some (.cells #[.slice none 0 0, .int .i64 0, .int .i64 0, .int .i64 0] 30 (0, 0))) := zb; clear zb) | skip))
    all_goals
      go_wp2
      go_meet
      first
      | exact ⟨w7.heap.size, sa, sc, rfl, rfl, set4 HZB.out, row_set4 HZB.out HRV.out, below4 BY.out (Nat.le_refl _), Nat.le_refl _⟩
      | exact ⟨y.heap.size, sa, sc, rfl, rfl, heap_alloc_new y _, HRV.out.alloc _, BY.out.alloc BY.out.size _, BY.out.size⟩
      | exact ⟨y.heap.size, sa, sc, rfl, rfl, set4 (heap_alloc_new y _), row_set4 (heap_alloc_new y _) (HRV.out.alloc _), below4 (BY.out.alloc BY.out.size _) BY.out.size, BY.out.size⟩
  case rest =>
    obtain ⟨zq, sa, sc, rfl, rfl, hq8, hrow, hb8, hzq⟩ := hcut
    have HQ8 : Hid (wc.heap[zq]? = some (.cells #[.slice sa PV.st.length sc, .int .i64 PV.ho, .int .i64 PV.sh, .int .i64 PV.ex] 30 (0, 0))) := hq8
    have HRW : Hid (wc.ownsRow w7.heap.size 3 1 (.slice sa PV.st.length sc) PV.st.length (intsV PV.st)) := hrow
    have HB8 : Hid (Below w7.heap.size w7 wc) := hb8
    have hz7 : w7.heap.size ≤ wc.heap.size := hb8.size
    have C8 : Hid (∀ x, Below wc.heap.size wc x → x.cell? ⟨za, 2, none⟩ = some (.slice wo ws.length cw) ∧ x.cell? ⟨za, 4, none⟩ = some (.slice ao rs.length cr) ∧ x.cell? ⟨gw, ws.length * 3, none⟩ = some (.int .i64 (-77)) ∧ x.cell? ⟨gr, rs.length * 2, none⟩ = some (.int .i64 (-77))) := fun x hx => by
      have b := HB8.out.trans (hx.mono HB8.out.size)
      exact ⟨cells_at (bk b HKA7.out) rfl, cells_at (bk b HKA7.out) rfl, (b.cell (World.block_lt_of_cell? _ _ HLW.out)).trans HLW.out, (b.cell (World.block_lt_of_cell? _ _ HLR.out)).trans HLR.out⟩
    have C81 : Hid (wc.drew.cell? ⟨za, 2, none⟩ = some (.slice wo ws.length cw) ∧ wc.drew.cell? ⟨za, 4, none⟩ = some (.slice ao rs.length cr) ∧ wc.drew.cell? ⟨gw, ws.length * 3, none⟩ = some (.int .i64 (-77)) ∧ wc.drew.cell? ⟨gr, rs.length * 2, none⟩ = some (.int .i64 (-77))) := C8.out wc.drew ((Below.refl _ wc).drew)
    have SW : Hid (∀ x, Below wc.heap.size wc x → Calls Try.prog 21 #[.slice (some ⟨gw, 0, none⟩) ws.length cpw, .slice wo ws.length cw] x fun e w' => e = .returned (.bool true) ∧ Below x.heap.size x w') := fun x hx => by
      have b := HB8.out.trans (hx.mono HB8.out.size)
      exact sameWants_yes (HWA.out.below b) (HW.out.below (HB7.out.trans (b.mono HB7.out.size))) (by omega)
    have SR : Hid (∀ x, Below wc.heap.size wc x → Calls Try.prog 22 #[.slice (some ⟨gr, 0, none⟩) rs.length cpr, .slice ao rs.length cr] x fun e w' => e = .returned (.bool true) ∧ Below x.heap.size x w') := fun x hx => by
      have b := HB8.out.trans (hx.mono HB8.out.size)
      exact sameRuns_yes (HRA.out.below b) (HA.out.below (HB7.out.trans (b.mono HB7.out.size))) (by omega)
    obtain ⟨n1, hn1⟩ : ∃ n1, ws.length + 1 = n1 := ⟨_, rfl⟩
    obtain ⟨m1, hm1⟩ : ∃ m1, rs.length + 1 = m1 := ⟨_, rfl⟩
    have hszw := HGW.out.2.1
    have hszr := HGR.out.2.1
    rw [hn1] at hszw ⊢
    rw [hm1] at hszr ⊢
    have hn24 : n1 * 24 ≤ 140737488351256 := by omega
    have hm16 : m1 * 16 ≤ 140737488351248 := by omega
    have hl1 : ws.length < n1 := by omega
    have hl2 : rs.length < m1 := by omega
    have hl3 : (ws.length : Int) < (n1 : Int) := by omega
    have hl4 : (rs.length : Int) < (m1 : Int) := by omega
    clear hn1 hm1
    clear hq8 hrow hb8 HC HC1 CX
    go_upto_region 8 with fail
    go_cut [9] (fun p x => p = .bool true ∧ Below wc.heap.size wc x)
    case first =>
      go_region_held3 (fun x => x.cell? ⟨za, 2, none⟩ = some (.slice wo ws.length cw) ∧ x.cell? ⟨za, 4, none⟩ = some (.slice ao rs.length cr) ∧ x.cell? ⟨gw, ws.length * 3, none⟩ = some (.int .i64 (-77)) ∧ x.cell? ⟨gr, rs.length * 2, none⟩ = some (.int .i64 (-77)))
        (first | exact C81.out | exact C8.out _ (by assumption) | exact C8.out _ BZ.out | exact C8.out _ BY.out)
        (first | (go_at_call 21; refine (SW.out _ ((Below.refl _ wc).drew)).mono ?_; rintro e y ⟨rfl, hy⟩; have BY : Hid (Below wc.heap.size wc y) := ((Below.refl _ wc).drew).trans hy) | (go_at_call 22; refine (SR.out _ BY.out).mono ?_; rintro e z ⟨rfl, hz⟩; have BZ : Hid (Below wc.heap.size wc z) := BY.out.trans (hz.mono BY.out.size)))
      all_goals
        go_wp2
        go_meet
        exact ⟨by first | rfl | simp, BZ.out⟩
    case rest =>
      obtain ⟨rfl, hb9⟩ := hcut
      have HKP9 : Hid (wc.heap[za + 1]? = some (.cells #[.slice none 0 0, .int .i64 0, .int .i64 0, .int .i64 0] 30 (0, 0))) := bk hb9 (bk HB8.out HKP7.out)
      have HQ9 : Hid (wc.heap[zq]? = some (.cells #[.slice sa PV.st.length sc, .int .i64 PV.ho, .int .i64 PV.sh, .int .i64 PV.ex] 30 (0, 0))) := bk hb9 HQ8.out
      have HR9 : Hid (wc.ownsRow w7.heap.size 3 1 (.slice sa PV.st.length sc) PV.st.length (intsV PV.st)) := rowB hb9 HRW.out
      have HGW9 : Hid (wc.heap[gw]? = some (.cells csw 40 (0, 0))) := bk hb9 (bk HB8.out HGW.out.1)
      have HGR9 : Hid (wc.heap[gr]? = some (.cells csr 45 (0, 0))) := bk hb9 (bk HB8.out HGR.out.1)
      have b79 := HB8.out.trans (hb9.mono HB8.out.size)
      have HB9 : Hid (Below w.heap.size w wc) := HB7.out.trans (b79.mono HB7.out.size)
      have HZQ : Hid (w7.heap.size ≤ zq ∧ za + 1 < w7.heap.size) := ⟨hzq, lt_of_blk HKP7.out⟩
      clear hb9 b79 HQ8 HRW HB8 C8 C81 SW SR HB7 HKA7 HKP7 HWA HRA HLW HLR hz7 hzq
      clear hl1 hl2 hl3 hl4
      obtain ⟨V9, hV9⟩ : ∃ V9, V9 = wc := ⟨_, rfl⟩
      subst hV9
      go_wp2
      go_loopg [10] n1 (fun gk p wr => ∃ (j : Nat) (cs : Array Value), j + gk = n1 ∧ p = .int .i64 j ∧ wr.heap[gw]? = some (.cells cs 40 (0, 0)) ∧ n1 * 3 ≤ cs.size ∧ Chg (fun i => i = gw) V9 wr)
      case atStart => exact ⟨0, csw, by omega, rfl, HGW9.out, hszw, Chg.refl _ _⟩
      case round =>
        obtain ⟨j, cs, hjg, rfl, hgw, hsz, hch⟩ := hrel
        by_cases hlt : j < n1
        · have c0 : wr.cell? ⟨gw, j * 3, none⟩ = some (cs[j * 3]'(by omega)) := cells_at hgw (Array.getElem?_eq_getElem _)
          have c1 : wr.cell? ⟨gw, j * 3 + 1, none⟩ = some (cs[j * 3 + 1]'(by omega)) := cells_at hgw (Array.getElem?_eq_getElem _)
          have c2 : wr.cell? ⟨gw, j * 3 + 2, none⟩ = some (cs[j * 3 + 2]'(by omega)) := cells_at hgw (Array.getElem?_eq_getElem _)
          have f0 := frozen_at hgw (k := j * 3)
          have f1 := frozen_at hgw (k := j * 3 + 1)
          have f2 := frozen_at hgw (k := j * 3 + 2)
          have HG : Hid (wr.heap[gw]? = some (.cells cs 40 (0, 0))) := hgw
          have HCH : Hid (Chg (fun i => i = gw) V9 wr) := hch
          clear hgw hch
          go_wp2
          go_roundg (n1 - (j + 1))
          case measure => omega
          case rel => exact ⟨j + 1, _, by omega, rfl, heap_setCell_same _ gw (j * 3 + 2) _ 40 _ (heap_setCell_same _ gw (j * 3 + 1) _ 40 _ (heap_setCell_same _ gw (j * 3) _ 40 _ HG.out)), by simpa using hsz, ((HCH.out.setCell _ _ (.inl rfl)).setCell _ _ (.inl rfl)).setCell _ _ (.inl rfl)⟩
        · have HCH : Hid (Chg (fun i => i = gw) V9 wr) := hch
          have hgr' : wr.heap[gr]? = some (.cells csr 45 (0, 0)) := (hch.block gr (lt_of_blk HGR9.out) (fun e => tag_ne HGR9.out HGW9.out (by decide) e)).trans HGR9.out
          have HG2 : Hid (wr.heap[gr]? = some (.cells csr 45 (0, 0))) := hgr'
          obtain ⟨U9, hU9⟩ : ∃ U9, U9 = wr := ⟨_, rfl⟩
          subst hU9
          clear hgw hch hgr'
          go_wp2
          go_loopg [11] m1 (fun gk p wr => ∃ (j : Nat) (cs : Array Value), j + gk = m1 ∧ p = .int .i64 j ∧ wr.heap[gr]? = some (.cells cs 45 (0, 0)) ∧ m1 * 2 ≤ cs.size ∧ Chg (fun i => i = gr) U9 wr)
          case atStart => exact ⟨0, csr, by omega, rfl, HG2.out, hszr, Chg.refl _ _⟩
          case round =>
            obtain ⟨j, cs, hjg, rfl, hgr, hsz, hch⟩ := hrel
            by_cases hlt : j < m1
            · have c0 : wr.cell? ⟨gr, j * 2, none⟩ = some (cs[j * 2]'(by omega)) := cells_at hgr (Array.getElem?_eq_getElem _)
              have c1 : wr.cell? ⟨gr, j * 2 + 1, none⟩ = some (cs[j * 2 + 1]'(by omega)) := cells_at hgr (Array.getElem?_eq_getElem _)
              have f0 := frozen_at hgr (k := j * 2)
              have f1 := frozen_at hgr (k := j * 2 + 1)
              have HG : Hid (wr.heap[gr]? = some (.cells cs 45 (0, 0))) := hgr
              have HC2 : Hid (Chg (fun i => i = gr) U9 wr) := hch
              clear hgr hch
              go_wp2
              go_roundg (m1 - (j + 1))
              case measure => omega
              case rel => exact ⟨j + 1, _, by omega, rfl, heap_setCell_same _ gr (j * 2 + 1) _ 45 _ (heap_setCell_same _ gr (j * 2) _ 45 _ HG.out), by simpa using hsz, (HC2.out.setCell _ _ (.inl rfl)).setCell _ _ (.inl rfl)⟩
            · have kt : ∀ (i : Nat) (cs : Array Value) (t : TypeId), t ≠ 40 → t ≠ 45 → V9.heap[i]? = some (.cells cs t (0, 0)) → wr.heap[i]? = some (.cells cs t (0, 0)) := fun i cs t h1 h2 hi => by
                have e1 := (HCH.out.block i (lt_of_blk hi) (fun e => tag_ne hi HGW9.out h1 e)).trans hi
                exact (hch.block i (lt_of_blk e1) (fun e => tag_ne e1 HG2.out h2 e)).trans e1
              have kq := kt zq _ 30 (by decide) (by decide) HQ9.out
              have kp := kt (za + 1) _ 30 (by decide) (by decide) HKP9.out
              have hrw : wr.ownsRow w7.heap.size 3 1 (.slice sa PV.st.length sc) PV.st.length (intsV PV.st) := row_keep HR9.out (fun k e => by obtain ⟨_, cs, hk⟩ := row_tag HR9.out e; exact (kt k cs 3 (by decide) (by decide) hk).trans hk.symm)
              have hbe : Below w.heap.size w wr := by
                have c1 := HB9.out.size
                refine ⟨hch.os.trans (HCH.out.os.trans HB9.out.os), hch.tape.trans (HCH.out.tape.trans HB9.out.tape), hch.output.trans (HCH.out.output.trans HB9.out.output), ?_, ?_⟩
                · exact Nat.le_trans c1 (Nat.le_trans HCH.out.size hch.size)
                · intro k hk
                  have g1 := HGW.out.2.2
                  have g2 := HGR.out.2.2
                  exact (hch.block k (by have := HCH.out.size; omega) (by show ¬ k = gr; omega)).trans ((HCH.out.block k (by omega) (by show ¬ k = gw; omega)).trans (HB9.out.block k hk))
              have q0 := cells_at kq (k := 0) rfl
              have q1 := cells_at kq (k := 1) rfl
              have q2 := cells_at kq (k := 2) rfl
              have q3 := cells_at kq (k := 3) rfl
              have y0 := cells_at kp (k := 0) rfl
              have y1 := cells_at kp (k := 1) rfl
              have y2 := cells_at kp (k := 2) rfl
              have y3 := cells_at kp (k := 3) rfl
              have g0 := frozen_at kp (k := 0)
              have g1 := frozen_at kp (k := 1)
              have g2 := frozen_at kp (k := 2)
              have g3 := frozen_at kp (k := 3)
              have e4 := set4 (v0 := .slice sa PV.st.length sc) (v1 := .int .i64 PV.ho) (v2 := .int .i64 PV.sh) (v3 := .int .i64 PV.ex) kp
              have Y : Hid (_ ∧ _ ∧ _ ∧ _) := And.intro (cells_at e4 (k := 0) rfl) (And.intro (cells_at e4 (k := 1) rfl) (And.intro (cells_at e4 (k := 2) rfl) (cells_at e4 (k := 3) rfl)))
              have HF : Hid (((((wr.setCell ⟨za + 1, 0, none⟩ (.slice sa PV.st.length sc)).setCell ⟨za + 1, 1, none⟩ (.int .i64 PV.ho)).setCell ⟨za + 1, 2, none⟩ (.int .i64 PV.sh)).setCell ⟨za + 1, 3, none⟩ (.int .i64 PV.ex)).ownsRow w.heap.size 3 1 (.slice sa PV.st.length sc) PV.st.length (intsV PV.st) ∧ Below w.heap.size w ((((wr.setCell ⟨za + 1, 0, none⟩ (.slice sa PV.st.length sc)).setCell ⟨za + 1, 1, none⟩ (.int .i64 PV.ho)).setCell ⟨za + 1, 2, none⟩ (.int .i64 PV.sh)).setCell ⟨za + 1, 3, none⟩ (.int .i64 PV.ex))) :=
                ⟨own_base (row_set4 kp hrw) (by have := HZQ.out; have := HZA.out; omega), below4 hbe (by have := HZA.out; omega)⟩
              clear e4 kp kq hrw hbe kt hch hgr
              go_wp2
              obtain ⟨y0, y1, y2, y3⟩ := Y.out
              refine bodyPost_ret (v := .tuple #[.agg #[.slice sa PV.st.length sc, .int .i64 PV.ho, .int .i64 PV.sh, .int .i64 PV.ex], .int .i64 PE, .bool true]) (by simp [results, Try.results9, go_sem, y0, y1, y2, y3]) rfl ?_
              exact ⟨.slice sa PV.st.length sc, rfl, HF.out.1, HF.out.2⟩
end Go.Proofs.Ytdkibcagbidelaa
