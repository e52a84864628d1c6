/-
  spoil's marks: one cell of a list, and of what it must read as.
-/
import Derived.Test.YtmfecocbadekhaaDoorKeepW
namespace Go.Proofs.YtmfecocbadekhaaDoor
open Go.RowKit Nd

/-- An entry with one number turned. -/
def Ent.mark (e : Ent) (k : Nat) (y : Int) : Ent := { e with xs := e.xs.set k y }
theorem ints_set (xs : List Int) (k : Nat) (y : Int) : (ints xs).set k (.int .i64 y) = ints (xs.set k y) := by simp [ints, List.map_set]
def Full (es : List Ent) : Prop := ∀ e ∈ es, e.co = e.xs.length ∧ e.xs.length ≤ 900

theorem flatMap_set {es : List Ent} {i : Nat} {e' : Ent} (hi : i < es.length) (hb : e'.blk = es[i].blk) : (es.set i e').flatMap Ent.blk = es.flatMap Ent.blk := by
  induction es generalizing i with
  | nil => simp at hi
  | cons a l ih =>
    cases i with
    | zero => simp at hb; simp [hb]
    | succ i =>
      simp only [List.set_cons_succ, List.flatMap_cons]
      rw [ih (by simpa using hi) (by simpa using hb)]

theorem flat_nodup (es : List Ent) (h : (es.flatMap Ent.blk).Nodup) : (∀ e ∈ es, e.blk.Nodup) ∧ es.Pairwise (fun a b => ∀ x ∈ a.blk, x ∉ b.blk) := by
  induction es with
  | nil => simp
  | cons a l ih =>
    rw [List.flatMap_cons] at h
    have hh := List.nodup_append.1 h
    have h2 := ih hh.2.1
    refine ⟨fun e he => ?_, List.pairwise_cons.2 ⟨fun b hb x hx hxb => hh.2.2 x hx x (List.mem_flatMap.2 ⟨b, hb, hxb⟩) rfl, h2.2⟩⟩
    rcases List.mem_cons.1 he with rfl | he
    · exact hh.1
    · exact h2.1 e he
structure Marked (w : World) (H : Nat) (ao aw : Option Addr) (co cw : Nat) (es : List Ent) (i k : Nat) (y : Int) (ga : Nat) (hi : i < es.length) : Prop where
  ca : w.cell? ⟨ga, k, none⟩ = some (.int .i64 (nthI es[i].xs k))
  fa : w.frozen? ⟨ga, k, none⟩ = false
  k1 : (w.setCell ⟨ga, k, none⟩ (.int .i64 y)).cell? ⟨H, 1, none⟩ = some (.slice aw es.length cw)
  kw : ∀ g, aw = some ⟨g, 0, none⟩ → (w.setCell ⟨ga, k, none⟩ (.int .i64 y)).cell? ⟨g, i, none⟩ = some (.slice (some ⟨es[i].gw, 0, none⟩) es[i].xs.length es[i].cw)
  cb : (w.setCell ⟨ga, k, none⟩ (.int .i64 y)).cell? ⟨es[i].gw, k, none⟩ = some (.int .i64 (nthI es[i].xs k))
  fb : (w.setCell ⟨ga, k, none⟩ (.int .i64 y)).frozen? ⟨es[i].gw, k, none⟩ = false
  nums : Nums ((w.setCell ⟨ga, k, none⟩ (.int .i64 y)).setCell ⟨es[i].gw, k, none⟩ (.int .i64 y)) H ao aw co cw (es.set i (es[i].mark k y))
  same : foot ao aw (es.set i (es[i].mark k y)) = foot ao aw es
  chg : Chg (fun j => j ∈ foot ao aw es) w ((w.setCell ⟨ga, k, none⟩ (.int .i64 y)).setCell ⟨es[i].gw, k, none⟩ (.int .i64 y))

theorem own_frozen {w : World} {base e n cap g : Nat} {xs : List Value} (h : w.ownsRow base e 1 (.slice (some ⟨g, 0, none⟩) n cap) n xs) (o : Nat) : w.frozen? ⟨g, o, none⟩ = false := by
  rcases h.2 with ⟨hv, _⟩ | ⟨g', cap', cur, hv, _, hg, _⟩
  · simp at hv
  · simp at hv
    obtain ⟨rfl, _⟩ := hv
    simp [World.frozen?, hg]
theorem own_at {w : World} {base n cap g : Nat} {xs : List Int} (h : w.ownsRow base 3 1 (.slice (some ⟨g, 0, none⟩) n cap) n (ints xs)) (k : Nat) (hk : k < xs.length) : w.cell? ⟨g, k, none⟩ = some (.int .i64 (nthI xs k)) := by
  have := h.cells (g := g) rfl k (.int .i64 (nthI xs k)) (by simp [ints, nthI, hk])
  have ha : (⟨g, 0, none⟩ : Addr).add k = ⟨g, k, none⟩ := by unfold Addr.add; split <;> simp_all
  rwa [ha] at this

theorem Nums.mark {w : World} {H : Nat} {ao aw : Option Addr} {co cw : Nat} {es : List Ent} (h : Nums w H ao aw co cw es) (i k : Nat) (y : Int) (hi : i < es.length) (hk : k < es[i].xs.length) :
    ∃ ga, es[i].ao = some ⟨ga, 0, none⟩ ∧ Marked w H ao aw co cw es i k y ga hi := by
  have hE := h.ent es[i] (List.getElem_mem hi)
  obtain ⟨ga, hga⟩ : ∃ ga, es[i].ao = some ⟨ga, 0, none⟩ := by
    obtain ⟨g, hg, _⟩ := own_read hE.out
    exact ⟨g, hg (by omega)⟩
  have hout := hE.out
  rw [hga] at hout
  have hnd := h.nodup
  rw [List.nodup_cons] at hnd
  obtain ⟨hH, hndf⟩ := hnd
  have hnd' : foot ao aw es = ablk ao ++ (ablk aw ++ es.flatMap Ent.blk) := rfl
  rw [hnd'] at hndf
  have n1 := List.nodup_append.1 hndf
  have n2 := List.nodup_append.1 n1.2.1
  have inE : ∀ j (hj : j < es.length) b, b ∈ es[j].blk → b ∈ es.flatMap Ent.blk := fun j hj b hb => List.mem_flatMap.2 ⟨es[j], List.getElem_mem hj, hb⟩
  have inF : ∀ b, b ∈ es.flatMap Ent.blk → b ∈ foot ao aw es := fun b hb => List.mem_append.2 (.inr (List.mem_append.2 (.inr hb)))
  have bga : ga ∈ es[i].blk := by simp [Ent.blk, hga, ablk]
  have bgw : es[i].gw ∈ es[i].blk := by simp [Ent.blk]
  have hne : ga ≠ es[i].gw := by
    have hb : es[i].blk.Nodup := (flat_nodup es n2.2.1).1 es[i] (List.getElem_mem hi)
    intro e
    simp [Ent.blk, hga, ablk, e] at hb
  have dO : ∀ b, b ∈ es.flatMap Ent.blk → b ∉ ablk ao := fun b hb hh => n1.2.2 b hh b (List.mem_append.2 (.inr hb)) rfl
  have dW : ∀ b, b ∈ es.flatMap Ent.blk → b ∉ ablk aw := fun b hb hh => n2.2.2 b hh b hb rfl
  have dE : ∀ j (hj : j < es.length), j ≠ i → ∀ b, b ∈ es[j].blk → b ∉ es[i].blk := by
    intro j hj hji b hb hb'
    have hp := (flat_nodup es n2.2.1).2
    rw [List.pairwise_iff_getElem] at hp
    rcases Nat.lt_or_gt_of_ne hji with hlt | hgt
    · exact hp j i hj hi hlt b hb hb'
    · exact hp i j hi hj hgt b hb' hb
  have s1 := hout.stored k (.int .i64 y)
  have c1 : Chg (fun j => j = ga) w (w.setCell ⟨ga, k, none⟩ (.int .i64 y)) := Chg.of_gr (gr_set w ⟨ga, k, none⟩ _) (fun j hj => .inl (Option.some.inj hj).symm)
  have hw1 : (w.setCell ⟨ga, k, none⟩ (.int .i64 y)).ownsRow 0 3 1 (.slice (some ⟨es[i].gw, 0, none⟩) es[i].xs.length es[i].cw) es[i].xs.length (ints es[i].xs) := c1.own hE.want (fun b hb e => by simp [ablk] at hb; omega)
  have s2 := hw1.stored k (.int .i64 y)
  have c2 : Chg (fun j => j = es[i].gw) (w.setCell ⟨ga, k, none⟩ (.int .i64 y)) ((w.setCell ⟨ga, k, none⟩ (.int .i64 y)).setCell ⟨es[i].gw, k, none⟩ (.int .i64 y)) := Chg.of_gr (gr_set _ ⟨es[i].gw, k, none⟩ _) (fun j hj => .inl (Option.some.inj hj).symm)
  have c12 : Chg (fun j => j = ga ∨ j = es[i].gw) w ((w.setCell ⟨ga, k, none⟩ (.int .i64 y)).setCell ⟨es[i].gw, k, none⟩ (.int .i64 y)) := (c1.mono (fun j _ hj => .inl hj)).trans c2 (fun j _ hj => .inr hj)
  have Hga : H ≠ ga := fun e => hH (e ▸ inF _ (inE i hi _ bga))
  have Hgw : H ≠ es[i].gw := fun e => hH (e ▸ inF _ (inE i hi _ bgw))
  have hfe : (es.set i (es[i].mark k y)).flatMap Ent.blk = es.flatMap Ent.blk := flatMap_set hi rfl
  have hff : foot ao aw (es.set i (es[i].mark k y)) = foot ao aw es := by unfold foot; rw [hfe]
  have hmo : (es.set i (es[i].mark k y)).map Ent.o = es.map Ent.o := by
    apply List.ext_getElem
    · simp
    · intro j h1 h2
      simp only [List.getElem_map, List.getElem_set]
      split
      · rename_i e; subst e; simp [Ent.o, Ent.mark]
      · rfl
  have hmw : (es.set i (es[i].mark k y)).map Ent.w = es.map Ent.w := by
    apply List.ext_getElem
    · simp
    · intro j h1 h2
      simp only [List.getElem_map, List.getElem_set]
      split
      · rename_i e; subst e; simp [Ent.w, Ent.mark]
      · rfl
  have fO : ∀ b ∈ ablk ao, ¬ (b = ga ∨ b = es[i].gw) := fun b hb hh => by
    rcases hh with rfl | rfl
    · exact dO _ (inE i hi _ bga) hb
    · exact dO _ (inE i hi _ bgw) hb
  have fW : ∀ b ∈ ablk aw, ¬ (b = ga ∨ b = es[i].gw) := fun b hb hh => by
    rcases hh with rfl | rfl
    · exact dW _ (inE i hi _ bga) hb
    · exact dW _ (inE i hi _ bgw) hb
  refine ⟨ga, hga, ⟨own_at hout k hk, own_frozen hout k, c1.cell h.c1 Hga, fun g hg => c1.cell ?_ (fun e => ?_), own_at hw1 k hk, own_frozen hw1 k, ?_, hff, c12.mono (fun j _ hj => ?_)⟩⟩
  · obtain ⟨g', hg', hc⟩ := row_at h.want i hi
    rw [hg] at hg'
    cases hg'
    exact hc _ (by simp [hi, Ent.w])
  · exact dW ga (inE i hi _ bga) (by simp at e; simp [ablk, hg, e])
  · refine ⟨?_, ?_, ?_, ?_, by rw [hff]; exact h.nodup, by simpa using h.few⟩
    · rw [c12.block H h.lt (fun e => e.elim Hga Hgw)]
      simpa using h.blk
    · rw [hmo]
      simpa using c12.own h.out fO
    · rw [hmw]
      simpa using c12.own h.want fW
    · intro e1 he1
      obtain ⟨j, hj, rfl⟩ := List.getElem_of_mem he1
      have hj' : j < es.length := by simpa using hj
      simp only [List.getElem_set]
      split
      · rename_i e
        subst e
        refine ⟨?_, ?_, by simpa [Ent.mark] using hE.small⟩
        · have := c2.own s1.1 (fun b hb e => by simp [ablk] at hb; omega)
          simpa [Ent.mark, hga, ints_set] using this
        · simpa [Ent.mark, ints_set] using s2.1
      · rename_i e
        refine EntIn.chg c12 (h.ent es[j] (List.getElem_mem hj')) (fun b hb hh => ?_)
        rcases hh with rfl | rfl
        · exact dE j hj' (fun e' => e e'.symm) _ hb bga
        · exact dE j hj' (fun e' => e e'.symm) _ hb bgw
  · rcases hj with rfl | rfl
    · exact inF _ (inE i hi _ bga)
    · exact inF _ (inE i hi _ bgw)
end Go.Proofs.YtmfecocbadekhaaDoor
