/-
  A region that draws its order, within a round of a range over a function: where no operation defers, and the post lets no outgrown slice by, the laws for a region outside of any round serve it.
-/
import Derived.Test.YtjmiifgofedcnaaRngB
import Derived.OrdersHeld
import Derived.OrdersIn
namespace Go.Proofs.Ytjmiifgofedcnaa
open Go.RowKit Ag

section
variable {n l : Nat} {P : Program} {ops : Array Oper} {Q : Exit → Act → World → Prop} {md : Region.Mode} {S : World → Prop}

/-- No operation of the region defers. -/
def noDeferB (ops : Array Oper) : Bool := ops.all fun o => match o.op with
  | .defer _ => false
  | _ => true
theorem noDefer {j : Nat} {o : Oper} (h : noDeferB ops = true) (hj : ops[j]? = some o) (c) : o.op ≠ .defer c := fun e => by
  unfold noDeferB at h
  rw [Array.all_eq_true'] at h
  have := h o (Array.mem_of_getElem? hj)
  rw [e] at this
  cases this
/-- One operation: what is shown outside of a round holds within one. -/
theorem op_round {i : Nat} {K : Act → World → Prop} {a : Act} {w : World} (hd : noDeferB ops = true) (hq : ¬ LetsOut Q) (h : wpOp P ops Q i K a w) : wpOpIn (Fence.wide.inRound l) n P ops Q i K a w := by
  unfold wpOp at h
  unfold wpOpIn
  cases hi : ops[i]? with
  | none => rw [hi] at h; exact h
  | some o =>
    rw [hi] at h
    simp only at h ⊢
    split at h
    · rename_i hw
      rw [if_pos hw]
      rcases h with h | h
      · refine ⟨fun _ _ => trivial, ?_⟩
        rw [Oper.semAt_eq _ _ _ (noDefer hd hi)]
        unfold Oper.wp at h
        generalize (execOp a.eval o).run P w = r at h
        cases r with
        | halt x w' => cases x <;> exact h
        | ok x w' =>
          cases x with
          | enter f args => exact ⟨fun e => (by cases e), CallsIn.inRound l (callsIn_wide.2 h)⟩
          | row r args =>
            refine ⟨fun e => (by cases e), fun c cs _ => ?_⟩
            obtain ⟨v, w', hr, hs⟩ := h c cs
            exact ⟨v, w', hr, stepsIn_wide.2 hs⟩
          | round l f tmps assign body => exact h.elim
          | _ => exact h
      · exact (hq h.2).elim
    · rename_i hw
      rw [if_neg hw]
      exact ⟨fun _ _ => trivial, h⟩
theorem any_round (hd : noDeferB ops = true) (hq : ¬ LetsOut Q) : ∀ (fuel : Nat) (listed : Array Bool) (a : Act) (w : World), wpAny P md ops Q fuel listed a w → wpAnyIn (Fence.wide.inRound l) n P md ops Q fuel listed a w
  | 0, _, _, _, h => h
  | fuel + 1, _, _, _, h => ⟨h.1, fun i hi => wpOpIn_mono (fun a' w' h' => any_round hd hq fuel _ a' w' h') (op_round hd hq (h.2 i hi))⟩
/-- The beginning. -/
theorem region_round {id : Nat} {a : Act} {w : World} (hd : noDeferB ops = true) (hq : ¬ LetsOut Q) (hm : P.follows .mixedOrders = true)
    (h : wpAnyH P .any ops Q S ops.size (Array.replicate ops.size false) a w.drew) : (Code.region id ops true).wpIn (Fence.wide.inRound l) n P Q a w :=
  wpIn_region_any hm (any_round hd hq _ _ _ _ (wpAny_of_held _ _ _ _ h))
/-- A load, an address, a number: taken first. The slot is named. -/
theorem take_slot (i d : Nat) {oi : Oper} {v : Value} {fuel : Nat} {listed : Array Bool} {tm : Array Value} {df : List Deferred} {w : World} (hi : ops[i]? = some oi) (hd : oi.dst = some d)
    (hs : Region.noSelect ops = true) (hf : Region.free md ops listed i = true) (hr : (Region.ready md ops listed).contains i = true)
    (hQ : ∀ c a w, Q (.panic c) (a.put oi.dst v) w → Q (.panic c) a w) (hw : Region.wanted oi (yielded ops tm) = true) (hS : S w) (hy : ∀ w, S w → (execOp (Act.eval { tmps := tm, defers := df }) oi).run P w = .ok (.value v) w)
    (h : wpAnyH P md ops Q S fuel (listed.setIfInBounds i true) { tmps := tm.setIfInBounds d v, defers := df } w) : wpAnyH P md ops Q S (fuel + 1) listed { tmps := tm, defers := df } w :=
  wpAnyH_take hi hs hf hr hQ (.inl ⟨hw, hy⟩) hS (by unfold Act.put; rw [hd]; exact h)
/-- The last one is a call. -/
theorem call_last {f : Nat} {args : Array Value} (i d : Nat) {oi : Oper} {listed : Array Bool} {tm : Array Value} {df : List Deferred} {w : World} {R : Ending → World → Prop} (hi : ops[i]? = some oi) (hd : oi.dst = some d)
    (hr : Region.ready md ops listed = [i]) (hr2 : Region.ready md ops (listed.setIfInBounds i true) = []) (hw : Region.wanted oi (yielded ops tm) = true)
    (hrun : (execOp (Act.eval { tmps := tm, defers := df }) oi).run P w = .ok (.enter f args) w) (hc : Calls P f args w R)
    (hR : ∀ e w', R e w' → ∃ v, e = .returned v ∧ S w' ∧ Q .normal { tmps := tm.setIfInBounds d v, defers := df } w') (fuel : Nat) : wpAnyH P md ops Q S (fuel + 1) listed { tmps := tm, defers := df } w := by
  refine wpAnyH_all hr (by simp) fun j hj => ?_
  obtain rfl : j = i := by simpa using hj
  unfold wpOp
  simp only [hi, hw, if_true, Oper.wp, hrun, Oper.upon]
  refine .inl (hc.mono fun e w' he => ?_)
  obtain ⟨v, rfl, hS, hq⟩ := hR e w' he
  unfold Act.put
  rw [hd]
  exact ⟨hS, wpAnyH_done hr2 hq fuel⟩
end
end Go.Proofs.Ytjmiifgofedcnaa
