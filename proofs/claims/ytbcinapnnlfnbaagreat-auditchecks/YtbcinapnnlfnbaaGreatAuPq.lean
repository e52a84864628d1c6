/-
  LAYER 17: its mathematics: what a state that is taken is like; less usage, one pending less; nodes the other way round.
-/
import Derived.Test.YtbcinapnnlfnbaaGreatAuNq
namespace Go.Proofs.YtbcinapnnlfnbaaGreat
open Wd Tr Cg

/-- What a state that is taken is like. -/
structure Okay (s : Sv) : Prop where
  n0 : 0 ≤ s.now
  n1 : s.now ≤ 1099511627776
  load : loadE s.la = 0
  many : s.js.length ≤ 4096
  jobs : jobsB s.cf s.now s.la.length s.js s.js.length = true
  queue : (pendN s.js : Int) ≤ s.cf.queue
  apart : apartB s.js s.js.length = true
  usage : usagesB s.now s.js s.la s.la.length = true
  hold : holdB s = true
theorem aud_ok {e : Int} {s : Sv} : auditV e s = 0 ↔ e = 0 ∧ Okay s := by
  constructor
  · intro h
    unfold auditV at h
    split at h
    · omega
    · rename_i h0
      split at h
      · omega
      · rename_i h1
        split at h
        · omega
        · rename_i h2
          split at h
          · omega
          · rename_i h3
            unfold tailV at h
            split at h
            · omega
            · rename_i h4
              split at h
              · omega
              · rename_i h5
                split at h
                · omega
                · rename_i h6
                  split at h
                  · omega
                  · rename_i h7
                    refine ⟨by omega, by omega, by omega, by omega, by omega, ?_, by omega, by simpa using h5, by simpa using h6, by simpa using h7⟩
                    cases hj : jobsB s.cf s.now s.la.length s.js s.js.length with
                    | true => rfl
                    | false => exact absurd (.inr hj) h3
  · rintro ⟨rfl, k⟩
    have h1 := k.n0; have h2 := k.n1; have h3 := k.queue
    rw [aud_tail (by omega) k.load k.many k.jobs, tail_hold (by omega) k.apart k.usage, if_neg (by rw [k.hold]; simp)]
/-! ## Less usage, nobody holding -/
theorem okay_less {s : Sv} (k : Okay s) {la : List Ac} (hl : loadE la = loadE s.la) (hn : la.length = s.la.length) (hu : ∀ (i : Nat) (a b : Ac), s.la[i]? = some a → la[i]? = some b → b.us ≤ a.us) : Okay { s with la := la, hd := -1 } where
  n0 := k.n0
  n1 := k.n1
  load := hl.trans k.load
  many := k.many
  jobs := by show jobsB s.cf s.now la.length s.js s.js.length = true; rw [hn]; exact k.jobs
  queue := k.queue
  apart := k.apart
  usage := usages_iff.2 fun i hi b hb => by
    have hi' : i < s.la.length := by rw [← hn]; exact hi
    have h1 := usages_iff.1 k.usage i hi' _ (List.getElem?_eq_getElem hi')
    have h2 := hu i _ b (List.getElem?_eq_getElem hi') hb
    unfold usageB at h1 ⊢
    rw [decide_eq_true_eq] at h1 ⊢
    exact Int.le_trans h2 h1
  hold := rfl
/-! ## One pending less -/
theorem ahead_app {js : List Jv} {j : Jv} {i : Nat} (hi : i < js.length) : aheadOf (js ++ [j]) i = aheadOf js i := by
  unfold aheadOf
  by_cases h : i = 0
  · rw [if_pos h, if_pos h]
  · rw [if_neg h, if_neg h, List.getElem?_append_left (by omega)]
theorem raw_pend {a now : Int} {js : List Jv} {j : Jv} (hj : j.st = 1) : rawJ a now (js ++ [j]) = rawJ a now js := by
  rw [raw_appJ]
  have : ranJ now j = 0 := by unfold ranJ; rw [if_neg (by omega), if_neg (by omega)]
  simp [rawJ, this]
theorem okay_drop {s : Sv} {js : List Jv} {j : Jv} (k : Okay s) (e : s.js = js ++ [j]) (hj : j.st = 1) (hh : s.hd = -1) : Okay { s with js := js } where
  n0 := k.n0
  n1 := k.n1
  load := k.load
  many := by have := k.many; rw [e, List.length_append] at this; show js.length ≤ 4096; simp at this; omega
  jobs := jobs_iff.2 fun i hi x hx => by
    have hi' : i < js.length := hi
    have := jobs_iff.1 k.jobs i (by rw [e, List.length_append]; omega) x (by rw [e, List.getElem?_append_left hi']; exact hx)
    rw [e, ahead_app hi'] at this
    exact this
  queue := by
    have := k.queue
    rw [e] at this
    show ((pendN js : Nat) : Int) ≤ s.cf.queue
    unfold pendN at this ⊢
    rw [List.filter_append, List.length_append] at this
    omega
  apart := apart_iff.2 fun i hi a ha b hb => by
    have hi' : i < js.length := hi
    refine apart_iff.1 k.apart i (by rw [e, List.length_append]; omega) a (by rw [e, List.getElem?_append_left hi']; exact ha) b ?_
    rw [e, List.take_append_of_le_length (by omega)]
    exact hb
  usage := usages_iff.2 fun i hi a ha => by
    have := usages_iff.1 k.usage i hi a ha
    unfold usageB at this ⊢
    rw [e, raw_pend hj] at this
    exact this
  hold := by unfold holdB; show (decide (s.hd = -1) || _) = true; rw [hh]; rfl
/-! ## Nodes the other way round -/
def mirL (n : Int) (l : List Int) : List Int := (l.map fun x => n - 1 - x).reverse
theorem mir_mem {n x : Int} {l : List Int} : x ∈ mirL n l ↔ (n - 1 - x) ∈ l := by
  unfold mirL
  rw [List.mem_reverse, List.mem_map]
  constructor
  · rintro ⟨y, hy, rfl⟩
    rw [show n - 1 - (n - 1 - y) = y by omega]
    exact hy
  · intro h
    exact ⟨_, h, by omega⟩
theorem mir_len (n : Int) (l : List Int) : (mirL n l).length = l.length := by simp [mirL]
theorem mir_up {n : Int} {l : List Int} (h : l.Pairwise (· < ·)) : (mirL n l).Pairwise (· < ·) := by
  unfold mirL
  rw [List.pairwise_reverse, List.pairwise_map]
  exact h.imp fun {a b} hab => by omega
theorem mir_mir (n : Int) (l : List Int) : mirL n (mirL n l) = l := by
  unfold mirL
  rw [List.map_reverse, List.reverse_reverse, List.map_map]
  have : ((fun x => n - 1 - x) ∘ fun x => n - 1 - x) = (id : Int → Int) := by
    funext x
    show n - 1 - (n - 1 - x) = x
    omega
  rw [this, List.map_id]
theorem mir_rise (n : Int) (l : List Int) : riseB n (-1) (mirL n l) = riseB n (-1) l := by
  have key : ∀ m : List Int, riseB n (-1) m = true → riseB n (-1) (mirL n m) = true := fun m h => by
    obtain ⟨h1, h2⟩ := rise_iff.1 h
    refine rise_iff.2 ⟨fun x hx => ?_, mir_up h2⟩
    have := h1 _ (mir_mem.1 hx)
    omega
  rw [Bool.eq_iff_iff]
  exact ⟨fun h => by have := key _ h; rwa [mir_mir] at this, key l⟩
theorem mir_meet (n : Int) (a b : List Int) : meetB (mirL n a) (mirL n b) = meetB a b := by
  rw [Bool.eq_iff_iff, meet_iff, meet_iff]
  constructor
  · rintro ⟨x, h1, h2⟩
    exact ⟨_, mir_mem.1 h1, mir_mem.1 h2⟩
  · rintro ⟨x, h1, h2⟩
    exact ⟨n - 1 - x, mir_mem.2 (by rw [show n - 1 - (n - 1 - x) = x by omega]; exact h1), mir_mem.2 (by rw [show n - 1 - (n - 1 - x) = x by omega]; exact h2)⟩
/-- A job with its nodes the other way round. -/
def mirJ (n : Int) (j : Jv) : Jv := { j with set := mirL n j.set }
theorem mir_set (n : Int) (j : Jv) : setB n (mirJ n j) = setB n j := by
  unfold setB mirJ
  simp only [mir_rise, mir_len]
theorem mir_times {c : Cf} (now : Int) (j : Jv) : timesB c now (mirJ c.nodes j) = timesB c now j := by
  unfold timesB
  rw [mir_set]
  unfold mirJ
  simp only [mir_len]
theorem mir_job {c : Cf} (now : Int) (N : Nat) (p : Int) (j : Jv) : jobB c now N p (mirJ c.nodes j) = jobB c now N p j := by
  unfold jobB
  rw [mir_times]
  rfl
theorem mir_common (n : Int) (a b : Jv) : commonB (mirJ n a) (mirJ n b) = commonB a b := by
  unfold commonB
  rw [show meetB (mirJ n a).set (mirJ n b).set = meetB a.set b.set from mir_meet n _ _]
  rfl
section
variable (n : Int) (js : List Jv)
theorem mir_ahead (i : Nat) : aheadOf (js.map (mirJ n)) i = aheadOf js i := by
  unfold aheadOf
  rw [List.getElem?_map]
  cases js[i - 1]? <;> rfl
theorem mir_pend : pendN (js.map (mirJ n)) = pendN js := by
  unfold pendN
  rw [List.filter_map, List.length_map]
  rfl
theorem mir_raw (a now : Int) : rawJ a now (js.map (mirJ n)) = rawJ a now js := by
  induction js with
  | nil => rfl
  | cons j js ih =>
    simp only [List.map_cons, rawJ, ih]
    rfl
theorem mir_apart (k : Nat) : apartB (js.map (mirJ n)) k = apartB js k := by
  rw [Bool.eq_iff_iff, apart_iff, apart_iff]
  constructor
  · intro h i hi a ha b hb
    have := h i hi (mirJ n a) (by rw [List.getElem?_map, ha]; rfl) (mirJ n b) (by rw [← List.map_take]; exact List.mem_map_of_mem hb)
    rwa [mir_common] at this
  · intro h i hi a ha b hb
    rw [List.getElem?_map] at ha
    cases hx : js[i]? with
    | none => rw [hx] at ha; cases ha
    | some x =>
      rw [hx] at ha
      cases ha
      rw [← List.map_take] at hb
      obtain ⟨y, hy, rfl⟩ := List.mem_map.1 hb
      rw [mir_common]
      exact h i hi x hx y hy
end
theorem mir_jobs {c : Cf} (now : Int) (N : Nat) (js : List Jv) (k : Nat) : jobsB c now N (js.map (mirJ c.nodes)) k = jobsB c now N js k := by
  rw [Bool.eq_iff_iff, jobs_iff, jobs_iff]
  constructor
  · intro h i hi j hj
    have := h i hi (mirJ c.nodes j) (by rw [List.getElem?_map, hj]; rfl)
    rwa [mir_ahead, mir_job] at this
  · intro h i hi j hj
    rw [List.getElem?_map] at hj
    cases hx : js[i]? with
    | none => rw [hx] at hj; cases hj
    | some x =>
      rw [hx] at hj
      cases hj
      rw [mir_ahead, mir_job]
      exact h i hi x hx
theorem mir_hold (s : Sv) (la : List Ac) : holdB { s with la := la, js := s.js.map (mirJ s.cf.nodes) } = holdB s := by
  unfold holdB
  simp only [List.getElem?_map]
  cases s.js[s.hd.toNat]? <;> rfl
/-- Which node is which is not seen, nor what tree.Load does not see. -/
theorem audit_turned (e : Int) (s : Sv) {la : List Ac} (hl : loadE la = 0 ↔ loadE s.la = 0) (hn : la.length = s.la.length) (hu : ∀ (i : Nat) (a b : Ac), s.la[i]? = some a → la[i]? = some b → b.us = a.us) : auditV e { s with la := la, js := s.js.map (mirJ s.cf.nodes) } = auditV e s := by
  have hus : usagesB s.now (s.js.map (mirJ s.cf.nodes)) la la.length = usagesB s.now s.js s.la s.la.length := by
    rw [Bool.eq_iff_iff, usages_iff, usages_iff]
    constructor
    · intro h i hi a ha
      have hi' : i < la.length := by omega
      have h1 := h i hi' _ (List.getElem?_eq_getElem hi')
      have h2 := hu i a _ ha (List.getElem?_eq_getElem hi')
      unfold usageB at h1 ⊢
      rw [mir_raw, h2] at h1
      exact h1
    · intro h i hi b hb
      have hi' : i < s.la.length := by omega
      have h1 := h i hi' _ (List.getElem?_eq_getElem hi')
      have h2 := hu i _ b (List.getElem?_eq_getElem hi') hb
      unfold usageB at h1 ⊢
      rw [mir_raw, h2]
      exact h1
  have htail : tailV { s with la := la, js := s.js.map (mirJ s.cf.nodes) } = tailV s := by
    unfold tailV
    rw [mir_hold]
    simp only [mir_pend, List.length_map, mir_apart]
    rw [hus]
  unfold auditV
  rw [htail]
  simp only [List.length_map, mir_jobs, hn]
  by_cases hz : loadE s.la = 0
  · have h2 := hl.2 hz
    simp [hz, h2]
  · have h2 : ¬ loadE la = 0 := fun h => hz (hl.1 h)
    simp [hz, h2]
end Go.Proofs.YtbcinapnnlfnbaaGreat
