/-
  LAYER 17, package audit: what is asked of a job, part by part.
  LAYER 17: nodes in common, by going through all turns in order: its mathematics.
  LAYER 17: nodes in common, by going through all turns: what stands between two turns.
-/
import Derived.Test.YtbcinapnnlfnbaaGreatAdCq
import Derived.Test.YtbcinapnnlfnbaaGreatSrM
namespace Go.Proofs.YtbcinapnnlfnbaaGreat
open Go.RowKit Wd Tr Cg Lg

theorem times_eq {c : Cf} {now : Int} {j : Jv} : timesB c now j = (timB now j && setsB c.nodes j) := by
  unfold timesB timB setsB setB startB
  by_cases s1 : j.st = 1
  · rw [if_pos s1, if_pos s1]
    simp only [s1]
    by_cases h : j.set.length = 0
    · have := List.eq_nil_of_length_eq_zero h
      simp [this, riseB]
    · simp [h]
  · rw [if_neg s1, if_neg s1]
    by_cases s6 : j.st = 6
    · rw [if_pos s6, if_pos s6]
      simp only [s6]
      by_cases h : j.set.length = 0
      · have := List.eq_nil_of_length_eq_zero h
        simp [this, riseB, fromB]
      · simp [h]
    · rw [if_neg s6, if_neg s6]
      have e : (decide (¬ j.st = 1) && decide (¬ j.st = 6)) = true := by simp [s1, s6]
      simp only [e, if_true]
      unfold runB
      cases hr : riseB c.nodes (-1) j.set with
      | false => simp
      | true =>
        by_cases hn : (j.set.length : Int) = j.nd
        · rw [decide_eq_true hn]
          simp only [Bool.and_true, Bool.true_eq_false, false_or]
          by_cases h1 : j.sr ≤ j.sb ∨ now < j.sr
          · rw [if_pos h1]
            have : fromB (j.sb + 1) now j.sr = false := by
              unfold fromB
              rcases h1 with h | h
              · rw [decide_eq_false (by omega)]; rfl
              · rw [decide_eq_false (show ¬ j.sr ≤ now by omega), Bool.and_false]
            rw [this]; rfl
          · rw [if_neg h1]
            have : fromB (j.sb + 1) now j.sr = true := by unfold fromB; rw [decide_eq_true (by omega), decide_eq_true (by omega)]; rfl
            rw [this, Bool.true_and]
            by_cases s2 : j.st = 2
            · rw [if_pos s2, if_pos s2, Bool.and_comm]
            · rw [if_neg s2, if_neg s2]
              by_cases s3 : j.st = 3 ∨ j.st = 5
              · rw [if_pos s3, if_pos s3, Bool.eq_iff_iff]
                simp only [fromB, Bool.and_eq_true, decide_eq_true_eq]
                omega
              · rw [if_neg s3, if_neg s3]
                by_cases s4 : j.st = 4
                · rw [if_pos s4, if_pos s4, Bool.eq_iff_iff]
                  simp only [Bool.and_eq_true, decide_eq_true_eq]
                  omega
                · rw [if_neg s4, if_neg s4]
        · rw [decide_eq_false hn]; simp
def partB (c : Cf) (now : Int) (N : Nat) (p : Int) (j : Jv) : Bool := fromB 1 ((N : Int) - 1) j.ac && (fromB 1 c.nodes j.nd && (fromB 1 c.limit j.lm && fromB p (min now (1099511627776 - boundZ c)) j.sb))
theorem job_eq {c : Cf} {now : Int} {N : Nat} {p : Int} {j : Jv} (hp : 0 ≤ p) : jobB c now N p j = (partB c now N p j && (timB now j && setsB c.nodes j)) := by
  unfold jobB
  have e : headB c now N p j = partB c now N p j := by
    unfold headB partB fromB
    rw [Bool.eq_iff_iff]
    simp only [Bool.and_eq_true, decide_eq_true_eq]
    generalize boundZ c = B
    omega
  rw [e, times_eq]
end Go.Proofs.YtbcinapnnlfnbaaGreat
namespace Go.Proofs.YtbcinapnnlfnbaaGreat
open Wd Tr Cg Lg

/-- It has been started, and has a time. -/
def actB (j : Jv) : Bool := startB j.st && !decide (j.sr = j.en)
def evT (j : Jv) (i : Nat) : List Ev := if actB j = true then [⟨j.sr, true, i⟩] else []
def evG (j : Jv) (i : Nat) : List Ev := if actB j = true ∧ ¬ j.st = 2 then [⟨j.en, false, i⟩] else []
def evL (f : Jv → Nat → List Ev) (js : List Jv) (n : Nat) : List Ev := (List.range n).flatMap fun i => match js[i]? with
  | none => []
  | some j => f j i
theorem evL_succ (f : Jv → Nat → List Ev) {js : List Jv} {n : Nat} {j : Jv} (h : js[n]? = some j) : evL f js (n + 1) = evL f js n ++ f j n := by
  unfold evL
  rw [List.range_succ, List.flatMap_append]
  simp [h]
theorem evL_mem {f : Jv → Nat → List Ev} {js : List Jv} {n : Nat} {e : Ev} : e ∈ evL f js n ↔ ∃ i, i < n ∧ ∃ j, js[i]? = some j ∧ e ∈ f j i := by
  unfold evL
  rw [List.mem_flatMap]
  constructor
  · rintro ⟨i, hi, he⟩
    cases hj : js[i]? with
    | none => rw [hj] at he; cases he
    | some j => rw [hj] at he; exact ⟨i, List.mem_range.1 hi, j, hj, he⟩
  · rintro ⟨i, hi, j, hj, he⟩
    exact ⟨i, List.mem_range.2 hi, by rw [hj]; exact he⟩
theorem evT_mem {j : Jv} {i : Nat} {e : Ev} : e ∈ evT j i ↔ actB j = true ∧ e = ⟨j.sr, true, i⟩ := by
  unfold evT
  split
  · simp [*]
  · simp [*]
theorem evG_mem {j : Jv} {i : Nat} {e : Ev} : e ∈ evG j i ↔ (actB j = true ∧ ¬ j.st = 2) ∧ e = ⟨j.en, false, i⟩ := by
  unfold evG
  split
  · simp [*]
  · simp only [List.not_mem_nil, false_iff]; rintro ⟨h, _⟩; contradiction
/-- All turns. -/
def evA (js : List Jv) : List Ev := evL evG js js.length ++ evL evT js js.length
theorem evA_take {js : List Jv} {e : Ev} (h : e.tk = true) : e ∈ evA js ↔ ∃ j, js[e.jx]? = some j ∧ actB j = true ∧ e = ⟨j.sr, true, e.jx⟩ := by
  unfold evA
  rw [List.mem_append, evL_mem, evL_mem]
  constructor
  · rintro (⟨i, hi, j, hj, he⟩ | ⟨i, hi, j, hj, he⟩)
    · obtain ⟨_, rfl⟩ := evG_mem.1 he; cases h
    · obtain ⟨h1, rfl⟩ := evT_mem.1 he
      exact ⟨j, hj, h1, rfl⟩
  · rintro ⟨j, hj, h1, h2⟩
    exact .inr ⟨e.jx, (List.getElem?_eq_some_iff.1 hj).1, j, hj, evT_mem.2 ⟨h1, h2⟩⟩
theorem evA_give {js : List Jv} {e : Ev} (h : e.tk = false) : e ∈ evA js ↔ ∃ j, js[e.jx]? = some j ∧ (actB j = true ∧ ¬ j.st = 2) ∧ e = ⟨j.en, false, e.jx⟩ := by
  unfold evA
  rw [List.mem_append, evL_mem, evL_mem]
  constructor
  · rintro (⟨i, hi, j, hj, he⟩ | ⟨i, hi, j, hj, he⟩)
    · obtain ⟨h1, rfl⟩ := evG_mem.1 he
      exact ⟨j, hj, h1, rfl⟩
    · obtain ⟨_, rfl⟩ := evT_mem.1 he; cases h
  · rintro ⟨j, hj, h1, h2⟩
    exact .inl ⟨e.jx, (List.getElem?_eq_some_iff.1 hj).1, j, hj, evG_mem.2 ⟨h1, h2⟩⟩
theorem evL_tk {b : Bool} {f : Jv → Nat → List Ev} (hf : ∀ j i, ∀ e ∈ f j i, e.tk = b) {js : List Jv} {n : Nat} : ∀ e ∈ evL f js n, e.tk = b := fun e he => by
  obtain ⟨i, _, j, _, h⟩ := evL_mem.1 he
  exact hf j i e h
theorem evT_tk : ∀ j i, ∀ e ∈ evT j i, e.tk = true := fun j i e h => by obtain ⟨_, rfl⟩ := evT_mem.1 h; rfl
theorem evG_tk : ∀ j i, ∀ e ∈ evG j i, e.tk = false := fun j i e h => by obtain ⟨_, rfl⟩ := evG_mem.1 h; rfl
theorem evA_ord (js : List Jv) : (evA js).Pairwise Ev.O := by
  unfold evA
  refine List.pairwise_append.2 ⟨List.Pairwise.imp_of_mem (R := fun _ _ => True) (fun {a b} ha _ _ e => ?_) (List.pairwise_of_forall (fun _ _ => trivial)), List.Pairwise.imp_of_mem (R := fun _ _ => True) (fun {a b} _ hb _ _ => evL_tk evT_tk b hb) (List.pairwise_of_forall (fun _ _ => trivial)), fun a ha b hb _ => evL_tk evT_tk b hb⟩
  rw [evL_tk evG_tk a ha] at e; cases e
theorem evL_nodup {f : Jv → Nat → List Ev} (h1 : ∀ j i, (f j i).Nodup) (h2 : ∀ j i, ∀ e ∈ f j i, e.jx = i) (js : List Jv) : ∀ n, n ≤ js.length → (evL f js n).Nodup
  | 0, _ => by simp [evL]
  | n + 1, hn => by
    have hj := List.getElem?_eq_getElem (show n < js.length by omega)
    rw [evL_succ f hj, List.nodup_append]
    refine ⟨evL_nodup h1 h2 js n (by omega), h1 _ _, fun a ha b hb e => ?_⟩
    subst e
    obtain ⟨i, hi, j, _, he⟩ := evL_mem.1 ha
    have e1 := h2 _ _ _ he
    have e2 := h2 _ _ _ hb
    omega
theorem evA_nodup (js : List Jv) : (evA js).Nodup := by
  unfold evA
  rw [List.nodup_append]
  refine ⟨evL_nodup (fun j i => ?_) (fun j i e h => ?_) js _ (Nat.le_refl _), evL_nodup (fun j i => ?_) (fun j i e h => ?_) js _ (Nat.le_refl _), fun a ha b hb e => ?_⟩
  · unfold evG; split <;> simp
  · obtain ⟨_, rfl⟩ := evG_mem.1 h; rfl
  · unfold evT; split <;> simp
  · obtain ⟨_, rfl⟩ := evT_mem.1 h; rfl
  · subst e
    have := evL_tk evG_tk a ha
    rw [evL_tk evT_tk a hb] at this
    cases this
/-- Of the k-th job: its nodes. -/
def setN (js : List Jv) (k : Nat) : List Int := match js[k]? with
  | none => []
  | some j => j.set
theorem setN_at {js : List Jv} {k : Nat} {j : Jv} (h : js[k]? = some j) : setN js k = j.set := by simp only [setN, h]
/-- Who holds nodes behind some turns. -/
def Holds0 (P : List Ev) (h : Nat) : Prop := (∃ e ∈ P, e.tk = true ∧ e.jx = h) ∧ ∀ e ∈ P, e.tk = false → e.jx ≠ h
/-- What is known of the jobs. -/
structure Jok (js : List Jv) : Prop where
  tm : ∀ (i : Nat) (j : Jv), js[i]? = some j → startB j.st = true → j.st = 2 ∨ j.sr ≤ j.en
  run : ∀ (i : Nat) (j : Jv), js[i]? = some j → j.st = 2 → ¬ j.sr = j.en
  set : ∀ (i : Nat) (j : Jv), js[i]? = some j → j.set ≠ [] → startB j.st = true
theorem apart_not {js : List Jv} {i h : Nat} {a b : Jv} (hi : js[i]? = some a) (hh : js[h]? = some b) (hne : i ≠ h) (hc : commonB a b = true) : apartB js js.length = false := by
  cases hA : apartB js js.length with
  | false => rfl
  | true =>
    have li := (List.getElem?_eq_some_iff.1 hi).1
    have lh := (List.getElem?_eq_some_iff.1 hh).1
    rcases (by omega : h < i ∨ i < h) with g | g
    · have := apart_iff.1 hA i li a hi b (List.mem_of_getElem? (i := h) (by rw [List.getElem?_take_of_lt g]; exact hh))
      rw [hc] at this; exact this
    · have := apart_iff.1 hA h lh b hh a (List.mem_of_getElem? (i := i) (by rw [List.getElem?_take_of_lt g]; exact hi))
      rw [common_comm, hc] at this; exact this
theorem actj_parts {j : Jv} (h : actB j = true) : startB j.st = true ∧ ¬ j.sr = j.en := by
  simpa [actB] using h
theorem srt_before {C : List Ev} (hs : SrtE C) {p : Nat} {e x : Ev} (hp : C[p]? = some e) (hx : x ∈ C.take p) : x.R e := by
  obtain ⟨k, hk, hkx⟩ := mem_take_at hx
  exact hs.get hkx hp hk
theorem sweep_no {js : List Jv} (J : Jok js) {C : List Ev} (hperm : C.Perm (evA js)) (hs : SrtE C) {p : Nat} {e : Ev} (hp : C[p]? = some e) (htk : e.tk = true) {h : Nat} (hh : Holds0 (C.take p) h) (hm : meetB (setN js e.jx) (setN js h) = true) : apartB js js.length = false := by
  obtain ⟨a, ha, ga, ea⟩ := (evA_take htk).1 (hperm.mem_iff.1 (List.mem_of_getElem? hp))
  obtain ⟨⟨x, hx, hxt, hxj⟩, hno⟩ := hh
  have hxC : x ∈ C := List.mem_of_mem_take hx
  obtain ⟨b, hb, gb, eb⟩ := (evA_take hxt).1 (hperm.mem_iff.1 hxC)
  rw [hxj] at hb eb
  have hR := (srt_before hs hp hx).le
  have hne : e.jx ≠ h := by
    intro q
    have : x = e := by
      rw [eb, ea, q]
      rw [q] at ha
      rw [ha] at hb
      cases hb
      rfl
    subst this
    obtain ⟨k, hk, hkx⟩ := mem_take_at hx
    have hnd := hperm.nodup_iff.2 (evA_nodup js)
    have h1 := (List.getElem?_eq_some_iff.1 hkx).1
    have h2 := (List.getElem?_eq_some_iff.1 hp).1
    exact List.pairwise_iff_getElem.1 hnd k p h1 h2 hk (by rw [(List.getElem?_eq_some_iff.1 hkx).2, (List.getElem?_eq_some_iff.1 hp).2])
  have t1 : e.tm = a.sr := by rw [ea]
  have t2 : x.tm = b.sr := by rw [eb]
  obtain ⟨sa, na⟩ := actj_parts ga
  obtain ⟨sb, nb⟩ := actj_parts gb
  have ra := J.tm _ a ha sa
  have rb := J.tm _ b hb sb
  have hend : b.st = 2 ∨ a.sr < b.en := by
    by_cases h2 : b.st = 2
    · exact .inl h2
    · right
      have hG : (⟨b.en, false, h⟩ : Ev) ∈ C := hperm.mem_iff.2 ((evA_give rfl).2 ⟨b, hb, ⟨gb, h2⟩, rfl⟩)
      obtain ⟨k, hk⟩ := List.getElem?_of_mem hG
      have hkp : p < k := by
        rcases Nat.lt_trichotomy k p with q | q | q
        · exfalso
          exact hno _ (List.mem_of_getElem? (i := k) (by rw [List.getElem?_take_of_lt q]; exact hk)) rfl rfl
        · exfalso
          subst q
          rw [hp] at hk
          cases hk
          cases htk
        · exact q
      have := hs.get hp hk hkp
      rcases this with q | ⟨q, q2⟩
      · rw [t1] at q; exact q
      · have := q2 htk; cases this
  rw [setN_at ha, setN_at hb] at hm
  refine apart_not ha hb hne ?_
  unfold commonB
  rw [hm, Bool.and_true]
  simp only [overB, Bool.and_eq_true, Bool.or_eq_true, decide_eq_true_eq]
  omega
theorem mem_take_at' {α : Type} {A : List α} {n : Nat} {y : α} (h : y ∈ A.take n) : ∃ k, k < n ∧ A[k]? = some y := by
  obtain ⟨k, hk⟩ := List.getElem?_of_mem h
  have h1 := (List.getElem?_eq_some_iff.1 hk).1
  refine ⟨k, by simp at h1; omega, ?_⟩
  rw [List.getElem?_take_of_lt (by simp at h1; omega)] at hk
  exact hk
theorem sweep_yes {js : List Jv} (J : Jok js) {C : List Ev} (hperm : C.Perm (evA js)) (hs : SrtE C) (hQ : ∀ (p : Nat) (e : Ev), C[p]? = some e → e.tk = true → ∀ h, Holds0 (C.take p) h → meetB (setN js e.jx) (setN js h) = false) : apartB js js.length = true := by
  have key : ∀ (i h : Nat) (a b : Jv), js[i]? = some a → js[h]? = some b → i ≠ h → commonB a b = true → ∀ (p q : Nat), C[p]? = some ⟨a.sr, true, i⟩ → C[q]? = some ⟨b.sr, true, h⟩ → q < p → False := by
    intro i h a b ha hb hne hc p q hp hq hqp
    unfold commonB at hc
    obtain ⟨ho, hm⟩ := Bool.and_eq_true_iff.1 hc
    simp only [overB, Bool.and_eq_true, Bool.or_eq_true, decide_eq_true_eq] at ho
    have h1 := hQ p _ hp rfl h ⟨⟨_, List.mem_of_getElem? (i := q) (by rw [List.getElem?_take_of_lt hqp]; exact hq), rfl, rfl⟩, fun e he ht hj => ?_⟩
    · rw [setN_at ha, setN_at hb, hm] at h1; cases h1
    · obtain ⟨b', hb', ⟨_, g2⟩, eb⟩ := (evA_give ht).1 (hperm.mem_iff.1 (List.mem_of_mem_take he))
      rw [hj] at hb' eb
      rw [hb] at hb'
      cases hb'
      have hR := (srt_before hs hp he).le
      rw [eb] at hR
      have hR' : b.en ≤ a.sr := hR
      omega
  refine apart_iff.2 fun i hi a ha b hb => ?_
  cases hc : commonB a b with
  | false => rfl
  | true =>
    exfalso
    obtain ⟨h, hh, hbh⟩ := mem_take_at' hb
    have hc2 := hc
    unfold commonB at hc2
    obtain ⟨ho, hm⟩ := Bool.and_eq_true_iff.1 hc2
    simp only [overB, Bool.and_eq_true, Bool.or_eq_true, decide_eq_true_eq] at ho
    obtain ⟨x, hx1, hx2⟩ := meet_iff.1 hm
    have sa := J.set i a ha (List.ne_nil_of_mem hx1)
    have sb := J.set h b hbh (List.ne_nil_of_mem hx2)
    have ga : actB a = true := by
      unfold actB; rw [sa, Bool.true_and]
      have : ¬ a.sr = a.en := by
        rcases ho.2.2.1 with q | q
        · exact J.run i a ha q
        · omega
      simp [this]
    have gb : actB b = true := by
      unfold actB; rw [sb, Bool.true_and]
      have : ¬ b.sr = b.en := by
        rcases ho.2.2.2 with q | q
        · exact J.run h b hbh q
        · omega
      simp [this]
    obtain ⟨p, hp⟩ := List.getElem?_of_mem (hperm.mem_iff.2 ((evA_take (e := ⟨a.sr, true, i⟩) rfl).2 ⟨a, ha, ga, rfl⟩))
    obtain ⟨q, hq⟩ := List.getElem?_of_mem (hperm.mem_iff.2 ((evA_take (e := ⟨b.sr, true, h⟩) rfl).2 ⟨b, hbh, gb, rfl⟩))
    rcases Nat.lt_trichotomy q p with g | g | g
    · exact key i h a b ha hbh (by omega) hc p q hp hq g
    · subst g
      rw [hp] at hq
      have : i = h := congrArg Ev.jx (Option.some.inj hq)
      omega
    · exact key h i b a hbh ha (by omega) (by rw [common_comm]; exact hc) q p hq hp g
end Go.Proofs.YtbcinapnnlfnbaaGreat
namespace Go.Proofs.YtbcinapnnlfnbaaGreat
open Wd Tr Cg Lg

/-- Behind the first k turns: which nodes are free, and what was found so far. -/
structure Sw (js : List Jv) (C : List Ev) (n k F : Nat) : Prop where
  fr : ∀ m : Nat, F.testBit m = true ↔ m < n ∧ ∀ h, Holds0 (C.take k) h → (m : Int) ∉ setN js h
  ap : ∀ h h', Holds0 (C.take k) h → Holds0 (C.take k) h' → h ≠ h' → meetB (setN js h) (setN js h') = false
  ok : ∀ (p : Nat) (e : Ev), p < k → C[p]? = some e → e.tk = true → ∀ h, Holds0 (C.take p) h → meetB (setN js e.jx) (setN js h) = false
theorem meet_not {a b : List Int} (h : meetB a b = false) {x : Int} (hx : x ∈ a) : x ∉ b := fun hb => by
  rw [meet_iff.2 ⟨x, hx, hb⟩] at h; cases h
theorem not_meet {a b : List Int} (h : ∀ x ∈ a, x ∉ b) : meetB a b = false := by
  cases hm : meetB a b with
  | false => rfl
  | true => obtain ⟨x, h1, h2⟩ := meet_iff.1 hm; exact absurd h2 (h x h1)
section
variable {js : List Jv} {C : List Ev} {n k F F' : Nat} {e : Ev}
theorem Sw.start : Sw js C n 0 (2 ^ n - 1) := by
  refine ⟨fun m => ?_, fun h h' hh => ?_, fun p e hp => by omega⟩
  · rw [Nd.full_bit, decide_eq_true_eq]
    exact ⟨fun h => ⟨h, fun q hq => by obtain ⟨⟨e, he, _⟩, _⟩ := hq; simp at he⟩, fun h => h.1⟩
  · obtain ⟨⟨e, he, _⟩, _⟩ := hh; simp at he
theorem take_one (hk : C[k]? = some e) : C.take (k + 1) = C.take k ++ [e] := by
  obtain ⟨h1, h2⟩ := List.getElem?_eq_some_iff.1 hk
  rw [List.take_succ_eq_append_getElem h1, h2]
/-- Who takes nodes has not given them back before. -/
theorem no_give (J : Jok js) (hperm : C.Perm (evA js)) (hs : SrtE C) (hk : C[k]? = some e) (ht : e.tk = true) : ∀ x ∈ C.take k, x.tk = false → x.jx ≠ e.jx := by
  intro x hx hxt hj
  obtain ⟨a, ha, ga, ea⟩ := (evA_take ht).1 (hperm.mem_iff.1 (List.mem_of_getElem? hk))
  obtain ⟨b, hb, ⟨gb, g2⟩, eb⟩ := (evA_give hxt).1 (hperm.mem_iff.1 (List.mem_of_mem_take hx))
  rw [hj, ha] at hb
  cases hb
  have hR := (srt_before hs hk hx).le
  rw [ea, eb] at hR
  have hR' : a.en ≤ a.sr := hR
  obtain ⟨sa, na⟩ := actj_parts ga
  have := J.tm _ a ha sa
  omega
theorem holds_take (J : Jok js) (hperm : C.Perm (evA js)) (hs : SrtE C) (hk : C[k]? = some e) (ht : e.tk = true) (h : Nat) : Holds0 (C.take (k + 1)) h ↔ Holds0 (C.take k) h ∨ h = e.jx := by
  rw [take_one hk]
  constructor
  · rintro ⟨⟨x, hx, x1, x2⟩, hno⟩
    rcases List.mem_append.1 hx with hx | hx
    · exact .inl ⟨⟨x, hx, x1, x2⟩, fun y hy => hno y (List.mem_append_left _ hy)⟩
    · simp at hx; subst hx; exact .inr x2.symm
  · rintro (⟨⟨x, hx, x1, x2⟩, hno⟩ | rfl)
    · refine ⟨⟨x, List.mem_append_left _ hx, x1, x2⟩, fun y hy yt => ?_⟩
      rcases List.mem_append.1 hy with hy | hy
      · exact hno y hy yt
      · simp at hy; subst hy; rw [ht] at yt; cases yt
    · refine ⟨⟨e, by simp, ht, rfl⟩, fun y hy yt => ?_⟩
      rcases List.mem_append.1 hy with hy | hy
      · exact no_give J hperm hs hk ht y hy yt
      · simp at hy; subst hy; rw [ht] at yt; cases yt
theorem Sw.free_all (h : Sw js C n k F) {i : Nat} (hr : riseB n (-1) (setN js i) = true) (hf : ∀ x ∈ setN js i, F.testBit x.toNat = true) : ∀ q, Holds0 (C.take k) q → meetB (setN js i) (setN js q) = false := fun q hq => not_meet fun x hx hxq => by
  have h1 := (h.fr x.toNat).1 (hf x hx)
  have h0 := Nd.rise_pos hr x hx
  exact h1.2 q hq (by rw [Int.toNat_of_nonneg h0]; exact hxq)
theorem Sw.take (J : Jok js) (hperm : C.Perm (evA js)) (hs : SrtE C) (h : Sw js C n k F) (hk : C[k]? = some e) (ht : e.tk = true) (hr : riseB n (-1) (setN js e.jx) = true) (hf : ∀ x ∈ setN js e.jx, F.testBit x.toNat = true) (hF : ∀ m, F'.testBit m = (F.testBit m && !decide ((m : Int) ∈ setN js e.jx))) : Sw js C n (k + 1) F' := by
  have hall := h.free_all hr hf
  refine ⟨fun m => ?_, fun a b ha hb hne => ?_, fun p x hp hx hxt q hq => ?_⟩
  · rw [hF, Bool.and_eq_true, h.fr, Bool.not_eq_true', decide_eq_false_iff_not]
    constructor
    · rintro ⟨⟨h1, h2⟩, h3⟩
      refine ⟨h1, fun q hq => ?_⟩
      rcases (holds_take J hperm hs hk ht q).1 hq with hq | rfl
      · exact h2 q hq
      · exact h3
    · rintro ⟨h1, h2⟩
      exact ⟨⟨h1, fun q hq => h2 q ((holds_take J hperm hs hk ht q).2 (.inl hq))⟩, h2 _ ((holds_take J hperm hs hk ht _).2 (.inr rfl))⟩
  · rcases (holds_take J hperm hs hk ht a).1 ha with ha | rfl <;> rcases (holds_take J hperm hs hk ht b).1 hb with hb | rfl
    · exact h.ap a b ha hb hne
    · rw [meet_comm]; exact hall a ha
    · exact hall b hb
    · exact absurd rfl hne
  · by_cases e1 : p = k
    · subst e1
      rw [hk] at hx
      cases hx
      exact hall q hq
    · exact h.ok p x (by omega) hx hxt q hq
theorem Sw.no (J : Jok js) (hperm : C.Perm (evA js)) (hs : SrtE C) (h : Sw js C n k F) (hk : C[k]? = some e) (ht : e.tk = true) (hr : riseB n (-1) (setN js e.jx) = true) {x : Int} (hx : x ∈ setN js e.jx) (hf : F.testBit x.toNat = false) : apartB js js.length = false := by
  have h0 := rise_mem hr x hx
  have : ∃ q, Holds0 (C.take k) q ∧ x ∈ setN js q := by
    apply Classical.byContradiction
    intro hno
    have := (h.fr x.toNat).2 ⟨by omega, fun q hq hm => hno ⟨q, hq, by rw [Int.toNat_of_nonneg (by omega)] at hm; exact hm⟩⟩
    rw [hf] at this; cases this
  obtain ⟨q, hq, hxq⟩ := this
  exact sweep_no J hperm hs hk ht hq (meet_iff.2 ⟨x, hx, hxq⟩)
/-- Who gives nodes back holds them. -/
theorem holds_give (J : Jok js) (hperm : C.Perm (evA js)) (hs : SrtE C) (hk : C[k]? = some e) (ht : e.tk = false) : Holds0 (C.take k) e.jx := by
  obtain ⟨a, ha, ⟨ga, g2⟩, ea⟩ := (evA_give ht).1 (hperm.mem_iff.1 (List.mem_of_getElem? hk))
  obtain ⟨sa, na⟩ := actj_parts ga
  have tm := J.tm _ a ha sa
  obtain ⟨p, hp⟩ := List.getElem?_of_mem (hperm.mem_iff.2 ((evA_take (e := ⟨a.sr, true, e.jx⟩) rfl).2 ⟨a, ha, ga, rfl⟩))
  have hpk : p < k := by
    rcases Nat.lt_trichotomy p k with q | q | q
    · exact q
    · subst q
      rw [hk] at hp
      have := congrArg Ev.tk (Option.some.inj hp)
      rw [ht] at this; cases this
    · have hR := (hs.get hk hp q).le
      rw [ea] at hR
      have hR' : a.en ≤ a.sr := hR
      omega
  refine ⟨⟨(⟨a.sr, true, e.jx⟩ : Ev), List.mem_of_getElem? (i := p) (by rw [List.getElem?_take_of_lt hpk]; exact hp), rfl, rfl⟩, fun y hy yt yj => ?_⟩
  obtain ⟨b, hb, _, eb⟩ := (evA_give yt).1 (hperm.mem_iff.1 (List.mem_of_mem_take hy))
  rw [yj] at hb eb
  rw [ha] at hb
  cases hb
  have hye : y = e := by rw [eb, ea]
  obtain ⟨q, hq, hqy⟩ := mem_take_at hy
  have hnd := hperm.nodup_iff.2 (evA_nodup js)
  have h1 := (List.getElem?_eq_some_iff.1 hqy)
  have h2 := (List.getElem?_eq_some_iff.1 hk)
  exact List.pairwise_iff_getElem.1 hnd q k h1.1 h2.1 hq (by rw [h1.2, h2.2, hye])
theorem holds_less (hk : C[k]? = some e) (ht : e.tk = false) (h : Nat) : Holds0 (C.take (k + 1)) h ↔ Holds0 (C.take k) h ∧ h ≠ e.jx := by
  rw [take_one hk]
  constructor
  · rintro ⟨⟨x, hx, x1, x2⟩, hno⟩
    refine ⟨⟨⟨x, ?_, x1, x2⟩, fun y hy => hno y (List.mem_append_left _ hy)⟩, fun q => hno e (by simp) ht q.symm⟩
    rcases List.mem_append.1 hx with hx | hx
    · exact hx
    · simp at hx; subst hx; rw [ht] at x1; cases x1
  · rintro ⟨⟨⟨x, hx, x1, x2⟩, hno⟩, hne⟩
    refine ⟨⟨x, List.mem_append_left _ hx, x1, x2⟩, fun y hy yt => ?_⟩
    rcases List.mem_append.1 hy with hy | hy
    · exact hno y hy yt
    · simp at hy; subst hy; exact Ne.symm hne
theorem Sw.taken (J : Jok js) (hperm : C.Perm (evA js)) (hs : SrtE C) (h : Sw js C n k F) (hk : C[k]? = some e) (ht : e.tk = false) (hr : riseB n (-1) (setN js e.jx) = true) : ∀ x ∈ setN js e.jx, F.testBit x.toNat = false := by
  intro x hx
  cases hb : F.testBit x.toNat with
  | false => rfl
  | true =>
    have h0 := Nd.rise_pos hr x hx
    exact absurd (by rw [Int.toNat_of_nonneg h0]; exact hx) (((h.fr x.toNat).1 hb).2 e.jx (holds_give J hperm hs hk ht))
theorem Sw.give (J : Jok js) (hperm : C.Perm (evA js)) (hs : SrtE C) (h : Sw js C n k F) (hk : C[k]? = some e) (ht : e.tk = false) (hr : riseB n (-1) (setN js e.jx) = true) (hF : ∀ m, F'.testBit m = (F.testBit m || decide ((m : Int) ∈ setN js e.jx))) : Sw js C n (k + 1) F' := by
  have hh := holds_give J hperm hs hk ht
  refine ⟨fun m => ?_, fun a b ha hb hne => h.ap a b ((holds_less hk ht a).1 ha).1 ((holds_less hk ht b).1 hb).1 hne, fun p x hp hx hxt q hq => ?_⟩
  · rw [hF, Bool.or_eq_true, h.fr, decide_eq_true_eq]
    constructor
    · rintro (⟨h1, h2⟩ | hm)
      · exact ⟨h1, fun q hq => h2 q ((holds_less hk ht q).1 hq).1⟩
      · have := rise_mem hr _ hm
        exact ⟨by omega, fun q hq => meet_not (h.ap e.jx q hh ((holds_less hk ht q).1 hq).1 (Ne.symm ((holds_less hk ht q).1 hq).2)) hm⟩
    · rintro ⟨h1, h2⟩
      by_cases hm : (m : Int) ∈ setN js e.jx
      · exact .inr hm
      · refine .inl ⟨h1, fun q hq => ?_⟩
        by_cases hq2 : q = e.jx
        · rw [hq2]; exact hm
        · exact h2 q ((holds_less hk ht q).2 ⟨hq, hq2⟩)
  · by_cases e1 : p = k
    · subst e1
      rw [hk] at hx
      cases hx
      rw [ht] at hxt; cases hxt
    · exact h.ok p x (by omega) hx hxt q hq
theorem Sw.done (J : Jok js) (hperm : C.Perm (evA js)) (hs : SrtE C) (h : Sw js C n C.length F) : apartB js js.length = true :=
  sweep_yes J hperm hs fun p e hp ht q hq => h.ok p e (List.getElem?_eq_some_iff.1 hp).1 hp ht q hq
end
/-- What jobs that may be are like. -/
theorem jok_of {c : Cf} {now : Int} {N : Nat} {js : List Jv} (h : jobsB c now N js js.length = true) : Jok js ∧ ∀ k, riseB c.nodes (-1) (setN js k) = true := by
  have hj : ∀ (i : Nat) (j : Jv), js[i]? = some j → headB c now N (aheadOf js i) j = true ∧ timesB c now j = true := fun i j hi => by
    have := jobs_iff.1 h i (List.getElem?_eq_some_iff.1 hi).1 j hi
    unfold jobB at this
    exact Bool.and_eq_true_iff.1 this
  have hb : ∀ (i : Nat) (j : Jv), js[i]? = some j → 0 ≤ j.sb := fun i j hi => by
    have := (hj i j hi).1
    simp only [headB, Bool.and_eq_true, decide_eq_true_eq] at this
    exact this.2.1
  have hp : ∀ (i : Nat) (j : Jv), js[i]? = some j → timB now j = true ∧ setsB c.nodes j = true := fun i j hi => by
    have := (hj i j hi).2
    rw [times_eq] at this
    exact Bool.and_eq_true_iff.1 this
  have hrun : ∀ (i : Nat) (j : Jv), js[i]? = some j → startB j.st = true → runB now j = true := fun i j hi hst => by
    have := (hp i j hi).1
    unfold timB at this
    have h1 : ¬ j.st = 1 := by intro e; rw [e] at hst; exact absurd hst (by decide)
    have h6 : ¬ j.st = 6 := by intro e; rw [e] at hst; exact absurd hst (by decide)
    rw [if_neg h1, if_neg h6] at this
    exact this
  refine ⟨⟨fun i j hi hst => ?_, fun i j hi h2 => ?_, fun i j hi hne => ?_⟩, fun k => ?_⟩
  · have hr := hrun i j hi hst
    unfold runB at hr
    have hr2 := (Bool.and_eq_true_iff.1 hr).2
    have hr1 := (Bool.and_eq_true_iff.1 hr).1
    by_cases s2 : j.st = 2
    · exact .inl s2
    · right
      rw [if_neg s2] at hr2
      by_cases s3 : j.st = 3 ∨ j.st = 5
      · rw [if_pos s3] at hr2
        simp only [fromB, Bool.and_eq_true, decide_eq_true_eq] at hr2
        exact hr2.1
      · rw [if_neg s3] at hr2
        by_cases s4 : j.st = 4
        · rw [if_pos s4] at hr2
          simp only [Bool.and_eq_true, decide_eq_true_eq] at hr2
          have hl := (hj i j hi).1
          simp only [headB, Bool.and_eq_true, decide_eq_true_eq] at hl
          omega
        · rw [if_neg s4] at hr2; cases hr2
  · have hr := hrun i j hi (by rw [h2]; rfl)
    unfold runB at hr
    have hr2 := (Bool.and_eq_true_iff.1 hr).2
    have hr1 := (Bool.and_eq_true_iff.1 hr).1
    rw [if_pos h2] at hr2
    simp only [fromB, Bool.and_eq_true, decide_eq_true_eq] at hr1 hr2
    have := hb i j hi
    omega
  · have := (hp i j hi).2
    unfold setsB at this
    cases hst : startB j.st with
    | true => rfl
    | false =>
      rw [hst] at this
      simp at this
      exact absurd this.1 hne
  · unfold setN
    cases hk : js[k]? with
    | none => rfl
    | some j =>
      have := (hp k j hk).2
      unfold setsB at this
      exact (Bool.and_eq_true_iff.1 this).2
end Go.Proofs.YtbcinapnnlfnbaaGreat
