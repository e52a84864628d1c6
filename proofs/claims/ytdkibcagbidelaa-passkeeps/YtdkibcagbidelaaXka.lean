/-
  Whoever holds is never delayed, whatever befalls between passes. No Go in sight.
  THE STATEMENT PassKeeps: a stage in memory; what ends.
  THE STATEMENT PassKeeps: a plan is done.
  THE STATEMENT PassKeeps: what befalls between two passes: lemmas.
  THE STATEMENT PassKeeps: lemmas for its walk.
-/
import Derived.Test.YtdkibcagbidelaaPsW
import Derived.Test.YtdkibcagbidelaaPsB
import Derived.Test.YtdkibcagbidelaaRpM
import Derived.Test.YtdkibcagbidelaaWhA
import Derived.Deep.AppendLies
import Derived.Deep.DrawnRows
namespace Go.Proofs.Ytdkibcagbidelaa.Pr

theorem lt_ge (a b : Int) : a < b ∨ b ≤ a := by omega
/-- The runs that go on: those that are due end, and the one at a place. -/
def endL (now early : Int) : Nat → List Rn → List Rn
  | _, [] => []
  | k, r :: l => if r.en ≤ now ∨ (k : Int) = early then endL now early (k + 1) l else r :: endL now early (k + 1) l
theorem endL_snoc (now early : Int) (r : Rn) : ∀ (l : List Rn) (k : Nat), endL now early k (l ++ [r]) = endL now early k l ++ (if r.en ≤ now ∨ ((k + l.length : Nat) : Int) = early then [] else [r]) := by
  intro l
  induction l with
  | nil => intro k; simp only [List.nil_append, endL, List.length_nil, Nat.add_zero]
  | cons a l ih =>
    intro k
    simp only [List.cons_append, endL, List.length_cons]
    rw [ih (k + 1), show k + 1 + l.length = k + (l.length + 1) by omega]
    split
    · rfl
    · rfl
theorem endL_take {now early : Int} {l : List Rn} {j : Nat} {r : Rn} (h : l[j]? = some r) : endL now early 0 (l.take (j + 1)) = endL now early 0 (l.take j) ++ (if r.en ≤ now ∨ (j : Int) = early then [] else [r]) := by
  have hj := (List.getElem?_eq_some_iff.1 h).1
  rw [List.take_add_one, h, show (some r).toList = [r] from rfl, endL_snoc, List.length_take, Nat.zero_add, Nat.min_eq_left (by omega)]
theorem endL_sub (now early : Int) : ∀ (l : List Rn) (k : Nat), (endL now early k l).Sublist l := by
  intro l
  induction l with
  | nil => intro k; exact List.Sublist.refl _
  | cons r l ih =>
    intro k
    simp only [endL]
    split
    · exact (ih (k + 1)).cons r
    · exact (ih (k + 1)).cons_cons r
theorem endL_in {now early : Int} : ∀ {l : List Rn} {k : Nat} {r : Rn}, r ∈ endL now early k l → now < r.en := by
  intro l
  induction l with
  | nil => intro k r h; simp [endL] at h
  | cons a l ih =>
    intro k r h
    simp only [endL] at h
    split at h
    · exact ih h
    · rename_i hn
      rcases List.mem_cons.1 h with rfl | h
      · omega
      · exact ih h
theorem sub_su {u : Int} {a b : List Rn} (h : a.Sublist b) : b.all okR = true → su b u - su a u ≤ sumN b - sumN a ∧ sumN a ≤ sumN b := by
  induction h with
  | slnil => intro _; simp
  | @cons a b r _ ih =>
    intro hb
    rw [List.all_cons, Bool.and_eq_true] at hb
    obtain ⟨i1, i2⟩ := ih hb.2
    have := okR_le hb.1
    simp only [su, sumN]
    split <;> omega
  | @cons_cons a b r _ ih =>
    intro hb
    rw [List.all_cons, Bool.and_eq_true] at hb
    obtain ⟨i1, i2⟩ := ih hb.2
    simp only [su, sumN]
    split <;> omega
/-- Some runs have ended: their nodes are free. -/
structure Ev (free : Int) (rs : List Rn) (free' : Int) (rs' : List Rn) : Prop where
  sub : rs'.Sublist rs
  sum : free' + sumN rs' = free + sumN rs
theorem Ev.refl (free : Int) (rs : List Rn) : Ev free rs free rs := ⟨List.Sublist.refl _, rfl⟩
theorem Ev.trans {f f1 f2 : Int} {r r1 r2 : List Rn} (h : Ev f r f1 r1) (k : Ev f1 r1 f2 r2) : Ev f r f2 r2 := ⟨k.sub.trans h.sub, k.sum.trans h.sum⟩
theorem Ev.ends (now early free : Int) (rs : List Rn) : Ev free rs (free + (sumN rs - sumN (endL now early 0 rs))) (endL now early 0 rs) := ⟨endL_sub now early rs 0, by omega⟩
theorem Ev.at {f f' : Int} {r r' : List Rn} (h : Ev f r f' r') (ho : r.all okR = true) (u : Int) : atV f r u ≤ atV f' r' u := by
  rw [at_su, at_su]
  have := (sub_su (u := u) h.sub ho).1
  have := h.sum
  omega
theorem Ev.le {f f' : Int} {r r' : List Rn} (h : Ev f r f' r') (ho : r.all okR = true) : f ≤ f' := by
  have := (sub_su (u := 0) h.sub ho).2
  have := h.sum
  omega
theorem all_sub {a b : List Rn} (h : a.Sublist b) (hb : b.all okR = true) : a.all okR = true := by
  rw [List.all_eq_true] at hb ⊢
  exact fun r hr => hb r (h.subset hr)
/-- Wants have come, some are gone, who holds is there. -/
structure Bf (all ho : Int) (m : Nat) (ws ws' : List Wt) : Prop where
  un : (ws'.map Wt.job).Nodup
  ok : ∀ x ∈ ws', 0 ≤ x.job ∧ 1 ≤ x.nd ∧ x.nd ≤ 256 ∧ x.nd ≤ all ∧ 1 ≤ x.lm ∧ x.lm ≤ 1048576
  kp : ∀ x ∈ ws, x.job = ho → x ∈ ws'
  ln : ws'.length ≤ ws.length + m
  jb : ∀ x ∈ ws', x.job ≤ 9223372036854775807
theorem Bf.perm {all ho : Int} {m : Nat} {ws a b : List Wt} (h : Bf all ho m ws a) (p : a.Perm b) : Bf all ho m ws b :=
  ⟨(p.map Wt.job).nodup_iff.1 h.un, fun x hx => h.ok x (p.mem_iff.2 hx), fun x hx e => p.mem_iff.1 (h.kp x hx e), by rw [← p.length_eq]; exact h.ln, fun x hx => h.jb x (p.mem_iff.2 hx)⟩
/-- What stands between two passes. -/
structure Kp (now free all : Int) (ws : List Wt) (ho : Int) (rs : List Rn) : Prop where
  ck : Chk now free ws ho rs
  sm : free + sumN rs = all
  al : all ≤ 256
/-- By when whoever holds will have enough. -/
def Gr (now free : Int) (ws : List Wt) (ho : Int) (rs : List Rn) (til sh : Int) : Prop :=
  til = -1 ∨ (0 ≤ ho ∧ 0 ≤ til ∧ now ≤ til ∧ sh ≤ til ∧ ∃ x ∈ ws, x.job = ho ∧ ∀ u, sh ≤ u → x.nd ≤ atV free rs u)
theorem Kp.len {now free all ho : Int} {ws : List Wt} {rs : List Rn} (h : Kp now free all ws ho rs) : rs.length ≤ 256 := by
  obtain ⟨⟨f0, _⟩, hok⟩ := right_parts.1 h.ck.rt
  have : ∀ l : List Rn, l.all okR = true → (l.length : Int) ≤ sumN l := by
    intro l
    induction l with
    | nil => intro _; simp [sumN]
    | cons r l ih =>
      intro hl
      rw [List.all_cons, Bool.and_eq_true] at hl
      have := ih hl.2
      have := okR_le hl.1
      simp only [sumN, List.length_cons]
      omega
  have := this rs hok
  have := h.sm
  have := h.al
  omega
theorem at_now {now free : Int} {rs : List Rn} (h : ∀ r ∈ rs, now < r.en) : atV free rs now = free := by
  rw [at_su, su_none h]
  omega
/-- Who was started, in the order of the wants; who was not. -/
def inL (st : List Int) (ws : List Wt) : List Wt := ws.filter fun x => st.contains x.job
def outL (st : List Int) (ws : List Wt) : List Wt := ws.filter fun x => !st.contains x.job
theorem nodup_of_jobs {l : List Wt} (h : (l.map Wt.job).Nodup) : l.Nodup := by
  induction l with
  | nil => exact List.nodup_nil
  | cons a l ih =>
    rw [List.map_cons, List.nodup_cons] at h
    exact List.nodup_cons.2 ⟨fun e => h.1 (List.mem_map.2 ⟨a, e, rfl⟩), ih h.2⟩
theorem perm_of_mem {a b : List Wt} (ha : a.Nodup) (hb : b.Nodup) (h : ∀ x, x ∈ a ↔ x ∈ b) : a.Perm b := (List.perm_ext_iff_of_nodup ha hb).2 h
theorem in_perm {now free ho : Int} {ws : List Wt} {rs : List Rn} {p : Pln} {st : List Wt} {Y : Int} (ck : Chk now free ws ho rs) (h : Whole now free ws ho rs p st Y) : (inL p.st ws).Perm st := by
  have hmem : ∀ x ∈ st, x ∈ ws := fun x hx => by
    obtain ⟨i, hi⟩ := List.getElem?_of_mem hx
    exact List.mem_of_find?_eq_some (h.each i x hi).1
  have hnd : (st.map Wt.job).Nodup := by
    unfold List.Nodup
    rw [List.pairwise_iff_getElem]
    intro i j hi hj hij e
    rw [List.length_map] at hi hj
    rw [List.getElem_map, List.getElem_map] at e
    obtain ⟨x, hx⟩ : ∃ x, st[j]? = some x := ⟨_, List.getElem?_eq_getElem hj⟩
    obtain ⟨y, hy⟩ : ∃ y, st[i]? = some y := ⟨_, List.getElem?_eq_getElem hi⟩
    have h4 := (h.each j x hx).2.2.2
    have e2 : y.job = x.job := by
      rw [List.getElem?_eq_getElem hj] at hx
      rw [List.getElem?_eq_getElem hi] at hy
      rw [← Option.some.inj hx, ← Option.some.inj hy]
      exact e
    have : ((st.take j).map Wt.job).contains x.job = true := by
      rw [List.contains_eq_mem, decide_eq_true_eq, List.mem_map]
      exact ⟨y, List.mem_of_getElem? (i := i) (by rw [List.getElem?_take, if_pos hij]; exact hy), e2⟩
    rw [this] at h4
    cases h4
  refine perm_of_mem ((nodup_of_jobs ck.un).filter _) (nodup_of_jobs hnd) (fun x => ?_)
  unfold inL
  rw [List.mem_filter, h.sts, List.contains_eq_mem, decide_eq_true_eq, List.mem_map]
  constructor
  · rintro ⟨hx, y, hy, e⟩
    have := eq_of_job ck.un (hmem y hy) hx e
    rw [← this]
    exact hy
  · exact fun hx => ⟨hmem x hx, x, hx, rfl⟩
theorem sumW_perm {a b : List Wt} (h : a.Perm b) : sumW a = sumW b := by
  induction h with
  | nil => rfl
  | cons x _ ih => simp only [sumW, ih]
  | swap x y l => simp only [sumW]; omega
  | trans _ _ i1 i2 => exact i1.trans i2
theorem sumN_rOf (now : Int) (l : List Wt) : sumN (l.map (rOf now)) = sumW l := by
  induction l with
  | nil => rfl
  | cons w l ih => simp only [List.map_cons, sumN, sumW, ih, rOf]
/-- What a pass leaves behind. -/
structure Aft (now free all : Int) (ws : List Wt) (ho : Int) (rs : List Rn) (til sh : Int) (p : Pln) : Prop where
  held : 0 ≤ ho → p.ho = ho → 0 ≤ til → p.sh ≤ sh ∧ now < til
  first : 0 ≤ ho → p.ho ≠ ho → ∃ t, p.st = ho :: t
  later : 0 ≤ p.ho → now < p.sh
  none : p.ho < 0 → p.ho = -1
  le : sumW (inL p.st ws) ≤ free
  pos : ∀ x ∈ inL p.st ws, 1 ≤ x.nd ∧ x.nd ≤ 256 ∧ 1 ≤ x.lm ∧ x.lm ≤ 1048576
  kp : Kp now (free - sumW (inL p.st ws)) all (outL p.st ws) p.ho (rs ++ (inL p.st ws).map (rOf now))
  gr : Gr now (free - sumW (inL p.st ws)) (outL p.st ws) p.ho (rs ++ (inL p.st ws).map (rOf now)) (if p.ho < 0 then -1 else if p.ho ≠ ho ∨ til < 0 then p.sh else til) p.sh
theorem held_sh {now free ho : Int} {ws : List Wt} {rs : List Rn} {x : Wt} (ck : Chk now free ws ho rs) (hx : x ∈ ws) (hxj : x.job = ho) (hnf : free < x.nd) : IsSh now free rs x.nd (passV now free ws ho rs).sh := by
  subst hxj
  have hw := ck.wt x hx
  obtain ⟨i, hi⟩ := List.getElem?_of_mem hx
  obtain ⟨y, hy, hyj, hpv⟩ := pnd_start (now := now) (rs := rs) ck.un hi hw.1 hnf
  have e := eq_of_job ck.un hy hx hyj
  subst e
  obtain ⟨_, h2, _, _⟩ := pnd_fil hw.1 hpv
  obtain ⟨s, hs⟩ := shadow_is (now := now) ck.rt (need := y.nd) (by omega) hw.2.2.2.1
  obtain ⟨h1, _⟩ := shadow_some hs
  simp only at h2
  rw [h2, hs]
  exact h1
theorem pass_aft {now free all ho til sh : Int} {ws : List Wt} {rs : List Rn} (hk : Kp now free all ws ho rs) (hg : Gr now free ws ho rs til sh) : Aft now free all ws ho rs til sh (passV now free ws ho rs) := by
  have ck := hk.ck
  obtain ⟨st, Y, hw⟩ := pass_whole ck
  have hshd : ∀ x ∈ ws, x.job = ho → free < x.nd → IsSh now free rs x.nd (passV now free ws ho rs).sh := fun x hx hj hn => held_sh ck hx hj hn
  generalize passV now free ws ho rs = p at hw hshd ⊢
  have hp := in_perm ck hw
  have hsum := sumW_perm hp
  obtain ⟨⟨f0, f1⟩, hok⟩ := right_parts.1 ck.rt
  have hen : ∀ r ∈ rs, now < r.en := fun r hr => (ck.re r hr).1
  have hpos : ∀ x ∈ inL p.st ws, 1 ≤ x.nd ∧ x.nd ≤ 256 ∧ 1 ≤ x.lm ∧ x.lm ≤ 1048576 := fun x hx => hw.pos x (hp.mem_iff.1 hx)
  have hle : sumW (inL p.st ws) ≤ free := by have := hw.nn; omega
  have hs0 : 0 ≤ sumW (inL p.st ws) := by
    have h1 := sumW_nn (l := inL p.st ws) (fun x hx => ⟨(hpos x hx).1, (hpos x hx).2.1⟩)
    omega
  have hnone : p.ho < 0 → p.ho = -1 := fun h => (hw.over h).1
  have hall : (rs ++ (inL p.st ws).map (rOf now)).all okR = true := by
    rw [List.all_append, hok, Bool.true_and, List.all_eq_true]
    intro r hr
    obtain ⟨x, hx, rfl⟩ := List.mem_map.1 hr
    have := hpos x hx
    simp only [okR, rOf]
    rw [Bool.and_eq_true]
    exact ⟨decide_eq_true this.1, decide_eq_true this.2.1⟩
  have hrp : (rs ++ (inL p.st ws).map (rOf now)).Perm (rs ++ st.map (rOf now)) := (hp.map (rOf now)).append_left rs
  have hlater : 0 ≤ p.ho → now < p.sh ∧ ∃ x ∈ outL p.st ws, x.job = p.ho ∧ ∀ u, p.sh ≤ u → x.nd ≤ atV (free - sumW (inL p.st ws)) (rs ++ (inL p.st ws).map (rOf now)) u := fun h0 => by
    obtain ⟨x, hx, hn, hs, _⟩ := hw.hold h0
    have hxw := List.mem_of_find?_eq_some hx
    have hxj : x.job = p.ho := by simpa using List.find?_some hx
    obtain ⟨his, _⟩ := shadow_some hs
    simp only at his
    have hge : ∀ u, atV (free - sumW (inL p.st ws)) (rs ++ (inL p.st ws).map (rOf now)) u = atV (free - sumW st) (rs ++ st.map (rOf now)) u := fun u => by rw [at_su, at_su, su_perm hrp, hsum]
    refine ⟨?_, x, ?_, hxj, fun u hu => ?_⟩
    · have hne : p.sh ≠ now := fun e => by
        have h2 := his.2.1
        rw [e, at_now] at h2
        · omega
        · intro r hr
          rcases List.mem_append.1 hr with hr | hr
          · exact hen r hr
          · obtain ⟨y, hy, rfl⟩ := List.mem_map.1 hr
            have := hw.pos y hy
            simp only [rOf]
            omega
      have := his.1
      omega
    · unfold outL
      rw [List.mem_filter]
      refine ⟨hxw, ?_⟩
      rw [Bool.not_eq_true', List.contains_eq_mem, decide_eq_false_iff_not, hw.sts]
      intro hc
      obtain ⟨y, hy, e⟩ := List.mem_map.1 hc
      obtain ⟨i, hi⟩ := List.getElem?_of_mem hy
      exact (hw.each i y hi).2.2.1 (e.trans hxj)
    · rw [at_su]
      have h1 := su_mono hall hu
      have h2 := his.2.1
      rw [← hge, at_su] at h2
      omega
  have hheld : 0 ≤ ho → p.ho = ho → 0 ≤ til → p.sh ≤ sh ∧ now < til := fun h0 he ht => by
    rcases hg with e | ⟨_, _, g1, g2, x, hx, hxj, hat⟩
    · omega
    · have hf := find_in ck.un hx
      rw [hxj] at hf
      have hnfit : free < x.nd := by
        rcases lt_ge free x.nd with h | h
        · exact h
        · exfalso
          obtain ⟨t, ht'⟩ := (hw.old x hf).1 h
          obtain ⟨y, hy, _⟩ := hw.hold (by omega)
          have h5 : st[0]? = some x ∨ True := .inr trivial
          have h6 : ho ∈ p.st := by rw [ht']; simp
          rw [hw.sts] at h6
          obtain ⟨z, hz, ez⟩ := List.mem_map.1 h6
          obtain ⟨i, hi⟩ := List.getElem?_of_mem hz
          exact (hw.each i z hi).2.2.1 (ez.trans he.symm)
      have hlt : now < sh := by
        rcases lt_ge now sh with h | h
        · exact h
        · have := hat now h
          rw [at_now hen] at this
          omega
      refine ⟨?_, by omega⟩
      have his := hshd x hx hxj hnfit
      rcases lt_ge sh p.sh with hbad | hgood
      · exfalso
        have h1 := his.2.2 sh (by omega) hbad
        have h2 := hat sh (Int.le_refl _)
        omega
      · exact hgood
  have hfirst : 0 ≤ ho → p.ho ≠ ho → ∃ t, p.st = ho :: t := fun h0 hne => by
    rcases ck.hd with e | ⟨x, hx, hxj⟩
    · omega
    · have hf := find_in ck.un hx
      rw [hxj] at hf
      rcases lt_ge free x.nd with h | h
      · exact absurd ((hw.old x hf).2 h) hne
      · exact (hw.old x hf).1 h
  have hkp : Kp now (free - sumW (inL p.st ws)) all (outL p.st ws) p.ho (rs ++ (inL p.st ws).map (rOf now)) := by
    have hsm : free - sumW (inL p.st ws) + sumN (rs ++ (inL p.st ws).map (rOf now)) = all := by
      rw [sumN_app, sumN_rOf]
      have := hk.sm
      omega
    refine ⟨⟨ck.n0, ck.n1, right_parts.2 ⟨⟨by omega, by omega⟩, hall⟩, fun r hr => ?_, fun x hx => ?_, ?_, ?_⟩, hsm, hk.al⟩
    · rcases List.mem_append.1 hr with hr | hr
      · exact ck.re r hr
      · obtain ⟨x, hx, rfl⟩ := List.mem_map.1 hr
        have := hpos x hx
        have := ck.n1
        simp only [rOf]
        omega
    · have := ck.wt x (List.mem_filter.1 hx).1
      have := hk.sm
      rw [hsm]
      omega
    · exact List.Nodup.sublist ((List.filter_sublist).map Wt.job) ck.un
    · rcases lt_ge p.ho 0 with h | h
      · exact .inl (hnone h)
      · obtain ⟨_, x, hx, hxj, _⟩ := hlater h
        exact .inr ⟨x, hx, hxj⟩
  refine ⟨hheld, hfirst, fun h => (hlater h).1, hnone, hle, hpos, hkp, ?_⟩
  rcases lt_ge p.ho 0 with h | h
  · rw [if_pos h]
    exact .inl rfl
  · rw [if_neg (by omega)]
    obtain ⟨hl, hx⟩ := hlater h
    have n0 := ck.n0
    by_cases hc : p.ho ≠ ho ∨ til < 0
    · rw [if_pos hc]
      exact .inr ⟨h, by omega, by omega, Int.le_refl _, hx⟩
    · rw [if_neg hc]
      have he : p.ho = ho := Classical.byContradiction (fun e => hc (.inl e))
      have ht : 0 ≤ til := by
        rcases lt_ge til 0 with h2 | h2
        · exact absurd (.inr h2) hc
        · exact h2
      have h3 := hheld (by omega) he ht
      have hsht : sh ≤ til := by
        rcases hg with e | ⟨_, _, _, g2, _⟩
        · omega
        · exact g2
      exact .inr ⟨h, ht, by omega, by omega, hx⟩
/-- What befalls between two passes, till the next one. -/
theorem next_pass {now now' free free' all ho til sh : Int} {m : Nat} {ws ws' : List Wt} {rs rs' : List Rn} (hk : Kp now free all ws ho rs) (hg : Gr now free ws ho rs til sh) (he : Ev free rs free' rs') (hb : Bf all ho m ws ws')
    (h1 : now ≤ now') (h2 : now' ≤ 2199023255552) (h3 : til = -1 ∨ now' ≤ til) (h4 : ∀ r ∈ rs', now' < r.en) : Kp now' free' all ws' ho rs' ∧ Gr now' free' ws' ho rs' til sh := by
  obtain ⟨⟨f0, f1⟩, hok⟩ := right_parts.1 hk.ck.rt
  have hok' := all_sub he.sub hok
  have hle := he.le hok
  have hs' := sumN_bound hok'
  have hsm := he.sum
  have hs := hk.sm
  have hal := hk.al
  have n0 := hk.ck.n0
  refine ⟨⟨⟨by omega, h2, right_parts.2 ⟨⟨by omega, by omega⟩, hok'⟩, fun r hr => ⟨h4 r hr, (hk.ck.re r (he.sub.subset hr)).2⟩, fun x hx => ?_, hb.un, ?_⟩, by omega, hal⟩, ?_⟩
  · have := hb.ok x hx
    omega
  · rcases hk.ck.hd with e | ⟨x, hx, hxj⟩
    · exact .inl e
    · exact .inr ⟨x, hb.kp x hx hxj, hxj⟩
  · rcases hg with e | ⟨g0, g1, _, g3, x, hx, hxj, hat⟩
    · exact .inl e
    · refine .inr ⟨g0, g1, by omega, g3, x, hb.kp x hx hxj, hxj, fun u hu => ?_⟩
      have := hat u hu
      have := he.at hok u
      omega
end Go.Proofs.Ytdkibcagbidelaa.Pr
namespace Go.Proofs.Ytdkibcagbidelaa
open Go.RowKit Pr

/-- A stage. -/
structure Sg (B sb : Nat) (vw vr : Value) (now free ho : Int) (ws : List Wt) (rs : List Rn) (W : World) : Prop where
  blk : W.heap[sb]? = some (.cells #[.int .i64 now, .int .i64 free, vw, .int .i64 ho, vr] 53 (0, 0))
  rw_ : W.ownsRow B 40 3 vw ws.length (flatW ws)
  rr : W.ownsRow B 45 2 vr rs.length (flatR rs)
  lo : B ≤ sb
theorem chg_below {B : Nat} {K : Nat → Prop} {w W : World} (h : Chg K w W) (hK : ∀ k, K k → B ≤ k) (hB : B ≤ w.heap.size) : Below B w W :=
  ⟨h.os, h.tape, h.output, h.size, fun k hk => h.block k (by omega) (fun e => by have := hK k e; omega)⟩
section
variable {B sb : Nat} {vw vr : Value} {now free ho : Int} {ws : List Wt} {rs : List Rn} {w W : World}
theorem Sg.below (h : Sg B sb vw vr now free ho ws rs w) (hb : Below w.heap.size w W) : Sg B sb vw vr now free ho ws rs W := ⟨bk hb h.blk, rowB hb h.rw_, rowB hb h.rr, h.lo⟩
/-- The stage's own cells have turned, and nothing that was there besides. -/
theorem Sg.chg {now' free' ho' : Int} (h : Sg B sb vw vr now free ho ws rs w) (hc : Chg (fun i => i = sb) w W) (hb : W.heap[sb]? = some (.cells #[.int .i64 now', .int .i64 free', vw, .int .i64 ho', vr] 53 (0, 0))) : Sg B sb vw vr now' free' ho' ws rs W :=
  ⟨hb, row_keep h.rw_ (fun k e => by obtain ⟨_, cs, hk⟩ := row_tag h.rw_ e; exact hc.block k (lt_of_blk hk) (tag_ne hk h.blk (by decide))),
    row_keep h.rr (fun k e => by obtain ⟨_, cs, hk⟩ := row_tag h.rr e; exact hc.block k (lt_of_blk hk) (tag_ne hk h.blk (by decide))), h.lo⟩
end
theorem app_keep {W : World} {o : Obj} {w2 : World} {r : Option Nat} (hg : (W.alloc o).grownBy w2 r) {b : Nat} (hb : b < W.heap.size) (hr : r ≠ some b) : w2.heap[b]? = W.heap[b]? :=
  (hg.block b (by simp; omega) (fun e => hr e.symm)).trans (Below.heap_alloc _ _ _ hb)
theorem st_new {W : World} {sb : Nat} {cs cs' : Array Value} {k : Nat} {v : Value} (h : W.heap[sb]? = some (.cells cs 53 (0, 0))) (he : cs.setIfInBounds k v = cs') : (W.setCell ⟨sb, k, none⟩ v).heap[sb]? = some (.cells cs' 53 (0, 0)) := by
  rw [← he]
  exact heap_setCell_same W sb k _ 53 v h

set_option maxRecDepth 20000 in
set_option maxHeartbeats 4000000 in
theorem ends_any {B sb : Nat} {vw vr : Value} {now free ho : Int} {ws : List Wt} {rs : List Rn} {w : World} (h : Sg B sb vw vr now free ho ws rs w) (hB : B ≤ w.heap.size) (hf : 0 ≤ free) (hs : free + sumN rs ≤ 256) (hok : rs.all okR = true) (hl : rs.length ≤ 256) (early : Int) :
    Calls Try.prog 20 #[.pointer (some ⟨sb, 0, none⟩), .int .i64 early] w fun e w' => e = .returned (.tuple #[]) ∧ (∃ vr', Sg B sb vw vr' now (free + (sumN rs - sumN (endL now early 0 rs))) ho ws (endL now early 0 rs) w') ∧ Chg (fun i => i = sb) w w' := by
  obtain ⟨ra, rc, rfl, _⟩ := row_runs h.rr
  obtain ⟨wa, wn, wc2, rfl⟩ : ∃ a n c, vw = .slice a n c := by
    obtain ⟨a, c, e⟩ := own_form h.rw_
    exact ⟨a, _, c, e⟩
  obtain ⟨q, hq⟩ : ∃ q, rs.length = q := ⟨_, rfl⟩
  have HQ : Hid (rs.length = q) := hq
  have HS : Hid (Sg B sb (.slice wa wn wc2) (.slice ra rs.length rc) now free ho ws rs w) := h
  have hsb : ∀ j, 0 ≤ sumN (rs.take j) - sumN (endL now early 0 (rs.take j)) ∧ free + (sumN (rs.take j) - sumN (endL now early 0 (rs.take j))) ≤ 256 := fun j => by
    have h1 := (sub_su (u := 0) (endL_sub now early (rs.take j) 0) (take_all hok j)).2
    have h2 := (sub_su (u := 0) (List.take_sublist j rs) hok).2
    have h3 := sumN_bound (all_sub (endL_sub now early (rs.take j) 0) (take_all hok j))
    omega
  have HSB : Hid (∀ j, 0 ≤ sumN (rs.take j) - sumN (endL now early 0 (rs.take j)) ∧ free + (sumN (rs.take j) - sumN (endL now early 0 (rs.take j))) ≤ 256) := hsb
  have HOK : Hid (rs.all okR = true) := hok
  rw [hq] at hl
  clear h hq hsb hok hs
  obtain ⟨zm, hzm⟩ : ∃ zm, w.heap.size = zm := ⟨_, rfl⟩
  obtain ⟨W2, hW2⟩ : ∃ W2, w.alloc (.cells #[] 45) = W2 := ⟨_, rfl⟩
  have b2 : Below w.heap.size w W2 := by rw [← hW2]; exact (Below.refl _ w).alloc (Nat.le_refl _) _
  have HR2 : Hid (W2.ownsRow w.heap.size 45 2 (.slice (some ⟨zm, 0, none⟩) 0 0) 0 []) := show W2.ownsRow w.heap.size 45 2 (.slice (some ⟨zm, 0, none⟩) 0 0) 0 [] by rw [← hW2, ← hzm]; exact made0 w 45 2
  have HK2 : Hid (W2.heap[sb]? = some (.cells #[.int .i64 now, .int .i64 free, .slice wa wn wc2, .int .i64 ho, .slice ra q rc] 53 (0, 0))) := by have := bk b2 HS.out.blk; rw [HQ.out] at this; exact this
  have HC2 : Hid (Chg (fun i => i = sb) w W2) := Chg.of_below b2 _
  obtain ⟨i0, hi0, hz0, hz1, hz2⟩ := info_parts Try.inf45
  clear b2
  go_enter Try.func20, Try.ntmps20
  go_upto_region 1 with fail
  clear hW2 hzm
  go_wp2
  go_loopg [4, 5] q (fun gk p4 p5 wr => ∃ (j : Nat) (v : Value), j + gk = q ∧ v = p4 ∧ p5 = .int .i64 j ∧ wr.ownsRow w.heap.size 45 2 v (endL now early 0 (rs.take j)).length (flatR (endL now early 0 (rs.take j))) ∧ wr.heap[sb]? = some (.cells #[.int .i64 now, .int .i64 (free + (sumN (rs.take j) - sumN (endL now early 0 (rs.take j)))), .slice wa wn wc2, .int .i64 ho, .slice ra q rc] 53 (0, 0)) ∧ Chg (fun i => i = sb) w wr)
  case atStart => exact ⟨0, _, by omega, rfl, rfl, HR2.out, by simpa [endL, sumN] using HK2.out, HC2.out⟩
  case round =>
    obtain ⟨j, v, hjg, rfl, rfl, hrow, hblk, hch⟩ := hrel
    clear HR2 HK2 HC2
    have hbj := HSB.out j
    have HRW : Hid (wr.ownsRow w.heap.size 45 2 v (endL now early 0 (rs.take j)).length (flatR (endL now early 0 (rs.take j)))) := hrow
    have HBK : Hid (wr.heap[sb]? = some (.cells #[.int .i64 now, .int .i64 (free + (sumN (rs.take j) - sumN (endL now early 0 (rs.take j)))), .slice wa wn wc2, .int .i64 ho, .slice ra q rc] 53 (0, 0))) := hblk
    have HCH : Hid (Chg (fun i => i = sb) w wr) := hch
    have m0 := cells_at hblk (k := 0) rfl
    have m1 := cells_at hblk (k := 1) rfl
    have m4 := cells_at hblk (k := 4) rfl
    have hfz := frozen_at hblk (k := 1)
    by_cases hlt : j < q
    · obtain ⟨r, hr⟩ : ∃ r, rs[j]? = some r := ⟨_, List.getElem?_eq_getElem (by have := HQ.out; omega)⟩
      have hrk : wr.ownsRow B 45 2 (.slice ra rs.length rc) rs.length (flatR rs) := row_keep HS.out.rr (fun k e => by obtain ⟨_, cs, hk⟩ := row_tag HS.out.rr e; exact hch.block k (lt_of_blk hk) (tag_ne hk HS.out.blk (by decide)))
      obtain ⟨_, _, e9, g, o, hg, hcl⟩ := row_runs hrk
      injection e9 with e9
      have eg := hg (by have := HQ.out; omega)
      rw [← e9] at eg
      subst eg
      obtain ⟨c0, c1⟩ := hcl j r hr
      have hrn := okR_le (List.all_eq_true.1 HOK.out r (List.mem_of_getElem? hr))
      have HT : Hid (endL now early 0 (rs.take (j + 1)) = endL now early 0 (rs.take j) ++ (if r.en ≤ now ∨ (j : Int) = early then [] else [r])) := endL_take hr
      have HN : Hid (sumN (rs.take (j + 1)) = sumN (rs.take j) + r.nd) := sumN_take hr
      have hbj1 := HSB.out (j + 1)
      have hszw := hch.size
      clear hrow hblk hch hrk hg hcl e9 hr
      by_cases hd : r.en ≤ now ∨ (j : Int) = early
      · have HT1 : Hid (endL now early 0 (rs.take (j + 1)) = endL now early 0 (rs.take j)) := by
          show endL now early 0 (rs.take (j + 1)) = endL now early 0 (rs.take j)
          rw [HT.out, if_pos hd, List.append_nil]
        rw [HT1.out, HN.out] at hbj1
        have HF : Hid (free + (sumN (rs.take (j + 1)) - sumN (endL now early 0 (rs.take (j + 1)))) = free + (sumN (rs.take j) - sumN (endL now early 0 (rs.take j))) + r.nd) := by
          show free + (sumN (rs.take (j + 1)) - sumN (endL now early 0 (rs.take (j + 1)))) = free + (sumN (rs.take j) - sumN (endL now early 0 (rs.take j))) + r.nd
          rw [HT1.out, HN.out]
          omega
        obtain ⟨F, hF⟩ : ∃ F, free + (sumN (rs.take j) - sumN (endL now early 0 (rs.take j))) = F := ⟨_, rfl⟩
        have hF0 : 0 ≤ F := by omega
        have hF1 : F + r.nd ≤ 256 := by omega
        rw [hF] at m1 HBK HF
        have HFF : Hid (free + (sumN (rs.take j) - sumN (endL now early 0 (rs.take j))) = F) := hF
        clear hF hbj hbj1
        have HEND : Hid (∀ m, ∃ (j' : Nat) (v' : Value), j' + (q - (j + 1)) = q ∧ v' = v ∧ Value.int .i64 ((j : Int) + 1) = .int .i64 j' ∧ ((wr.drewN m).setCell ⟨sb, 1, none⟩ (.int .i64 (F + r.nd))).ownsRow w.heap.size 45 2 v' (endL now early 0 (rs.take j')).length (flatR (endL now early 0 (rs.take j'))) ∧ ((wr.drewN m).setCell ⟨sb, 1, none⟩ (.int .i64 (F + r.nd))).heap[sb]? = some (.cells #[.int .i64 now, .int .i64 (free + (sumN (rs.take j') - sumN (endL now early 0 (rs.take j')))), .slice wa wn wc2, .int .i64 ho, .slice (some ⟨g, o, none⟩) q rc] 53 (0, 0)) ∧ Chg (fun i => i = sb) w ((wr.drewN m).setCell ⟨sb, 1, none⟩ (.int .i64 (F + r.nd)))) := fun m => by
          refine ⟨j + 1, v, by omega, rfl, rfl, ?_, ?_, ?_⟩
          · rw [HT1.out]
            exact row_keep (W := wr) HRW.out (fun k e => Below.heap_setCell _ _ _ _ (by
              obtain ⟨hk1, cs, hk⟩ := row_tag HRW.out e
              exact tag_ne hk HBK.out (by decide)))
          · rw [HF.out]
            exact st_new (W := wr.drewN m) HBK.out rfl
          · have hd9 : Chg (fun i => i = sb) w (wr.drewN m) := ⟨HCH.out.os, HCH.out.tape, HCH.out.output, HCH.out.size, HCH.out.block⟩
            exact hd9.setCell _ _ (.inl rfl)
        clear HBK
        have HM : Hid (wr.cell? ⟨sb, 1, none⟩ = some (.int .i64 F) ∧ wr.cell? ⟨sb, 4, none⟩ = some (.slice (some ⟨g, o, none⟩) q rc) ∧ wr.cell? ⟨g, o + j * 2, none⟩ = some (.int .i64 r.nd)) := ⟨m1, m4, c0⟩
        go_upto_region 4 with fail
        go_cut [33] (fun p wd => p = .bool true ∧ ∃ m, wd = wr.drewN m)
        case first =>
          by_cases hd2 : r.en ≤ now
          · clear hd
            go_quiet (fail)
            all_goals
              go_wp2
              go_meet
              exact ⟨by first | rfl | simp, _, rfl⟩
          · have hd3 : early = (j : Int) := (hd.resolve_left hd2).symm
            subst hd3
            clear hd
            go_quiet (fail)
            all_goals
              go_wp2
              go_meet
              exact ⟨by first | rfl | simp, _, rfl⟩
        case rest =>
          obtain ⟨rfl, m, rfl⟩ := hcut
          have m1' : (wr.drewN m).cell? ⟨sb, 1, none⟩ = some (.int .i64 F) := HM.out.1
          have m4' : (wr.drewN m).cell? ⟨sb, 4, none⟩ = some (.slice (some ⟨g, o, none⟩) q rc) := HM.out.2.1
          have c0' : (wr.drewN m).cell? ⟨g, o + j * 2, none⟩ = some (.int .i64 r.nd) := HM.out.2.2
          have hfz' : (wr.drewN m).frozen? ⟨sb, 1, none⟩ = false := hfz
          have HE := HEND.out (m + 1)
          rw [show wr.drewN (m + 1) = (wr.drewN m).drew from rfl] at HE
          obtain ⟨V1, hV1⟩ : ∃ V1, wr.drewN m = V1 := ⟨_, rfl⟩
          rw [hV1] at m1' m4' c0' hfz' HE ⊢
          have HE : Hid _ := HE
          clear hV1 HEND HM m1 m4 c0 c1 m0 hfz hd
          go_upto_region 5 with fail
          refine wp_region_last (S := (fun x' : World => x'.cell? ⟨sb, 1, none⟩ = some (.int .i64 F) ∧ x'.cell? ⟨sb, 4, none⟩ = some (.slice (some ⟨g, o, none⟩) q rc) ∧ x'.cell? ⟨g, o + j * 2, none⟩ = some (.int .i64 r.nd))) (L := 15) (by kernel_rfl) ?_
          have HS0 : (fun x' : World => x'.cell? ⟨sb, 1, none⟩ = some (.int .i64 F) ∧ x'.cell? ⟨sb, 4, none⟩ = some (.slice (some ⟨g, o, none⟩) q rc) ∧ x'.cell? ⟨g, o + j * 2, none⟩ = some (.int .i64 r.nd)) V1.drew := ⟨m1', m4', c0'⟩
          refine last_take (i := 0) (v := ?v0a) rfl (by kernel_rfl) (by kernel_rfl) (by kernel_rfl) (by kernel_rfl) rfl (fun _ _ _ h => h) (by rfl) HS0 ?hy0a ?rest0a
          case hy0a =>
            intro xx hSx
            obtain ⟨s1, s2, s3⟩ := hSx
            go_simp
            try (with_reducible rfl)
          simp only [Act.put, List.setIfInBounds_toArray, List.set_cons_zero, List.set_cons_succ]
          refine last_take (i := 1) (v := ?v1a) rfl (by kernel_rfl) (by kernel_rfl) (by kernel_rfl) (by kernel_rfl) rfl (fun _ _ _ h => h) (by rfl) HS0 ?hy1a ?rest1a
          case hy1a =>
            intro xx hSx
            obtain ⟨s1, s2, s3⟩ := hSx
            go_simp
            try (with_reducible rfl)
          simp only [Act.put, List.setIfInBounds_toArray, List.set_cons_zero, List.set_cons_succ]
          refine last_take (i := 2) (v := ?v2a) rfl (by kernel_rfl) (by kernel_rfl) (by kernel_rfl) (by kernel_rfl) rfl (fun _ _ _ h => h) (by rfl) HS0 ?hy2a ?rest2a
          case hy2a =>
            intro xx hSx
            obtain ⟨s1, s2, s3⟩ := hSx
            go_simp
            try (with_reducible rfl)
          simp only [Act.put, List.setIfInBounds_toArray, List.set_cons_zero, List.set_cons_succ]
          refine last_take (i := 3) (v := ?v3a) rfl (by kernel_rfl) (by kernel_rfl) (by kernel_rfl) (by kernel_rfl) rfl (fun _ _ _ h => h) (by rfl) HS0 ?hy3a ?rest3a
          case hy3a =>
            intro xx hSx
            obtain ⟨s1, s2, s3⟩ := hSx
            go_simp
            try (with_reducible rfl)
          simp only [Act.put, List.setIfInBounds_toArray, List.set_cons_zero, List.set_cons_succ]
          refine last_take (i := 4) (v := ?v4a) rfl (by kernel_rfl) (by kernel_rfl) (by kernel_rfl) (by kernel_rfl) rfl (fun _ _ _ h => h) (by rfl) HS0 ?hy4a ?rest4a
          case hy4a =>
            intro xx hSx
            obtain ⟨s1, s2, s3⟩ := hSx
            go_simp
            try (with_reducible rfl)
          simp only [Act.put, List.setIfInBounds_toArray, List.set_cons_zero, List.set_cons_succ]
          refine last_take (i := 5) (v := ?v5a) rfl (by kernel_rfl) (by kernel_rfl) (by kernel_rfl) (by kernel_rfl) rfl (fun _ _ _ h => h) (by rfl) HS0 ?hy5a ?rest5a
          case hy5a =>
            intro xx hSx
            obtain ⟨s1, s2, s3⟩ := hSx
            go_simp
            try (with_reducible rfl)
          simp only [Act.put, List.setIfInBounds_toArray, List.set_cons_zero, List.set_cons_succ]
          refine last_take (i := 6) (v := ?v6a) rfl (by kernel_rfl) (by kernel_rfl) (by kernel_rfl) (by kernel_rfl) rfl (fun _ _ _ h => h) (by rfl) HS0 ?hy6a ?rest6a
          case hy6a =>
            intro xx hSx
            obtain ⟨s1, s2, s3⟩ := hSx
            go_simp
            try (with_reducible rfl)
          simp only [Act.put, List.setIfInBounds_toArray, List.set_cons_zero, List.set_cons_succ]
          refine last_take (i := 7) (v := ?v7a) rfl (by kernel_rfl) (by kernel_rfl) (by kernel_rfl) (by kernel_rfl) rfl (fun _ _ _ h => h) (by rfl) HS0 ?hy7a ?rest7a
          case hy7a =>
            intro xx hSx
            obtain ⟨s1, s2, s3⟩ := hSx
            go_simp
            try (with_reducible rfl)
          simp only [Act.put, List.setIfInBounds_toArray, List.set_cons_zero, List.set_cons_succ]
          refine last_take (i := 8) (v := ?v8a) rfl (by kernel_rfl) (by kernel_rfl) (by kernel_rfl) (by kernel_rfl) rfl (fun _ _ _ h => h) (by rfl) HS0 ?hy8a ?rest8a
          case hy8a =>
            intro xx hSx
            obtain ⟨s1, s2, s3⟩ := hSx
            go_simp
            try (with_reducible rfl)
          simp only [Act.put, List.setIfInBounds_toArray, List.set_cons_zero, List.set_cons_succ]
          refine last_take (i := 9) (v := ?v9a) rfl (by kernel_rfl) (by kernel_rfl) (by kernel_rfl) (by kernel_rfl) rfl (fun _ _ _ h => h) (by rfl) HS0 ?hy9a ?rest9a
          case hy9a =>
            intro xx hSx
            obtain ⟨s1, s2, s3⟩ := hSx
            go_simp
            try (with_reducible rfl)
          simp only [Act.put, List.setIfInBounds_toArray, List.set_cons_zero, List.set_cons_succ]
          refine last_take (i := 10) (v := ?v10a) rfl (by kernel_rfl) (by kernel_rfl) (by kernel_rfl) (by kernel_rfl) rfl (fun _ _ _ h => h) (by rfl) HS0 ?hy10a ?rest10a
          case hy10a =>
            intro xx hSx
            obtain ⟨s1, s2, s3⟩ := hSx
            go_simp
            try (with_reducible rfl)
          simp only [Act.put, List.setIfInBounds_toArray, List.set_cons_zero, List.set_cons_succ]
          refine last_take (i := 11) (v := ?v11a) rfl (by kernel_rfl) (by kernel_rfl) (by kernel_rfl) (by kernel_rfl) rfl (fun _ _ _ h => h) (by rfl) HS0 ?hy11a ?rest11a
          case hy11a =>
            intro xx hSx
            obtain ⟨s1, s2, s3⟩ := hSx
            go_simp
            try (with_reducible rfl)
          simp only [Act.put, List.setIfInBounds_toArray, List.set_cons_zero, List.set_cons_succ]
          refine last_take (i := 12) (v := ?v12a) rfl (by kernel_rfl) (by kernel_rfl) (by kernel_rfl) (by kernel_rfl) rfl (fun _ _ _ h => h) (by rfl) HS0 ?hy12a ?rest12a
          case hy12a =>
            intro xx hSx
            obtain ⟨s1, s2, s3⟩ := hSx
            go_simp
            try (with_reducible rfl)
          simp only [Act.put, List.setIfInBounds_toArray, List.set_cons_zero, List.set_cons_succ]
          refine last_one (i := 13) (by kernel_rfl) rfl ?_
          intro K9 hK9
          go_simp
          refine hK9.out _ _ (fun _ => HS0) (fun _ => ?_)
          clear hK9 K9
          refine last_one (i := 14) (by kernel_rfl) rfl ?_
          intro K9 hK9
          go_simp
          refine hK9.out _ _ (fun _ => HS0) (fun _ => ?_)
          clear hK9 K9
          refine last_one (i := 15) (by kernel_rfl) rfl ?_
          intro K3 hK3
          go_simp
          refine hK3.out _ _ (fun h => absurd rfl h) (fun _ => ?_)
          clear hK3 K3
          refine last_done (by kernel_rfl) ?_ _
          have e9 : IntKind.i64.wrap (F + r.nd) = F + r.nd := by rw [IntKind.wrap_i64]; omega
          try rw [e9]
          clear e9
          go_wp2
          go_roundg (q - (j + 1))
          case measure => omega
          case rel => exact HE.out
      · have hd1 : now < r.en := by omega
        have hd2 : ¬ r.en ≤ now := by omega
        have hd3 : ((j : Int) == early) = false := beq_false_of_ne (fun e => hd (.inr e))
        have HT1 : Hid (endL now early 0 (rs.take (j + 1)) = endL now early 0 (rs.take j) ++ [r]) := by
          show endL now early 0 (rs.take (j + 1)) = endL now early 0 (rs.take j) ++ [r]
          rw [HT.out, if_neg hd]
        have HF : Hid (free + (sumN (rs.take (j + 1)) - sumN (endL now early 0 (rs.take (j + 1)))) = free + (sumN (rs.take j) - sumN (endL now early 0 (rs.take j)))) := by
          show free + (sumN (rs.take (j + 1)) - sumN (endL now early 0 (rs.take (j + 1)))) = free + (sumN (rs.take j) - sumN (endL now early 0 (rs.take j)))
          rw [HT1.out, HN.out, sumN_app]
          simp only [sumN]
          omega
        have hLq : (endL now early 0 (rs.take j)).length ≤ 256 := by
          have h1 := (endL_sub now early (rs.take j) 0).length_le
          rw [List.length_take] at h1
          have := HQ.out
          omega
        have HM : Hid (wr.cell? ⟨sb, 4, none⟩ = some (.slice (some ⟨g, o, none⟩) q rc) ∧ wr.cell? ⟨g, o + j * 2, none⟩ = some (.int .i64 r.nd) ∧ wr.cell? ⟨g, o + j * 2 + 1, none⟩ = some (.int .i64 r.en)) := ⟨m4, c0, c1⟩
        clear hd HT HN hbj hbj1 m1 hfz
        go_upto_region 4 with fail
        go_cut [33] (fun p wd => p = .bool false ∧ ∃ m, wd = wr.drewN m)
        case first =>
          go_quiet (fail)
          all_goals
            go_wp2
            go_meet
            exact ⟨by first | rfl | simp, _, rfl⟩
        case rest =>
          obtain ⟨rfl, m, rfl⟩ := hcut
          have m4' : (wr.drewN m).cell? ⟨sb, 4, none⟩ = some (.slice (some ⟨g, o, none⟩) q rc) := HM.out.1
          have c0' : (wr.drewN m).cell? ⟨g, o + j * 2, none⟩ = some (.int .i64 r.nd) := HM.out.2.1
          have c1' : (wr.drewN m).cell? ⟨g, o + j * 2 + 1, none⟩ = some (.int .i64 r.en) := HM.out.2.2
          have HRW1 : Hid ((wr.drewN m).ownsRow w.heap.size 45 2 v (endL now early 0 (rs.take j)).length (flatR (endL now early 0 (rs.take j)))) := HRW.out
          have HBK1 : Hid ((wr.drewN m).heap[sb]? = some (.cells #[.int .i64 now, .int .i64 (free + (sumN (rs.take j) - sumN (endL now early 0 (rs.take j)))), .slice wa wn wc2, .int .i64 ho, .slice (some ⟨g, o, none⟩) q rc] 53 (0, 0))) := HBK.out
          have HCH1 : Hid (Chg (fun i => i = sb) w (wr.drewN m)) := ⟨HCH.out.os, HCH.out.tape, HCH.out.output, HCH.out.size, HCH.out.block⟩
          obtain ⟨V1, hV1⟩ : ∃ V1, wr.drewN m = V1 := ⟨_, rfl⟩
          rw [hV1] at m4' c0' c1' HRW1 HBK1 HCH1 ⊢
          obtain ⟨L, hL⟩ : ∃ L, endL now early 0 (rs.take j) = L := ⟨_, rfl⟩
          have HL : Hid (endL now early 0 (rs.take j) = L) := hL
          rw [hL] at hLq HRW1 HT1
          have hsz1 : w.heap.size ≤ V1.heap.size := HCH1.out.size
          clear hV1 hL HM m4 c0 c1 m0 HRW HBK HCH
          go_wp2_with (at_builtin; refine wpList_append_own_at _ rfl (.tmp 49) (.tmp 57) 23 rfl w.heap.size 45 i0 _ 2 16 Try.underlying23 hi0 hz0 hz1 hz2 rfl (by decide) v L.length (flatR L) rfl (HRW1.out.alloc _) ⟨V1.heap.size, 0, none⟩ 1 1 [.int .i64 r.nd, .int .i64 r.en] rfl rfl (World.news_of_block (cs := #[.int .i64 r.nd, .int .i64 r.en]) (t := 45) (fr := (0, 0)) (heap_alloc_new V1 _)) (by simp [Value.oneCell']) (Nat.le_trans (m := 257) (by omega) (by decide)) (by omega) (by simp; omega) ?_; intro v' w5 hown hgr _ _)
          go_roundg (q - (j + 1))
          case measure => omega
          case rel =>
            refine ⟨j + 1, v', by omega, rfl, rfl, ?_, ?_, ?_⟩
            · rw [HT1.out, List.length_append, flatR_snoc]
              exact hown
            · rw [HF.out]
              refine (app_keep hgr (lt_of_blk HBK1.out) (fun e => ?_)).trans HBK1.out
              obtain ⟨_, cs, hk⟩ := row_tag HRW1.out e
              exact tag_ne hk HBK1.out (by decide) rfl
            · have hz := HCH1.out.size
              refine ⟨hgr.os.trans HCH1.out.os, hgr.tape.trans HCH1.out.tape, hgr.output.trans HCH1.out.output, Nat.le_trans (Nat.le_trans hz (by simp)) hgr.size, fun k hk hn => ?_⟩
              exact (app_keep hgr (by omega) (fun e => by have := (row_tag HRW1.out e).1; omega)).trans (HCH1.out.block k hk hn)
    · obtain rfl : j = q := by omega
      have htk : rs.take j = rs := List.take_of_length_le (by have := HQ.out; omega)
      rw [htk] at HRW HBK
      obtain ⟨va, vc, rfl⟩ := own_form HRW.out
      have m4f := frozen_at HBK.out (k := 4)
      have HFIN : Hid (Sg B sb (.slice wa wn wc2) (.slice va (endL now early 0 rs).length vc) now (free + (sumN rs - sumN (endL now early 0 rs))) ho ws (endL now early 0 rs) (wr.setCell ⟨sb, 4, none⟩ (.slice va (endL now early 0 rs).length vc)) ∧ Chg (fun i => i = sb) w (wr.setCell ⟨sb, 4, none⟩ (.slice va (endL now early 0 rs).length vc))) := by
        have hc : Chg (fun i => i = sb) w (wr.setCell ⟨sb, 4, none⟩ (.slice va (endL now early 0 rs).length vc)) := HCH.out.setCell _ _ (.inl rfl)
        refine ⟨⟨st_new HBK.out rfl, ?_, ?_, HS.out.lo⟩, hc⟩
        · exact row_keep HS.out.rw_ (fun k e => by obtain ⟨_, cs, hk⟩ := row_tag HS.out.rw_ e; exact hc.block k (lt_of_blk hk) (tag_ne hk HS.out.blk (by decide)))
        · refine own_base (row_keep HRW.out (fun k e => Below.heap_setCell _ _ _ _ ?_)) hB
          obtain ⟨_, cs, hk⟩ := row_tag HRW.out e
          exact tag_ne hk HBK.out (by decide)
      clear hrow hblk hch htk HRW HBK HCH hbj m1 m0 hfz
      go_wp2
      go_end0
      exact ⟨rfl, ⟨_, HFIN.out.1⟩, HFIN.out.2⟩
end Go.Proofs.Ytdkibcagbidelaa
namespace Go.Proofs.Ytdkibcagbidelaa
open Go.RowKit Pr

theorem in_take {st : List Int} {ws : List Wt} {j : Nat} {x : Wt} (h : ws[j]? = some x) : inL st (ws.take (j + 1)) = inL st (ws.take j) ++ (if st.contains x.job then [x] else []) ∧ outL st (ws.take (j + 1)) = outL st (ws.take j) ++ (if st.contains x.job then [] else [x]) := by
  unfold inL outL
  rw [List.take_add_one, h, show (some x).toList = [x] from rfl, List.filter_append, List.filter_append]
  cases hc : st.contains x.job <;> simp [List.filter_cons] <;> simpa using hc
theorem sumW_sub {a b : List Wt} (h : a.Sublist b) : (∀ x ∈ b, 1 ≤ x.nd) → sumW a ≤ sumW b ∧ 0 ≤ sumW a := by
  induction h with
  | slnil => intro _; simp [sumW]
  | @cons a b r _ ih =>
    intro hb
    have := ih (fun x hx => hb x (by simp [hx]))
    have := hb r (by simp)
    simp only [sumW]
    omega
  | @cons_cons a b r _ ih =>
    intro hb
    have := ih (fun x hx => hb x (by simp [hx]))
    have := hb r (by simp)
    simp only [sumW]
    omega
/-- Which blocks of those that were there a plan may turn. -/
def KT (sb : Nat) (vr : Value) (i : Nat) : Prop := i = sb ∨ vr.ownBlock = some i
structure St (B sb : Nat) (vw vr : Value) (w : World) (now F ho : Int) (ws : List Wt) (RR : List Rn) (vr' : Value) (W : World) : Prop where
  sg : Sg B sb vw vr' now F ho ws RR W
  ch : Chg (KT sb vr) w W
  at_ : ∀ b : Nat, vr'.ownBlock = some b → vr.ownBlock = some b ∨ w.heap.size ≤ b
theorem St.paid {B sb : Nat} {vw vr vr' : Value} {w W : World} {now F ho : Int} {ws : List Wt} {RR : List Rn} (h : St B sb vw vr w now F ho ws RR vr' W) (F' : Int) : St B sb vw vr w now F' ho ws RR vr' (W.setCell ⟨sb, 1, none⟩ (.int .i64 F')) :=
  ⟨h.sg.chg ((Chg.refl _ _).setCell _ _ (.inl rfl)) (st_new h.sg.blk rfl), h.ch.setCell _ _ (.inl (.inl rfl)), h.at_⟩
theorem St.drew {B sb : Nat} {vw vr vr' : Value} {w W : World} {now F ho : Int} {ws : List Wt} {RR : List Rn} (h : St B sb vw vr w now F ho ws RR vr' W) : St B sb vw vr w now F ho ws RR vr' W.drew :=
  ⟨⟨h.sg.blk, h.sg.rw_, h.sg.rr, h.sg.lo⟩, h.ch.drew, h.at_⟩
theorem St.below {B sb : Nat} {vw vr vr' : Value} {w W W' : World} {now F ho : Int} {ws : List Wt} {RR : List Rn} (h : St B sb vw vr w now F ho ws RR vr' W) (hb : Below W.heap.size W W') : St B sb vw vr w now F ho ws RR vr' W' :=
  ⟨h.sg.below hb, h.ch.trans (Chg.of_below hb (KT sb vr)) (fun _ _ e => e), h.at_⟩
/-- A run more. -/
theorem St.ran {B sb gg cap : Nat} {vw vr vr' : Value} {w W w1 : World} {now F ho : Int} {ws : List Wt} {RR : List Rn} {o : Obj} {x : Wt} (h : St B sb vw vr w now F ho ws RR vr' W)
    (hown : w1.ownsRow B 45 2 (.slice (some ⟨gg, 0, none⟩) (RR.length + 1) cap) (RR.length + 1) (flatR RR ++ [.int .i64 x.nd, .int .i64 (now + x.lm)])) (hg : ((W.alloc o).drew).grownBy w1 vr'.ownBlock) (hat : vr'.ownBlock = some gg ∨ gg = W.heap.size + 1) :
    St B sb vw vr w now F ho ws (RR ++ [rOf now x]) (.slice (some ⟨gg, 0, none⟩) (RR.length + 1) cap) (w1.setCell ⟨sb, 4, none⟩ (.slice (some ⟨gg, 0, none⟩) (RR.length + 1) cap)) ∧ w1.cell? ⟨sb, 4, none⟩ = some vr' ∧ w1.frozen? ⟨sb, 4, none⟩ = false := by
  have kp : ∀ (i : Nat) (cs : Array Value) (t : TypeId), t ≠ 45 → W.heap[i]? = some (.cells cs t (0, 0)) → w1.heap[i]? = some (.cells cs t (0, 0)) := fun i cs t ht hi => by
    have hlt := lt_of_blk hi
    have e1 : (W.alloc o).drew.heap[i]? = W.heap[i]? := Below.heap_alloc _ _ _ hlt
    refine ((hg.block i (by show i < (W.alloc o).heap.size; simp; omega) (fun e => ?_)).trans e1).trans hi
    obtain ⟨_, cs', hk⟩ := row_tag h.sg.rr e.symm
    exact tag_ne hi hk ht rfl
  have bm := kp sb _ 53 (by decide) h.sg.blk
  have hgs : gg ≠ sb := by
    obtain ⟨_, cs', hk⟩ := row_tag hown (k := gg) rfl
    exact tag_ne hk bm (by decide)
  refine ⟨⟨⟨st_new bm rfl, ?_, ?_, h.sg.lo⟩, ?_, fun b hb => ?_⟩, cells_at bm rfl, frozen_at bm⟩
  · exact row_keep h.sg.rw_ (fun k e => by
      obtain ⟨_, cs, hk⟩ := row_tag h.sg.rw_ e
      exact (Below.heap_setCell _ _ _ _ (tag_ne hk h.sg.blk (by decide))).trans ((kp k cs 40 (by decide) hk).trans hk.symm))
  · rw [List.length_append, flatR_snoc]
    exact row_keep hown (fun k e => Below.heap_setCell _ _ _ _ (by
      have : gg = k := by simpa [Value.ownBlock] using e
      show k ≠ sb
      omega))
  · have hc1 : Chg (KT sb vr) w w1 := by
      have hz := h.ch.size
      refine ⟨hg.os.trans h.ch.os, hg.tape.trans h.ch.tape, hg.output.trans h.ch.output, Nat.le_trans hz (Nat.le_trans (by show W.heap.size ≤ (W.alloc o).heap.size; simp) hg.size), fun k hk hn => ?_⟩
      have e1 : (W.alloc o).drew.heap[k]? = W.heap[k]? := Below.heap_alloc _ _ _ (by omega)
      refine ((hg.block k (by show k < (W.alloc o).heap.size; simp; omega) (fun e => ?_)).trans e1).trans (h.ch.block k hk hn)
      rcases h.at_ k e.symm with e2 | e2
      · exact hn (.inr e2)
      · omega
    exact hc1.setCell _ _ (.inl (.inl rfl))
  · have hbg : b = gg := by simpa [Value.ownBlock] using hb.symm
    subst hbg
    rcases hat with e | e
    · exact h.at_ b e
    · have hz := h.ch.size
      exact .inr (by omega)
theorem row_lt0 {W : World} {B e sz n : Nat} {v : Value} {vs : List Value} (h : W.ownsRow B e sz v n vs) {b : Nat} (hb : v.ownBlock = some b) : b < W.heap.size := by
  obtain ⟨_, cs, hk⟩ := row_tag h hb
  exact lt_of_blk hk
theorem tk_room {n m : Nat} (h : n * 24 ≤ 140737490000000) (hm : m + 1 ≤ n) : m + 1 ≤ maxLen ∧ (m + 1 + (m + 1) / 4 + 192) * 24 ≤ 281474976710656 :=
  ⟨Nat.le_trans (m := 35184372088832) (by omega) (by decide), by omega⟩

set_option maxRecDepth 20000 in
set_option maxHeartbeats 8000000 in
theorem takes_any {B sb Bs sc : Nat} {vw vr : Value} {now free ho : Int} {ws : List Wt} {rs : List Rn} {w : World} {sa : Option Addr} {st : List Int} (h : Sg B sb vw vr now free ho ws rs w) (hB : B ≤ w.heap.size) (hst : w.ownsRow Bs 3 1 (.slice sa st.length sc) st.length (intsV st)) (hsl : st.length ≤ 256)
    (n0 : 0 ≤ now) (n1 : now ≤ 2199023255552) (f1 : free ≤ 256) (hle : sumW (inL st ws) ≤ free) (hpos : ∀ x ∈ inL st ws, 1 ≤ x.nd ∧ x.nd ≤ 256 ∧ 1 ≤ x.lm ∧ x.lm ≤ 1048576) (hl : rs.length ≤ 256) (hnw : ws.length * 24 ≤ 140737490000000) (pho psh pex : Int) :
    Calls Try.prog 18 #[.pointer (some ⟨sb, 0, none⟩), .agg #[.slice sa st.length sc, .int .i64 pho, .int .i64 psh, .int .i64 pex]] w fun e w' => e = .returned (.tuple #[]) ∧ (∃ vw' vr', Sg B sb vw' vr' now (free - sumW (inL st ws)) pho (outL st ws) (rs ++ (inL st ws).map (rOf now)) w') ∧ Below B w w' := by
  obtain ⟨wa, wcap, rfl, _⟩ : ∃ a c, vw = .slice a ws.length c ∧ True := by
    obtain ⟨a, c, e⟩ := own_form h.rw_
    exact ⟨a, c, e, trivial⟩
  obtain ⟨q, hq⟩ : ∃ q, ws.length = q := ⟨_, rfl⟩
  have HQ : Hid (ws.length = q) := hq
  have HS : Hid (Sg B sb (.slice wa ws.length wcap) vr now free ho ws rs w) := h
  have hsb : ∀ j, (0 ≤ sumW (inL st (ws.take j)) ∧ sumW (inL st (ws.take j)) ≤ free) ∧ (inL st (ws.take j)).length ≤ 256 ∧ (outL st (ws.take j)).length ≤ j := fun j => by
    have hs1 : (inL st (ws.take j)).Sublist (inL st ws) := (List.take_sublist j ws).filter _
    have h1 := sumW_sub hs1 (fun x hx => (hpos x hx).1)
    have h2 := sumW_nn (l := inL st ws) (fun x hx => ⟨(hpos x hx).1, (hpos x hx).2.1⟩)
    have h3 := hs1.length_le
    have h4 := List.length_filter_le (fun x : Wt => !st.contains x.job) (ws.take j)
    rw [List.length_take] at h4
    refine ⟨⟨h1.2, by omega⟩, by omega, ?_⟩
    show ((ws.take j).filter fun x => !st.contains x.job).length ≤ j
    omega
  have HSB : Hid (∀ j, (0 ≤ sumW (inL st (ws.take j)) ∧ sumW (inL st (ws.take j)) ≤ free) ∧ (inL st (ws.take j)).length ≤ 256 ∧ (outL st (ws.take j)).length ≤ j) := hsb
  have HPO : Hid (∀ x ∈ inL st ws, 1 ≤ x.nd ∧ x.nd ≤ 256 ∧ 1 ≤ x.lm ∧ x.lm ≤ 1048576) := hpos
  rw [hq] at hnw
  obtain ⟨zp, hzp⟩ : ∃ zp, w.heap.size = zp := ⟨_, rfl⟩
  obtain ⟨W2, hW2⟩ : ∃ W2, (w.alloc (.cells #[.slice sa st.length sc, .int .i64 pho, .int .i64 psh, .int .i64 pex] 30)).alloc (.cells #[] 40) = W2 := ⟨_, rfl⟩
  have b2 : Below w.heap.size w W2 := by rw [← hW2]; exact ((Below.refl _ w).alloc (Nat.le_refl _) _).alloc (by simp) _
  have HP2 : Hid (W2.heap[zp]? = some (.cells #[.slice sa st.length sc, .int .i64 pho, .int .i64 psh, .int .i64 pex] 30 (0, 0))) := show _ = _ by
    rw [← hW2, ← hzp]
    exact (Below.heap_alloc _ _ _ (by simp)).trans (heap_alloc_new w _)
  have HR2 : Hid (W2.ownsRow w.heap.size 40 3 (.slice (some ⟨zp + 1, 0, none⟩) 0 0) 0 []) := show W2.ownsRow w.heap.size 40 3 (.slice (some ⟨zp + 1, 0, none⟩) 0 0) 0 [] by
    rw [← hW2, ← hzp]
    have := made0 (w.alloc (.cells #[.slice sa st.length sc, .int .i64 pho, .int .i64 psh, .int .i64 pex] 30)) 40 3
    rw [World.size_alloc] at this
    exact own_base this (Nat.le_succ _)
  have HT2 : Hid (St B sb (.slice wa ws.length wcap) vr w now free ho ws rs vr W2) := ⟨h.below b2, Chg.of_below b2 _, fun b e => .inl e⟩
  have HST : Hid (w.ownsRow Bs 3 1 (.slice sa st.length sc) st.length (intsV st)) := hst
  obtain ⟨i0, hi0, hz0, hz1, hz2⟩ := info_parts Try.inf45
  obtain ⟨j0, hj0, hw0, hw1, hw2⟩ := info_parts Try.inf40
  have hzp' : w.heap.size ≤ zp := by omega
  clear b2 h hq hsb hpos hst hle
  go_enter Try.func18, Try.ntmps18
  go_upto_region 2 with fail
  clear hW2 hzp
  go_wp2
  go_loopg [4, 5] q (fun gk p4 p5 wr => ∃ (j : Nat) (v vr' : Value), j + gk = q ∧ v = p4 ∧ p5 = .int .i64 j ∧ wr.ownsRow w.heap.size 40 3 v (outL st (ws.take j)).length (flatW (outL st (ws.take j))) ∧ St B sb (.slice wa ws.length wcap) vr w now (free - sumW (inL st (ws.take j))) ho ws (rs ++ (inL st (ws.take j)).map (rOf now)) vr' wr ∧ wr.heap[zp]? = some (.cells #[.slice sa st.length sc, .int .i64 pho, .int .i64 psh, .int .i64 pex] 30 (0, 0)))
  case atStart =>
    refine ⟨0, _, vr, by omega, rfl, rfl, HR2.out, ?_, HP2.out⟩
    have := HT2.out
    simpa [inL, sumW] using this
  case round =>
    obtain ⟨j, v, vr', hjg, rfl, rfl, hrow, hst', hzb⟩ := hrel
    clear HR2 HT2 HP2
    have hbj := HSB.out j
    have HRW : Hid (wr.ownsRow w.heap.size 40 3 v (outL st (ws.take j)).length (flatW (outL st (ws.take j)))) := hrow
    have HTT : Hid (St B sb (.slice wa ws.length wcap) vr w now (free - sumW (inL st (ws.take j))) ho ws (rs ++ (inL st (ws.take j)).map (rOf now)) vr' wr) := hst'
    have HZB : Hid (wr.heap[zp]? = some (.cells #[.slice sa st.length sc, .int .i64 pho, .int .i64 psh, .int .i64 pex] 30 (0, 0))) := hzb
    have m2 := cells_at hst'.sg.blk (k := 2) rfl
    rw [HQ.out] at m2
    by_cases hlt : j < q
    · obtain ⟨x, hx⟩ : ∃ x, ws[j]? = some x := ⟨_, List.getElem?_eq_getElem (by have := HQ.out; omega)⟩
      obtain ⟨_, _, e9, ⟨g, o, hg, hcl⟩, _, _⟩ := row_wait hst'.sg.rw_
      injection e9 with e9 e92 e93
      have eg := (hg (by have := HQ.out; omega)).1
      rw [← e9] at eg
      subst eg
      clear e9 e92 e93 hg
      obtain ⟨c0, c1, c2⟩ := hcl j x hx
      obtain ⟨HI, HO⟩ := in_take (st := st) hx
      obtain ⟨zx, hzx⟩ : ∃ zx, wr.heap.size = zx := ⟨_, rfl⟩
      obtain ⟨W4, hW4⟩ : ∃ W4, wr.alloc (.cells #[.int .i64 x.job, .int .i64 x.nd, .int .i64 x.lm] 40) = W4 := ⟨_, rfl⟩
      have b4 : Below wr.heap.size wr W4 := by rw [← hW4]; exact (Below.refl _ wr).alloc (Nat.le_refl _) _
      have kx : W4.heap[zx]? = some (.cells #[.int .i64 x.job, .int .i64 x.nd, .int .i64 x.lm] 40 (0, 0)) := by rw [← hW4, ← hzx]; exact heap_alloc_new wr _
      have hrs4 : W4.ownsRow Bs 3 1 (.slice sa st.length sc) st.length (intsV st) := rowB b4 (row_keep HST.out (fun k e => by
        obtain ⟨_, cs, hk⟩ := row_tag HST.out e
        refine hst'.ch.block k (lt_of_blk hk) (fun hK => ?_)
        rcases hK with e1 | e1
        · exact tag_ne hk HS.out.blk (by decide) e1
        · obtain ⟨_, cs', hk'⟩ := row_tag HS.out.rr e1
          exact tag_ne hk hk' (by decide) rfl))
      obtain ⟨_, _, es, is⟩ := ints_row hrs4
      injection es with es es2 es3
      subst es
      clear es2 es3
      have HA := has_any (c := sc) is (by omega) x.job
      obtain ⟨cb, hcb⟩ : ∃ cb, st.contains x.job = cb := ⟨_, rfl⟩
      rw [hcb] at HA HI HO
      have HCB : Hid (st.contains x.job = cb) := hcb
      have HXM : Hid (x ∈ ws) := List.mem_of_getElem? hx
      have p0 := cells_at (bk b4 hzb) (k := 0) rfl
      have k0 := cells_at kx (k := 0) rfl
      have k1 := cells_at kx (k := 1) rfl
      have k2 := cells_at kx (k := 2) rfl
      have HT4 : Hid (St B sb (.slice (some ⟨g, o, none⟩) ws.length wcap) vr w now (free - sumW (inL st (ws.take j))) ho ws (rs ++ (inL st (ws.take j)).map (rOf now)) vr' W4) := hst'.below b4
      have HRZ : Hid (W4.ownsRow w.heap.size 40 3 v (outL st (ws.take j)).length (flatW (outL st (ws.take j))) ∧ W4.heap[zp]? = some (.cells #[.slice sa st.length sc, .int .i64 pho, .int .i64 psh, .int .i64 pex] 30 (0, 0)) ∧ W4.heap[zx]? = some (.cells #[.int .i64 x.job, .int .i64 x.nd, .int .i64 x.lm] 40 (0, 0))) := ⟨rowB b4 hrow, bk b4 hzb, kx⟩
      have HII : Hid (inL st (ws.take (j + 1)) = inL st (ws.take j) ++ (if cb = true then [x] else [])) := by show inL st (ws.take (j + 1)) = inL st (ws.take j) ++ (if cb = true then [x] else []); rw [HI]
      have HOO : Hid (outL st (ws.take (j + 1)) = outL st (ws.take j) ++ (if cb = true then [] else [x])) := by show outL st (ws.take (j + 1)) = outL st (ws.take j) ++ (if cb = true then [] else [x]); rw [HO]
      have hsz4 : w.heap.size ≤ wr.heap.size := hst'.ch.size
      have hzw4 : w.heap.size < W4.heap.size := by have := b4.size; have := lt_of_blk kx; omega
      go_upto_if 28 with (go_at_call 15; refine HA.mono ?_; rintro e w' ⟨rfl, h9⟩; obtain rfl := h9.symm; clear h9)
      clear hrow hst' hzb hcl hx c0 c1 c2 HI HO b4 kx hrs4 is HA hW4 hzx HRW HTT HZB m2 p0 hcb
      cases cb with
      | true =>
        have hxi : x ∈ inL st ws := List.mem_filter.2 ⟨HXM.out, HCB.out⟩
        obtain ⟨x1, x2, x3, x4⟩ := HPO.out x hxi
        have hbj1 := HSB.out (j + 1)
        have HI1 : Hid (inL st (ws.take (j + 1)) = inL st (ws.take j) ++ [x]) := by have := HII.out; rw [if_pos rfl] at this; exact this
        have HO1 : Hid (outL st (ws.take (j + 1)) = outL st (ws.take j)) := by have := HOO.out; rw [if_pos rfl, List.append_nil] at this; exact this
        rw [HI1.out, sumW_app, show sumW [x] = x.nd by simp [sumW]] at hbj1
        obtain ⟨F, hF⟩ : ∃ F, free - sumW (inL st (ws.take j)) = F := ⟨_, rfl⟩
        have hF1 : F ≤ 256 := by omega
        have hF2 : x.nd ≤ F := by omega
        have HFF : Hid (free - sumW (inL st (ws.take (j + 1))) = F - x.nd) := by
          show free - sumW (inL st (ws.take (j + 1))) = F - x.nd
          rw [HI1.out, sumW_app, show sumW [x] = x.nd by simp [sumW]]
          omega
        obtain ⟨RR, hRR⟩ : ∃ RR, rs ++ (inL st (ws.take j)).map (rOf now) = RR := ⟨_, rfl⟩
        have hRl : RR.length ≤ 512 := by rw [← hRR, List.length_append, List.length_map]; omega
        have HRR : Hid (rs ++ (inL st (ws.take (j + 1))).map (rOf now) = RR ++ [rOf now x]) := by
          show rs ++ (inL st (ws.take (j + 1))).map (rOf now) = RR ++ [rOf now x]
          rw [HI1.out, List.map_append, ← List.append_assoc, hRR]
          rfl
        rw [hF, hRR] at HT4
        have m1 := cells_at HT4.out.sg.blk (k := 1) rfl
        have f1' := frozen_at HT4.out.sg.blk (k := 1)
        have hbx : sb ≠ zx := tag_ne HT4.out.sg.blk HRZ.out.2.2 (by decide)
        have hbp : sb ≠ zp := tag_ne HT4.out.sg.blk HRZ.out.2.1 (by decide)
        clear hF hRR HII HOO hbj hbj1 hxi
        go_upto_region 7 with fail
        go_cut [] (fun wd => St B sb (.slice (some ⟨g, o, none⟩) ws.length wcap) vr w now (F - x.nd) ho ws RR vr' wd ∧ wd.ownsRow w.heap.size 40 3 v (outL st (ws.take j)).length (flatW (outL st (ws.take j))) ∧ wd.heap[zp]? = some (.cells #[.slice sa st.length sc, .int .i64 pho, .int .i64 psh, .int .i64 pex] 30 (0, 0)) ∧ wd.heap[zx]? = some (.cells #[.int .i64 x.job, .int .i64 x.nd, .int .i64 x.lm] 40 (0, 0)))
        case first =>
          refine wp_region_last (S := (fun x' : World => x'.cell? ⟨sb, 1, none⟩ = some (.int .i64 F) ∧ x'.cell? ⟨zx, 1, none⟩ = some (.int .i64 x.nd))) (L := 9) (by kernel_rfl) ?_
          have HS0 : (fun x' : World => x'.cell? ⟨sb, 1, none⟩ = some (.int .i64 F) ∧ x'.cell? ⟨zx, 1, none⟩ = some (.int .i64 x.nd)) W4.drew := ⟨m1, k1⟩
          refine last_take (i := 0) (v := ?v0a) rfl (by kernel_rfl) (by kernel_rfl) (by kernel_rfl) (by kernel_rfl) rfl (fun _ _ _ h => h) (by rfl) HS0 ?hy0a ?rest0a
          case hy0a =>
            intro xx hSx
            obtain ⟨s1, s2⟩ := hSx
            go_simp
            try (with_reducible rfl)
          simp only [Act.put, List.setIfInBounds_toArray, List.set_cons_zero, List.set_cons_succ]
          refine last_take (i := 1) (v := ?v1a) rfl (by kernel_rfl) (by kernel_rfl) (by kernel_rfl) (by kernel_rfl) rfl (fun _ _ _ h => h) (by rfl) HS0 ?hy1a ?rest1a
          case hy1a =>
            intro xx hSx
            obtain ⟨s1, s2⟩ := hSx
            go_simp
            try (with_reducible rfl)
          simp only [Act.put, List.setIfInBounds_toArray, List.set_cons_zero, List.set_cons_succ]
          refine last_take (i := 2) (v := ?v2a) rfl (by kernel_rfl) (by kernel_rfl) (by kernel_rfl) (by kernel_rfl) rfl (fun _ _ _ h => h) (by rfl) HS0 ?hy2a ?rest2a
          case hy2a =>
            intro xx hSx
            obtain ⟨s1, s2⟩ := hSx
            go_simp
            try (with_reducible rfl)
          simp only [Act.put, List.setIfInBounds_toArray, List.set_cons_zero, List.set_cons_succ]
          refine last_take (i := 3) (v := ?v3a) rfl (by kernel_rfl) (by kernel_rfl) (by kernel_rfl) (by kernel_rfl) rfl (fun _ _ _ h => h) (by rfl) HS0 ?hy3a ?rest3a
          case hy3a =>
            intro xx hSx
            obtain ⟨s1, s2⟩ := hSx
            go_simp
            try (with_reducible rfl)
          simp only [Act.put, List.setIfInBounds_toArray, List.set_cons_zero, List.set_cons_succ]
          refine last_take (i := 4) (v := ?v4a) rfl (by kernel_rfl) (by kernel_rfl) (by kernel_rfl) (by kernel_rfl) rfl (fun _ _ _ h => h) (by rfl) HS0 ?hy4a ?rest4a
          case hy4a =>
            intro xx hSx
            obtain ⟨s1, s2⟩ := hSx
            go_simp
            try (with_reducible rfl)
          simp only [Act.put, List.setIfInBounds_toArray, List.set_cons_zero, List.set_cons_succ]
          refine last_take (i := 5) (v := ?v5a) rfl (by kernel_rfl) (by kernel_rfl) (by kernel_rfl) (by kernel_rfl) rfl (fun _ _ _ h => h) (by rfl) HS0 ?hy5a ?rest5a
          case hy5a =>
            intro xx hSx
            obtain ⟨s1, s2⟩ := hSx
            go_simp
            try (with_reducible rfl)
          simp only [Act.put, List.setIfInBounds_toArray, List.set_cons_zero, List.set_cons_succ]
          refine last_take (i := 6) (v := ?v6a) rfl (by kernel_rfl) (by kernel_rfl) (by kernel_rfl) (by kernel_rfl) rfl (fun _ _ _ h => h) (by rfl) HS0 ?hy6a ?rest6a
          case hy6a =>
            intro xx hSx
            obtain ⟨s1, s2⟩ := hSx
            go_simp
            try (with_reducible rfl)
          simp only [Act.put, List.setIfInBounds_toArray, List.set_cons_zero, List.set_cons_succ]
          refine last_one (i := 7) (by kernel_rfl) rfl ?_
          intro K9 hK9
          go_simp
          refine hK9.out _ _ (fun _ => HS0) (fun _ => ?_)
          clear hK9 K9
          refine last_one (i := 8) (by kernel_rfl) rfl ?_
          intro K9 hK9
          go_simp
          refine hK9.out _ _ (fun _ => HS0) (fun _ => ?_)
          clear hK9 K9
          refine last_one (i := 9) (by kernel_rfl) rfl ?_
          intro K3 hK3
          go_simp
          refine hK3.out _ _ (fun h => absurd rfl h) (fun _ => ?_)
          clear hK3 K3
          refine last_done (by kernel_rfl) ?_ _
          have e9 : IntKind.i64.wrap (F - x.nd) = F - x.nd := by rw [IntKind.wrap_i64]; omega
          try rw [e9]
          clear e9
          go_wp2
          go_meet
          refine ⟨HT4.out.drew.paid _, row_keep (W := W4) HRZ.out.1 (fun k e => ?_), (Below.heap_setCell _ _ _ _ (Ne.symm hbp)).trans HRZ.out.2.1, (Below.heap_setCell _ _ _ _ (Ne.symm hbx)).trans HRZ.out.2.2⟩
          obtain ⟨_, cs, hk⟩ := row_tag HRZ.out.1 e
          exact Below.heap_setCell _ _ _ _ (tag_ne hk HT4.out.sg.blk (by decide))
        case rest =>
          obtain ⟨hT5, hr5, hz5, hx5⟩ := hcut
          have k1 := cells_at hx5 (k := 1) rfl
          have k2 := cells_at hx5 (k := 2) rfl
          have m0 := cells_at hT5.sg.blk (k := 0) rfl
          have m4 := cells_at hT5.sg.blk (k := 4) rfl
          have rrow : wc.ownsRow B 45 2 vr' RR.length (flatR RR) := hT5.sg.rr
          have HT5 : Hid (St B sb (.slice (some ⟨g, o, none⟩) ws.length wcap) vr w now (F - x.nd) ho ws RR vr' wc) := hT5
          have HRZ5 : Hid (wc.ownsRow w.heap.size 40 3 v (outL st (ws.take j)).length (flatW (outL st (ws.take j))) ∧ wc.heap[zp]? = some (.cells #[.slice sa st.length sc, .int .i64 pho, .int .i64 psh, .int .i64 pex] 30 (0, 0)) ∧ wc.heap[zx]? = some (.cells #[.int .i64 x.job, .int .i64 x.nd, .int .i64 x.lm] 40 (0, 0))) := ⟨hr5, hz5, hx5⟩
          have hBw : B ≤ wc.heap.size := Nat.le_trans hB hT5.ch.size
          have HWR : Hid (IntKind.i64.wrap (now + x.lm) = now + x.lm) := by show IntKind.i64.wrap (now + x.lm) = now + x.lm; rw [IntKind.wrap_i64]; omega
          have hrb : (RR.length + 1) * 16 ≤ 140737488355328 := by omega
          have hrm : RR.length + 1 ≤ maxLen := Nat.le_trans (m := 513) (by omega) (by decide)
          have HKP : Hid (∀ (o' : Obj) (w1 : World) (v' : Value), ((wc.alloc o').drew).grownBy w1 vr'.ownBlock → (w1.setCell ⟨sb, 4, none⟩ v').ownsRow w.heap.size 40 3 v (outL st (ws.take j)).length (flatW (outL st (ws.take j))) ∧ (w1.setCell ⟨sb, 4, none⟩ v').heap[zp]? = some (.cells #[.slice sa st.length sc, .int .i64 pho, .int .i64 psh, .int .i64 pex] 30 (0, 0)) ∧ w1.heap[zx]? = some (.cells #[.int .i64 x.job, .int .i64 x.nd, .int .i64 x.lm] 40 (0, 0)) ∧ w1.cell? ⟨sb, 0, none⟩ = some (.int .i64 now)) := fun o' w1 v' hg9 => by
            have kp : ∀ (i : Nat) (cs : Array Value) (t : TypeId), t ≠ 45 → wc.heap[i]? = some (.cells cs t (0, 0)) → w1.heap[i]? = some (.cells cs t (0, 0)) := fun i cs t ht hi => by
              have hlt := lt_of_blk hi
              have e1 : (wc.alloc o').drew.heap[i]? = wc.heap[i]? := Below.heap_alloc _ _ _ hlt
              refine ((hg9.block i (by show i < (wc.alloc o').heap.size; simp; omega) (fun e => ?_)).trans e1).trans hi
              obtain ⟨_, cs', hk⟩ := row_tag HT5.out.sg.rr e.symm
              exact tag_ne hi hk ht rfl
            refine ⟨row_keep HRZ5.out.1 (fun k e => ?_), (Below.heap_setCell _ _ _ _ (Ne.symm hbp)).trans (kp zp _ 30 (by decide) HRZ5.out.2.1), kp zx _ 40 (by decide) HRZ5.out.2.2, cells_at (kp sb _ 53 (by decide) HT5.out.sg.blk) rfl⟩
            obtain ⟨_, cs, hk⟩ := row_tag HRZ5.out.1 e
            exact (Below.heap_setCell _ _ _ _ (tag_ne hk HT5.out.sg.blk (by decide))).trans ((kp k cs 40 (by decide) hk).trans hk.symm)
          clear hT5 hr5 hz5 hx5 HRZ HT4 m1 f1'
          go_upto_region 8 with fail
          have hwr := HWR.out
          refine wp_region_last (S := (fun x' : World => x'.cell? ⟨zx, 1, none⟩ = some (.int .i64 x.nd) ∧ x'.cell? ⟨sb, 0, none⟩ = some (.int .i64 now) ∧ x'.cell? ⟨zx, 2, none⟩ = some (.int .i64 x.lm) ∧ x'.cell? ⟨sb, 4, none⟩ = some vr')) (L := 19) (by kernel_rfl) ?_
          have HS0 : (fun x' : World => x'.cell? ⟨zx, 1, none⟩ = some (.int .i64 x.nd) ∧ x'.cell? ⟨sb, 0, none⟩ = some (.int .i64 now) ∧ x'.cell? ⟨zx, 2, none⟩ = some (.int .i64 x.lm) ∧ x'.cell? ⟨sb, 4, none⟩ = some vr') wc.drew := ⟨k1, m0, k2, m4⟩
          refine last_take (i := 0) (v := ?v0b) rfl (by kernel_rfl) (by kernel_rfl) (by kernel_rfl) (by kernel_rfl) rfl (fun _ _ _ h => h) (by rfl) HS0 ?hy0b ?rest0b
          case hy0b =>
            intro xx hSx
            obtain ⟨s1, s2, s3, s4⟩ := hSx
            go_simp
            try (with_reducible rfl)
          simp only [Act.put, List.setIfInBounds_toArray, List.set_cons_zero, List.set_cons_succ]
          refine last_take (i := 1) (v := ?v1b) rfl (by kernel_rfl) (by kernel_rfl) (by kernel_rfl) (by kernel_rfl) rfl (fun _ _ _ h => h) (by rfl) HS0 ?hy1b ?rest1b
          case hy1b =>
            intro xx hSx
            obtain ⟨s1, s2, s3, s4⟩ := hSx
            go_simp
            try (with_reducible rfl)
          simp only [Act.put, List.setIfInBounds_toArray, List.set_cons_zero, List.set_cons_succ]
          refine last_take (i := 2) (v := ?v2b) rfl (by kernel_rfl) (by kernel_rfl) (by kernel_rfl) (by kernel_rfl) rfl (fun _ _ _ h => h) (by rfl) HS0 ?hy2b ?rest2b
          case hy2b =>
            intro xx hSx
            obtain ⟨s1, s2, s3, s4⟩ := hSx
            go_simp
            try (with_reducible rfl)
          simp only [Act.put, List.setIfInBounds_toArray, List.set_cons_zero, List.set_cons_succ]
          refine last_take (i := 3) (v := ?v3b) rfl (by kernel_rfl) (by kernel_rfl) (by kernel_rfl) (by kernel_rfl) rfl (fun _ _ _ h => h) (by rfl) HS0 ?hy3b ?rest3b
          case hy3b =>
            intro xx hSx
            obtain ⟨s1, s2, s3, s4⟩ := hSx
            go_simp
            try (with_reducible rfl)
          simp only [Act.put, List.setIfInBounds_toArray, List.set_cons_zero, List.set_cons_succ]
          refine last_take (i := 4) (v := ?v4b) rfl (by kernel_rfl) (by kernel_rfl) (by kernel_rfl) (by kernel_rfl) rfl (fun _ _ _ h => h) (by rfl) HS0 ?hy4b ?rest4b
          case hy4b =>
            intro xx hSx
            obtain ⟨s1, s2, s3, s4⟩ := hSx
            go_simp
            try (with_reducible rfl)
          simp only [Act.put, List.setIfInBounds_toArray, List.set_cons_zero, List.set_cons_succ]
          refine last_take (i := 5) (v := ?v5b) rfl (by kernel_rfl) (by kernel_rfl) (by kernel_rfl) (by kernel_rfl) rfl (fun _ _ _ h => h) (by rfl) HS0 ?hy5b ?rest5b
          case hy5b =>
            intro xx hSx
            obtain ⟨s1, s2, s3, s4⟩ := hSx
            go_simp
            try (with_reducible rfl)
          simp only [Act.put, List.setIfInBounds_toArray, List.set_cons_zero, List.set_cons_succ]
          refine last_take (i := 6) (v := ?v6b) rfl (by kernel_rfl) (by kernel_rfl) (by kernel_rfl) (by kernel_rfl) rfl (fun _ _ _ h => h) (by rfl) HS0 ?hy6b ?rest6b
          case hy6b =>
            intro xx hSx
            obtain ⟨s1, s2, s3, s4⟩ := hSx
            go_simp
            try (with_reducible rfl)
          simp only [Act.put, List.setIfInBounds_toArray, List.set_cons_zero, List.set_cons_succ]
          refine last_take (i := 7) (v := ?v7b) rfl (by kernel_rfl) (by kernel_rfl) (by kernel_rfl) (by kernel_rfl) rfl (fun _ _ _ h => h) (by rfl) HS0 ?hy7b ?rest7b
          case hy7b =>
            intro xx hSx
            obtain ⟨s1, s2, s3, s4⟩ := hSx
            go_simp
            try (with_reducible rfl)
          simp only [Act.put, List.setIfInBounds_toArray, List.set_cons_zero, List.set_cons_succ]
          refine last_take (i := 8) (v := ?v8b) rfl (by kernel_rfl) (by kernel_rfl) (by kernel_rfl) (by kernel_rfl) rfl (fun _ _ _ h => h) (by rfl) HS0 ?hy8b ?rest8b
          case hy8b =>
            intro xx hSx
            obtain ⟨s1, s2, s3, s4⟩ := hSx
            go_simp
            try (with_reducible rfl)
          simp only [Act.put, List.setIfInBounds_toArray, List.set_cons_zero, List.set_cons_succ]
          refine last_take (i := 9) (v := ?v9b) rfl (by kernel_rfl) (by kernel_rfl) (by kernel_rfl) (by kernel_rfl) rfl (fun _ _ _ h => h) (by rfl) HS0 ?hy9b ?rest9b
          case hy9b =>
            intro xx hSx
            obtain ⟨s1, s2, s3, s4⟩ := hSx
            go_simp
            try (with_reducible rfl)
          simp only [Act.put, List.setIfInBounds_toArray, List.set_cons_zero, List.set_cons_succ]
          refine last_take (i := 10) (v := ?v10b) rfl (by kernel_rfl) (by kernel_rfl) (by kernel_rfl) (by kernel_rfl) rfl (fun _ _ _ h => h) (by rfl) HS0 ?hy10b ?rest10b
          case hy10b =>
            intro xx hSx
            obtain ⟨s1, s2, s3, s4⟩ := hSx
            go_simp
            try (with_reducible rfl)
          simp only [Act.put, List.setIfInBounds_toArray, List.set_cons_zero, List.set_cons_succ]
          refine last_take (i := 11) (v := ?v11b) rfl (by kernel_rfl) (by kernel_rfl) (by kernel_rfl) (by kernel_rfl) rfl (fun _ _ _ h => h) (by rfl) HS0 ?hy11b ?rest11b
          case hy11b =>
            intro xx hSx
            obtain ⟨s1, s2, s3, s4⟩ := hSx
            go_simp
            try (with_reducible rfl)
          simp only [Act.put, List.setIfInBounds_toArray, List.set_cons_zero, List.set_cons_succ]
          refine last_take (i := 12) (v := ?v12b) rfl (by kernel_rfl) (by kernel_rfl) (by kernel_rfl) (by kernel_rfl) rfl (fun _ _ _ h => h) (by rfl) HS0 ?hy12b ?rest12b
          case hy12b =>
            intro xx hSx
            obtain ⟨s1, s2, s3, s4⟩ := hSx
            go_simp
            try (with_reducible rfl)
          simp only [Act.put, List.setIfInBounds_toArray, List.set_cons_zero, List.set_cons_succ]
          refine last_take (i := 13) (v := ?v13b) rfl (by kernel_rfl) (by kernel_rfl) (by kernel_rfl) (by kernel_rfl) rfl (fun _ _ _ h => h) (by rfl) HS0 ?hy13b ?rest13b
          case hy13b =>
            intro xx hSx
            obtain ⟨s1, s2, s3, s4⟩ := hSx
            go_simp
            try (with_reducible rfl)
          simp only [Act.put, List.setIfInBounds_toArray, List.set_cons_zero, List.set_cons_succ]
          refine last_take (i := 14) (v := ?v14b) rfl (by kernel_rfl) (by kernel_rfl) (by kernel_rfl) (by kernel_rfl) rfl (fun _ _ _ h => h) (by rfl) HS0 ?hy14b ?rest14b
          case hy14b =>
            intro xx hSx
            obtain ⟨s1, s2, s3, s4⟩ := hSx
            go_simp
            try (with_reducible rfl)
          simp only [Act.put, List.setIfInBounds_toArray, List.set_cons_zero, List.set_cons_succ]
          clear hwr
          refine last_one (i := 15) (by kernel_rfl) rfl ?_
          intro K1 hK1
          go_simp
          have HS1 : (fun x' : World => x'.cell? ⟨zx, 1, none⟩ = some (.int .i64 x.nd) ∧ x'.cell? ⟨sb, 0, none⟩ = some (.int .i64 now) ∧ x'.cell? ⟨zx, 2, none⟩ = some (.int .i64 x.lm) ∧ x'.cell? ⟨sb, 4, none⟩ = some vr') (wc.drew.alloc (.cells #[.int .i64 x.nd, .int .i64 (now + x.lm)] 45)) := ⟨cell_al k1 _, cell_al m0 _, cell_al k2 _, cell_al m4 _⟩
          refine hK1.out _ _ (fun _ => HS1) (fun _ => ?_)
          clear hK1 K1
          refine last_one (i := 16) (by kernel_rfl) rfl ?_
          intro K2 hK2
          refine step_append_lies _ (by rfl) _ _ _ (by rfl) B 45 i0 _ 2 16 Try.underlying23 hi0 hz0 hz1 hz2 rfl (by omega) vr' RR.length (flatR RR) (by rfl) (World.ownsRow.alloc (w := wc.drew) rrow _) ⟨wc.heap.size, 0, none⟩ 1 1 [.int .i64 x.nd, .int .i64 (now + x.lm)] (by rfl) (by rfl) (World.news_of_block (cs := #[.int .i64 x.nd, .int .i64 (now + x.lm)]) (t := 45) (fr := (0, 0)) (heap_alloc_new wc.drew _)) (by simp [Value.oneCell']) (by omega) hrm hrb (by simp; omega) (wc.heap.size + 1) (by simp) ?_
          intro gg cap w1 hown1 hgrow hat hlt
          obtain ⟨z1, z3, z4⟩ := HT5.out.ran (x := x) hown1 hgrow hat
          obtain ⟨y1, y2, y3, y4⟩ := HKP.out _ w1 (.slice (some ⟨gg, 0, none⟩) (RR.length + 1) cap) hgrow
          have HS2 : (fun x' : World => x'.cell? ⟨zx, 1, none⟩ = some (.int .i64 x.nd) ∧ x'.cell? ⟨sb, 0, none⟩ = some (.int .i64 now) ∧ x'.cell? ⟨zx, 2, none⟩ = some (.int .i64 x.lm) ∧ x'.cell? ⟨sb, 4, none⟩ = some vr') w1 := ⟨cells_at y3 rfl, y4, cells_at y3 rfl, z3⟩
          have Z1 : Hid _ := z1
          have Y1 : Hid (_ ∧ _) := And.intro y1 y2
          refine hK2.out _ _ (fun _ => HS2) (fun _ => ?_)
          clear hK2 K2 z1 hown1 hgrow hat HS1 HS0 y1 y2 y3 y4
          refine last_one (i := 17) (by kernel_rfl) rfl ?_
          intro K9 hK9
          go_simp
          refine hK9.out _ _ (fun _ => HS2) (fun _ => ?_)
          clear hK9 K9
          refine last_one (i := 18) (by kernel_rfl) rfl ?_
          intro K9 hK9
          go_simp
          refine hK9.out _ _ (fun _ => HS2) (fun _ => ?_)
          clear hK9 K9
          refine last_one (i := 19) (by kernel_rfl) rfl ?_
          intro K3 hK3
          go_simp
          refine hK3.out _ _ (fun h => absurd rfl h) (fun _ => ?_)
          clear hK3 K3
          refine last_done (by kernel_rfl) ?_ _
          go_wp2
          go_roundg (q - (j + 1))
          case measure => omega
          case rel => exact ⟨j + 1, v, _, by omega, rfl, rfl, by rw [HO1.out]; exact Y1.out.1, by rw [HFF.out, HRR.out]; exact Z1.out, Y1.out.2⟩
      | false =>
        have HI1 : Hid (inL st (ws.take (j + 1)) = inL st (ws.take j)) := by have := HII.out; rw [if_neg (by decide), List.append_nil] at this; exact this
        have HO1 : Hid (outL st (ws.take (j + 1)) = outL st (ws.take j) ++ [x]) := by have := HOO.out; rw [if_neg (by decide)] at this; exact this
        obtain ⟨L, hL⟩ : ∃ L, outL st (ws.take j) = L := ⟨_, rfl⟩
        have hLl : L.length + 1 ≤ q := by rw [← hL]; omega
        obtain ⟨hu1, hu2⟩ := tk_room hnw hLl
        rw [hL] at HO1 HRZ
        clear hL HII HOO hbj
        go_wp2_with (at_builtin; refine wpList_append_own_wide _ rfl (.tmp 57) (.tmp 59) 22 rfl w.heap.size 40 j0 _ 3 24 Try.underlying22 hj0 hw0 hw1 hw2 rfl (by decide) v L.length (flatW L) rfl (HRZ.out.1.alloc _) ⟨W4.heap.size, 0, none⟩ 1 1 [.int .i64 x.job, .int .i64 x.nd, .int .i64 x.lm] rfl rfl (World.news_of_block (cs := #[.int .i64 x.job, .int .i64 x.nd, .int .i64 x.lm]) (t := 40) (fr := (0, 0)) (heap_alloc_new W4 _)) (by simp [Value.oneCell']) hu1 hu2 (by simp; omega) ?_; intro v2 w5 hown hgr _)
        go_roundg (q - (j + 1))
        case measure => omega
        case rel =>
          have hlow : ∀ i, i < w.heap.size → w5.heap[i]? = W4.heap[i]? := fun i hi => app_keep hgr (by omega) (fun e => by have := (row_tag HRZ.out.1 e).1; omega)
          have ht9 : ∀ (i : Nat) (cs : Array Value) (t : TypeId), t ≠ 40 → W4.heap[i]? = some (.cells cs t (0, 0)) → w5.heap[i]? = some (.cells cs t (0, 0)) := fun i cs t ht hi => by
            refine (app_keep hgr (lt_of_blk hi) (fun e => ?_)).trans hi
            obtain ⟨_, cs', hk⟩ := row_tag HRZ.out.1 e
            exact tag_ne hi hk ht rfl
          refine ⟨j + 1, v2, vr', by omega, rfl, rfl, ?_, ?_, ht9 zp _ 30 (by decide) HRZ.out.2.1⟩
          · rw [HO1.out, List.length_append, flatW_app]
            exact hown
          · rw [HI1.out]
            refine ⟨⟨ht9 sb _ 53 (by decide) HT4.out.sg.blk, ?_, ?_, HT4.out.sg.lo⟩, ?_, HT4.out.at_⟩
            · refine row_keep HT4.out.sg.rw_ (fun k e => ?_)
              have hk1 := row_lt0 HS.out.rw_ e
              exact hlow k hk1
            · exact row_keep HT4.out.sg.rr (fun k e => by obtain ⟨_, cs, hk⟩ := row_tag HT4.out.sg.rr e; exact (ht9 k cs 45 (by decide) hk).trans hk.symm)
            · have hz := HT4.out.ch.size
              exact ⟨hgr.os.trans HT4.out.ch.os, hgr.tape.trans HT4.out.ch.tape, hgr.output.trans HT4.out.ch.output, Nat.le_trans (Nat.le_trans hz (by simp)) hgr.size, fun k hk hn => (hlow k hk).trans (HT4.out.ch.block k hk hn)⟩
    · obtain rfl : j = q := by omega
      have htk : ws.take j = ws := List.take_of_length_le (by have := HQ.out; omega)
      rw [htk] at HRW HTT
      obtain ⟨va, vc, rfl⟩ := own_form HRW.out
      have f2 := frozen_at HTT.out.sg.blk (k := 2)
      have f3 := frozen_at HTT.out.sg.blk (k := 3)
      have m3 := cells_at HTT.out.sg.blk (k := 3) rfl
      have p1 := cells_at HZB.out (k := 1) rfl
      have hbp : sb ≠ zp := tag_ne HTT.out.sg.blk HZB.out (by decide)
      have HFIN : Hid (Sg B sb (.slice va (outL st ws).length vc) vr' now (free - sumW (inL st ws)) pho (outL st ws) (rs ++ (inL st ws).map (rOf now)) ((wr.setCell ⟨sb, 2, none⟩ (.slice va (outL st ws).length vc)).setCell ⟨sb, 3, none⟩ (.int .i64 pho)) ∧ Below B w ((wr.setCell ⟨sb, 2, none⟩ (.slice va (outL st ws).length vc)).setCell ⟨sb, 3, none⟩ (.int .i64 pho))) := by
        have hne : ∀ k, k ≠ sb → ((wr.setCell ⟨sb, 2, none⟩ (.slice va (outL st ws).length vc)).setCell ⟨sb, 3, none⟩ (.int .i64 pho)).heap[k]? = wr.heap[k]? := fun k hk => (Below.heap_setCell _ _ _ _ hk).trans (Below.heap_setCell _ _ _ _ hk)
        have hc := (HTT.out.ch.setCell ⟨sb, 2, none⟩ (.slice va (outL st ws).length vc) (.inl (.inl rfl))).setCell ⟨sb, 3, none⟩ (.int .i64 pho) (.inl (.inl rfl))
        refine ⟨⟨st_new (st_new HTT.out.sg.blk rfl) rfl, ?_, ?_, HTT.out.sg.lo⟩, chg_below hc (fun k e => ?_) hB⟩
        · exact own_base (row_keep HRW.out (fun k e => by obtain ⟨_, cs, hk⟩ := row_tag HRW.out e; exact hne k (tag_ne hk HTT.out.sg.blk (by decide)))) hB
        · exact row_keep HTT.out.sg.rr (fun k e => by obtain ⟨_, cs, hk⟩ := row_tag HTT.out.sg.rr e; exact hne k (tag_ne hk HTT.out.sg.blk (by decide)))
        · rcases e with e | e
          · have := HS.out.lo; omega
          · exact (row_tag HS.out.rr e).1
      clear hrow hst' hzb htk HRW HTT hbj
      go_wp2
      go_end0
      exact ⟨rfl, ⟨_, _, HFIN.out.1⟩, HFIN.out.2⟩
end Go.Proofs.Ytdkibcagbidelaa
namespace Go.Proofs.Ytdkibcagbidelaa
open Go.RowKit Pr

theorem TnOk.below {W W' : World} {t : Tn} (h : TnOk W t) (b : Below W.heap.size W W') : TnOk W' t := ⟨h.e.below b, h.c.below b, h.g.below b, h.en, h.cn, h.gn, h.j, h.r⟩
/-- Who is not gone. -/
def stay (ho : Int) (gl : List Int) (ws : List Wt) : List Wt := ws.filter fun x => decide (x.job = ho) || !gl.contains x.job
theorem stay_take {ho : Int} {gl : List Int} {ws : List Wt} {j : Nat} {x : Wt} (h : ws[j]? = some x) : stay ho gl (ws.take (j + 1)) = stay ho gl (ws.take j) ++ (if (decide (x.job = ho) || !gl.contains x.job) = true then [x] else []) := by
  unfold stay
  rw [List.take_add_one, h, show (some x).toList = [x] from rfl, List.filter_append, List.filter_cons, List.filter_nil]
theorem stay_bf {now free all ho : Int} {ws : List Wt} {rs : List Rn} (gl : List Int) (hk : Kp now free all ws ho rs) (hjb : ∀ x ∈ ws, x.job ≤ 9223372036854775807) : Bf all ho 0 ws (stay ho gl ws) := by
  refine ⟨List.Nodup.sublist (List.filter_sublist.map Wt.job) hk.ck.un, fun x hx => ?_, fun x hx e => List.mem_filter.2 ⟨hx, by simp [e]⟩, List.length_filter_le _ _, fun x hx => hjb x (List.mem_filter.1 hx).1⟩
  have := hk.ck.wt x (List.mem_filter.1 hx).1
  have := hk.sm
  omega
theorem Bf.come {all ho : Int} {m : Nat} {ws R : List Wt} {x : Wt} (h : Bf all ho m ws R) (hf : findW R x.job = none) (hxm : x.job ≤ 9223372036854775807) (hx : 0 ≤ x.job ∧ 1 ≤ x.nd ∧ x.nd ≤ 256 ∧ x.nd ≤ all ∧ 1 ≤ x.lm ∧ x.lm ≤ 1048576) : Bf all ho (m + 1) ws (R ++ [x]) := by
  refine ⟨?_, fun y hy => ?_, fun y hy e => List.mem_append_left _ (h.kp y hy e), by have := h.ln; simp; omega, fun y hy => ?_⟩
  · rw [List.map_append, List.nodup_append]
    refine ⟨h.un, by simp, ?_⟩
    intro a ha b hb e
    rw [List.map_cons, List.map_nil, List.mem_singleton] at hb
    obtain ⟨y, hy, rfl⟩ := List.mem_map.1 ha
    have := List.find?_eq_none.1 hf y hy
    simp at this
    exact this (e.trans hb)
  · rcases List.mem_append.1 hy with hy | hy
    · exact h.ok y hy
    · rw [List.mem_singleton.1 hy]; exact hx
  · rcases List.mem_append.1 hy with hy | hy
    · exact h.jb y hy
    · rw [List.mem_singleton.1 hy]; exact hxm
theorem Bf.more {all ho : Int} {m m' : Nat} {ws R : List Wt} (h : Bf all ho m ws R) (hm : m ≤ m') : Bf all ho m' ws R := ⟨h.un, h.ok, h.kp, by have := h.ln; omega, h.jb⟩
/-- Turned round. -/
def turnL (r : Nat) (R : List Wt) : List Wt := R.drop r ++ R.take r
theorem turn_perm (r : Nat) (R : List Wt) : R.Perm (turnL r R) := by
  unfold turnL
  have := List.perm_append_comm (l₁ := R.take r) (l₂ := R.drop r)
  rwa [List.take_append_drop] at this
theorem turn_at {r j : Nat} {R : List Wt} (hr : r < R.length) (hj : j < R.length) : (turnL r R)[j]? = R[(j + r) % R.length]? := by
  unfold turnL
  rcases Nat.lt_or_ge j (R.length - r) with h | h
  · rw [List.getElem?_append_left (by rw [List.length_drop]; exact h), List.getElem?_drop, Nat.mod_eq_of_lt (by omega), Nat.add_comm]
  · rw [List.getElem?_append_right (by rw [List.length_drop]; exact h), List.length_drop, List.getElem?_take_of_lt (by omega)]
    congr 1
    rw [Nat.mod_eq_sub_mod (by omega), Nat.mod_eq_of_lt (by omega)]
    omega
theorem swap_perm {L : List Wt} {i k : Nat} {x y : Wt} (hi : L[i]? = some x) (hk : L[k]? = some y) : ((L.set i y).set k x).Perm L := by
  obtain ⟨h1, rfl⟩ := List.getElem?_eq_some_iff.1 hi
  obtain ⟨h2, rfl⟩ := List.getElem?_eq_some_iff.1 hk
  have := Array.swap_perm (xs := L.toArray) (i := i) (j := k) (by simpa using h1) (by simpa using h2)
  rw [Array.perm_iff_toList_perm] at this
  simpa [Array.swap] using this
theorem flatW_set : ∀ (L : List Wt) (i : Nat) (y : Wt), flatW (L.set i y) = (((flatW L).set (i * 3) (.int .i64 y.job)).set (i * 3 + 1) (.int .i64 y.nd)).set (i * 3 + 2) (.int .i64 y.lm) := by
  intro L
  induction L with
  | nil => intro i y; simp [flatW]
  | cons a L ih =>
    intro i y
    cases i with
    | zero => simp [flatW]
    | succ i =>
      have e0 : (i + 1) * 3 = i * 3 + 1 + 1 + 1 := by omega
      simp only [List.set_cons_succ, flatW, e0, ih]
theorem row_setW {W : World} {B g c n i : Nat} {L : List Wt} {y : Wt} (h : W.ownsRow B 40 3 (.slice (some ⟨g, 0, none⟩) n c) n (flatW L)) :
    (((W.setCell ⟨g, i * 3, none⟩ (.int .i64 y.job)).setCell ⟨g, i * 3 + 1, none⟩ (.int .i64 y.nd)).setCell ⟨g, i * 3 + 2, none⟩ (.int .i64 y.lm)).ownsRow B 40 3 (.slice (some ⟨g, 0, none⟩) n c) n (flatW (L.set i y)) := by
  rw [flatW_set]
  refine ⟨by rw [List.length_set, List.length_set, List.length_set]; exact h.1, .inr ?_⟩
  rcases h.2 with ⟨e0, _⟩ | ⟨g', cap, cur, e0, hb, hg, h1, h2, h3, h4⟩
  · cases e0
  · injection e0 with e1 e2 e3
    injection e1 with e1
    injection e1 with e1
    subst e1 e3
    refine ⟨g, c, ((cur.setIfInBounds (i * 3) (.int .i64 y.job)).setIfInBounds (i * 3 + 1) (.int .i64 y.nd)).setIfInBounds (i * 3 + 2) (.int .i64 y.lm), rfl, hb, heap_setCell_same _ g _ _ 40 _ (heap_setCell_same _ g _ _ 40 _ (heap_setCell_same W g _ _ 40 _ hg)), h1, h2, by simpa using h3, ?_⟩
    rw [Array.toList_setIfInBounds, Array.toList_setIfInBounds, Array.toList_setIfInBounds, List.take_set, List.take_set, List.take_set, h4]
theorem row_cellW {W : World} {B g c n i : Nat} {L : List Wt} {y : Wt} (h : W.ownsRow B 40 3 (.slice (some ⟨g, 0, none⟩) n c) n (flatW L)) (hi : L[i]? = some y) :
    (W.cell? ⟨g, i * 3, none⟩ = some (.int .i64 y.job) ∧ W.cell? ⟨g, i * 3 + 1, none⟩ = some (.int .i64 y.nd) ∧ W.cell? ⟨g, i * 3 + 2, none⟩ = some (.int .i64 y.lm)) ∧ ∀ k, W.frozen? ⟨g, k, none⟩ = false := by
  have hil : i < n := by
    have := h.1
    rw [flatW_len] at this
    have := (List.getElem?_eq_some_iff.1 hi).1
    omega
  rcases h.2 with ⟨e0, _⟩ | ⟨g', cap, cur, e0, hb, hg, h1, h2, h3, h4⟩
  · cases e0
  · injection e0 with e1 e2 e3
    injection e1 with e1
    injection e1 with e1
    subst e1 e3
    obtain ⟨a, b, d⟩ := flatW_at L i y hi
    rw [← h4, List.getElem?_take_of_lt (by omega), Array.getElem?_toList] at a b d
    exact ⟨⟨cells_at hg a, cells_at hg b, cells_at hg d⟩, fun k => frozen_at hg⟩
theorem Sg.len {B sb : Nat} {vw vr : Value} {now free ho : Int} {ws : List Wt} {rs : List Rn} {w : World} (h : Sg B sb vw vr now free ho ws rs w) : ∃ a c, vw = .slice a ws.length c ∧ WantsAt w a ws := by
  obtain ⟨a, c, e, hw, _, _⟩ := row_wait h.rw_
  exact ⟨a, c, e, hw.wants⟩
theorem Ev.ok {now free all ho free' : Int} {ws : List Wt} {rs rs' : List Rn} (h : Ev free rs free' rs') (hk : Kp now free all ws ho rs) : 0 ≤ free' ∧ free' + sumN rs' ≤ 256 ∧ rs'.all okR = true ∧ rs'.length ≤ 256 := by
  obtain ⟨⟨f0, _⟩, hok⟩ := right_parts.1 hk.ck.rt
  have h1 := h.le hok
  have h2 := h.sum
  have h3 := hk.sm
  have h4 := hk.al
  have h5 := h.sub.length_le
  have h6 := hk.len
  exact ⟨by omega, by omega, all_sub h.sub hok, by omega⟩
end Go.Proofs.Ytdkibcagbidelaa
namespace Go.Proofs.Ytdkibcagbidelaa
open Go.RowKit Pr

/-- No shadow lies behind all ends. -/
theorem pass_shb {now free all ho : Int} {ws : List Wt} {rs : List Rn} (hk : Kp now free all ws ho rs) (h0 : 0 ≤ (passV now free ws ho rs).ho) : (passV now free ws ho rs).sh ≤ 4398046511104 := by
  have ck := hk.ck
  obtain ⟨st, Y, hw⟩ := pass_whole ck
  obtain ⟨x, hx, _, hs, _⟩ := hw.hold h0
  obtain ⟨his, _⟩ := shadow_some hs
  simp only at his
  have hxw := List.mem_of_find?_eq_some hx
  have hn1 := ck.n1
  rcases lt_ge 4398046511104 (passV now free ws ho rs).sh with hbad | hgood
  · exfalso
    have h1 := his.2.2 4398046511104 (by omega) hbad
    rw [at_su, su_all, sumN_app, sumN_rOf] at h1
    · have := ck.wt x hxw
      omega
    · intro r hr
      rcases List.mem_append.1 hr with hr | hr
      · exact (ck.re r hr).2
      · obtain ⟨y, hy, rfl⟩ := List.mem_map.1 hr
        have := hw.pos y hy
        simp only [rOf]
        omega
  · exact hgood
theorem pass_len {now free all ho : Int} {ws : List Wt} {rs : List Rn} (hk : Kp now free all ws ho rs) : (passV now free ws ho rs).st.length ≤ 256 := by
  obtain ⟨st, Y, hw⟩ := pass_whole hk.ck
  rw [hw.sts, List.length_map]
  exact hw.len
/-- The first shadow, behind a pass. -/
def til1 (ho til : Int) (p : Pln) : Int := if p.ho ≠ ho ∨ til < 0 then p.sh else til
def til2 (ho til : Int) (p : Pln) : Int := if p.ho < 0 then -1 else til1 ho til p
theorem TnsAt {w : World} {tad : Option Addr} {tl : List Tn} (h : TurnsAt w tad tl) {i : Nat} {t : Tn} (hi : tl[i]? = some t) : ∃ g o, tad = some ⟨g, o, none⟩ ∧ ∀ W, Below w.heap.size w W → W.cell? ⟨g, o + i * 5, none⟩ = some (.int .i64 t.tk) ∧ W.cell? ⟨g, o + i * 5 + 1, none⟩ = some (.slice t.eo t.el.length t.ec) ∧ W.cell? ⟨g, o + i * 5 + 2, none⟩ = some (.slice t.co t.cl.length t.cc) ∧ W.cell? ⟨g, o + i * 5 + 3, none⟩ = some (.slice t.go t.gl.length t.gc) ∧ W.cell? ⟨g, o + i * 5 + 4, none⟩ = some (.int .i64 t.rd) := by
  obtain ⟨g, o, h1, h2⟩ := h
  have hl := (List.getElem?_eq_some_iff.1 hi).1
  refine ⟨g, o, h1 (by omega), fun W b => ?_⟩
  have hc : ∀ k v, (tnC t)[k]? = some v → W.cell? ⟨g, o + i * 5 + k, none⟩ = some v := fun k v hv => by
    have := h2 i t hi k v hv
    exact (b.cell (World.block_lt_of_cell? _ _ this)).trans this
  exact ⟨hc 0 _ rfl, hc 1 _ rfl, hc 2 _ rfl, hc 3 _ rfl, hc 4 _ rfl⟩
theorem St.start {B sb : Nat} {vw vr : Value} {now free ho : Int} {ws : List Wt} {rs : List Rn} {w : World} (h : Sg B sb vw vr now free ho ws rs w) (now' : Int) : Sg B sb vw vr now' free ho ws rs (w.setCell ⟨sb, 0, none⟩ (.int .i64 now')) :=
  h.chg ((Chg.refl _ _).setCell _ _ (.inl rfl)) (st_new h.blk rfl)
theorem row_set4k {W : World} {b B n : Nat} {cs : Array Value} {v : Value} {vs : List Value} {v0 v1 v2 v3 : Value} (hb : W.heap[b]? = some (.cells cs 30 (0, 0))) (h : W.ownsRow B 3 1 v n vs) :
    ((((W.setCell ⟨b, 0, none⟩ v0).setCell ⟨b, 1, none⟩ v1).setCell ⟨b, 2, none⟩ v2).setCell ⟨b, 3, none⟩ v3).ownsRow B 3 1 v n vs := by
  refine row_keep h (fun k e => ?_)
  obtain ⟨_, cs', hk⟩ := row_tag h e
  have hne : k ≠ b := tag_ne hk hb (by decide)
  exact (Below.heap_setCell _ _ _ _ hne).trans ((Below.heap_setCell _ _ _ _ hne).trans ((Below.heap_setCell _ _ _ _ hne).trans (Below.heap_setCell _ _ _ _ hne)))
theorem row_cell0 {W : World} {B e n g c k : Nat} {xs : List Value} {v : Value} (h : W.ownsRow B e 1 (.slice (some ⟨g, 0, none⟩) n c) n xs) (hk : xs[k]? = some v) : W.cell? ⟨g, k, none⟩ = some v := by
  have hkn : k < n := by have := (List.getElem?_eq_some_iff.1 hk).1; have := h.1; omega
  rcases h.2 with ⟨e0, _⟩ | ⟨g', cap, cur, e0, hb, hg, h1, h2, h3, h4⟩
  · cases e0
  · injection e0 with e1 e2 e3
    injection e1 with e1
    injection e1 with e1
    subst e1 e3
    rw [← h4, List.getElem?_take_of_lt (by omega), Array.getElem?_toList] at hk
    exact cells_at hg hk
theorem ck_room {n : Nat} (h : n * 24 ≤ 140737488351232) : 0 + n ≤ maxLen ∧ (0 + n + (0 + n) / 4 + 192) * 24 ≤ 281474976710656 := ⟨Nat.le_trans (m := 35184372088832) (by omega) (by decide), by omega⟩
theorem ck_roomR {n : Nat} (h : n * 16 ≤ 140737488351232) : 0 + n ≤ maxLen ∧ (0 + n + (0 + n) / 4 + 192) * 16 ≤ 281474976710656 := ⟨Nat.le_trans (m := 35184372088832) (by omega) (by decide), by omega⟩
end Go.Proofs.Ytdkibcagbidelaa
