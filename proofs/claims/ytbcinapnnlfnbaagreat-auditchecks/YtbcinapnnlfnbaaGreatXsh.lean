/-
  LAYER 17: a stable sort: blocks that are sorted and stay apart (mathematics).
  LAYER 17: slices.SortStableFunc on rows of turns.
-/
import Derived.Test.YtbcinapnnlfnbaaGreatSrM
import Derived.Test.YtbcinapnnlfnbaaGreatSrFq
namespace Go.Proofs.YtbcinapnnlfnbaaGreat

/-- Blocks, each sorted, of what came in; what is in one came ahead of what is in the next. -/
structure Grp (D : List Ev) (bs : List (List Ev)) : Prop where
  perm : bs.flatten.Perm D
  srt : ∀ b ∈ bs, SrtE b
  acr : bs.Pairwise AcrE
theorem AcrE.app {a b c : List Ev} : AcrE (a ++ b) c ↔ AcrE a c ∧ AcrE b c :=
  ⟨fun h => ⟨fun x hx => h x (List.mem_append_left _ hx), fun x hx => h x (List.mem_append_right _ hx)⟩, fun h x hx => (List.mem_append.1 hx).elim (h.1 x) (h.2 x)⟩
theorem AcrE.app' {a b c : List Ev} : AcrE a (b ++ c) ↔ AcrE a b ∧ AcrE a c :=
  ⟨fun h => ⟨fun x hx y hy => h x hx y (List.mem_append_left _ hy), fun x hx y hy => h x hx y (List.mem_append_right _ hy)⟩, fun h x hx y hy => (List.mem_append.1 hy).elim (h.1 x hx y) (h.2 x hx y)⟩
theorem Grp.merge {D C f g : List Ev} {X Y : List (List Ev)} (h : Grp D (X ++ f :: g :: Y)) (p : C.Perm (f ++ g)) (s : SrtE C) : Grp D (X ++ C :: Y) := by
  obtain ⟨h1, h2, h3⟩ := h
  refine ⟨?_, ?_, ?_⟩
  · refine List.Perm.trans ?_ h1
    simp only [List.flatten_append, List.flatten_cons]
    refine List.Perm.append_left _ ?_
    rw [← List.append_assoc]
    exact List.Perm.append_right _ p
  · intro b hb
    rcases List.mem_append.1 hb with hb | hb
    · exact h2 b (List.mem_append_left _ hb)
    · rcases List.mem_cons.1 hb with rfl | hb
      · exact s
      · exact h2 b (by simp [hb])
  · rw [List.pairwise_append] at h3 ⊢
    obtain ⟨a1, a2, a3⟩ := h3
    rw [List.pairwise_cons, List.pairwise_cons] at a2
    obtain ⟨c1, c2, c3⟩ := a2
    refine ⟨a1, List.pairwise_cons.2 ⟨fun y hy => ?_, c3⟩, fun x hx y hy => ?_⟩
    · exact (AcrE.app.2 ⟨c1 y (by simp [hy]), c2 y hy⟩).perm p (List.Perm.refl _)
    · rcases List.mem_cons.1 hy with rfl | hy
      · exact (AcrE.app'.2 ⟨a3 x hx f (by simp), a3 x hx g (by simp)⟩).perm (List.Perm.refl _) p
      · exact a3 x hx y (by simp [hy])
theorem acr_nil (a : List Ev) : AcrE a [] := fun _ _ _ h => by cases h
theorem Grp.more {D : List Ev} {bs : List (List Ev)} (h : Grp D bs) : Grp D (bs ++ [[]]) := by
  obtain ⟨h1, h2, h3⟩ := h
  refine ⟨by simpa using h1, ?_, List.pairwise_append.2 ⟨h3, List.pairwise_singleton _ _, fun x _ y hy => ?_⟩⟩
  · intro b hb
    rcases List.mem_append.1 hb with hb | hb
    · exact h2 b hb
    · simp at hb; subst hb; exact SrtE.nil
  · simp at hy; subst hy; exact acr_nil x
theorem Grp.less {D : List Ev} {bs : List (List Ev)} (h : Grp D (bs ++ [[]])) : Grp D bs := by
  obtain ⟨h1, h2, h3⟩ := h
  exact ⟨by simpa using h1, fun b hb => h2 b (List.mem_append_left _ hb), (List.pairwise_append.1 h3).1⟩
/-- What is still as it came, behind blocks. -/
structure Raw0 (D : List Ev) (bs : List (List Ev)) (rest : List Ev) : Prop where
  perm : (bs.flatten ++ rest).Perm D
  srt : ∀ b ∈ bs, SrtE b
  acr : bs.Pairwise AcrE
  acr2 : ∀ b ∈ bs, AcrE b rest
  ord : rest.Pairwise Ev.O
theorem Raw0.start {D : List Ev} (h : D.Pairwise Ev.O) : Raw0 D [] D := ⟨by simp, by simp, List.Pairwise.nil, by simp, h⟩
theorem Raw0.step {D X C rest : List Ev} {bs : List (List Ev)} (h : Raw0 D bs (X ++ rest)) (p : C.Perm X) (s : SrtE C) : Raw0 D (bs ++ [C]) rest := by
  obtain ⟨h1, h2, h3, h4, h5⟩ := h
  obtain ⟨o1, o2, o3⟩ := List.pairwise_append.1 h5
  refine ⟨?_, ?_, List.pairwise_append.2 ⟨h3, List.pairwise_singleton _ _, fun x hx y hy => ?_⟩, ?_, o2⟩
  · refine List.Perm.trans ?_ h1
    simp only [List.flatten_append, List.flatten_cons, List.flatten_nil, List.append_nil, List.append_assoc]
    exact List.Perm.append_left _ (List.Perm.append_right _ p)
  · intro b hb
    rcases List.mem_append.1 hb with hb | hb
    · exact h2 b hb
    · simp at hb; subst hb; exact s
  · simp at hy; subst hy
    exact (AcrE.app'.1 (h4 x hx)).1.perm (List.Perm.refl _) p
  · intro b hb
    rcases List.mem_append.1 hb with hb | hb
    · exact (AcrE.app'.1 (h4 b hb)).2
    · simp at hb; subst hb
      exact fun x hx y hy => o3 x (p.mem_iff.1 hx) y hy
theorem Raw0.done {D : List Ev} {bs : List (List Ev)} (h : Raw0 D bs []) : Grp D bs := ⟨by simpa using h.perm, h.srt, h.acr⟩
/-- All but the last are of one size. -/
def Full (s : Nat) (fs : List (List Ev)) (l : List Ev) : Prop := (∀ f ∈ fs, f.length = s) ∧ l.length ≤ s
theorem full_len {s : Nat} : ∀ {fs : List (List Ev)}, (∀ f ∈ fs, f.length = s) → fs.flatten.length = fs.length * s
  | [], _ => by simp
  | f :: fs, h => by
    rw [List.flatten_cons, List.length_append, h f (by simp), full_len (fun g hg => h g (by simp [hg])), List.length_cons, Nat.succ_mul]; omega
/-- One block alone is left. -/
theorem grp_one {D : List Ev} {s : Nat} {fs : List (List Ev)} {l : List Ev} (h : Grp D (fs ++ [l])) (hf : Full s fs l) (hs : 0 < s) (hn : D.length ≤ s) : SrtE (fs ++ [l]).flatten := by
  have hl := h.perm.length_eq
  rw [List.flatten_append, List.length_append, full_len hf.1] at hl
  simp only [List.flatten_cons, List.flatten_nil, List.append_nil] at hl
  rcases fs with _ | ⟨f, _ | ⟨g, fs⟩⟩
  · simpa using h.srt l (by simp)
  · have : l.length = 0 := by simp only [List.length_cons, List.length_nil, Nat.zero_add, Nat.one_mul] at hl; omega
    have := List.eq_nil_of_length_eq_zero this
    subst this
    simpa using h.srt f (by simp)
  · exfalso
    have : 2 * s ≤ (f :: g :: fs).length * s := Nat.mul_le_mul_right s (by simp)
    omega
theorem flat_len2 {s : Nat} {fs : List (List Ev)} {l : List Ev} (hf : Full s fs l) : (fs ++ [l]).flatten.length = fs.length * s + l.length := by
  rw [List.flatten_append, List.length_append, full_len hf.1]
  simp only [List.flatten_cons, List.flatten_nil, List.append_nil]
theorem grp_len {D : List Ev} {s : Nat} {X fs : List (List Ev)} {l : List Ev} (h : Grp D (X ++ (fs ++ [l]))) (hf : Full s fs l) : X.flatten.length + (fs.length * s + l.length) = D.length := by
  have := h.perm.length_eq
  rw [List.flatten_append, List.length_append, flat_len2 hf] at this
  exact this
theorem two_blocks {D : List Ev} {s : Nat} {X fs : List (List Ev)} {l : List Ev} (h : Grp D (X ++ (fs ++ [l]))) (hf : Full s fs l) (hs : 0 < s) (hN : X.flatten.length + 2 * s ≤ D.length) :
    ∃ f g Q, (X ++ (fs ++ [l])).flatten = X.flatten ++ (f ++ (g ++ Q)) ∧ f.length = s ∧ g.length = s ∧ SrtE f ∧ SrtE g ∧ AcrE f g ∧ ∀ C, C.Perm (f ++ g) → SrtE C → ∃ fs2 l2, Grp D ((X ++ [C]) ++ (fs2 ++ [l2])) ∧ Full s fs2 l2 ∧ ((X ++ [C]) ++ (fs2 ++ [l2])).flatten = X.flatten ++ (C ++ Q) := by
  have hl := grp_len h hf
  rcases fs with _ | ⟨f, _ | ⟨g, fs⟩⟩
  · have := hf.2
    simp only [List.length_nil, Nat.zero_mul] at hl
    omega
  · have h2 := hf.2
    simp only [List.length_cons, List.length_nil, Nat.zero_add, Nat.one_mul] at hl
    refine ⟨f, l, [], by simp, hf.1 f (by simp), by omega, h.srt f (by simp), h.srt l (by simp), ?_, fun C p sC => ⟨[], [], ?_, ⟨by simp, by simp⟩, by simp⟩⟩
    · have := (List.pairwise_append.1 h.acr).2.1
      simp only [List.cons_append, List.nil_append, List.pairwise_cons] at this
      exact this.1 l (by simp)
    · have := (Grp.merge (X := X) (f := f) (g := l) (Y := []) (by simpa using h) p sC).more
      simpa using this
  · refine ⟨f, g, (fs ++ [l]).flatten, by simp, hf.1 f (by simp), hf.1 g (by simp), h.srt f (by simp), h.srt g (by simp), ?_, fun C p sC => ⟨fs, l, ?_, ⟨fun k hk => hf.1 k (by simp [hk]), hf.2⟩, by simp⟩⟩
    · have := (List.pairwise_append.1 h.acr).2.1
      simp only [List.cons_append, List.pairwise_cons] at this
      exact this.1 g (by simp)
    · have := Grp.merge (X := X) (f := f) (g := g) (Y := fs ++ [l]) (by simpa using h) p sC
      simpa using this
theorem last_two' {D : List Ev} {s : Nat} {X fs : List (List Ev)} {l : List Ev} (h : Grp D (X ++ (fs ++ [l]))) (hf : Full s fs l) (hX : ∀ f ∈ X, f.length = 2 * s) (hN : D.length < X.flatten.length + 2 * s) (hM : X.flatten.length + s < D.length) :
    ∃ f g, (X ++ (fs ++ [l])).flatten = X.flatten ++ (f ++ g) ∧ f.length = s ∧ 0 < g.length ∧ SrtE f ∧ SrtE g ∧ AcrE f g ∧ ∀ C, C.Perm (f ++ g) → SrtE C → Grp D (X ++ [C]) ∧ Full (2 * s) X C := by
  have hl := grp_len h hf
  rcases fs with _ | ⟨f, _ | ⟨g, fs⟩⟩
  · have := hf.2
    simp only [List.length_nil, Nat.zero_mul] at hl
    omega
  · simp only [List.length_cons, List.length_nil, Nat.zero_add, Nat.one_mul] at hl
    refine ⟨f, l, by simp, hf.1 f (by simp), by omega, h.srt f (by simp), h.srt l (by simp), ?_, fun C p sC => ⟨?_, hX, ?_⟩⟩
    · have := (List.pairwise_append.1 h.acr).2.1
      simp only [List.cons_append, List.nil_append, List.pairwise_cons] at this
      exact this.1 l (by simp)
    · exact Grp.merge (X := X) (f := f) (g := l) (Y := []) (by simpa using h) p sC
    · have := p.length_eq
      rw [List.length_append, hf.1 f (by simp)] at this
      have := hf.2
      omega
  · exfalso
    have : 2 * s ≤ (f :: g :: fs).length * s := Nat.mul_le_mul_right s (by simp)
    omega
theorem last_one' {D : List Ev} {s : Nat} {X fs : List (List Ev)} {l : List Ev} (h : Grp D (X ++ (fs ++ [l]))) (hf : Full s fs l) (hs : 0 < s) (hX : ∀ f ∈ X, f.length = 2 * s) (hM : D.length ≤ X.flatten.length + s) :
    ∃ C, Grp D (X ++ [C]) ∧ Full (2 * s) X C ∧ (X ++ [C]).flatten = (X ++ (fs ++ [l])).flatten := by
  have hl := grp_len h hf
  rcases fs with _ | ⟨f, _ | ⟨g, fs⟩⟩
  · exact ⟨l, by simpa using h, ⟨hX, by have := hf.2; omega⟩, by simp⟩
  · simp only [List.length_cons, List.length_nil, Nat.zero_add, Nat.one_mul] at hl
    have : l.length = 0 := by omega
    have e := List.eq_nil_of_length_eq_zero this
    subst e
    refine ⟨f, ?_, ⟨hX, by rw [hf.1 f (by simp)]; omega⟩, by simp⟩
    exact Grp.less (bs := X ++ [f]) (by simpa using h)
  · exfalso
    have : 2 * s ≤ (f :: g :: fs).length * s := Nat.mul_le_mul_right s (by simp)
    omega
end Go.Proofs.YtbcinapnnlfnbaaGreat
namespace Go.Proofs.YtbcinapnnlfnbaaGreat
open Go.RowKit Wd Tr Cg Lg

set_option maxHeartbeats 2000000 in
set_option maxRecDepth 20000 in
theorem stable_any {S : Slx} {w : World} {b N cap : Nat} {r : List Value} (D : List Ev) (hN : D.length = N) (hsz : N ≤ 1000000) (hO : D.Pairwise Ev.O) (hR : RwE S w b D r) :
    Calls Tryz.prog 97 #[.slice (some ⟨b, 0, none⟩) N cap, .int .i64 N, .func (.func 67) #[] #[]] w fun e w' => e = .returned (.tuple #[]) ∧ (∃ C, C.Perm D ∧ SrtE C ∧ RwE S w' b C r) ∧ Chg (fun k => k = b) w w' := by
  have HALL : Hid (D.length = N ∧ N ≤ 1000000) := ⟨hN, hsz⟩
  have HR : Hid (RwE S w b D r) := hR
  have HO : Hid (D.Pairwise Ev.O) := hO
  clear hN hsz hO hR
  go_enter Tryz.func97, Tryz.ntmps97
  go_wp2
  go_loopg [7, 8] N (fun gk v1 v2 wr => ∃ (bs : List (List Ev)) (rest : List Ev) (a : Nat), rest.length = gk ∧ v1 = .int .i64 a ∧ v2 = .int .i64 ((a + 20 : Nat) : Int) ∧ a = bs.flatten.length ∧ Raw0 D bs rest ∧ (∀ f ∈ bs, f.length = 20) ∧ RwE S wr b (bs.flatten ++ rest) r ∧ Chg (fun k => k = b) w wr)
  case atStart => exact ⟨[], D, 0, HALL.out.1, rfl, rfl, rfl, Raw0.start HO.out, by simp, by simpa using HR.out, Chg.refl _ _⟩
  case round =>
    obtain ⟨bs, rest, a, hgk, rfl, rfl, ha, hraw, hf, hrow, hchg⟩ := hrel
    have HROW : Hid (RwE S wr b (bs.flatten ++ rest) r) := hrow
    have HCHG : Hid (Chg (fun k => k = b) w wr) := hchg
    have HRAW : Hid (Raw0 D bs rest) := hraw
    have HF : Hid (∀ f ∈ bs, f.length = 20) := hf
    have HL : Hid (a + rest.length = N ∧ bs.flatten.length = a ∧ N ≤ 1000000 ∧ rest.length = gk) := by
      have := hraw.perm.length_eq
      rw [List.length_append] at this
      exact ⟨by have := HALL.out.1; omega, ha.symm, HALL.out.2, hgk⟩
    clear hgk ha hraw hf hrow hchg HR HO
    by_cases hlt : a + 20 ≤ N
    · have hlt' : ((a + 20 : Nat) : Int) ≤ (N : Int) := by omega
      have hins := insertion_some (S := S) (w := wr) (b := b) (a := a) (c := a + 20) (N := N) (cap := cap) (r := r) bs.flatten (rest.take 20) (rest.drop 20) (by rw [List.length_take]; have := HL.out; omega) HL.out.2.1 (by rw [List.length_take]; have := HL.out; omega) (by rw [List.length_take, List.length_drop]; have := HL.out; omega) (by have := HL.out; omega) (HRAW.out.ord.sublist (List.take_sublist _ _)) (by rw [List.take_append_drop]; exact HROW.out)
      have HW : Hid (wrap64 ((a : Int) + 20 + 20) = ((a + 20 + 20 : Nat) : Int)) := by show wrap64 ((a : Int) + 20 + 20) = ((a + 20 + 20 : Nat) : Int); have := HL.out; unfold wrap64; omega
      go_wp2_with (go_at_call 114; refine hins.mono ?_; rintro e w1 ⟨rfl, ⟨C, hp, hs, hR1⟩, hc1⟩)
      go_roundg (rest.length - 20)
      case measure => have := HL.out; omega
      case rel =>
        have hl := hp.length_eq
        rw [List.length_take] at hl
        refine ⟨bs ++ [C], rest.drop 20, a + 20, by rw [List.length_drop], rfl, by rw [HW.out], ?_, Raw0.step (X := rest.take 20) (by rw [List.take_append_drop]; exact HRAW.out) hp hs, ?_, by simpa using hR1, HCHG.out.trans hc1 (fun _ _ e => e)⟩
        · have := HL.out
          rw [List.flatten_append, List.length_append]; simp only [List.flatten_cons, List.flatten_nil, List.append_nil]; omega
        · intro f hf
          rcases List.mem_append.1 hf with hf | hf
          · exact HF.out f hf
          · simp at hf; subst hf; have := HL.out; omega
    · have hlt' : ¬ ((a + 20 : Nat) : Int) ≤ (N : Int) := by omega
      have hins : Calls Tryz.prog 114 #[.slice (some ⟨b, 0, none⟩) N cap, .int .i64 a, .int .i64 N, .func (.func 67) #[] #[]] wr fun e w' => e = .returned (.tuple #[]) ∧ (∃ C, Grp D (bs ++ [C]) ∧ C.length ≤ 20 ∧ RwE S w' b ((bs ++ [C]).flatten) r) ∧ Chg (fun k => k = b) wr w' := by
        by_cases h0 : rest.length = 0
        · have e0 := List.eq_nil_of_length_eq_zero h0
          have e1 : a = N := by have := HL.out; omega
          subst e1
          refine (insertion_none (by have := HL.out; omega)).mono ?_
          rintro e w1 ⟨rfl, rfl⟩
          have h1 := HRAW.out
          have h2 := HROW.out
          rw [e0] at h1 h2
          exact ⟨rfl, ⟨[], h1.done.more, by simp, by simpa using h2⟩, Chg.refl _ _⟩
        · refine (insertion_some (S := S) (w := wr) (b := b) (a := a) (c := N) (N := N) (cap := cap) (r := r) bs.flatten rest [] (by omega) HL.out.2.1 (by have := HL.out; omega) (by have := HL.out; rw [List.length_nil]; omega) (by have := HL.out; omega) HRAW.out.ord (by simpa using HROW.out)).mono ?_
          rintro e w1 ⟨rfl, ⟨C, hp, hs, hR1⟩, hc1⟩
          refine ⟨rfl, ⟨C, (Raw0.step (X := rest) (rest := []) (by simpa using HRAW.out) hp hs).done, by have := hp.length_eq; have := HL.out; omega, by simpa using hR1⟩, hc1⟩
      go_upto_region 6 with fail
      go_wp2_with (go_at_call 114; refine hins.mono ?_; rintro e w1 ⟨rfl, ⟨C, hG, hCl, hR1⟩, hc1⟩)
      have HG : Hid (Grp D (bs ++ [C]) ∧ Full 20 bs C) := ⟨hG, HF.out, hCl⟩
      have HR1 : Hid (RwE S w1 b ((bs ++ [C]).flatten) r) := hR1
      have HC1 : Hid (Chg (fun k => k = b) w w1) := HCHG.out.trans hc1 (fun _ _ e => e)
      clear hG hCl hR1 hc1 hins HROW HCHG HRAW HF hlt hlt'
      clear HL
      obtain ⟨V, hV⟩ : ∃ V : World, V = w1 := ⟨_, rfl⟩
      rw [← hV] at HR1 HC1
      rw [← hV]
      clear hV
      go_loopg [6] (N - 20) (fun gk v wr => ∃ (s : Nat) (fs : List (List Ev)) (l : List Ev), N - s = gk ∧ 0 < s ∧ s ≤ 2 * N + 20 ∧ v = .int .i64 s ∧ Grp D (fs ++ [l]) ∧ Full s fs l ∧ RwE S wr b ((fs ++ [l]).flatten) r ∧ Chg (fun k => k = b) w wr)
      case atStart => exact ⟨20, bs, C, by omega, by omega, by omega, rfl, HG.out.1, HG.out.2, HR1.out, HC1.out⟩
      case round =>
        clear HR1 HC1 HG
        obtain ⟨s, fs, l, hgk, hs0, hsb, rfl, hG, hF, hrow, hchg⟩ := hrel
        have HROW : Hid (RwE S wr b ((fs ++ [l]).flatten) r) := hrow
        have HCHG : Hid (Chg (fun k => k = b) w wr) := hchg
        have HG : Hid (Grp D (fs ++ [l]) ∧ Full s fs l) := ⟨hG, hF⟩
        have HS : Hid (N - s = gk ∧ 0 < s ∧ s ≤ 2 * N + 20 ∧ D.length = N ∧ N ≤ 1000000) := ⟨hgk, hs0, hsb, HALL.out.1, HALL.out.2⟩
        clear hgk hs0 hsb hG hF hrow hchg
        by_cases hlt : s < N
        · have hlt' : (s : Int) < (N : Int) := by omega
          have HLT : Hid (s < N) := hlt
          have HW2 : Hid (wrap64 (2 * (s : Int)) = ((0 + 2 * s : Nat) : Int)) := by show wrap64 (2 * (s : Int)) = ((0 + 2 * s : Nat) : Int); have := HS.out; unfold wrap64; omega
          have HW3 : Hid (wrap64 ((s : Int) * 2) = ((2 * s : Nat) : Int)) := by show wrap64 ((s : Int) * 2) = ((2 * s : Nat) : Int); have := HS.out; unfold wrap64; omega
          clear hlt
          go_upto_region 8 with fail
          go_wp2
          obtain ⟨V2, hV2⟩ : ∃ V2 : World, V2 = wr := ⟨_, rfl⟩
          rw [← hV2] at HROW HCHG
          rw [← hV2]
          clear hV2
          go_loopg [7, 8] N (fun gk v1 v2 wr => ∃ (a : Nat) (X fs : List (List Ev)) (l : List Ev), N - a = gk ∧ v1 = .int .i64 a ∧ v2 = .int .i64 ((a + 2 * s : Nat) : Int) ∧ X.flatten.length = a ∧ Grp D (X ++ (fs ++ [l])) ∧ Full s fs l ∧ (∀ f ∈ X, f.length = 2 * s) ∧ RwE S wr b ((X ++ (fs ++ [l])).flatten) r ∧ Chg (fun k => k = b) w wr)
          case atStart => exact ⟨0, [], fs, l, by omega, rfl, by rw [HW2.out], rfl, HG.out.1, HG.out.2, by simp, HROW.out, HCHG.out⟩
          case round =>
            clear HROW HCHG HG
            obtain ⟨a, X, fs, l, hgk, rfl, rfl, ha, hG, hF, hX, hrow, hchg⟩ := hrel
            have HROW : Hid (RwE S wr b ((X ++ (fs ++ [l])).flatten) r) := hrow
            have HCHG : Hid (Chg (fun k => k = b) w wr) := hchg
            have HG : Hid (Grp D (X ++ (fs ++ [l])) ∧ Full s fs l ∧ (∀ f ∈ X, f.length = 2 * s) ∧ X.flatten.length = a) := ⟨hG, hF, hX, ha⟩
            have HA : Hid (N - a = gk ∧ a ≤ N) := ⟨hgk, by have := grp_len hG hF; have := HS.out; omega⟩
            clear hgk hG hF hX ha hrow hchg
            by_cases hab : a + 2 * s ≤ N
            · have hab' : ((a + 2 * s : Nat) : Int) ≤ (N : Int) := by omega
              obtain ⟨f, g, Q, hfl, hf1, hg1, sf, sg, ac, hmk⟩ := two_blocks HG.out.1 HG.out.2.1 HS.out.2.1 (by rw [HG.out.2.2.2, HS.out.2.2.2.1]; exact hab)
              have HMK : Hid (∀ C, C.Perm (f ++ g) → SrtE C → ∃ fs2 l2, Grp D ((X ++ [C]) ++ (fs2 ++ [l2])) ∧ Full s fs2 l2 ∧ ((X ++ [C]) ++ (fs2 ++ [l2])).flatten = X.flatten ++ (C ++ Q)) := hmk
              have HLQ : Hid (a + s + s + Q.length = N) := by
                show a + s + s + Q.length = N
                have h1 := HG.out.1.perm.length_eq
                rw [hfl] at h1
                simp only [List.length_append] at h1
                have := HG.out.2.2.2
                have := HS.out.2.2.2.1
                omega
              have HLEN2 : Hid (f.length = s ∧ g.length = s) := ⟨hf1, hg1⟩
              have HWM : Hid (wrap64 ((a : Int) + (s : Int)) = ((a + s : Nat) : Int)) := by show wrap64 ((a : Int) + (s : Int)) = ((a + s : Nat) : Int); have := HS.out; unfold wrap64; omega
              have hsy : Calls Tryz.prog 115 #[.slice (some ⟨b, 0, none⟩) N cap, .int .i64 a, .int .i64 (wrap64 ((a : Int) + (s : Int))), .int .i64 ((a + 2 * s : Nat) : Int), .func (.func 67) #[] #[]] wr fun e w' => e = .returned (.tuple #[]) ∧ (∃ C, C.Perm (f ++ g) ∧ SrtE C ∧ RwE S w' b (X.flatten ++ (C ++ Q)) r) ∧ Chg (fun k => k = b) wr w' := by
                rw [HWM.out]
                have e1 := HG.out.2.2.2
                have e2 := HS.out
                have e3 := HLQ.out
                exact sym_any (f.length + g.length) S wr b a (a + s) (a + 2 * s) N cap r X.flatten f g Q (Nat.le_refl _) (by omega) (by omega) e1 (by omega) (by omega) (by omega) (by omega) sf sg ac (by rw [← hfl]; exact HROW.out)
              have HWB : Hid (∀ z : Int, z = 2 * (s : Int) → wrap64 (((a + 2 * s : Nat) : Int) + z) = ((a + 2 * s + 2 * s : Nat) : Int)) := by intro z hz; have := HS.out; have := HLQ.out; subst hz; unfold wrap64; omega
              have HW2' : Hid (wrap64 (2 * (s : Int)) = 2 * (s : Int)) := by show wrap64 (2 * (s : Int)) = 2 * (s : Int); have := HS.out; unfold wrap64; omega
              clear hfl hf1 hg1 sf sg ac hmk
              simp only [Int.natCast_add, Int.natCast_mul] at hsy hab' ⊢
              go_wp2_with (go_at_call 115; refine hsy.mono ?_; rintro e w2 ⟨rfl, ⟨C, p, sC, hR2⟩, hc2⟩)
              clear hsy hab'
              go_roundg (N - (a + 2 * s))
              case measure => have := HA.out; have := HS.out; omega
              case rel =>
                obtain ⟨fs2, l2, hG2, hF2, hfl2⟩ := HMK.out C p sC
                refine ⟨a + 2 * s, X ++ [C], fs2, l2, rfl, by simp, ?_, ?_, hG2, hF2, ?_, by rw [hfl2]; exact hR2, HCHG.out.trans hc2 (fun _ _ e => e)⟩
                · have := HWB.out (2 * (s : Int)) rfl
                  rw [HW2'.out]
                  simpa using this
                · have h1 := p.length_eq
                  have h2 := HLEN2.out
                  rw [List.length_append] at h1
                  rw [List.flatten_append, List.length_append, HG.out.2.2.2]
                  simp only [List.flatten_cons, List.flatten_nil, List.append_nil]
                  omega
                · intro k hk
                  have h1 := p.length_eq
                  have h2 := HLEN2.out
                  rw [List.length_append] at h1
                  rcases List.mem_append.1 hk with hk | hk
                  · exact HG.out.2.2.1 k hk
                  · simp at hk; subst hk; omega
            · have hab' : ¬ ((a + 2 * s : Nat) : Int) ≤ (N : Int) := by omega
              have HWM : Hid (wrap64 ((a : Int) + (s : Int)) = ((a + s : Nat) : Int)) := by show wrap64 ((a : Int) + (s : Int)) = ((a + s : Nat) : Int); have := HS.out; have := HA.out; unfold wrap64; omega
              have HNX : Hid (∀ C W, Grp D (X ++ [C]) → Full (2 * s) X C → RwE S W b ((X ++ [C]).flatten) r → Chg (fun k => k = b) w W → ∃ (s' : Nat) (fs : List (List Ev)) (l : List Ev), N - s' = N - 2 * s ∧ 0 < s' ∧ s' ≤ 2 * N + 20 ∧ Value.int .i64 (wrap64 ((s : Int) * 2)) = .int .i64 s' ∧ Grp D (fs ++ [l]) ∧ Full s' fs l ∧ RwE S W b ((fs ++ [l]).flatten) r ∧ Chg (fun k => k = b) w W) := by
                intro C W h1 h2 h3 h4
                have e1 := HS.out
                have e2 := HLT.out
                exact ⟨2 * s, X, C, rfl, by omega, by omega, by rw [HW3.out], h1, h2, h3, h4⟩
              by_cases hms : a + s < N
              · have hms' : wrap64 ((a : Int) + (s : Int)) < (N : Int) := by rw [HWM.out]; omega
                obtain ⟨f, g, hfl, hf1, hg1, sf, sg, ac, hmk⟩ := last_two' HG.out.1 HG.out.2.1 HG.out.2.2.1 (by rw [HG.out.2.2.2, HS.out.2.2.2.1]; omega) (by rw [HG.out.2.2.2, HS.out.2.2.2.1]; exact hms)
                have HMK : Hid (∀ C, C.Perm (f ++ g) → SrtE C → Grp D (X ++ [C]) ∧ Full (2 * s) X C) := hmk
                have HLQ : Hid (a + s + g.length = N) := by
                  show a + s + g.length = N
                  have h1 := HG.out.1.perm.length_eq
                  rw [hfl] at h1
                  simp only [List.length_append] at h1
                  have := HG.out.2.2.2
                  have := HS.out.2.2.2.1
                  omega
                have hsy : Calls Tryz.prog 115 #[.slice (some ⟨b, 0, none⟩) N cap, .int .i64 a, .int .i64 (wrap64 ((a : Int) + (s : Int))), .int .i64 N, .func (.func 67) #[] #[]] wr fun e w' => e = .returned (.tuple #[]) ∧ (∃ C, C.Perm (f ++ g) ∧ SrtE C ∧ RwE S w' b (X.flatten ++ (C ++ [])) r) ∧ Chg (fun k => k = b) wr w' := by
                  rw [HWM.out]
                  have e1 := HG.out.2.2.2
                  have e2 := HS.out
                  have e3 := HLQ.out
                  exact sym_any (f.length + g.length) S wr b a (a + s) N N cap r X.flatten f g [] (Nat.le_refl _) (by omega) (by omega) e1 (by omega) (by omega) (by rw [List.length_nil]; omega) (by omega) sf sg ac (by have := HROW.out; rw [hfl] at this; simpa using this)
                clear hfl hf1 hg1 sf sg ac hmk
                simp only [Int.natCast_add, Int.natCast_mul] at hab' ⊢
                go_wp2_with (go_at_call 115; refine hsy.mono ?_; rintro e w2 ⟨rfl, ⟨C, p, sC, hR2⟩, hc2⟩)
                clear hsy hab' hms'
                go_roundg (N - 2 * s)
                case measure => have := HS.out; have := HLT.out; omega
                case rel =>
                  obtain ⟨h1, h2⟩ := HMK.out C p sC
                  exact HNX.out C w2 h1 h2 (by simpa using hR2) (HCHG.out.trans hc2 (fun _ _ e => e))
              · have hms' : ¬ wrap64 ((a : Int) + (s : Int)) < (N : Int) := by rw [HWM.out]; omega
                obtain ⟨C, hG2, hF2, hfl⟩ := last_one' HG.out.1 HG.out.2.1 HS.out.2.1 HG.out.2.2.1 (by rw [HG.out.2.2.2, HS.out.2.2.2.1]; omega)
                have HC : Hid (Grp D (X ++ [C]) ∧ Full (2 * s) X C ∧ (X ++ [C]).flatten = (X ++ (fs ++ [l])).flatten) := ⟨hG2, hF2, hfl⟩
                clear hG2 hF2 hfl
                simp only [Int.natCast_add, Int.natCast_mul] at hab' ⊢
                go_wp2
                clear hab' hms'
                go_roundg (N - 2 * s)
                case measure => have := HS.out; have := HLT.out; omega
                case rel => exact HNX.out C wr HC.out.1 HC.out.2.1 (by rw [HC.out.2.2]; exact HROW.out) HCHG.out
        · have hlt' : ¬ (s : Int) < (N : Int) := by omega
          have hone := grp_one HG.out.1 HG.out.2 HS.out.2.1 (by rw [HS.out.2.2.2.1]; omega)
          have HONE : Hid (SrtE (fs ++ [l]).flatten) := hone
          clear hone
          go_wp2
          go_end0
          exact ⟨rfl, ⟨(fs ++ [l]).flatten, HG.out.1.perm, HONE.out, HROW.out⟩, HCHG.out⟩
theorem stable_none {w : World} {ao : Option Addr} {cap : Nat} {fv : Value} :
    Calls Tryz.prog 97 #[.slice ao 0 cap, .int .i64 0, fv] w fun e w' => e = .returned (.tuple #[]) ∧ w' = w := by
  have hins := insertion_none (w := w) (ao := ao) (a := 0) (N := 0) (cap := cap) (fv := fv) (by omega)
  go_enter Tryz.func97, Tryz.ntmps97
  go_wp2
  refine wp_loop_rounds 1 ?_
  rw [rounds_succ]
  go_wp2_with (go_at_call 114; refine hins.mono ?_; rintro e w1 ⟨rfl, rfl⟩)
  refine wp_loop_rounds 1 ?_
  rw [rounds_succ]
  go_wp2
  go_end0
  exact ⟨rfl, rfl⟩
/-- slices.SortStableFunc. -/
theorem sort_some {S : Slx} {w : World} {b N cap : Nat} {r : List Value} (D : List Ev) (hN : D.length = N) (hsz : N ≤ 1000000) (hO : D.Pairwise Ev.O) (hR : RwE S w b D r) :
    Calls Tryz.prog 66 #[.slice (some ⟨b, 0, none⟩) N cap, .func (.func 67) #[] #[]] w fun e w' => e = .returned (.tuple #[]) ∧ (∃ C, C.Perm D ∧ SrtE C ∧ RwE S w' b C r) ∧ Chg (fun k => k = b) w w' := by
  have hs := stable_any (cap := cap) D hN hsz hO hR
  go_enter Tryz.func66, Tryz.ntmps66
  go_wp2_with (go_at_call 97; refine hs.mono ?_; rintro e w1 ⟨rfl, h1, h2⟩)
  go_end0
  exact ⟨rfl, h1, h2⟩
theorem sort_none {w : World} {ao : Option Addr} {cap : Nat} {fv : Value} :
    Calls Tryz.prog 66 #[.slice ao 0 cap, fv] w fun e w' => e = .returned (.tuple #[]) ∧ w' = w := by
  have hs := stable_none (w := w) (ao := ao) (cap := cap) (fv := fv)
  go_enter Tryz.func66, Tryz.ntmps66
  go_wp2_with (go_at_call 97; refine hs.mono ?_; rintro e w1 ⟨rfl, rfl⟩)
  go_end0
  exact ⟨rfl, rfl⟩
end Go.Proofs.YtbcinapnnlfnbaaGreat
